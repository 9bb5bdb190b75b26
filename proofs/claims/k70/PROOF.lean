import PyProof.Rows.All
import Wide.All
import OpenK.AllK
import Wide.FinOn
import Lean
import PyProof.EqAt
import PyProof.EqKinds
import PyProof.TupleCall
import PyProof.ListRange
import PyProof.NeKinds
import KE.KUnpack
import KE.KSortTup
import PyProof.ZipIter
import PyProof.Rows.CallKwBuiltin
import KE.KFind
import PyProof.Rows.SortStr
import PyProof.FactsAll.tuple_0
import PyProof.FactsAll.tuple_2
import PyProof.FactsAll.tuple_3
import KE.KDictLaws
import KE.KDictList
import PyProof.SetKind
import PyProof.SetRoads
import PyProof.Rows.SetFrom
import PyProof.WalksMore
import PyProof.FactsAll.list_3
import PyProof.Rows.SeqMore
import PyProof.AutoSeq1
import PySem.Challenge.RW_signpoly_k70_listed_by_papers
set_option Elab.async false
set_option linter.all false
set_option maxRecDepth 100000
set_option genSizeOf false
noncomputable section
open And renaming right -> qgR, left -> qhv
open Array renaming getElem?_eq_getElem -> qbQ, length_toList -> qc6, getElem?_eq_none -> qdp, getElem?_toList -> qeo, getElem_toList -> qeB, perm_iff_toList_perm -> qfT, toList -> qgB
open Bool renaming false_ne_true -> qaU, and_eq_true -> qaX, false_eq_true -> qbq, not_eq_true -> qeh, or_eq_true -> qfR, eq_iff_iff -> qfS, and_false -> qh3, and_true -> qil, and_self -> qim
open Decidable renaming byContradiction -> qcg
open False renaming elim -> qcv
open Int renaming mul_left_comm -> qaP, mul_comm -> qaT, mul_zero -> qa2, toNat_natCast -> qa7, mul_assoc -> qbi, mul_right_comm -> qbk, zero_mul -> qbs, le_refl -> qcf, zero_add -> qcj, mul_add -> qcl, mul_eq_zero -> qcA, mul_sub -> qcG, ofNat_dvd_left -> qcN, natAbs_mul -> qc5, one_mul -> qdb, mul_one -> qdc, neg_mul -> qdz, mul_le_mul_of_nonneg_left -> qdC, mul_ediv_cancel' -> qdD, mul_lt_mul_of_pos_right -> qdK, ediv_nonneg -> qdL, lt_of_mul_lt_mul_right -> qdR, fdiv_eq_ediv_of_nonneg -> qdS, lt_or_eq_of_le -> qdX, mul_nonneg -> qd2, eq_of_mul_eq_mul_left -> qd3, add_mul -> qeg, le_trans -> qeA, mul_le_mul_of_nonneg_right -> qfw, add_zero -> qfx, sub_mul -> qf1, mul_neg -> qf2, eq_of_mul_eq_mul_right -> qgb, mul_neg_of_pos_of_neg -> qgh, mul_ediv_cancel_left -> qgl, reduceNeg -> qgz, eq_ofNat_of_zero_le -> qgA, sub_zero -> qgP, le_of_lt -> qgQ, emod_lt_of_pos -> qht, emod_nonneg -> qh0, natAbs_neg -> qif, mul_pos -> qjP
open List renaming length_map -> qaf, mem_cons_self -> qag, mem_cons_of_mem -> qah, range -> qai, getElem?_eq_getElem -> qal, mem_singleton -> qam, getElem?_eq_some_iff -> qap, length_cons -> qaq, length_range -> qas, getD_eq_getElem?_getD -> qat, map_cons -> qau, getElem?_map -> qav, length_append -> qaw, mem_append_right -> qay, mem_cons -> qaz, getElem?_append_left -> qaB, size_toArray -> qaC, replicate -> qaD, getElem?_eq_none -> qaE, mem_range -> qaI, getElem?_append_right -> qaJ, mem_map -> qaM, mem_append -> qaQ, map_map -> qaR, all_eq_true -> qaW, mem_append_left -> qa1, pairwise_cons -> qa4, getElem?_range -> qa6, mem_of_getElem? -> qbj, getElem?_set_self -> qbn, ext_getElem? -> qbo, getD_cons_zero -> qbt, all_cons -> qbu, not_mem_nil -> qbv, map_append -> qbw, lookup_cons -> qbx, getElem?_set_ne -> qbz, mem_filter -> qbF, length_filter_le -> qbG, append_nil -> qbH, filter_cons -> qbI, append_assoc -> qbJ, getElem_mem -> qbR, getD_cons_succ -> qbS, length_singleton -> qb1, length_set -> qb2, length_replicate -> qb3, take_length -> qb8, sum_cons -> qcb, any_cons -> qcc, nodup_cons -> qce, length_take -> qch, cons_append -> qci, drop_eq_getElem_cons -> qck, mem_iff_getElem -> qcu, nodup_append -> qcx, getElem?_replicate -> qcC, take_left -> qcI, forall_mem_cons -> qcU, nodup_nil -> qcX, getElem?_eq_none_iff -> qcY, getElem_map -> qc4, replicate_succ -> qc7, map_congr_left -> qc8, nil_append -> qdi, length_nil -> qdj, idxOf?_eq_some_iff -> qdk, find?_cons -> qdl, take_succ_eq_append_getElem -> qdn, take_of_length_le -> qdq, range_succ_eq_map -> qdr, mapM_toArray -> qdu, getElem_inj -> qdB, replicate_zero -> qdF, range_succ -> qdG, mem_map_of_mem -> qdH, lookup -> qdI, map_nil -> qdQ, pairwise_map -> qd6, getElem?_take_of_lt -> qd7, filter_cons_of_pos -> qec, filter_cons_of_neg -> qed, find?_cons_of_pos -> qei, find?_cons_of_neg -> qej, filter_eq_nil_iff -> qek, all_map -> qer, range' -> qeH, filter_sublist -> qeI, filter_eq_self -> qeJ, filterMap_cons -> qeK, zip_cons_cons -> qeZ, mem_filterMap -> qe0, getElem_range -> qe1, filter_append -> qe2, flatten_cons -> qfc, flatMap_cons -> qfd, any_eq_false -> qfe, length_drop -> qfr, drop_length -> qfs, any_eq_true -> qft, all_toArray -> qfu, of_mem_zip -> qfN, getD -> qfO, forIn_cons -> qfP, drop_zero -> qf9, pairwise_singleton -> qgk, drop_eq_nil_of_le -> qgy, replicate_succ' -> qgN, range_eq_range' -> qgO, map_id -> qgY, length -> qgZ, flatten_append -> qg0, set_cons_zero -> qhg, set_cons_succ -> qhh, map -> qhi, take_sublist -> qhp, push_toArray -> qhq, filter_congr -> qhr, Nodup -> qhs, zipIdx_cons -> qhH, isEmpty_iff -> qhI, zipIdx_nil -> qhO, sum_append -> qhP, forIn_nil -> qhY, map_drop -> qie, foldl -> qjO
open List.Pairwise renaming sublist -> qfl, map -> qiA
open List.Perm renaming refl -> qdm, eq_of_pairwise -> qfv
open List.Sublist renaming refl -> qju
open Nat renaming le_refl -> qao, ne_of_lt -> qaF, le_trans -> qaH, add_sub_cancel_left -> qaK, lt_of_lt_of_le -> qaN, pow_le_pow_right -> qaY, lt_irrefl -> qa3, lt_succ_of_lt -> qba, zero_add -> qbh, zero_le -> qbA, lt_of_le_of_lt -> qbO, lt_succ_self -> qbY, ne_of_gt -> qcd, mul_le_mul_right -> qcw, not_lt_zero -> qcz, le_succ -> qcF, le_add_right -> qcH, add_sub_cancel -> qcL, mul_le_mul -> qc3, le_of_eq -> qdf, lt_trans -> qdW, two_pow_pos -> qex, sub_self -> qey, le_of_lt -> qez, reduceSub -> qe6, lt_or_ge -> qfq, pow_pos -> qfZ, gcd -> qf0, reduceAdd -> qgx, sub_zero -> qgK, mul_comm -> qgL, add_comm -> qgM, pow_add -> qhf, not_lt -> qhG, succ_ne_self -> qhL, mod_eq_of_lt -> qhM, min_eq_right -> qhN, min_eq_left -> qhX, dvd_trans -> qiz, pow_succ -> qjr, gcd_comm -> qjs, add_zero -> qjt, pow_mul -> qjK, one_mul -> qjL, log2_lt -> qjM, add_mul -> qjN
open Nat.succ renaming inj -> qhF
open Ne renaming symm -> qbD
open Option renaming bind_some -> qaa, bind_eq_some_iff -> qab, map_eq_some_iff -> qad, map_some -> qan, isSome_iff_exists -> qcp, getD_none -> qhe
open Option.some renaming inj -> qaL
open Prod renaming fst -> qc2, snd -> qfH
open PyProof.Rows renaming boot_list -> qaS, boot_isinstance -> qaV, boot_sorted -> qaZ, boot_tuple -> qa5, boot_repr -> qa8, boot_bool -> qa9, boot_sum -> qbb, boot_str -> qbc, boot_int -> qbd, boot_any -> qbe, boot_all -> qbf, boot_abs -> qbg, wpS_bind -> qby, slot_tuple_getitem -> qbC, SortSt -> qbX, wpS_pure -> qb6, callWith_type1 -> qb7, SortKind -> qdg, IntsAre -> qdy, wpS_forRange -> qea, envOfC -> qen, pendingOf -> qeP, boot_range -> qfb, KeyOrd -> qff, AllBare -> qfp, seqObj -> qfB, assignInOrder_cons -> qfD, lt_int -> qfM, wpS_modify -> qgS, wpS_get -> qg4, listUpdate_at -> qg9, failedOf -> qha, subscriptTail_builtinR -> qhl, seqEpoch_at -> qhS, keyKind'_eq -> qhT, getElem?_mirror_all -> qhU, entry_tuple_getitem -> qhV, wpS_mono -> qh4, oneType' -> qh6, keyKind' -> qh7, gallopOf -> qh8, args_tuple_getitem -> qia, size_push' -> qir, assignInOrder_nil -> qit, Subscript_ -> qiw, truthy_int -> qjo, envOfC -> qjp, callWith_builtin1 -> qjq, sortedAll -> qjy, oneTypeOnly'_eq -> qjC, mirror -> qjD, getElem?_bubble -> qjG, entry_list_sort -> qjH, slot_list_sort -> qjT, slicePart_none -> qjU, boot_enumerate -> qj0, args_list_sort -> qj1
open PyProof.Rows.KeyOrd renaming kle_refl -> qcM, kle_of_klt -> qdo, kle_trans -> qdA, kle_antisymm -> qgF
open PyProof.Rows.SortSt renaming mk' -> qix
open PySem renaming wpAny_bind -> qac, Shared -> qak, wpAny_pure -> qar, sizeLine -> qaG, Program -> qaO, Around -> qa0, boot_len -> qbl, Spec -> qbm, mem_of_lookup -> qbr, starEach -> qbB, binaryOp -> qbE, wpAny_callSpecial?_slot -> qbK, foldedSetIterable -> qbL, IntMulOk -> qbP, wpAny_call_entry -> qbU, compareOp -> qbV, assignEach -> qbW, NameKind -> qbZ, FuncData -> qb0, wpAny_field -> qb4, mainGlobals -> qb5, bootBuiltins -> qb9, wpAny_mono -> qcm, sysModules -> qcn, call_meets -> qco, wpAny_holding -> qcq, swapsWith -> qcr, cellsFrom -> qcs, attributeBase -> qct, wpAny_newObj_type -> qcE, sizeLine_eq -> qcJ, wpAny_typeNameOfWhole_keyiter -> qcO, wpAny_seqItems -> qcQ, wpAny_setField_rec -> qcS, wpAny_pyIter_tuple -> qcT, wpAny_passesOwn -> qcV, pushCells_keeps -> qcW, swapsWithSole -> qc0, swappedStores -> qc1, strLen_append -> qdx, wpAny_rule -> qdT, sliceBounds -> qdY, DictEntry -> qd4, wpAny_Call_Name_kw -> qeb, wpAny_truthy_bool -> qel, wpAny_pyIter_enum -> qem, wpAny_standAt -> qeu, wpAny_attempt -> qev, wpAny_ite_false -> qeM, wpAny_execs_nil -> qeN, pushCells -> qeO, getItem -> qeQ, backTo -> qeR, typeIs_int -> qeW, wpAny_updateSeq_pair -> qe3, list_append -> qe4, wpAny_setField -> qe9, codeAny -> qfg, Builtin -> qfo, wpAny_onRaise -> qfz, wpAny_newList -> qfA, behindInMarks -> qfC, wpAny_pyIter_list -> qfU, wpAny_dictEntries -> qfV, holding -> qfW, codeAny_mono -> qf4, assign -> qf5, Paired -> qf8, IsPart -> qga, noFill_tuple_add -> qgd, wpAny_dictEpoch -> qgn, tupleKind -> qgo, subscripted -> qgp, rawInt -> qgq, letOwnedTupleGo -> qgr, keywordEach -> qgs, ofString_length -> qgu, Within -> qgv, PassesOwn -> qgw, intBits_le_iff -> qgC, wpAny_binaryOp_repeat_ref -> qgG, wpAny_comprehension_free -> qgT, pyNext -> qgU, builtinsNs -> qgV, IsPair -> qg1, wpAny_pyNext_enum_itemD -> qg5, valueAt -> qg6, seq_tuple_add -> qg7, rangeSize_one -> qg8, compEnvC -> qhb, callerA -> qhc, call -> qhd, IntMulOk -> qhj, BindsTo -> qhk, codeAny_compStart_list -> qhm, wpAny_typeOf -> qhw, wpAny_isOneOf_keyiter -> qhx, tupleText -> qhy, seqIndex_neg -> qhz, concat_meets -> qhA, wpAny_letGo -> qhQ, seqIndex_of -> qhR, Keyword -> qhZ, tupleKind_room_in1 -> qh5, backToKw -> qh9, GenState -> qih, wpAny_sequenceKey -> qin, wpAny_assign_Name -> qio, wpAny_Name -> qip, slot_list_getitem -> qiq, piled_cons -> qis, wpAny_pyIter_zip -> qiJ, wpAny_isInstance -> qiK, wpAny_execs_cons -> qiL, standAt -> qjx, setItem -> qjz, seqIndex? -> qjA, pyIter -> qjB, join_length_add -> qjE, isTrue -> qjF, codeAny_builtin -> qjI, Result -> qjJ, wpAny_newTuple -> qjQ, wpAny_fieldsOf -> qjR, wpAny_bindName -> qjS, repr_of_reads' -> qjV, recursionLimit -> qjW, isSubtype_stop -> qjX, fitsIndex_both -> qjY, firstArgMember -> qjZ
open PySem.Around renaming under -> qgm
open PySem.AutoSeq1 renaming sub_tuple_tuple -> qfJ
open PySem.Builtin renaming bitAnd -> qdM
open PySem.Builtin.Dict renaming showsAll -> qfy
open PySem.Builtin.List renaming listTooLong -> qcR
open PySem.Builtin.Range renaming rangeFitsLong -> qeF, rangeSize -> qe8, small -> qiI
open PySem.Builtin.Slice renaming slicePlaces -> qcK, sliceAdjust -> qeV, slicePartIndex -> qiG, sliceApplied -> qiH
open PySem.Builtin.SmallTypes renaming nextOf -> qcD, ownedTupleHandOut -> qdN, ownedTupleIsFree -> qhu
open PySem.Builtin.Tuple renaming tupleItemsOf -> qeL, tupleTooMany -> qiE, tupleCompareSizes -> qiF
open PySem.Calls renaming Name_function_global -> qfQ, call_function_entry -> qf3
open PySem.Code renaming isGuard -> qiC, isFrame -> qiD, frames -> qjw
open PySem.Draws renaming list -> qjv
open PySem.Env renaming kindOf -> qk4
open PySem.F renaming slot_dict_keyiterator_next -> qbT, slot_tuple_iterator_next -> qcZ, slot_list_index -> qda, args_tuple_add_2 -> qdP, plainAttrs_list -> qd0, entry_tuple_add -> qd1, slot_tuple_add -> qd8, slot_tuple_lt -> qef, args_dict_keyiterator_next_1 -> qeq, slot_tuple_mul -> qet, entry_dict_keyiterator_next -> qew, slot_zip_next -> qeD, slot_int_rmul -> qeE, args_list_append_2 -> qeU, entry_list_append -> qe7, slot_list_append -> qfm, args_tuple_mul_2 -> qfn, args_list_index_2 -> qfG, entry_tuple_mul -> qfI, entry_list_index -> qfL, type_list_index -> qfX, args_tuple_lt_2 -> qfY, slot_dict_iter -> qf6, entry_tuple_lt -> qf7, args_tuple_iterator_next_1 -> qgc, entry_tuple_iterator_next -> qgi, args_zip_next_1 -> qh1, args_int_rmul_2 -> qh2, slot_int_index -> qii, entry_zip_next -> qij, entry_int_rmul -> qik, fills_int_mul -> qiB
open PySem.Heap renaming get?_push_of_some -> qaj, get?_push_size -> qax, lt_size -> qaA, size_push -> qbp, SameBut -> qdd, get?_update_other -> qds, get?_push_ne -> qdv, get?_update_self -> qes, get?_update_ne -> qg2, ExtBut -> qg3, size_update -> qhJ
open PySem.Heap.IsSliceOf renaming new -> qig
open PySem.Heap.SameBut renaming update -> qdw
open PySem.IntMulOk renaming of_le -> qic
open PySem.IsL renaming update -> qeT
open PySem.Obj renaming mapSeq -> qcy, data_mapFields -> qdV, isFreed_of_fields -> qgJ, cls_mapFields -> qhE
open PySem.Paired renaming length -> qeG, snoc -> qid
open PySem.PassesOwn renaming never -> qd9
open PySem.PyData renaming shownAll -> qbN, depthAll -> qde, depth -> qdt, showableAll -> qdJ, hasDictAll -> qdU, shown -> qe5, noDict_hsm -> qgX, showable -> qho, hasDict -> qhD
open PySem.SeqAt renaming EqAt -> qdZ, list_indexAt -> qfa, ne_of_list_tuple -> qgj, RcNeAt -> qib, RcAt -> qjm
open PySem.SeqAt.EqAt renaming of_refs -> qep, same -> qeY, str_str -> qge, str_int -> qgf, int_str -> qgg, tuple_str -> qkA, tuple_none -> qkB, tuple_list -> qkC, tuple_int -> qkD, tuple_bool -> qkE, str_tuple -> qkF, str_none -> qkG, str_list -> qkH, str_bool -> qkI, none_tuple -> qkJ, none_str -> qkK, none_list -> qkL, none_int -> qkM, none_bool -> qkN, list_tuple -> qkO, list_str -> qkP, list_none -> qkQ, list_int -> qkR, list_bool -> qkS, int_tuple -> qkT, int_none -> qkU, int_list -> qkV, int_int -> qkW, int_bool -> qkX, bool_tuple -> qkY, bool_str -> qkZ, bool_none -> qk0, bool_list -> qk1, bool_int -> qk2, bool_bool -> qk3
open PySem.SeqAt.RcAt renaming tuples -> qeC, lists_lengths -> qfh, lists -> qgt, tuple_str -> qj2, tuple_none -> qj3, tuple_list -> qj4, tuple_int -> qj5, tuple_bool -> qj6, str_tuple -> qj7, str_str -> qj8, str_none -> qj9, str_list -> qka, str_int -> qkb, str_bool -> qkc, none_tuple -> qkd, none_str -> qke, none_none -> qkf, none_list -> qkg, none_int -> qkh, none_bool -> qki, list_tuple -> qkj, list_str -> qkk, list_none -> qkl, list_int -> qkm, list_bool -> qkn, int_tuple -> qko, int_str -> qkp, int_none -> qkq, int_list -> qkr, int_int -> qks, int_bool -> qkt, bool_tuple -> qku, bool_str -> qkv, bool_none -> qkw, bool_list -> qkx, bool_int -> qky, bool_bool -> qkz
open PySem.SeqAt.RcNeAt renaming tuples -> qfK, tuple_str -> qiM, tuple_none -> qiN, tuple_list -> qiO, tuple_int -> qiP, tuple_bool -> qiQ, str_tuple -> qiR, str_str -> qiS, str_none -> qiT, str_list -> qiU, str_int -> qiV, str_bool -> qiW, none_tuple -> qiX, none_str -> qiY, none_none -> qiZ, none_list -> qi0, none_int -> qi1, none_bool -> qi2, lists_lengths -> qi3, lists -> qi4, list_tuple -> qi5, list_str -> qi6, list_none -> qi7, list_int -> qi8, list_bool -> qi9, int_tuple -> qja, int_str -> qjb, int_none -> qjc, int_list -> qjd, int_int -> qje, int_bool -> qjf, bool_tuple -> qjg, bool_str -> qjh, bool_none -> qji, bool_list -> qjj, bool_int -> qjk, bool_bool -> qjl
open PySem.Value renaming isStrOf -> qhW, isInt -> qiv
open PySem.W renaming Frag -> qae, kia_one -> qbM, findIn -> qca, keepIn -> qcB, emptyDict -> qcP, instObj -> qc9, cellsFrom_some -> qdh, fnOf -> qdE, hasDictIn -> qdO, plainGet -> qd5, nsIn -> qee, plainOver -> qeS, takerIn -> qfi, makesIn -> qfj, OpenLaw -> qfk, lookIn -> qfE, codeIn -> qfF, kitx_tuple -> qgD, callWith_K -> qgE, kitx_list -> qgH, kitx_dict -> qgI, handedIn -> qgW, kitOne -> qhn, mg_of -> qhB, WalkO -> qhC, isFn -> qhK
open PySem.W.Looks renaming here -> qiy
open PySem.W.WShape renaming has -> qiu
open PySem.WalksT renaming enumerateD -> qeX
open PySem.Within renaming cons -> qjn
def U{α:Sort u}{a:α}:a=a:=rfl
def iFN{c:Prop}{d:Decidable c}(h:¬c){α:Sort u}{t e:α}:ite c t e=e:=if_neg h
def iFP{c:Prop}{d:Decidable c}(h:c){α:Sort u}{t e:α}:ite c t e=t:=if_pos h
namespace L2
open PySem PySem.Spec PyProof.Rows
abbrev Key:=Sum Int Str
def oK:Key->Value->Bool
 |.inl k,v=>qiv k v
 |.inr x,v=>qhW x v
def Gg (w:World):Key->Int
 |.inl k=>hashInt k
 |.inr x=>hashStr w x
theorem bv:∀ {k:Key}{v:Value},oK k v=true->(∃ i t,k=Sum.inl i/\v=Value.int i t)\/(∃ x t,k=Sum.inr x/\v=Value.str x t)
 |.inl i,v,h=>by
  obtain⟨t,e⟩:=Value.isInt_shape h;exact .inl ⟨i,t,U,e⟩
 |.inr x,v,h=>by
  obtain⟨t,e⟩:=Value.isStrOf_shape h;exact .inr ⟨x,t,U,e⟩
theorem xw (i:Int) (t:Tok):oK (.inl i) (.int i t)=true:=by simp[oK,qiv]
theorem xx (x:Str) (t:Tok):oK (.inr x) (.str x t)=true:=by simp[oK,qhW]
theorem Db (a b:Int):decide ((Sum.inl a:Key)=Sum.inl b)=(a==b):=by
 by_cases e:a=b
 ·subst e;simp
 ·rw[decide_eq_false (λq=>e (Sum.inl.inj q))]
  exact (beq_eq_false_iff_ne.mpr e).symm
theorem De (a b:Str):decide ((Sum.inr a:Key)=Sum.inr b)=decide (a=b):=by
 by_cases e:a=b
 ·simp
 ·rw[decide_eq_false (λq=>e (Sum.inr.inj q)),decide_eq_false e]
theorem Dc (a:Int) (b:Str):decide ((Sum.inl a:Key)=Sum.inr b)=false:=decide_eq_false (λq=>nomatch q)
theorem Dd (a:Str) (b:Int):decide ((Sum.inr a:Key)=Sum.inl b)=false:=decide_eq_false (λq=>nomatch q)
def bR (prog:qaO) (w:World):PySem.KeyKind prog w Key where
 is:=oK
 hash:=Gg w
 inj:=λv a b f hb=>by
  rcases bv f with⟨i,t,rfl,rfl⟩|⟨x,t,rfl,rfl⟩
  ·rcases bv hb with⟨j,u,rfl,e⟩|⟨y,u,rfl,e⟩
   ·injection e with e1 _;rw[e1]
   ·exact nomatch e
  ·rcases bv hb with⟨j,u,rfl,e⟩|⟨y,u,rfl,e⟩
   ·exact nomatch e
   ·injection e with e1 _;rw[e1]
 byValue:=λk v h=>by
  rcases bv h with⟨i,t,rfl,rfl⟩|⟨x,t,rfl,rfl⟩<;>rfl
 pyHash:=λc h=>by
  rcases bv c with⟨i,t,rfl,rfl⟩|⟨x,t,rfl,rfl⟩
  ·exact wpAny_pyHash_int h
  ·exact wpAny_pyHash_str h
 eqBool:=λd c h=>by
  rcases bv d with⟨i,t,rfl,rfl⟩|⟨x,t,rfl,rfl⟩
  ·rcases bv c with⟨j,u,rfl,rfl⟩|⟨y,u,rfl,rfl⟩
   ·rw[Db]at h;exact wpAny_eqBool_int h
   ·rw[Dc]at h;exact qgg i t y u _ _ _ _ h
  ·rcases bv c with⟨j,u,rfl,rfl⟩|⟨y,u,rfl,rfl⟩
   ·rw[Dd]at h;exact qgf x t j u _ _ _ _ h
   ·rw[De]at h;exact wpAny_eqBool_str h
 «strs»:=λk x t v h=>by
  rcases bv h with⟨i,u,rfl,e⟩|⟨y,u,rfl,e⟩
  ·exact nomatch e
  ·injection e with e1 _
   subst e1;cases v<;>rfl
theorem sW (prog:qaO) (w:World) (i:Int) (t:Tok):(bR prog w).is (.inl i) (.int i t)=true:=xw i t
theorem sY (prog:qaO) (w:World) (x:Str) (t:Tok):(bR prog w).is (.inr x) (.str x t)=true:=xx x t
inductive V where
 |non|bl (b:Bool)|int (i:Int)|str (x:Str)|byt (b:Array UInt8)|flt (b:UInt64)|ref (a:Addr)|ty (n:String)
 deriving DecidableEq
def aK:V->Value->Prop
 |.non,u=>u=Value.none
 |.bl b,u=>u=Value.bool b
 |.int i,u=>∃ t,u=Value.int i t
 |.str x,u=>∃ t,u=Value.str x t
 |.byt b,u=>∃ t,u=Value.bytes b t
 |.flt b,u=>∃ t,u=Value.float b t
 |.ref a,u=>u=Value.ref a
 |.ty n,u=>u=Value.type n
abbrev aF:List V->List Value->Prop:=qf8 aK
theorem aF.length {xs:List V}{a:List Value} (r:aF xs a):xs.length=a.length:=qeG r
theorem aF.get:∀ {xs:List V}{a:List Value}{i:Nat}{x:V},aF xs a->xs[i]?=some x->∃ u,a[i]?=some u/\aK x u
 |_,_,_,_,.nil,e=>by simp at e
 |_,_,0,_,.cons r _,e=>by simp at e;subst e;exact⟨_,U,r⟩
 |_,_,i+1,x,.cons _ t,e=>by
  obtain⟨u,b,c⟩:=aF.get t (by simpa using e);exact⟨u,by simpa using b,c⟩
theorem aF.set {x:V}{u:Value} (r:aK x u):∀ {xs:List V}{a:List Value} (i:Nat),aF xs a->aF (xs.set i x) (a.set i u)
 |_,_,_,.nil=>.nil
 |_,_,0,.cons _ t=>.cons r t
 |_,_,i+1,.cons q t=>.cons q (aF.set r i t)
theorem aF.append:∀ {xs b:List V}{a ws:List Value},aF xs a->aF b ws->aF (xs++b) (a++ws)
 |_,_,_,_,.nil,s=>s
 |_,_,_,_,.cons r t,s=>.cons r (aF.append t s)
theorem aF.take:∀ {xs:List V}{a:List Value} (n:Nat),aF xs a->aF (xs.take n) (a.take n)
 |_,_,0,_=>.nil
 |_,_,_+1,.nil=>.nil
 |_,_,n+1,.cons r t=>.cons r (aF.take n t)
theorem aF.drop:∀ {xs:List V}{a:List Value} (n:Nat),aF xs a->aF (xs.drop n) (a.drop n)
 |_,_,0,r=>r
 |_,_,_+1,.nil=>.nil
 |_,_,n+1,.cons _ t=>aF.drop n t
def kY:Option V->Option Value->Prop
 |some v,some u=>aK v u
 |none,none=>True
 |_,_=>False
def KV {a:Type}:List (a×V)->List (a×Value)->Prop:=qf8 λ(p:a×V) (q:a×Value)=>p.1=q.1/\aK p.2 q.2
def kV:Key->V
 |.inl i=>.int i
 |.inr x=>.str x
inductive HO where
 |lst (xs:List V)
 |tup (xs:List V)
 |dK (kvs:List (Key×V))|dT (kvs:List (List Key×V))
 |set (S:Int->Bool) (n:Nat)
 |ins (C dx:Addr) (fs:List (Str×V))
 |own (x:Addr)
 |xd (fs:List (Str×V))
 |met (f x:Addr)
 |rng (lo hi:Int)
 |frz (o:Obj) (u:HO)
 |tbl (ps:Array Value)
 |ext (φ:Heap->Prop)
abbrev Hp:=Addr->Option HO
def upd (H:Hp) (a:Addr) (o:HO):Hp:=λb=>if b=a then some o else H b
theorem upd_same {H:Hp}{a:Addr}{o:HO}:upd H a o a=some o:=by unfold upd;rw[iFP U]
theorem upd_ne {H:Hp}{a b:Addr}{o:HO} (h:b≠a):upd H a o b=H b:=by unfold upd;rw[iFN h]
theorem E5 {H:Hp}{a b:Addr}{o u:HO} (h:H a=some o) (h':H b=some u) (d:o≠u):a≠b:=by
 intro e;subst e;rw[h]at h';exact d (qaL h')
theorem aH {H:Hp}{a b:Addr}{o:HO} (h:H a=some o) (h':H b=none):a≠b:=by
 intro e;subst e;rw[h]at h';cases h'
def d9 (h:Heap) (a:Addr) (b:Array Value):Prop:=∃ o:Obj,h.get? a=some o/\o.cls=.type "tuple"/\(∃ n,o.data=.seq b n)/\o.dict=none
theorem d9.tup {h:Heap}{a:Addr}{b:Array Value} (x:d9 h a b):IsTup h a b:=let ⟨o,e,c,n,_⟩:=x;⟨o,e,c,n⟩
theorem d9.new (h:Heap) (a:Array Value):d9 (h.push { cls:=.type "tuple",data:=.seq a }) h.objs.size a:=⟨_,qax _ U,U,⟨_,U⟩,U⟩
section
variable (P:qaO) (w:World)
def bZ (H:Hp) (h:Heap) (a:Addr):HO->Prop
 |.lst xs=>xs.length<=qaG/\∃ (c:List Value) (n:Nat),aF xs c/\h.get? a=some { cls:=.type "list",data:=.seq c.toArray n }
 |.tup xs=>xs.length<=qaG/\∃ c:List Value,aF xs c/\d9 h a c.toArray
 |.dK b=>b.length<=qaG/\(a==qcn)=false/\∃ g,KV b g/\h.DictOf (bR P w) a g
 |.dT b=>b.length<=qaG/\(a==qcn)=false/\∃ xs:List (List Key×Addr×Value),
   qf8 (λ(p:List Key×V) (q:List Key×Addr×Value)=>p.1=q.1/\H q.2.1=some (.tup (p.1.map kV))/\aK p.2 q.2.2) b xs/\
   ∃ o es k,h.get? a=some o/\o.ExactDict/\o.data=.dict es k/\es.toList=xs.map (entryOfKey (qgo (bR P w)))/\(xs.map (·.1)).Nodup
 |.set S n=>h.SetOf (intKind P w) a S n
 |.ins C e fs=>H e=some (.own a)/\fs.length<=1000/\e≠a/\h.get? a=some (qc9 C e)/\
   ∃ d,h.Ns1 e d/\(∀ f,kY (fs.lookup f) (d f))/\qgv d (fs.map (·.1))
 |.own _=>∃ o,h.get? a=some o
 |.xd fs=>∃ d,h.Ns1 a d/\∀ f,kY (fs.lookup f) (d f)
 |.rng lo hi=>∃ t u v,h.get? a=some { cls:=.type "range",data:=.fields #[.int lo t,.int hi u,.int 1 v] }
 |.frz o u=>h.get? a=some o/\bZ H h a u
 |.tbl ps=>h.get? a=some { cls:=.none,data:=.fields ps }
 |.met f x=>h.get? a=some (PySem.W.methodObj (.ref f) (.ref x))
 |.ext φ=>φ h/\(∃ o,h.get? a=some o)/\∀ i j:Heap,φ i->(∀ o,i.get? a=some o->j.get? a=some o)->φ j
def HOk (H:Hp) (h:Heap):Prop:=∀ a o,H a=some o->bZ P w H h a o
end
section
variable {P:qaO}{w:World}{H H':Hp}{h h':Heap}{a:Addr}{o:HO}
theorem bZ.lt (x:bZ P w H h a o):a<h.objs.size:=by
 cases o with
 |lst xs=>obtain⟨_,_,_,_,e⟩:=x;exact qaA e
 |tup xs=>obtain⟨_,_,_,p⟩:=x;exact p.tup.lt
 |dK l=>obtain⟨_,_,_,_,o,_,_,e,_⟩:=x;exact qaA e
 |dT l=>obtain⟨_,_,_,_,o,_,_,e,_⟩:=x;exact qaA e
 |set S n=>obtain⟨o,_,_,_,e,_⟩:=x;exact qaA e
 |ins C I fs=>obtain⟨_,_,_,e,_⟩:=x;exact qaA e
 |own y=>obtain⟨_,e⟩:=x;exact qaA e
 |xd fs=>obtain⟨_,⟨_,_,_,e,_⟩,_⟩:=x;exact qaA e
 |rng lo hi=>obtain⟨_,_,_,e⟩:=x;exact qaA e
 |frz ob u=>obtain⟨e,_⟩:=x;exact qaA e
 |tbl ps=>exact qaA (x)
 |met f y=>exact qaA (x)
 |ext φ=>obtain⟨_,⟨_,e⟩,_⟩:=x;exact qaA e
theorem qf8.mapP {α B:Type}{F G:α->B->Prop}:∀ {i:List α}{j:List B},qf8 F i j->(∀ a b,F a b->G a b)->qf8 G i j
 |_,_,.nil,_=>.nil
 |_,_,.cons r t,f=>.cons (f _ _ r) (qf8.mapP t f)
theorem bZ.stay (x:bZ P w H h a o) (k:∀ b u,(b=a\/H b=some (.own a))->h.get? b=some u->h'.get? b=some u)
  (D:∀ b,H b=some (.own a)->H' b=some (.own a)) (J:∀ b xs,H b=some (.tup xs)->H' b=some (.tup xs)):bZ P w H' h' a o:=by
 induction o with
 |lst xs=>obtain⟨z,m,n,r,e⟩:=x;exact⟨z,m,n,r,k _ _ (.inl U) e⟩
 |tup xs=>obtain⟨z,m,r,ob,e,c⟩:=x;exact⟨z,m,r,ob,k _ _ (.inl U) e,c⟩
 |dK l=>obtain⟨z,y,E,r,ob,es,g,e,c⟩:=x;exact⟨z,y,E,r,ob,es,g,k _ _ (.inl U) e,c⟩
 |dT l=>
  obtain⟨z,y,xs,r,ob,es,g,e,c⟩:=x;exact⟨z,y,xs,qf8.mapP r λp q z=>⟨z.1,J _ _ z.2.1,z.2.2⟩,ob,es,g,k _ _ (.inl U) e,c⟩
 |set S n=>obtain⟨ob,es,g,t,e,c⟩:=x;exact⟨ob,es,g,t,k _ _ (.inl U) e,c⟩
 |ins C I fs=>
  obtain⟨d,z,ne,e,s,⟨A,es,g,e2,c⟩,r⟩:=x;exact⟨D _ d,z,ne,k _ _ (.inl U) e,s,⟨A,es,g,k _ _ (.inr d) e2,c⟩,r⟩
 |own y=>obtain⟨ob,e⟩:=x;exact⟨ob,k _ _ (.inl U) e⟩
 |xd fs=>obtain⟨s,⟨A,es,g,e,c⟩,r⟩:=x;exact⟨s,⟨A,es,g,k _ _ (.inl U) e,c⟩,r⟩
 |rng lo hi=>obtain⟨t,u,v,e⟩:=x;exact⟨t,u,v,k _ _ (.inl U) e⟩
 |frz ob u L=>obtain⟨e,q⟩:=x;exact⟨k _ _ (.inl U) e,L q⟩
 |tbl ps=>
  exact k a _ (.inl U) x
 |met f y=>
  exact k a _ (.inl U) x
 |ext φ=>obtain⟨p,⟨o,e⟩,st⟩:=x;exact⟨st _ _ p λo q=>k _ _ (.inl U) q,⟨o,k _ _ (.inl U) e⟩,st⟩
theorem HOk.lt (x:HOk P w H h) (e:H a=some o):a<h.objs.size:=(x a o e).lt
theorem HOk.fresh (x:HOk P w H h) (e:h.objs.size<=a):H a=none:=by
 cases q:H a with
 |none=>rfl
 |some u=>exact absurd (qaN (x.lt q) e) (qa3 _)
theorem HOk.kept (x:HOk P w H h) (k:∀ b u,h.get? b=some u->h'.get? b=some u):HOk P w H h':=λa o e=>
 (x a o e).stay (λb u _ q=>k b u q) (λ_ q=>q) λ_ _ q=>q
theorem HOk.laid (x:HOk P w H h) (k:∀ b u,h.get? b=some u->h'.get? b=some u) (K:h.objs.size<=a) (new:bZ P w (upd H a o) h' a o):HOk P w (upd H a o) h':=λb u e=>by
 have hn:=x.fresh K;by_cases hb:b=a
 ·subst hb;rw[upd_same]at e;cases e;exact new
 ·rw[upd_ne hb]at e
  exact (x b u e).stay (λc v _ q=>k c v q) (λc q=>by rw[upd_ne (aH q hn)];exact q) λc xs q=>by rw[upd_ne (aH q hn)];exact q
end
def Rd (H:Hp) (a:Addr) (u:HO):Prop:=H a=some u\/∃ o,H a=some (.frz o u)
theorem Rd.of {H:Hp}{a:Addr}{u:HO} (h:H a=some u):Rd H a u:=.inl h
theorem Rd.ok {P:qaO}{w:World}{H:Hp}{h:Heap}{a:Addr}{u:HO} (r:Rd H a u) (x:HOk P w H h):bZ P w H h a u:=by
 rcases r with r|⟨o,r⟩
 ·exact x a u r
 ·obtain⟨_,q⟩:=x a _ r
  exact q
def Mut:Option HO->Prop
 |some (.lst _)=>True
 |some (.dK _)=>True
 |some (.dT _)=>True
 |some (.set _ _)=>True
 |some (.ins _ _ _)=>True
 |some (.ext _)=>True
 |_=>False
section
variable {P:qaO}{w:World}{H:Hp}{h h':Heap}{x e:Addr}{i:HO}
theorem HOk.write (ok:HOk P w H h) (f:Mut (H x)) (l:e=x\/H e=some (.own x)) (k:∀ b u,b≠e->h.get? b=some u->h'.get? b=some u) (j:∃ u,h'.get? e=some u)
  (new:bZ P w (upd H x i) h' x i):HOk P w (upd H x i) h':=λb u q=>by
 have d:∀ c y,H c=some (.own y)->c≠x:=λc y r z=>by subst z;rw[r]at f;exact f
 by_cases hb:b=x
 ·subst hb;rw[upd_same]at q;cases q;exact new
 ·rw[upd_ne hb]at q
  by_cases a:b=e
  ·have m:H b=some (.own x):=by
    rcases l with z|z
    ·exact absurd (a.trans z) hb
    ·rw[a];exact z
   rw[q]at m;cases m;obtain⟨v,n⟩:=j;exact⟨v,by rw[a];exact n⟩
  ·refine (ok b u q).stay (λc v g r=>k c v ?_ r) (λc r=>by rw[upd_ne (d c b r)];exact r) λc xs r=>by rw[upd_ne ((λc xs r z=>by subst z;rw[r]at f;exact f) c xs r)];exact r
   rcases g with rfl|g
   ·exact a
   ·rintro rfl
    rcases l with z|z
    ·exact d c b g z
    ·rw[g]at z;cases z;exact hb U
end
structure Un (fs ex:List Addr) (H H':Hp) (h h':Heap):Prop where
 keep:∀ b o,h.get? b=some o->H b=none->b∉fs->b∉ex->h'.get? b=some o
 slot:∀ b o,h.get? b=some o->H b=none->b∈fs->b∉ex->∃ sl,h'.get? b=some { o with slots:=sl }
 free:∀ b o,h.get? b=some o->H b=none->b∉ex->H' b=none
 there:∀ b o,h.get? b=some o->b∉ex->∃ o',h'.get? b=some o'
 tups:∀ b xs,H b=some (.tup xs)->H' b=some (.tup xs)
 frzs:∀ b o u,H b=some (.frz o u)->H' b=some (.frz o u)
 tbls:∀ b ps,H b=some (.tbl ps)->∃ more,H' b=some (.tbl (ps++more))
section
variable {fs p ex i:List Addr}{H H1 H2:Hp}{h g s h':Heap}{a x e:Addr}{o:HO}
theorem Un.any (u:Un fs ex H H1 h g) {b:Addr}{ob:Obj} (q:h.get? b=some ob) (n:H b=none) (hx:b∉ex):∃ l,g.get? b=some { ob with slots:=l }:=by
 by_cases hb:b∈fs
 ·exact u.slot b ob q n hb hx
 ·exact⟨ob.slots,u.keep b ob q n hb hx⟩
theorem Un.kept (k:∀ b u,h.get? b=some u->h'.get? b=some u):Un fs ex H H h h':=
 ⟨λb ob q _ _ _=>k b ob q,λb ob q _ _ _=>⟨ob.slots,k b ob q⟩,λ_ _ _ n _=>n,λb ob q _=>⟨ob,k b ob q⟩,λ_ _ q=>q,λ_ _ _ q=>q,λ_ ps q=>⟨#[],by rw[q];simp⟩⟩
theorem Un.refl:Un fs ex H H h h:=Un.kept λ_ _ q=>q
theorem Un.laid (k:∀ b u,h.get? b=some u->h'.get? b=some u) (m:h.objs.size<=a) (hn:H a=none):Un fs ex H (upd H a o) h h' where
 keep:=λb u q _ _ _=>k b u q
 slot:=λb u q _ _ _=>⟨u.slots,k b u q⟩
 free:=λb u q n _=>by rw[upd_ne (qaF (qaN (qaA q) m))];exact n
 there:=λb u q _=>⟨u,k b u q⟩
 tups:=λb xs q=>by rw[upd_ne (aH q hn)];exact q
 frzs:=λb u xs q=>by rw[upd_ne (aH q hn)];exact q
 tbls:=λb ps q=>⟨#[],by rw[upd_ne (aH q hn),q];simp⟩
theorem Un.write (d:Mut (H x)) (j:e=x\/H e=some (.own x)) (k:∀ b u,b≠e->h.get? b=some u->h'.get? b=some u) (f:∃ u,h'.get? e=some u):Un fs ex H (upd H x o) h h':=by
 have hx:∀ b,H b=none->b≠x:=λb n z=>by subst z;rw[n]at d;exact d
 have hb:∀ b,H b=none->b≠e:=λb n z=>by
  subst z;rcases j with r|r
  ·exact hx b n r
  ·rw[n]at r;cases r
 have hm:∀ b u,H b=some u->¬ Mut (some u)->b≠x:=λb u q nm z=>by subst z;rw[q]at d;exact nm d
 refine⟨λb u q n _ _=>k b u (hb b n) q,λb u q n _ _=>⟨u.slots,k b u (hb b n) q⟩,λb u q n _=>by rw[upd_ne (hx b n)];exact n,λb u q _=>?_,
  λb xs q=>by rw[upd_ne (hm b _ q λz=>z)];exact q,λb u xs q=>by rw[upd_ne (hm b _ q λz=>z)];exact q,λb ps q=>⟨#[],by rw[upd_ne (hm b _ q λz=>z),q];simp⟩⟩
 by_cases c:b=e
 ·subst c;exact f
 ·exact⟨u,k b u c q⟩
end
def trk (h:Heap) (H:Hp):List Addr:=(qai h.objs.size).filter λa=>(H a).isSome
def xj (h:Heap) (H:Hp):Heap:=PySem.W.hideAll h (trk h H)
theorem xk (h:Heap) (H:Hp):(xj h H).objs.size=h.objs.size:=PySem.W.hideAll_size _ _
theorem yy {h:Heap}{H:Hp}{b:Addr}{o:Obj} (e:h.get? b=some o) (n:H b=none):(xj h H).get? b=some o:=
 PySem.W.hideAll_get _ e λhm=>by
  have q:=(qbF.mp hm).2;rw[n]at q;simp at q
theorem A7 {h:Heap}{H:Hp}{b:Addr}{o:Obj} (e:(xj h H).get? b=some o):h.get? b=some o/\H b=none:=by
 have a:=PySem.W.of_hideAll _ e;refine⟨a,?_⟩;cases q:H b with
 |none=>rfl
 |some x=>
  have z:(xj h H).get? b=none:=PySem.W.hideAll_none _ (qbF.mpr ⟨qaI.mpr (qaA a),by simp[q]⟩);rw[z]at e;cases e
structure Mod (K:qae) (mg:Str->Option Value) (base:Heap):Prop where
 kin:K.In base
 glob:base.Ns qb5 mg
 blt:∃ mb,base.Ns qgV mb/\∀ x:Str,x≠"__name__"->mb x=qb9 x
 nolimit:base.NoLimit
structure Cx where
 prog:qaO
 w:World
 K:qae
 mg:Str->Option Value
 base:Heap
 A:qa0
 N:List Str
 s₀:qak
 H₀:Hp
 env:Env
 outer:List Env
 stack:List Env
 ex:List Addr
 fn:Str->Bool
 calm:Bool
 pn:List (Addr×Obj)
 xe:Value->qak->Prop
def frs (l:List Env):List Addr:=l.filterMap (·.frame)
abbrev Cx.fs (X:Cx):List Addr:=frs X.outer
def Vis (a:Scope) (x:Str):Prop:=a.names.lookup x=some .local\/a.names.lookup x=some .cell\/a.names.lookup x=some .free
def Loc (a:Scope) (x:Str):Prop:=a.names.lookup x=some .local\/a.names.lookup x=some .cell
def FZ (env:Env) (h:Heap) (m:Str->Option Value) (x:Str) (u:Value):Prop:=
 (env.kindOf x=some .local/\m x=some u)\/((env.kindOf x=some .cell\/env.kindOf x=some .free)/\∃ c,env.cells.lookup x=some c/\h.IsCell c (some u))
structure Cx.Ok (X:Cx):Prop where
 mod:Mod X.K X.mg X.base
 kind:X.env.scope.kind=.function
 glob:X.env.globals=qb5
 blt:X.env.builtins=qgV
 above:X.s₀.heap.objs.size<=X.env.locals
 inj:∀ x y c,X.env.cells.lookup x=some c->X.env.cells.lookup y=some c->x=y
 has:∀ x,(X.env.kindOf x=some .cell\/X.env.kindOf x=some .free)->∃ c,X.env.cells.lookup x=some c
 cab:∀ x c,X.fn x=true->X.env.cells.lookup x=some c->X.s₀.heap.objs.size<=c
 hd:X.calm=true->X.A.handled=none
 frames:X.A.frames=some X.stack
 stk:X.stack=X.outer\/(X.stack=X.env::X.outer/\X.env.frame=some X.env.locals)
 exf:∀ b∈X.ex,b≠X.env.locals/\∀ x c,X.env.cells.lookup x=some c->c≠b
 bs:∀ b o,X.base.get? b=some o->X.s₀.heap.get? b=some o/\X.H₀ b=none
 bsz:X.base.objs.size<=X.s₀.heap.objs.size
 noex:∀ b o,X.base.get? b=some o->b∉X.ex
 exfs:∀ b∈X.ex,b∉X.fs
 funs:X.s₀.heap.FunFrames X.base X.outer
 frf:∀ b∈X.fs,X.H₀ b=none
structure Inv (X:Cx) (pins:List (Addr×Obj)) (σ:List (Option V)) (H:Hp) (s:qak):Prop where
 ok:X.Ok
 os:s.os=X.s₀.os
 bare:qfp s.gens
 base:Un X.fs X.ex X.H₀ H X.s₀.heap s.heap
 loc:∃ m,s.heap.Ns X.env.locals m/\∀ (i:Nat) (x:Str) (v:V),X.N[i]?=some x->σ[i]?=some (some v)->Vis X.env.scope x->∃ u,aK v u/\FZ X.env s.heap m x u
 cell:∀ x c,X.env.cells.lookup x=some c->∃ v,s.heap.IsCell c v
 free:H X.env.locals=none
 freeC:∀ x c,X.env.cells.lookup x=some c->H c=none
 pin:∀ p∈X.pn++pins,s.heap.get? p.1=some p.2/\H p.1=none/\p.1≠X.env.locals/\p.1∉X.fs/\∀ v,p.2.data≠.cell v
 hok:HOk X.prog X.w H s.heap
 len:σ.length=X.N.length
section
variable {X:Cx}{f:List (Addr×Obj)}{g:List (Option V)}{H H':Hp}{s:qak}{h':Heap}
theorem Cx.Ok.nofr (ok:X.Ok) {b:Addr}{o:Obj} (e:X.base.get? b=some o):b∉X.fs:=λhb=>by
 have:=(ok.funs.mem hb).1
 rw[e]at this;cases this
theorem Inv.bs (I:Inv X f g H s):∀ b o,X.base.get? b=some o->s.heap.get? b=some o/\H b=none:=λb o e=>
 ⟨I.base.keep b o (I.ok.bs b o e).1 (I.ok.bs b o e).2 (I.ok.nofr e) (I.ok.noex b o e),I.base.free b o (I.ok.bs b o e).1 (I.ok.bs b o e).2 (I.ok.noex b o e)⟩
theorem Inv.bk (I:Inv X f g H s):∀ b o,X.base.get? b=some o->s.heap.get? b=some o:=λb o e=>(I.bs b o e).1
theorem Inv.mod (I:Inv X f g H s):Mod X.K X.mg X.base:=I.ok.mod
theorem Inv.kIn (I:Inv X f g H s):X.K.In s.heap:=I.ok.mod.kin.keeps I.bk
theorem Inv.fr (I:Inv X f g H s):∃ m,Fr X.base X.env.locals s.heap m:=
 let ⟨m,hn,_⟩:=I.loc
 ⟨m,hn,I.bk,qaH I.ok.bsz I.ok.above⟩
theorem Inv.lt (I:Inv X f g H s):X.env.locals<s.heap.objs.size:=let ⟨_,hn,_⟩:=I.loc;hn.lt
theorem Inv.sz (I:Inv X f g H s):X.s₀.heap.objs.size<=s.heap.objs.size:=qaH I.ok.above (qez I.lt)
theorem Inv.nofs (I:Inv X f g H s) {a:Addr} (h:s.heap.objs.size<=a):a∉X.fs:=λhb=>by
 obtain⟨_,o,C,_⟩:=I.ok.funs.mem hb;exact absurd (qaN (qaA C) (qaH I.sz h)) (qa3 _)
theorem Inv.cne (I:Inv X f g H s):∀ x c,X.env.cells.lookup x=some c->c≠X.env.locals:=λx c e z=>by
 obtain⟨v,o,C,hd⟩:=I.cell x c e;obtain⟨m,⟨K,es,ep,J,hd',_⟩,_⟩:=I.loc;rw[z,J]at C;cases C;rw[hd']at hd;cases hd
theorem Inv.funs (I:Inv X f g H s):s.heap.FunFrames X.base X.outer:=by
 have all:∀ (l:List Env),(∀ b∈frs l,b∈X.fs)->X.s₀.heap.FunFrames X.base l->s.heap.FunFrames X.base l:=by
  intro l
  induction l with
  |nil=>intro _ _;trivial
  |cons env r ih=>
   intro D hl;obtain⟨hk,⟨L,o,W,hn,C,hd⟩,hr⟩:=hl;have P:=D L (by unfold frs;rw[qeK,W];exact qag);obtain⟨sl,e⟩:=I.base.slot L o C (I.ok.frf L P) P λz=>I.ok.exfs L z P;exact⟨hk,⟨L,_,W,hn,e,hd⟩,ih (λb hb=>D b (by unfold frs;rw[qeK,W];exact qah _ hb)) hr⟩
 exact all X.outer (λ_ hb=>hb) I.ok.funs
theorem Inv.stack (I:Inv X f g H s):s.heap.FunFrames X.base X.stack:=by
 rcases I.ok.stk with e|⟨e,W⟩
 ·rw[e];exact I.funs
 ·rw[e]
  obtain⟨m,hn,_⟩:=I.loc;refine .cons (by rw[I.ok.kind];decide) W hn ?_ I.funs;exact Heap.get?_none_of_le (qaH I.ok.bsz I.ok.above)
theorem Inv.stkSub (I:Inv X f g H s):∀ b∈frs X.stack,b∈X.env.locals::X.fs:=λb hb=>by
 rcases I.ok.stk with e|⟨e,W⟩
 ·rw[e]at hb;exact qah _ hb
 ·rw[e]at hb
  unfold frs at hb;rw[qeK,W]at hb;exact hb
theorem Inv.stkFree (I:Inv X f g H s):∀ b∈frs X.stack,H b=none:=λb hb=>by
 rcases qaz.mp (I.stkSub b hb) with e|hb
 ·rw[e];exact I.free
 ·obtain⟨_,o,C,_⟩:=I.ok.funs.mem hb
  exact I.base.free b o C (I.ok.frf b hb) λz=>I.ok.exfs b z hb
theorem Inv.step {g':Array qih}{t':Nat}{d':Drawn}{ch:List Addr} (I:Inv X f g H s)
  (F:∀ b∈ch,(b∈X.ex\/X.s₀.heap.objs.size<=b)/\b≠X.env.locals/\(∀ x c,X.env.cells.lookup x=some c->c≠b)/\∀ p∈X.pn++f,p.1≠b)
  (keep:∀ b o,b≠X.env.locals->b∉X.fs->b∉ch->s.heap.get? b=some o->H b=none->h'.get? b=some o)
  (slot:∀ b o,b≠X.env.locals->b∈X.fs->b∉ch->s.heap.get? b=some o->H b=none->∃ sl,h'.get? b=some { o with slots:=sl }) (free:∀ b o,b∉ch->s.heap.get? b=some o->H b=none->H' b=none)
  (there:∀ b o,b∉ch->s.heap.get? b=some o->∃ K,h'.get? b=some K)
  (tups:∀ b xs,H b=some (.tup xs)->H' b=some (.tup xs)) (frzs:∀ b o u,H b=some (.frz o u)->H' b=some (.frz o u)) (tbls:∀ b ps,H b=some (.tbl ps)->∃ more,H' b=some (.tbl (ps++more)))
  (ns:∀ m,s.heap.Ns X.env.locals m->h'.Ns X.env.locals m) (hok:HOk X.prog X.w H' h') (hg:qfp g') :
  Inv X f g H' { s with heap:=h',gens:=g',drawn:=d',toks:=t' }:=by
 have neL:∀ b o,X.s₀.heap.get? b=some o->b≠X.env.locals:=λb o e=>qaF (qaN (qaA e) I.ok.above);have neC:∀ b o,X.s₀.heap.get? b=some o->b∉X.ex->b∉ch:=λb o e hx hb=>by
  rcases (F b hb).1 with z|z
  ·exact hx z
  ·exact absurd (qaN (qaA e) z) (qa3 _)
 have T:∀ x c,X.env.cells.lookup x=some c->∀ v,s.heap.IsCell c v->h'.IsCell c v:=λx c e v ⟨o,C,hd⟩=>by
  have Y:=λz=>(F c z).2.2.1 x c e U;by_cases B:c∈X.fs
  ·obtain⟨sl,q⟩:=slot c o (I.cne x c e) B Y C (I.freeC x c e)
   exact⟨_,q,hd⟩
  ·exact⟨o,keep c o (I.cne x c e) B Y C (I.freeC x c e),hd⟩
 refine⟨I.ok,I.os,hg,⟨λb o e n hb hx=>?_,λb o e n hb hx=>?_,λb o e n hx=>?_,λb o e hx=>?_,λb xs e=>tups b xs (I.base.tups b xs e),λb o xs e=>frzs b o xs (I.base.frzs b o xs e),λb ps e=>?_⟩,?_,λx c e=>?_,?_,λx c e=>?_,λp O=>?_,hok,I.len⟩
 ·exact keep b o (neL b o e) hb (neC b o e hx) (I.base.keep b o e n hb hx) (I.base.free b o e n hx)
 ·obtain⟨sl,e1⟩:=I.base.slot b o e n hb hx
  obtain⟨sl',e2⟩:=slot b _ (neL b o e) hb (neC b o e hx) e1 (I.base.free b o e n hx);exact⟨sl',e2⟩
 ·obtain⟨K,e1⟩:=I.base.there b o e hx
  exact free b K (neC b o e hx) e1 (I.base.free b o e n hx)
 ·obtain⟨K,e1⟩:=I.base.there b o e hx
  exact there b K (neC b o e hx) e1
 ·obtain⟨m1,e1⟩:=I.base.tbls b ps e
  obtain⟨m2,e2⟩:=tbls b _ e1;exact⟨_,by rw[e2,Array.append_assoc]⟩
 ·obtain⟨m,hn,hl⟩:=I.loc
  refine⟨m,ns m hn,λi x v e1 e2 e3=>?_⟩;obtain⟨u,r,l⟩:=hl i x v e1 e2 e3;refine⟨u,r,?_⟩;rcases l with l|⟨k,c,e,z⟩
  ·exact .inl l
  ·exact .inr ⟨k,c,e,T x c e _ z⟩
 ·obtain⟨v,z⟩:=I.cell x c e
  exact⟨v,T x c e v z⟩
 ·obtain⟨m,⟨o,_,_,C,_⟩,_⟩:=I.loc
  exact free _ o (λz=>(F _ z).2.1 U) C I.free
 ·obtain⟨v,o,C,hd⟩:=I.cell x c e
  exact free c o (λz=>(F c z).2.2.1 x c e U) C (I.freeC x c e)
 ·obtain⟨e,n,ne,nf,d⟩:=I.pin p O
  have Y:=λz=>(F p.1 z).2.2.2 p O U;exact⟨keep p.1 p.2 ne nf Y e n,free p.1 p.2 Y e n,ne,nf,d⟩
theorem Inv.un {t':Nat} (I:Inv X f g H s) (u:Un X.fs [] H H' s.heap h') (hok:HOk X.prog X.w H' h'):Inv X f g H' { s with heap:=h',toks:=t' }:=by
 obtain⟨m,⟨o,es,ep,C,r⟩,_⟩:=id I.loc;obtain⟨sl,P⟩:=u.any C I.free (by simp)
 exact I.step (ch:=[]) (λ_ z=>nomatch z) (λb o _ hb _ e n=>u.keep b o e n hb (by simp)) (λb o _ hb _ e n=>u.slot b o e n hb (by simp)) (λb o _ e n=>u.free b o e n (by simp)) (λb o _ e=>u.there b o e (by simp)) u.tups u.frzs u.tbls (λm' hm=>by
  obtain⟨K,es',ep',J,r'⟩:=hm;rw[C]at J;cases J
  exact⟨_,es',ep',P,r'⟩) hok I.bare
theorem Inv.call {g':Array qih}{t':Nat}{d':Drawn}{ch:List Addr} (I:Inv X f g H s) (u:Un (frs X.stack) ch H H' s.heap h') (hok:HOk X.prog X.w H' h') (hg:qfp g')
  (F:∀ b∈ch,(b∈X.ex\/X.s₀.heap.objs.size<=b)/\b≠X.env.locals/\(∀ x c,X.env.cells.lookup x=some c->c≠b)/\∀ p∈X.pn++f,p.1≠b) :
  Inv X f g H' { s with heap:=h',gens:=g',drawn:=d',toks:=t' }:=by
 obtain⟨m,⟨o,es,ep,C,r⟩,_⟩:=id I.loc;obtain⟨sl,P⟩:=u.any C I.free λz=>(F _ z).2.1 U
 exact I.step F (λb o P hb B e n=>u.keep b o e n (λz=>(qaz.mp (I.stkSub b z)).elim P hb) B) (λb o _ _ B e n=>u.any e n B) (λb o B e n=>u.free b o e n B) (λb o B e=>u.there b o e B) u.tups u.frzs u.tbls (λm' hm=>by
  obtain⟨K,es',ep',J,r'⟩:=hm;rw[C]at J;cases J
  exact⟨_,es',ep',P,r'⟩) hok hg
theorem Inv.turned {t':Nat}{it:Addr} (I:Inv X f g H s) (k:∀ b o,b≠it->s.heap.get? b=some o->h'.get? b=some o) (hn:H it=none) (P:it≠X.env.locals)
  (h1:it∈X.ex\/X.s₀.heap.objs.size<=it) (h2:∀ x c,X.env.cells.lookup x=some c->c≠it) (h3:∀ p∈X.pn++f,p.1≠it):Inv X f g H { s with heap:=h',toks:=t' }:=by
 have nit:∀ b u,H b=some u->b≠it:=λb u e z=>by rw[z,hn]at e;cases e
 refine I.step (ch:=[it]) (λb hb=>?_) (λb o _ _ B e _=>k b o (λz=>B (by simp[z])) e) (λb o _ _ B e _=>⟨o.slots,k b o (λz=>B (by simp[z])) e⟩) (λ_ _ _ _ n=>n)
  (λb o B e=>⟨o,k b o (λz=>B (by simp[z])) e⟩) (λ_ _ e=>e) (λ_ _ _ e=>e) (λb ps e=>⟨#[],by rw[e];simp⟩) (λm hm=>?_) (λb u e=>?_) I.bare
 ·have e:=by simpa using hb
  subst e;exact⟨h1,P,h2,h3⟩
 ·obtain⟨o,es,ep,C,r⟩:=hm
  exact⟨o,es,ep,k _ o (qbD P) C,r⟩
 ·refine (I.hok b u e).stay (λc v B q=>k c v ?_ q) (λ_ q=>q) λ_ _ q=>q
  rcases B with z|z
  ·rw[z];exact nit b u e
  ·exact nit c _ z
theorem Inv.tok (I:Inv X f g H s) (t:Nat):Inv X f g H { s with toks:=t }:=I.un Un.refl I.hok
theorem Inv.kept {t':Nat} (I:Inv X f g H s) (k:∀ b u,s.heap.get? b=some u->h'.get? b=some u):Inv X f g H { s with heap:=h',toks:=t' }:=I.un (Un.kept k) (I.hok.kept k)
theorem Inv.laid {a:Addr}{o:HO}{t':Nat} (I:Inv X f g H s) (k:∀ b u,s.heap.get? b=some u->h'.get? b=some u) (O:s.heap.objs.size<=a) (new:bZ X.prog X.w (upd H a o) h' a o) :
  Inv X f g (upd H a o) { s with heap:=h',toks:=t' }:=I.un (Un.laid k O (I.hok.fresh O)) (I.hok.laid k O new)
theorem Inv.write {x e:Addr}{o:HO}{t':Nat} (I:Inv X f g H s) (mu:Mut (H x)) (he:e=x\/H e=some (.own x)) (k:∀ b u,b≠e->s.heap.get? b=some u->h'.get? b=some u) (heo:∃ u,h'.get? e=some u)
  (new:bZ X.prog X.w (upd H x o) h' x o):Inv X f g (upd H x o) { s with heap:=h',toks:=t' }:=I.un (Un.write mu he k heo) (I.hok.write mu he k heo new)
theorem Inv.weak {σ':List (Option V)} (I:Inv X f g H s) (hl:σ'.length=g.length) (w:∀ (i:Nat) v,σ'[i]?=some (some v)->g[i]?=some (some v)):Inv X f σ' H s:=
 ⟨I.ok,I.os,I.bare,I.base,let ⟨m,hn,hl'⟩:=I.loc;⟨m,hn,λi x v e1 e2 e3=>hl' i x v e1 (w i v e2) e3⟩,I.cell,I.free,I.freeC,I.pin,I.hok,hl.trans I.len⟩
theorem Inv.pins_of {R:List (Addr×Obj)} (I:Inv X f g H s) (h:∀ p∈R,s.heap.get? p.1=some p.2/\H p.1=none/\p.1≠X.env.locals/\p.1∉X.fs/\∀ v,p.2.data≠.cell v):Inv X R g H s:=
 ⟨I.ok,I.os,I.bare,I.base,I.loc,I.cell,I.free,I.freeC,λp O=>(qaQ.mp O).elim (λz=>I.pin p (qa1 _ z)) (h p),I.hok,I.len⟩
theorem tj {N:List Str} (hN:N.Nodup) {i j:Nat}{x:Str} (a:N[i]?=some x) (b:N[j]?=some x):i=j:=by
 obtain⟨h1,e1⟩:=qap.mp a;obtain⟨h2,e2⟩:=qap.mp b;exact (qdB hN).mp (e1.trans e2.symm)
theorem xS {M:Model}{A:qa0}{E:Value->qak->Prop}{i:Nat}{x:Str}{v:V}{u:Value}{Q:Unit->qak->Prop} (I:Inv X f g H s) (hN:X.N.Nodup) (hi:X.N[i]?=some x) (hx:Loc X.env.scope x) (r:aK v u)
  (h:∀ s',Inv X f (g.set i (some v)) H s'->(∃ a,qdd a s.heap s'.heap/\(a=X.env.locals\/X.env.cells.lookup x=some a))->Q () s') (W:X.fn x=true\/X.env.scope.names.lookup x=some .local:=by first|exact .inl U|exact .inr U|assumption):wpAny M A (storeName X.env x u) Q E s:=by
 obtain⟨m,hn,hl⟩:=id I.loc;have hcls:(X.env.scope.kind==.class||(X.env.scope.kind==.module&&X.env.locals != X.env.globals))=false:=by rw[I.ok.kind];rfl
 have hiσ:i<g.length:=by rw[I.len];exact (qap.mp hi).1
 have cne:=I.cne;have G:∀ {a:Addr}{h':Heap},(∃ o,s.heap.get? a=some o/\H a=none)->qdd a s.heap h'->HOk X.prog X.w H h':=λ{a h'} ha D b ob e=>by
  obtain⟨_,_,S⟩:=ha;refine (I.hok b ob e).stay (λc w' B q=>(D.2 c ?_).trans q) (λ_ q=>q) λ_ _ q=>q
  rintro rfl
  rcases B with rfl|B
  ·rw[S]at e;cases e
  ·rw[S]at B;cases B
 rcases hx with hk|hk
 ·refine wpAny_storeName_local hk hn (λh' hn' D=>?_) hcls
  obtain⟨oL,_,_,hoL,_⟩:=id hn;refine h _ ⟨I.ok,I.os,I.bare,⟨λb o e n hb hx=>?_,λb o e n hb hx=>?_,I.base.free,λb o e hx=>?_,I.base.tups,I.base.frzs,I.base.tbls⟩,⟨_,hn',λj y v' e1 e2 e3=>?_⟩,λy c e=>?_,I.free,I.freeC,λp O=>?_,G ⟨oL,hoL,I.free⟩ D,by simpa using I.len⟩ ⟨_,D,.inl U⟩
  ·exact (D.2 b (qaF (qaN (qaA e) I.ok.above))).trans (I.base.keep b o e n hb hx)
  ·obtain⟨sl,e1⟩:=I.base.slot b o e n hb hx
   exact⟨sl,(D.2 b (qaF (qaN (qaA e) I.ok.above))).trans e1⟩
  ·obtain⟨K,e1⟩:=I.base.there b o e hx
   exact⟨K,(D.2 b (qaF (qaN (qaA e) I.ok.above))).trans e1⟩
  ·by_cases hj:j=i
   ·subst hj
    rw[hi]at e1;cases e1;rw[qbn hiσ]at e2;cases e2;exact⟨u,r,.inl ⟨hk,by simp⟩⟩
   ·rw[qbz (qbD hj)]at e2
    obtain⟨u',r',q⟩:=hl j y v' e1 e2 e3;refine⟨u',r',?_⟩;rcases q with⟨k,e⟩|⟨k,c,e,z⟩
    ·refine .inl ⟨k,?_⟩
     have:y≠x:=λe=>hj (tj hN e1 (e ▸ hi))
     simp[this,e]
    ·exact .inr ⟨k,c,e,z.sameBut D (cne y c e)⟩
  ·obtain⟨w',z⟩:=I.cell y c e
   exact⟨w',z.sameBut D (cne y c e)⟩
  ·obtain⟨e,n,ne,nf,d⟩:=I.pin p O
   exact⟨(D.2 p.1 ne).trans e,n,ne,nf,d⟩
 ·have hfn:X.fn x=true:=by
   rcases W with z|z
   ·exact z
   ·rw[z]at hk;cases hk
  obtain⟨c,B⟩:=I.ok.has x (.inl hk);obtain⟨w',z⟩:=I.cell x c B;refine wpAny_storeName_cell I.ok.kind hk B z (λh' hc' D=>?_);obtain⟨oc,hoc,hocd⟩:=id z;refine h { s with heap:=h' } ⟨I.ok,I.os,I.bare,⟨λb o e n hb hx=>?_,λb o e n hb hx=>?_,I.base.free,λb o e hx=>?_,I.base.tups,I.base.frzs,I.base.tbls⟩,⟨m,hn.sameBut D (qbD (cne x c B)),λj y v' e1 e2 e3=>?_⟩,λy c' e=>?_,I.free,I.freeC,λp O=>?_,G ⟨oc,hoc,I.freeC x c B⟩ D,by simpa using I.len⟩ ⟨c,D,.inr B⟩
  ·exact (D.2 b (qaF (qaN (qaA e) (I.ok.cab x c hfn B)))).trans (I.base.keep b o e n hb hx)
  ·obtain⟨sl,e1⟩:=I.base.slot b o e n hb hx
   exact⟨sl,(D.2 b (qaF (qaN (qaA e) (I.ok.cab x c hfn B)))).trans e1⟩
  ·obtain⟨K,e1⟩:=I.base.there b o e hx
   exact⟨K,(D.2 b (qaF (qaN (qaA e) (I.ok.cab x c hfn B)))).trans e1⟩
  ·by_cases hj:j=i
   ·subst hj
    rw[hi]at e1;cases e1;rw[qbn hiσ]at e2;cases e2;exact⟨u,r,.inr ⟨.inl hk,c,B,hc'⟩⟩
   ·rw[qbz (qbD hj)]at e2
    obtain⟨u',r',q⟩:=hl j y v' e1 e2 e3;refine⟨u',r',?_⟩;rcases q with q|⟨k,c',e,z'⟩
    ·exact .inl q
    ·refine .inr ⟨k,c',e,z'.sameBut D ?_⟩
     rintro rfl
     exact hj (tj hN e1 (I.ok.inj _ _ _ e B ▸ hi))
  ·by_cases hcc:c'=c
   ·subst hcc;exact⟨_,hc'⟩
   ·obtain⟨w2,z2⟩:=I.cell y c' e
    exact⟨w2,z2.sameBut D hcc⟩
  ·obtain⟨e,n,ne,nf,d⟩:=I.pin p O
   refine⟨(D.2 p.1 ?_).trans e,n,ne,nf,d⟩;intro q;rw[q,hoc]at e;exact d w' (by rw[<-(qaL e)];exact hocd)
theorem gK {M:Model}{A:qa0}{E:Value->qak->Prop}{i:Nat}{x:Str}{v:V}{u:Value}{Q:Unit->qak->Prop} (I:Inv X f g H s) (hN:X.N.Nodup) (hi:X.N[i]?=some x) (hx:Loc X.env.scope x) (r:aK v u)
  (h:∀ s',Inv X f (g.set i (some v)) H s'->Q () s') (W:X.fn x=true\/X.env.scope.names.lookup x=some .local:=by first|exact .inl U|exact .inr U|assumption):wpAny M A (storeName X.env x u) Q E s:=
 xS I hN hi hx r (λs' I' _=>h s' I') W
theorem Inv.call' {s':qak}{ch:List Addr} (I:Inv X f g H s) (C:s'.os=s.os) (u:Un (frs X.stack) ch H H' s.heap s'.heap) (hok:HOk X.prog X.w H' s'.heap) (hg:qfp s'.gens)
  (F:∀ b∈ch,(b∈X.ex\/X.s₀.heap.objs.size<=b)/\b≠X.env.locals/\(∀ x c,X.env.cells.lookup x=some c->c≠b)/\∀ p∈X.pn++f,p.1≠b):Inv X f g H' s':=by
 obtain⟨h',g',d',t',K⟩:=s';subst C;exact I.call u hok hg F
end
abbrev XK:=Value->Option Addr->Hp->Prop
abbrev St:=List (Option V)
abbrev VK:=V->Hp->Prop
abbrev TE:=St->Hp->VK->Prop
abbrev TT:=St->Hp->(Bool->Hp->Prop)->Prop
abbrev TA:=St->Hp->(List V->Hp->Prop)->Prop
structure n4 where
 nx:St->Hp->Prop
 rt:VK
 bk:St->Hp->Prop:=λ_ _=>False
 ct:St->Hp->Prop:=λ_ _=>False
abbrev TS:=n4->St->Hp->Prop
def EP (X:Cx) (a:List (Addr×Obj)) (b:St) (Q:VK) (u:Value) (s':qak):Prop:=∃ v H',Inv X a b H' s'/\aK v u/\Q v H'
def TP (X:Cx) (a:List (Addr×Obj)) (c:St) (Q:Bool->Hp->Prop) (b:Bool) (s':qak):Prop:=∃ H',Inv X a c H' s'/\Q b H'
def AP (X:Cx) (a:List (Addr×Obj)) (d:St) (Q:List V->Hp->Prop) (c:List Value) (s':qak):Prop:=∃ b H',Inv X a d H' s'/\aF b c/\Q b H'
def SP (X:Cx) (b:List (Addr×Obj)) (D:n4) (f:Flow) (s':qak):Prop:=
 match f with
 |.next=>∃ a H',Inv X b a H' s'/\D.nx a H'
 |.brk=>∃ a H',Inv X b a H' s'/\D.bk a H'
 |.cont=>∃ a H',Inv X b a H' s'/\D.ct a H'
 |.ret u=>∃ v a H',Inv X b a H' s'/\aK v u/\D.rt v H'
def PE (X:Cx) (e:Expr) (t:TE):Prop:=
 ∀ (a:List (Addr×Obj)) (s:qak) (b:St) (H:Hp) (Q:VK),Inv X a b H s->t b H Q->wpAny (model X.prog X.w) X.A (eval e X.env) (EP X a b Q) X.xe s
def PT (X:Cx) (e:Expr) (t:TT):Prop:=
 ∀ (a:List (Addr×Obj)) (s:qak) (b:St) (H:Hp) (Q:Bool->Hp->Prop),Inv X a b H s->t b H Q->wpAny (model X.prog X.w) X.A (qjF e X.env (eval e X.env)) (TP X a b Q) X.xe s
def PW (X:Cx) (e:Expr) (t:TT):Prop:=
 ∀ (whole:Sem Value) (a:List (Addr×Obj)) (s:qak) (b:St) (H:Hp) (Q:Bool->Hp->Prop),Inv X a b H s->t b H Q->wpAny (model X.prog X.w) X.A (qjF e X.env whole) (TP X a b Q) X.xe s
theorem PW.pt {X:Cx}{e:Expr}{t:TT} (h:PW X e t):PT X e t:=h _
def PA (X:Cx) (es:List Expr) (t:TA):Prop:=
 ∀ (pos:Pos) (a:List (Addr×Obj)) (s:qak) (b:St) (H:Hp) (Q:List V->Hp->Prop),Inv X a b H s->t b H Q->wpAny (model X.prog X.w) X.A (spliced (qeR pos (qbB es X.env))) (AP X a b Q) X.xe s
def PS (X:Cx) (st:Stmt) (t:TS):Prop:=
 ∀ (a:List (Addr×Obj)) (s:qak) (b:St) (H:Hp) (D:n4),Inv X a b H s->t D b H->wpAny (model X.prog X.w) X.A (exec st X.env) (SP X a D) X.xe s
def PSs (X:Cx) (st:List Stmt) (t:TS):Prop:=
 ∀ (a:List (Addr×Obj)) (s:qak) (b:St) (H:Hp) (D:n4),Inv X a b H s->t D b H->wpAny (model X.prog X.w) X.A (execs st X.env) (SP X a D) X.xe s
theorem thn {α:Type}{t:Sem α}{Q Q':α->qak->Prop}{M:Model}{A:qa0}{E:Value->qak->Prop}{s:qak} (h:wpAny M A t Q E s) (b:∀ a s,Q a s->Q' a s):wpAny M A t Q' E s:=qcm h b λ_ _ x=>x
section
variable {X:Cx}
def t4 (i:Nat):TE:=λg H Q=>∃ v,g[i]?=some (some v)/\Q v H
def tC (v:V):TE:=λ_ H Q=>Q v H
theorem i7 {i:Nat}{x:Str}{pos:Pos} (hN:X.N[i]?=some x) (z:Vis X.env.scope x) (hd:(x==("__debug__" : Str))=false:=by decide) (F:(x==("__classdict__" : Str))=false:=by decide):PE X (.Name x pos) (t4 i):=by
 intro f s g H Q I h;obtain⟨v,e,h⟩:=h;obtain⟨m,hn,K⟩:=I.loc;obtain⟨u,r,l⟩:=K i x v hN e z;have fin:EP X f g Q u s:=⟨v,H,I,r,h⟩;rcases l with⟨y,hm⟩|⟨y,c,B,o⟩
 ·exact qip (wpAny_loadName_local I.ok.kind y hn hm fin) hd
 ·rcases y with y|y
  ·exact qip (wpAny_loadName_cell I.ok.kind y B o fin) hd
  ·exact qip (wpAny_loadName_free I.ok.kind y B o fin F) hd
theorem Dz {i j pos}:PE X (.Constant (.int i) j pos) (tC (.int i)):=λ_ _ _ H _ I h=>wpAny_Constant_int ⟨.int i,H,I.tok _,⟨_,U⟩,h⟩
theorem Fd {b j pos}:PE X (.Constant (.bool b) j pos) (tC (.bl b)):=λ_ _ _ H _ I h=>Constant_bool ⟨.bl b,H,I,U,h⟩
theorem DA {j pos}:PE X (.Constant .none j pos) (tC .non):=λ_ _ _ H _ I h=>Constant_none ⟨.non,H,I,U,h⟩
theorem DB {x j pos}:PE X (.Constant (.str x) j pos) (tC (.str x)):=λ_ _ _ H _ I h=>Calls.Constant_str ⟨.str x,H,I.tok _,⟨_,U⟩,h⟩
def Gl (X:Cx) (x:Str):Prop:=X.env.kindOf x=some .globalImplicit
theorem vY {E:Value->qak->Prop}{f:List (Addr×Obj)}{s:qak}{g:St}{H:Hp}{x:Str}{u:Value}{pos:Pos}{Q:Value->qak->Prop} (I:Inv X f g H s) (hg:Gl X x) (hm:X.mg x=some u) (h:Q u s)
  (hd:(x==("__debug__" : Str))=false:=by decide):wpAny (model X.prog X.w) X.A (eval (.Name x pos) X.env) Q E s:=
 qfQ I.ok.kind hg (Calls.loadGlobal_global (by rw[I.ok.glob];exact I.mod.glob.keeps I.bk) hm h) hd
theorem iY {E:Value->qak->Prop}{f:List (Addr×Obj)}{s:qak}{g:St}{H:Hp}{x:Str}{u:Value}{pos:Pos}{Q:Value->qak->Prop} (I:Inv X f g H s) (hg:Gl X x) (hm:X.mg x=none) (z:qb9 x=some u) (h:Q u s)
  (hn:x≠"__name__":=by decide) (hd:(x==("__debug__" : Str))=false:=by decide):wpAny (model X.prog X.w) X.A (eval (.Name x pos) X.env) Q E s:=by
 obtain⟨L,G,J⟩:=I.mod.blt;exact qfQ I.ok.kind hg (Calls.loadGlobal_builtin (by rw[I.ok.glob];exact I.mod.glob.keeps I.bk) hm (by rw[I.ok.blt];exact G.keeps I.bk) ((J x hn).trans z) h) hd
theorem Bi {x:Str}{v:V}{u:Value}{pos:Pos} (hg:Gl X x) (hm:X.mg x=none) (z:qb9 x=some u) (r:aK v u) (hn:x≠"__name__":=by decide) (hd:(x==("__debug__" : Str))=false:=by decide):PE X (.Name x pos) (tC v):=
 λ_ _ _ H _ I h=>iY I hg hm z ⟨v,H,I,r,h⟩ hn hd
variable {a b:Expr}{C D:TE}{pos:Pos}
variable {n q:TT}{k:List Expr}
def Gv (t u:TT):TT:=λg H Q=>t g H λc H1=>if c=true then u g H1 Q else Q false H1
def tOr (t u:TT):TT:=λg H Q=>t g H λc H1=>if c=true then Q true H1 else u g H1 Q
def GD (t:TT):TT:=λg H Q=>t g H λc H1=>Q (!c) H1
theorem Bw (p:PT X a n):PW X (.BoolOp .And [a] pos) n:=by
 intro A f s g H Q I h;refine isTrue_and (thn (p f s g H Q I h) λc s1 e=>?_);cases c with
 |true=>exact isTrue_and_nil e
 |false=>exact e
theorem DL (p:PT X a n):PW X (.BoolOp .Or [a] pos) n:=by
 intro A f s g H Q I h;refine isTrue_or (thn (p f s g H Q I h) λc s1 e=>?_);cases c with
 |false=>exact isTrue_or_nil e
 |true=>exact e
theorem zB (p:PT X a n) (hb:PW X (.BoolOp .And (b::k) pos) q):PW X (.BoolOp .And (a::b::k) pos) (Gv n q):=by
 intro A f s g H Q I h;refine isTrue_and (thn (p f s g H _ I h) λc s1 ⟨H1,I1,w⟩=>?_);cases c with
 |true=>exact hb A f s1 g H1 Q I1 w
 |false=>exact⟨H1,I1,w⟩
theorem Cn (p:PT X a n) (hb:PW X (.BoolOp .Or (b::k) pos) q):PW X (.BoolOp .Or (a::b::k) pos) (tOr n q):=by
 intro A f s g H Q I h;refine isTrue_or (thn (p f s g H _ I h) λc s1 ⟨H1,I1,w⟩=>?_);cases c with
 |true=>exact⟨H1,I1,w⟩
 |false=>exact hb A f s1 g H1 Q I1 w
theorem DJ (p:PT X a n):PT X (.UnaryOp .Not a pos) (GD n):=by
 intro f s g H Q I h;exact isTrue_not (p f s g H _ I h)
def tIf (t:TT) (C D:TE):TE:=λg H Q=>t g H λc H1=>if c=true then C g H1 Q else D g H1 Q
theorem tw {c:Expr} (B:PT X c n) (p:PE X a C) (hb:PE X b D):PE X (.IfExp c a b pos) (tIf n C D):=by
 intro f s g H Q I h;refine wpAny_IfExp (thn (B f s g H _ I h) λd s1 ⟨H1,I1,w⟩=>?_);cases d with
 |true=>exact p f s1 g H1 Q I1 w
 |false=>exact hb f s1 g H1 Q I1 w
end
def SqL (K:qae) (H:Hp) (a:Addr) (xs:List V):Prop:=
 Rd H a (.lst xs)\/
  ∃ (o:Obj) (b:Array Value) (n:Nat),K.lookup a=some o/\o.cls=.type "list"/\o.dict=none/\o.data=.seq b n/\b.size<=qaG/\aF xs b.toList
def SqT (K:qae) (H:Hp) (a:Addr) (xs:List V):Prop:=
 H a=some (.tup xs)\/
  ∃ (o:Obj) (b:Array Value) (n:Nat),K.lookup a=some o/\o.cls=.type "tuple"/\o.data=.seq b n/\b.size<=qaG/\aF xs b.toList/\o.dict=none
def F1:Value->Option V
 |.none=>some .non
 |.bool b=>some (.bl b)
 |.int i _=>some (.int i)
 |.str x _=>some (.str x)
 |.bytes b _=>some (.byt b)
 |.float b _=>some (.flt b)
 |.ref a=>some (.ref a)
 |.type n=>some (.ty n)
 |_=>none
theorem aK.abs {x:V}{u:Value} (r:aK x u):F1 u=some x:=by
 cases x with
 |non=>cases r;rfl
 |bl _=>cases r;rfl
 |int _=>obtain⟨t,rfl⟩:=r;rfl
 |str _=>obtain⟨t,rfl⟩:=r;rfl
 |byt _=>obtain⟨t,rfl⟩:=r;rfl
 |flt _=>obtain⟨t,rfl⟩:=r;rfl
 |ref _=>cases r;rfl
 |ty _=>cases r;rfl
theorem aK.inj {x y:V}{u:Value} (r:aK x u) (q:aK y u):x=y:=qaL (r.abs.symm.trans q.abs)
theorem aF.inj:∀ {xs b:List V}{a:List Value},aF xs a->aF b a->xs=b
 |_,_,_,.nil,.nil=>rfl
 |_,_,_,.cons r t,.cons c t'=>by rw[r.inj c,aF.inj t t']
section
variable {X:Cx}{f:List (Addr×Obj)}{i:St}{H:Hp}{s:qak}{a:Addr}{xs q:List V}
theorem SqL.of {K:qae} (h:H a=some (.lst xs)):SqL K H a xs:=.inl (.inl h)
theorem SqT.of {K:qae} (h:H a=some (.tup xs)):SqT K H a xs:=.inl h
theorem Inv.list (I:Inv X f i H s) (h:SqL X.K H a xs):∃ b:List Value,aF xs b/\PlainL s.heap a b.toArray/\xs.length<=qaG:=by
 rcases h with h|⟨o,b,n,k,l,hd,m,hz,r⟩
 ·obtain⟨z,b,n,r,e⟩:=h.ok I.hok
  exact⟨b,r,⟨_,n,e,U,U,U⟩,z⟩
 ·refine⟨b.toList,r,⟨o,n,I.kIn a o k,l,hd,by simpa using m⟩,?_⟩
  have e:=r.length;simp only[qc6]at e;lia
theorem Inv.tuple (I:Inv X f i H s) (h:SqT X.K H a xs):∃ b:List Value,aF xs b/\IsTup s.heap a b.toArray/\xs.length<=qaG:=by
 rcases h with h|⟨o,b,n,k,l,m,hz,r,_⟩
 ·obtain⟨z,b,r,p⟩:=(Rd.of h).ok I.hok
  exact⟨b,r,p.tup,z⟩
 ·refine⟨b.toList,r,⟨o,I.kIn a o k,l,n,by simpa using m⟩,?_⟩
  have e:=r.length;simp only[qc6]at e;lia
theorem Inv.tuple1 (I:Inv X f i H s) (h:SqT X.K H a xs):∃ o:Obj,s.heap.get? a=some o/\o.cls=.type "tuple"/\o.dict=none:=by
 rcases h with h|⟨o,b,n,k,l,m,hz,r,hd⟩
 ·obtain⟨z,b,r,o,e,c,_,hd⟩:=(Rd.of h).ok I.hok
  exact⟨o,e,c,hd⟩
 ·exact⟨o,I.kIn a o k,l,hd⟩
theorem Inv.list_inj (I:Inv X f i H s) (h:SqL X.K H a xs) (h':SqL X.K H a q):xs=q:=by
 obtain⟨b,r,⟨o,n,e,_,_,d⟩,_⟩:=I.list h;obtain⟨its',t,⟨v,u,g,_,_,j⟩,_⟩:=I.list h';rw[e]at g;cases g;rw[d]at j;injection j with d1 _
 have:=by simpa using congrArg qgB d1
 subst this;exact r.inj t
theorem Inv.tuple_inj (I:Inv X f i H s) (h:SqT X.K H a xs) (h':SqT X.K H a q):xs=q:=by
 obtain⟨b,r,⟨o,e,_,n,d⟩,_⟩:=I.tuple h;obtain⟨its',t,⟨v,g,_,u,j⟩,_⟩:=I.tuple h';rw[e]at g;cases g;rw[d]at j;injection j with d1 _
 have:=by simpa using congrArg qgB d1
 subst this;exact r.inj t
end
abbrev Cx.wish (X:Cx) (E:Value->qak->Prop):Cx:={ X with xe:=E }
abbrev Cx.nox (X:Cx):Cx:=X.wish λ_ _=>False
theorem Cx.Ok.wish {X:Cx} (ok:X.Ok) (E:Value->qak->Prop):(X.wish E).Ok:=
 ⟨ok.mod,ok.kind,ok.glob,ok.blt,ok.above,ok.inj,ok.has,ok.cab,ok.hd,ok.frames,ok.stk,ok.exf,ok.bs,ok.bsz,ok.noex,ok.exfs,ok.funs,ok.frf⟩
theorem Cx.Ok.unwish {X:Cx}{E:Value->qak->Prop} (ok:(X.wish E).Ok):X.Ok:=
 ⟨ok.mod,ok.kind,ok.glob,ok.blt,ok.above,ok.inj,ok.has,ok.cab,ok.hd,ok.frames,ok.stk,ok.exf,ok.bs,ok.bsz,ok.noex,ok.exfs,ok.funs,ok.frf⟩
section
variable {X:Cx}{a:List (Addr×Obj)}{c:St}{H:Hp}{s:qak}{E:Value->qak->Prop}
theorem Inv.wish (I:Inv X a c H s) (E:Value->qak->Prop):Inv (X.wish E) a c H s:=⟨I.ok.wish E,I.os,I.bare,I.base,I.loc,I.cell,I.free,I.freeC,I.pin,I.hok,I.len⟩
theorem Inv.unwish (I:Inv (X.wish E) a c H s):Inv X a c H s:=⟨I.ok.unwish,I.os,I.bare,I.base,I.loc,I.cell,I.free,I.freeC,I.pin,I.hok,I.len⟩
theorem SP.unwish {D:n4}{f:Flow}{s':qak} (h:SP (X.wish E) a D f s'):SP X a D f s':=by
 cases f with
 |next=>obtain⟨b,H',I,q⟩:=h;exact⟨b,H',I.unwish,q⟩
 |brk=>obtain⟨b,H',I,q⟩:=h;exact⟨b,H',I.unwish,q⟩
 |cont=>obtain⟨b,H',I,q⟩:=h;exact⟨b,H',I.unwish,q⟩
 |ret u=>obtain⟨v,b,H',I,r,q⟩:=h;exact⟨v,b,H',I.unwish,r,q⟩
theorem PSs.nox {st:List Stmt}{t:TS} (h:PSs X.nox st t):PSs X st t:=λa s c H D I hw=>
 qcm (h a s c H D (I.wish _) hw) (λ_ _ q=>q.unwish) λ_ _ z=>qcv z
end
section
variable {X:Cx}{st:Stmt}{j:List Stmt}{t u:TS}{e:Expr}{te:TE}{pos:Pos}
def FM:TS:=λD i H=>D.nx i H
def GF (t u:TS):TS:=λD i H=>t { D with nx:=u D } i H
theorem Bs:PSs X [] FM:=λ_ _ i H _ I h=>qeN ⟨i,H,I,h⟩
theorem cS (n:PS X st t) (y:PSs X j u):PSs X (st::j) (GF t u):=by
 intro g s i H D I h;refine qiL (thn (n g s i H { D with nx:=u D } I h) λf s1 q=>?_);cases f with
 |next=>
  obtain⟨l,H',I',q⟩:=q;exact y g s1 l H' D I' q
 |ret v=>exact q
 |brk=>exact q
 |cont=>exact q
theorem wt (n:PS X st t):PSs X [st] t:=by
 intro g s i H D I h;refine qiL (thn (n g s i H D I h) λf s1 q=>?_);cases f with
 |next=>exact qeN q
 |ret v=>exact q
 |brk=>exact q
 |cont=>exact q
def D5:TS:=λD i H=>D.bk i H
def FI:TS:=λD i H=>D.ct i H
theorem zu:PS X (.Break pos) D5:=λ_ _ i H _ I h=>wpAny_Break ⟨i,H,I,h⟩
theorem tL:PS X (.Continue pos) FI:=λ_ _ i H _ I h=>wpAny_Continue ⟨i,H,I,h⟩
theorem Inv.quiet {g:List (Addr×Obj)}{i:St}{H:Hp}{s:qak} (I:Inv X g i H s):interactive X.env=false:=by simp[interactive,I.ok.kind]
def FK (te:TE):TS:=λD i H=>te i H λ_ H1=>D.nx i H1
theorem Br (m:PE X e te) (z:qcr e none pos.line X.env=pure false:=by rfl):PS X (.Expr e pos) (FK te):=by
 intro g s i H D I h;exact wpAny_Expr_any (thn (m g s i H _ I h) λv s1 ⟨x,H1,I1,r,k⟩=>⟨i,H1,I1,k⟩) I.quiet z
def GE (te:TE):TS:=λD i H=>te i H D.rt
theorem DH (m:PE X e te):PS X (.Return (some e) pos) (GE te):=by
 intro g s i H D I h;exact wpAny_Return_some (thn (m g s i H _ I h) λv s1 ⟨x,H1,I1,r,k⟩=>⟨x,i,H1,I1,r,k⟩)
def Gz (c:TT) (t u:TS):TS:=λD i H=>c i H λb H1=>if b=true then t D i H1 else u D i H1
theorem Ci {c:Expr}{a b:List Stmt}{p:TT} (A:PT X c p) (w:PSs X a t) (hb:PSs X b u):PS X (.If c a b pos) (Gz p t u):=by
 intro g s i H D I h;refine wpAny_If (thn (A g s i H _ I h) λd s1 ⟨H1,I1,k⟩=>?_);cases d with
 |true=>exact w g s1 i H1 D I1 k
 |false=>exact hb g s1 i H1 D I1 k
def D7:TS:=λ_ _ _=>False
theorem eY {o:List Stmt}:PSs X o D7:=λ_ _ _ _ _ _ h=>h.elim
end
abbrev TG:=V->St->Hp->(St->Hp->Prop)->Prop
abbrev TGs:=List V->St->Hp->(St->Hp->Prop)->Prop
def PG (X:Cx) (a:Expr) (t:TG):Prop:=
 ∀ (b:List (Addr×Obj)) (s:qak) (d:St) (H:Hp) (v:V) (u:Value) (Q:St->Hp->Prop),Inv X b d H s->aK v u->t v d H Q->
  wpAny (model X.prog X.w) X.A (qf5 a X.env u) (λ_ s'=>∃ c H',Inv X b c H' s'/\Q c H') X.xe s
def PGs (X:Cx) (ts:List Expr) (t:TGs):Prop:=
 ∀ (a:List (Addr×Obj)) (s:qak) (e:St) (H:Hp) (c:List V) (d:List Value) (Q:St->Hp->Prop),Inv X a e H s->aF c d->t c e H Q->
  wpAny (model X.prog X.w) X.A (assignInOrder ((qbW ts X.env).map (·.2)) d) (λ_ s'=>∃ b H',Inv X a b H' s'/\Q b H') X.xe s
abbrev CD:=V->V->V->Hp->(Hp->Prop)->Prop
def El (X:Cx) (t:CD):Prop:=
 ∀ (a:List (Addr×Obj)) (s:qak) (b:St) (H:Hp) (o i v:V) (c iv u:Value) (Q:Hp->Prop),Inv X a b H s->aK o c->aK i iv->aK v u->t o i v H Q->
  wpAny (model X.prog X.w) X.A (qjz c iv u) (λ_ s'=>∃ H',Inv X a b H' s'/\Q H') X.xe s
section
variable {X:Cx}{pos:Pos}
def kG (i:Nat):TG:=λv d H Q=>Q (d.set i (some v)) H
theorem fK {i:Nat}{x:Str} (hN:X.N.Nodup) (hi:X.N[i]?=some x) (hx:Loc X.env.scope x) (hf:X.fn x=true\/X.env.scope.names.lookup x=some .local:=by first|exact .inl U|exact .inr U|assumption):PG X (.Name x pos) (kG i):=by
 intro c s d H v u Q I r h;exact qio (gK I hN hi hx r (λs' I'=>⟨_,H,I',h⟩) hf)
def F9:TGs:=λm d H Q=>m=[]/\Q d H
def EG (t:TG) (u:TGs):TGs:=λm d H Q=>∃ v r,m=v::r/\t v d H λT H'=>u r T H' Q
theorem wl:PGs X [] F9:=by
 intro c s d H m M Q I r h;obtain⟨e,h⟩:=h;exact qit ⟨d,H,I,h⟩
theorem jO {e:Expr}{es:List Expr}{t:TG}{u:TGs} (S:PG X e t) (h2:PGs X es u)
  (l:(qbW (e::es) X.env).map (·.2)=qf5 e X.env::(qbW es X.env).map (·.2):=by rfl):PGs X (e::es) (EG t u):=by
 intro c s d H m M Q I r h;obtain⟨v,vr,e1,h⟩:=h;subst e1;cases r with
 |cons r rr=>
  rw[l];refine qfD (thn (S c s d H _ _ _ I r h) λ_ s1 ⟨σ1,H1,I1,f⟩=>?_);exact h2 c s1 σ1 H1 _ _ Q I1 rr f
def Gb (K:qae) (n:Nat) (t:TGs):TG:=λv d H Q=>∃ a xs,v=.ref a/\SqT K H a xs/\xs.length=n/\t xs d H Q
theorem zi {es:List Expr}{k:Nat}{t:TGs}{n:Nat} (R:X.calm=true) (h:PGs X es t)
  (hn:(qbW es X.env).length=n:=by rfl) (O:(qbW es X.env).findIdx? (·.1)=none:=by rfl):PG X (.Tuple es k pos) (Gb X.K n t):=by
 intro c s d H v u Q I r hw;obtain⟨a,xs,e1,hq,hl,hw⟩:=hw;subst e1;cases r;obtain⟨its,F,ht,hz⟩:=I.tuple hq;refine assign_Tuple_tuple (I.ok.hd R) ht (by simp[hn,<-hl,F.length]) O λh' hx=>?_;exact h c _ d H xs _ Q (I.kept λb o e=>hx b o (qaF (qaA e)) e) (by simpa using F) hw
def Ga (to ti:TE) (t:CD):TG:=λv d H Q=>to d H λo H1=>ti d H1 λi H2=>t o i v H2 λH3=>Q d H3
theorem qQ {o i:Expr}{to ti:TE}{t:CD} (ho:PE X o to) (hi:PE X i ti) (l:El X t)
  (ha:∀ v,qf5 (.Subscript o i pos) X.env v=(do
    let B <-qfW [v] (eval o X.env)
    let iv <-qfW [v,B] (eval i X.env)
    qjx pos
    qfW [v,B,iv] (qjz B iv v)
    release [v,B,iv] []):=by intro _;rfl):PG X (.Subscript o i pos) (Ga to ti t):=by
 intro c s d H v u Q I r h;rw[ha];refine qac (qcq (thn (ho c s d H _ I h) λB s1 ⟨x,H1,I1,A,f⟩=>?_));refine qac (qcq (thn (hi c s1 d H1 _ I1 f) λiv E ⟨y,H2,I2,r2,q2⟩=>?_));refine qac (qeu (qac (qcq (thn (l c E d H2 x y v B iv u _ I2 A r2 r q2) λ_ s3 ⟨H3,I3,q3⟩=>?_))));exact wpAny_release ⟨d,H3,I3,q3⟩
def D4 (te:TE) (g:TG):TS:=λD d H=>te d H λx H1=>g x d H1 D.nx
theorem kq {tg e:Expr}{te:TE}{g:TG} (L:PE X e te) (hg:PG X tg g) (l:qc0 [tg] e pos.line X.env=pure false:=by rfl) (hw:qc1 [tg] e X.env=pure none:=by rfl)
  (S:(qbW [tg] X.env).map (·.2)=[qf5 tg X.env]:=by rfl):PS X (.Assign [tg] e pos) (D4 te g):=by
 intro c s d H D I h;refine wpAny_Assign_stores (thn (L c s d H _ I h) λv s1 ⟨x,H1,I1,A,f⟩=>?_) l hw;rw[S];exact thn (hg c s1 d H1 x v _ I1 A f) λ_ E q=>q
theorem DI {i:Nat}{x:Str}{e:Expr}{te:TE}{z:Pos} (hN:X.N.Nodup) (hi:X.N[i]?=some x) (hx:Loc X.env.scope x) (L:PE X e te) (l:qcr e (some (.Name x z)) pos.line X.env=pure false:=by rfl) (hf:X.fn x=true\/X.env.scope.names.lookup x=some .local:=by first|exact .inl U|exact .inr U|assumption) :
  PS X (.Assign [.Name x z] e pos) (D4 te (kG i)):=by
 intro c s d H D I h;refine wpAny_Assign_Name (thn (L c s d H _ I h) λv s1 ⟨y,H1,I1,A,f⟩=>?_) l;exact gK I1 hN hi hx A (λE I2=>⟨_,H1,I2,f⟩) hf
def FN (i j:Nat) (J:TA):TS:=λD d H=>J d H λm H1=>∃ v w,m=[v,w]/\D.nx ((d.set i (some v)).set j (some w)) H1
theorem qS {i j:Nat}{x y:Str}{a b:Expr}{J:TA}{W V pt:Pos}{kt k2 pt2} (R:X.calm=true) (hN:X.N.Nodup) (hi:X.N[i]?=some x) (hj:X.N[j]?=some y) (P:i≠j)
  (hx:X.env.scope.names.lookup x=some .local) (hy:X.env.scope.names.lookup y=some .local) (ha:PA X [a,b] J)
  (hw:qc1 [.Tuple [.Name x W,.Name y V] kt pt] (.Tuple [a,b] k2 pt2) X.env=pure (some [x,y]))
  (l:qc0 [.Tuple [.Name x W,.Name y V] kt pt] (.Tuple [a,b] k2 pt2) pos.line X.env=pure false:=by rfl) :
  PS X (.Assign [.Tuple [.Name x W,.Name y V] kt pt] (.Tuple [a,b] k2 pt2) pos) (FN i j J):=by
 intro c s d H D I h;refine qac (qeu ?_);refine qac (qar ?_);refine qac (Tuple_ (thn (ha _ c s d H _ I h) λM s1 ⟨m,H1,I1,A,f⟩=>?_));obtain⟨v,w,e1,f⟩:=f;subst e1;obtain⟨C,G,rfl,F,N⟩:∃ C G,M=[C,G]/\aK v C/\aK w G:=by
  cases A with
  |cons p q=>
   cases q with
   |cons p' q'=>
    cases q';exact⟨_,_,U,p,p'⟩
 refine qcE ?_ (by show 2<=qaG;decide);rw[hw];refine qac (qar ?_);refine qac (qdT (qac (unpackItems_tuple (items:=#[C,G]) (I.ok.hd R) (IsTup.new s1.heap _) λh' Y=>?_)));refine qac (qfD (qjS (gK ((I1.kept λb o e=>qaj _ e).kept λb o e=>Y b o (qaF (qaA e)) e) hN hj (.inl hy) N (λE I4=>?_) (.inr hy))));refine qfD (qjS (gK I4 hN hi (.inl hx) F (λs3 I5=>qit (qar ?_)) (.inr hx)));rw[List.set_comm _ _ (qbD P)]at I5;exact⟨_,H1,I5,f⟩
end
section
variable {X:Cx}{pos:Pos}
def D8 (c:TT) (o:TS):TS:=λD i H=>∃ W:Nat->St->Hp->Prop,(∃ m,W m i H)/\∀ m i H,W m i H->
 c i H λb H1=>if b=true then ∃ N:St->Hp->Prop,(∀ a H',N a H'->∃ j,j<m/\W j a H')/\o { D with nx:=N,ct:=N,bk:=D.nx } i H1 else D.nx i H1
theorem zx {c:Expr}{body:List Stmt}{r:TT}{o:TS} (t:qgw (model X.prog X.w) X.A X.env X.xe) (x:PT X c r) (hb:PSs X body o):PS X (.While c body [] pos) (D8 r o):=by
 intro e s i H D I h;obtain⟨W,⟨m0,w0⟩,turn⟩:=h;refine wpAny_While (codeAny_whileLoop (λn s'=>∃ a H',Inv X e a H' s'/\W n a H') ?_ m0 ⟨i,H,I,w0⟩)
 rintro n s1 ⟨g,H1,I1,w⟩
 refine qcV t (thn (x e s1 g H1 _ I1 (turn n g H1 w)) λb u ⟨H2,I2,k⟩=>?_);cases b with
 |true=>
  obtain⟨N,hN,k⟩:=k;refine qcV t (thn (hb e u g H2 _ I2 k) λf y l=>?_);cases f with
  |next=>
   obtain⟨d,H3,I3,q⟩:=l;obtain⟨j,hm,p⟩:=hN d H3 q;exact⟨j,hm,d,H3,I3,p⟩
  |cont=>
   obtain⟨d,H3,I3,q⟩:=l;obtain⟨j,hm,p⟩:=hN d H3 q;exact⟨j,hm,d,H3,I3,p⟩
  |brk=>exact l
  |ret v=>exact l
 |false=>
  exact qeN ⟨g,H2,I2,k⟩
end
structure It where
 go:Nat->Hp->Prop
 yld:Nat->Hp->V->Hp->Prop
 stop:Nat->Hp->Prop
def ik (X:Cx) (a:List (Addr×Obj)) (H:Hp) (b:Addr):Prop:=
 H b=none/\b≠X.env.locals/\b∉X.fs/\(b∈X.ex\/X.s₀.heap.objs.size<=b)/\(∀ x c,X.env.cells.lookup x=some c->c≠b)/\∀ p∈X.pn++a,p.1≠b
theorem Inv.fpOk {X:Cx}{a:List (Addr×Obj)}{d:St}{H H':Hp}{s:qak}{b:Addr} (I:Inv X a d H s) (hb:s.heap.objs.size<=b) (hn:H' b=none):ik X a H' b:=by
 refine⟨hn,qcd (qaN I.lt hb),I.nofs hb,.inr (qaH I.sz hb),λx c e z=>?_,λp f z=>?_⟩
 ·obtain⟨v,q⟩:=I.cell x c e
  exact absurd (qaN q.lt (by rw[z];exact hb)) (qa3 _)
 ·exact absurd (qaN (qaA (I.pin p f).1) (by rw[z];exact hb)) (qa3 _)
structure ud (P:qaO) (w:World) (K:qae) (tg:Expr) (J:It) (fp:List Addr) (it:Addr) (tn:Nat->Heap->Prop):Prop where
 mem:it∈fp
 obj:∀ i h,tn i h->∀ b∈fp,∃ o,h.get? b=some o/\∀ v,o.data≠.cell v
 keep:∀ i h h',tn i h->(∀ b∈fp,∀ o,h.get? b=some o->h'.get? b=some o)->tn i h'
 item:∀ (X:Cx),X.prog=P->X.w=w->X.K=K->X.calm=true->∀ (i:Nat) (pins:List (Addr×Obj)) (s:qak) (σ:St) (H:Hp) (E:Value->qak->Prop),Inv X pins σ H s->(∀ b∈fp,ik X pins H b)->tn i s.heap->J.go i H->
  wpAny (model P w) X.A (qgU (.ref it)) (λr s1=>∃ u,r=some u/\
   wpAny (model P w) X.A (qgr tg (.ref it) u) (λ_ s2=>∃ x H',Inv X pins σ H' s2/\aK x u/\J.yld i H x H'/\tn (i+1) s2.heap/\∀ b∈fp,H' b=none) E s1) E s
 done:∀ (X:Cx),X.prog=P->X.w=w->X.K=K->X.calm=true->∀ (i:Nat) (pins:List (Addr×Obj)) (s:qak) (σ:St) (H:Hp) (E:Value->qak->Prop),Inv X pins σ H s->(∀ b∈fp,ik X pins H b)->tn i s.heap->J.stop i H->
  wpAny (model P w) X.A (qgU (.ref it)) (λr s1=>r=none/\Inv X pins σ H s1) E s
 self:∀ (A:qa0) (i:Nat) (s:qak) (Q:Value->qak->Prop) (E:Value->qak->Prop),tn i s.heap->Q (.ref it) s->wpAny (model P w) A (qjB (.ref it)) Q E s
abbrev TI:=St->Hp->(It->Hp->Prop)->Prop
def PIE (X:Cx) (a:List (Addr×Obj)) (h:St) (tg:Expr) (R:It->Hp->Prop) (c:Value) (d:qak):Prop:=
 ∃ (f:Addr) (g:List Addr) (e:Nat->Heap->Prop) (J:It) (H':Hp),c=.ref f/\Inv X a h H' d/\ud X.prog X.w X.K tg J g f e/\e 0 d.heap/\(∀ b∈g,ik X a H' b)/\R J H'
def PI (X:Cx) (tg iter:Expr) (c:TI):Prop:=
 ∀ (a:List (Addr×Obj)) (s:qak) (b:St) (H:Hp) (R:It->Hp->Prop),Inv X a b H s->c b H R->
  wpAny (model X.prog X.w) X.A (eval iter X.env) (λv s1=>wpAny (model X.prog X.w) X.A (qjB v) (PIE X a b tg R) X.xe s1) X.xe s
theorem yx {M:Model}{A:qa0}{E:Value->qak->Prop}{s:qak}{tg:Expr}{b:Addr}{u:Value}{o:Obj}{n:String}{c:Array Value}{Q:Unit->qak->Prop} (d:s.heap.get? b=some o) (e:o.cls=.type n) (hd:o.data=.fields c)
  (hn:["enumerate","zip","dict_itemiterator","dict_reverseitemiterator","odict_iterator","itertools.zip_longest","itertools.pairwise"].contains n=false) (a:Q () s):wpAny M A (qgr tg (.ref b) u) Q E s:=by
 cases tg<;>first
  |exact qar a
  | (cases u<;>first
      |exact qar a
      | (refine qac (wpAny_load d ?_)
         rw[e,hd];show wpAny M A (if _=true then _ else _) Q E s;rw[iFN (by intro h;rw[hn]at h;cases h)]
         exact qar a))
def Itl (K:qae) (a:Addr):It:=
 ⟨λi H=>∃ xs x,SqL K H a xs/\xs[i]?=some x,λi H x H'=>H'=H/\∀ xs,SqL K H a xs->xs[i]?=some x,λi H=>∃ xs,SqL K H a xs/\xs.length<=i⟩
def Itt (K:qae) (a:Addr):It:=
 ⟨λi H=>∃ xs x,SqT K H a xs/\xs[i]?=some x,λi H x H'=>H'=H/\∀ xs,SqT K H a xs->xs[i]?=some x,λi H=>∃ xs,SqT K H a xs/\xs.length<=i⟩
def Itr (lo:Int) (n:Nat):It:=⟨λi _=>i<n,λi H x H'=>H'=H/\x=.int (lo+i),λi _=>n<=i⟩
theorem xW {P:qaO}{w:World}{K:qae}{tg:Expr} (a f:Addr):ud P w K tg (Itl K a) [f] f (λi h=>h.IsListIter f a i) where
 mem:=by simp
 obj:=λi h st b hb=>by
  have e:=by simpa using hb
  subst e;obtain⟨o,e,c,d⟩:=st;exact⟨o,e,λv z=>by rw[d]at z;cases z⟩
 keep:=λi h h' st k=>st.at λo e=>k f (by simp) o e
 item:=by
  intro X A hw B F i j s L H E I m st hg;subst A hw B;obtain⟨xs,x,l,hx⟩:=hg;obtain⟨y,t,p,hz⟩:=I.list l;obtain⟨u,J,Q⟩:=t.get hx;obtain⟨q,r,G,C,n,D⟩:=m f (by simp);refine wpAny_pyNext_list_item st p.isList (by simpa using J) λh' g O=>?_;obtain⟨o,e,c,d⟩:=id g;exact⟨u,U,yx e c d (by decide) ⟨x,H,(I.turned (λb o hb e=>(O.2 b hb).trans e) q r C n D),Q,⟨U,λS N=>by rw[I.list_inj N l];exact hx⟩,g,λb hb=>(m b hb).1⟩⟩
 done:=by
  intro X A hw B F i j s L H E I m st hg;subst A hw B;obtain⟨xs,l,hx⟩:=hg;obtain⟨y,t,p,hz⟩:=I.list l;obtain⟨q,r,G,C,n,D⟩:=m f (by simp);have R:=t.length;exact wpAny_pyNext_list_end (I.ok.hd F) st p.isList (by simp;lia) λh' M=>⟨U,I.turned (λb o hb e=>M b o hb e) q r C n D⟩
 self:=λ_ _ _ _ _ st h=>wpAny_pyIter_listiter st h
theorem vb {P:qaO}{w:World}{K:qae}{tg:Expr} (a f:Addr):ud P w K tg (Itt K a) [f] f (λi h=>h.IsTupleIter f a i) where
 mem:=by simp
 obj:=λi h st b hb=>by
  have e:=by simpa using hb
  subst e;obtain⟨o,e,c,d⟩:=st;exact⟨o,e,λv z=>by rw[d]at z;cases z⟩
 keep:=λi h h' st k=>st.at λo e=>k f (by simp) o e
 item:=by
  intro X A hw B F i j s L H E I m st hg;subst A hw B;obtain⟨xs,x,l,hx⟩:=hg;obtain⟨y,t,p,hz⟩:=I.tuple l;obtain⟨u,J,Q⟩:=t.get hx;obtain⟨q,r,G,C,n,D⟩:=m f (by simp);refine wpAny_pyNext_tuple_item st (p) (by simpa using J) λh' g O=>?_;obtain⟨o,e,c,d⟩:=id g;exact⟨u,U,yx e c d (by decide) ⟨x,H,(I.turned (λb o hb e=>(O.2 b hb).trans e) q r C n D),Q,⟨U,λS N=>by rw[I.tuple_inj N l];exact hx⟩,g,λb hb=>(m b hb).1⟩⟩
 done:=by
  intro X A hw B F i j s L H E I m st hg;subst A hw B;obtain⟨xs,l,hx⟩:=hg;obtain⟨y,t,p,hz⟩:=I.tuple l;obtain⟨q,r,G,C,n,D⟩:=m f (by simp);have R:=t.length;exact wpAny_pyNext_tuple_end (I.ok.hd F) st (p) (by simp;lia) λh' M=>⟨U,I.turned (λb o hb e=>M b o hb e) q r C n D⟩
 self:=λ_ _ _ _ _ st h=>wpAny_pyIter_tupleiter st h
theorem u9 {P:qaO}{w:World}{K:qae}{tg:Expr} (a:Addr) (lo:Int) (n:Nat):ud P w K tg (Itr lo n) [a] a (λi h=>IsRangeIter h a (lo+(i:Nat)*1) ((n:Int) - (i:Nat)) 1) where
 mem:=by simp
 obj:=λi h st b hb=>by
  have e:=by simpa using hb
  subst e
  exact⟨_,st,λv z=>by
   cases z⟩
 keep:=λi h h' st k=>k a (by simp) _ st
 item:=by
  intro X u hw x q i d s A H E I f st hg;obtain⟨l,m,B,p,j,g⟩:=f a (by simp);refine (Walks.range (I.ok.hd q) a lo 1 n).item i s _ _ hg st λv h' D y c r=>?_;obtain⟨t,rfl⟩:=y;refine⟨_,U,yx c U U (by decide) ⟨.int _,H,(I.turned (λb o hb e=>r b o (by simpa using hb) e) l m p j g),⟨t,?_⟩,⟨U,U⟩,c,λb hb=>(f b hb).1⟩⟩;rw[qdc]
 done:=by
  intro X u hw x q i d s A H E I f st hg;obtain⟨l,m,B,p,j,g⟩:=f a (by simp);exact wpAny_pyNext_range_end (I.ok.hd q) st (by have:n<=i:=hg;lia) λh' C=>⟨U,I.turned (λb o hb e=>C b o hb e) l m p j g⟩
 self:=λ_ _ _ _ _ st h=>wpAny_pyIter_rangeiter st h
section
variable {X:Cx}{tg:Expr}
def EJ (K:qae) (tl:TE):TI:=λk H R=>tl k H λx H1=>∃ a,x=.ref a/\(∃ xs,SqL K H1 a xs)/\R (Itl K a) H1
def Gd (K:qae) (tl:TE):TI:=λk H R=>tl k H λx H1=>∃ a,x=.ref a/\(∃ xs,SqT K H1 a xs)/\R (Itt K a) H1
theorem wm {l:Expr}{tl:TE} (hl:PE X l tl):PI X tg l (EJ X.K tl):=by
 intro c s k H R I h;refine thn (hl c s k H _ I h) λv s1 ⟨x,H1,I1,S,L⟩=>?_;obtain⟨a,e,⟨xs,hq⟩,q⟩:=L;subst e;cases S;obtain⟨its,rv,p,hz⟩:=I1.list hq;refine qfU p.isList ?_;refine⟨s1.heap.objs.size,_,_,_,H1,U,I1.kept λb o e=>qaj _ e,xW a _,⟨_,qax _ U,U,U⟩,λb hb=>?_,q⟩;have e:=by simpa using hb
 subst e;exact I1.fpOk (qao _) (I1.hok.fresh (qao _))
theorem DE {l:Expr}{tl:TE} (hl:PE X l tl):PI X tg l (Gd X.K tl):=by
 intro c s k H R I h;refine thn (hl c s k H _ I h) λv s1 ⟨x,H1,I1,S,L⟩=>?_;obtain⟨a,e,⟨xs,hq⟩,q⟩:=L;subst e;cases S;obtain⟨its,rv,p,hz⟩:=I1.tuple hq;refine qcT (p) ?_;refine⟨s1.heap.objs.size,_,_,_,H1,U,I1.kept λb o e=>qaj _ e,vb a _,⟨_,qax _ U,U,U⟩,λb hb=>?_,q⟩;have e:=by simpa using hb
 subst e;exact I1.fpOk (qao _) (I1.hok.fresh (qao _))
theorem zG {c:List (Addr×Obj)}{k:St}{H:Hp}{s:qak}{R:It->Hp->Prop}{E:Value->qak->Prop}{lo hi:Int}{t u v:Tok}{tk:Nat} (I:Inv X c k H s) (h1:-(2^62)<=lo) (h2:lo<2^62) (h3:-(2^62)<=hi) (h4:hi<2^62)
  (q:R (Itr lo (hi - lo).toNat) H):wpAny (model X.prog X.w) X.A (qjB (.ref s.heap.objs.size)) (PIE X c k tg R) E { s with heap:=s.heap.push { cls:=.type "range",data:=.fields #[.int lo t,.int hi u,.int 1 v] },toks:=tk }:=by
 refine wpAny_pyIter_range (IsRange.new ..) (small_one h1 h2 h3 h4) ?_;have I1:Inv X c k H { s with heap:=s.heap.push { cls:=.type "range",data:=.fields #[.int lo t,.int hi u,.int 1 v] },toks:=tk }:=I.kept λb o e=>qaj _ e
 refine⟨_,_,_,_,H,U,
  I1.kept λb o e=>qaj _ e,u9 _ lo (hi - lo).toNat,?_,λb hb=>?_,q⟩
 ·have e1:lo+((0:Nat))*1=lo:=by simp
  have e2:(((hi - lo).toNat)) - ((0:Nat))=qe8 lo hi 1:=by rw[qg8];split<;>lia
  rw[e1,e2];exact qax _ U
 ·have e:b=(s.heap.push { cls:=.type "range",data:=.fields #[.int lo t,.int hi u,.int 1 v] }).objs.size:=by simpa using hb
  subst e;exact I1.fpOk (qao _) (I1.hok.fresh (qao _))
def EK (ta:TA):TI:=λk H R=>ta k H λvs H1=>∃ j:Int,vs=[.int j]/\-(2^62)<=j/\j<2^62/\R (Itr 0 j.toNat) H1
theorem xJ {a:Expr}{ta:TA}{p pos:Pos} (hg:Gl X "range") (hm:X.mg "range" = none) (ha:PA X [a] ta) (hs:qbB [a] X.env=[(false,eval a X.env)]:=by rfl):PI X tg (.Call (.Name "range" p) [a] [] pos) (EK ta):=by
 intro c s k H R I h;refine Call_ (iY I hg hm boot_range (qb7 (thn (ha pos c s k H _ I h) λus s1 ⟨vs,H1,I1,S,L⟩=>?_) hs U));obtain⟨j,e,L,q2,q⟩:=L;subst e;cases S with
 |cons r rr=>
  cases rr;obtain⟨t,rfl⟩:=r;exact call_range_1 (zG I1 (by lia) (by lia) L q2 (by simpa using q))
def Gx (wi:TI) (g:TG) (tb:TS):TS:=λD k H=>wi k H λJ H1=>∃ W:Nat->Nat->St->Hp->Prop,(∃ m,W 0 m k H1)/\∀ i m k H,W i m k H->
 (J.stop i H/\D.nx k H)\/(J.go i H/\∃ N:St->Hp->Prop,(∀ y H',N y H'->∃ V,V<m/\W (i+1) V y H')/\∀ x H',J.yld i H x H'->g x k H' λσ2 H2=>tb { D with nx:=N,ct:=N,bk:=D.nx } σ2 H2)
def ny (A:List Addr) (h:Heap):List (Addr×Obj):=A.filterMap λb=>(h.get? b).map λo=>(b,o)
theorem cg {A:List Addr}{h:Heap}{b:Addr}{o:Obj} (hb:b∈A) (e:h.get? b=some o):(b,o)∈ny A h:=qe0.mpr ⟨b,hb,by rw[e];rfl⟩
theorem xG {A:List Addr}{h:Heap}{p:Addr×Obj} (B:p∈ny A h):p.1∈A/\h.get? p.1=some p.2:=by
 obtain⟨b,hb,e⟩:=qe0.mp B;cases q:h.get? b with
 |none=>rw[q]at e;cases e
 |some o=>
  rw[q]at e;have e':=qaL e;subst e';exact⟨hb,q⟩
theorem Inv.pinned {c:List (Addr×Obj)}{k:St}{H:Hp}{s:qak}{A:List Addr} (I:Inv X c k H s) (hf:∀ b∈A,ik X c H b) (ho:∀ b∈A,∃ o,s.heap.get? b=some o/\∀ v,o.data≠.cell v):Inv X (c++ny A s.heap) k H s:=
 I.pins_of λp B=>(qaQ.mp B).elim (λz=>I.pin p (qay _ z)) λz=>by
  obtain⟨hb,e⟩:=xG z;obtain⟨f0,f1,Y,_⟩:=hf p.1 hb;obtain⟨o,e',d⟩:=ho p.1 hb;rw[e]at e';cases e';exact⟨e,f0,f1,Y,d⟩
theorem Inv.unpinned {c pl:List (Addr×Obj)}{k:St}{H:Hp}{s:qak} (I:Inv X (c++pl) k H s):Inv X c k H s:=I.pins_of λp B=>I.pin p (qay _ (qa1 _ B))
theorem zw {iter:Expr}{body:List Stmt}{wi:TI}{g:TG}{tb:TS}{pos:Pos} (B:qgw (model X.prog X.w) X.A X.env X.xe) (hc:X.calm=true) (hi:PI X tg iter wi) (hg:PG X tg g) (hb:PSs X body tb)
  (hs:∀ x,qbL iter X.env x=pure x:=by intro _;rfl):PS X (.For tg iter body [] pos) (Gx wi g tb):=by
 intro c s k H D I h;refine wpAny_For (thn (hi c s k H _ I h) λv s1 h1=>thn h1 λitv s2 h2=>?_) hs;obtain⟨it,A,tn,J,H2,e,I2,T,st2,Y,W,⟨m0,w0⟩,turn⟩:=h2;subst e
 -- what stays true of the iterator's objects through the loop
 have F:∀ {H':Hp},(∀ b∈A,H' b=none)->∀ b∈A,ik X c H' b:=λhn b hb=>⟨hn b hb,(Y b hb).2⟩;refine codeAny_forLoop_any (λn s'=>∃ i y H',Inv X c y H' s'/\tn i s'.heap/\(∀ b∈A,H' b=none)/\W i n y H') ?_ m0 ⟨0,k,H2,I2,st2,λb hb=>(Y b hb).1,w0⟩
 rintro n s3 ⟨i,C,H3,I3,O,P,w3⟩
 rcases turn i n C H3 w3 with⟨stop,qn⟩|⟨go,N,hN,step⟩
 ·refine qcV B (thn (T.done X U U U hc i c s3 C H3 X.xe I3 (F P) O stop) λr s4 ⟨hr,I4⟩=>?_)
  subst hr;exact qeN ⟨C,H3,I4,qn⟩
 ·refine qcV B (thn (T.item X U U U hc i c s3 C H3 X.xe I3 (F P) O go) λr s4 ⟨u,hr,h4⟩=>?_)
  subst hr;refine qcV B (thn h4 λ_ s5 ⟨x,H5,I5,r5,y5,M,fr5⟩=>?_);refine qcV B (thn (hg _ s5 C H5 x u _ (I5.pinned (F fr5) (T.obj _ _ M)) r5 (step x H5 y5)) λ_ s6 ⟨σ6,H6,I6,q6⟩=>?_);refine qcV B (thn (hb _ s6 σ6 H6 _ I6 q6) λf s7 G=>?_);have again:∀ {w:St}{H7:Hp},Inv X _ w H7 s7->N w H7->∃ m,m<n/\∃ i y H',Inv X c y H' s7/\tn i s7.heap/\(∀ b∈A,H' b=none)/\W i m y H':=λ{w H7} I7 Q=>by
   obtain⟨V,hm,w7⟩:=hN w H7 Q;refine⟨V,hm,_,w,H7,I7.unpinned,T.keep _ _ _ M λb hb o e=>(I7.pin (b,o) (qay _ (qay _ (cg hb e)))).1,λb hb=>?_,w7⟩;obtain⟨o,e,d⟩:=T.obj _ _ M b hb;exact (I7.pin (b,o) (qay _ (qay _ (cg hb e)))).2.1
  cases f with
  |next=>obtain⟨w,H7,I7,Q⟩:=G;exact again I7 Q
  |cont=>obtain⟨w,H7,I7,Q⟩:=G;exact again I7 Q
  |brk=>obtain⟨w,H7,I7,G⟩:=G;exact⟨w,H7,I7.unpinned,G⟩
  |ret v=>obtain⟨x7,w,H7,I7,r7,G⟩:=G;exact⟨x7,w,H7,I7.unpinned,r7,G⟩
end
abbrev R2:=V->V->Hp->VK->Prop
def OpR (X:Cx) (f:Value->Value->Sem Value) (r:R2):Prop:=
 ∀ (a:List (Addr×Obj)) (s:qak) (b:St) (H:Hp) (x y:V) (v u:Value) (Q:VK),Inv X a b H s->aK x v->aK y u->r x y H Q->
  wpAny (model X.prog X.w) X.A (f v u) (EP X a b Q) X.xe s
def UnR (X:Cx) (f:Value->Sem Value) (r:V->Hp->VK->Prop):Prop:=
 ∀ (a:List (Addr×Obj)) (s:qak) (b:St) (H:Hp) (x:V) (v:Value) (Q:VK),Inv X a b H s->aK x v->r x H Q->
  wpAny (model X.prog X.w) X.A (f v) (EP X a b Q) X.xe s
def bb (X:Cx) (f:Value) (r:List V->Hp->VK->Prop):Prop:=
 ∀ (a:List (Addr×Obj)) (s:qak) (c:St) (H:Hp) (xs:List V) (b:List Value) (Q:VK),Inv X a c H s->aF xs b->r xs H Q->
  wpAny (model X.prog X.w) X.A (call f b) (EP X a c Q) X.xe s
def F0 (X:Cx) (r:V->Hp->(Bool->Hp->Prop)->Prop):Prop:=
 ∀ (a:List (Addr×Obj)) (s:qak) (b:St) (H:Hp) (x:V) (v:Value) (Q:Bool->Hp->Prop),Inv X a b H s->aK x v->r x H Q->
  wpAny (model X.prog X.w) X.A (truthy v) (TP X a b Q) X.xe s
def tOp (r:R2) (b c:TE):TE:=λa H Q=>b a H λx H1=>c a H1 λy H2=>r x y H2 Q
def tUn (r:V->Hp->VK->Prop) (a:TE):TE:=λb H Q=>a b H λx H1=>r x H1 Q
def rI (C:Int->Int->Prop) (g:Int->Int->V):R2:=λx y H Q=>∃ i j,x=.int i/\y=.int j/\C i j/\Q (g i j) H
def rI0 (g:Int->Int->V):R2:=λx y H Q=>∃ i j,x=.int i/\y=.int j/\Q (g i j) H
def rU (g:Int->V):V->Hp->VK->Prop:=λx H Q=>∃ i,x=.int i/\Q (g i) H
section
variable {X:Cx}{a b c:Expr}{p G P:TE}{pos:Pos}
theorem CK (B:PE X a p) (hb:PE X b G) {d:List (Addr×Obj)}{s:qak}{l:St}{H:Hp}{R:V->V->Hp->Prop} (I:Inv X d l H s)
  (h:p l H λx H1=>G l H1 λy H2=>R x y H2) {Q:Value->qak->Prop}{f:Value->Value->Sem Value}
  (O:∀ v u o x y H2,Inv X d l H2 o->aK x v->aK y u->R x y H2->wpAny (model X.prog X.w) X.A (f v u) Q X.xe o) :
  wpAny (model X.prog X.w) X.A (eval a X.env) (λv z=>wpAny (model X.prog X.w) X.A (eval b X.env) (λu w=>wpAny (model X.prog X.w) X.A (f v u) Q X.xe w) X.xe z) X.xe s:=by
 refine thn (B d s l H _ I h) λv s1 ⟨x,H1,I1,L,J⟩=>?_;refine thn (hb d s1 l H1 _ I1 J) λu o ⟨y,H2,I2,M,N⟩=>?_;exact O v u o x y H2 I2 L M N
theorem Cf {A:Operator}{r:R2} (K:OpR X (qbE A) r) (B:PE X a p) (hb:PE X b G):PE X (.BinOp a A b pos) (tOp r p G):=by
 intro d s l H Q I h;exact wpAny_BinOp (CK B hb I h λv u o x y H2 I2 m n q=>K d o l H2 x y v u Q I2 m n q)
theorem Fg {A:UnaryOp}{r:V->Hp->VK->Prop} (K:UnR X (unaryOp A) r) (B:PE X a p):PE X (.UnaryOp A a pos) (tUn r p):=by
 intro d s l H Q I h;exact UnaryOp_ (thn (B d s l H _ I h) λv s1 ⟨x,H1,I1,L,J⟩=>K d s1 l H1 x v Q I1 L J)
theorem opI {f:Value->Value->Sem Value}{C:Int->Int->Prop}{g:Int->Int->Int}
  (rule:∀ (i j:Int) (t u:Tok) (s:qak) (Q:Value->qak->Prop) (E:Value->qak->Prop),C i j->Q (.int (g i j) s.toks) { s with toks:=s.toks+1 }->wpAny (model X.prog X.w) X.A (f (.int i t) (.int j u)) Q E s) :
  OpR X f (rI C λi j=>.int (g i j)):=by
 intro d s l H x y v u Q I m n h;obtain⟨i,j,rfl,rfl,e,q⟩:=h;obtain⟨t,rfl⟩:=m;obtain⟨t',rfl⟩:=n;exact rule i j t t' s _ _ e ⟨.int _,H,I.tok _,⟨_,U⟩,q⟩
theorem Do {f:Value->Value->Sem Value}{g:Int->Int->Int}
  (rule:∀ (i j:Int) (t u:Tok) (s:qak) (Q:Value->qak->Prop) (E:Value->qak->Prop),Q (.int (g i j) s.toks) { s with toks:=s.toks+1 }->wpAny (model X.prog X.w) X.A (f (.int i t) (.int j u)) Q E s) :
  OpR X f (rI0 λi j=>.int (g i j)):=by
 intro d s l H x y v u Q I m n h;obtain⟨i,j,rfl,rfl,q⟩:=h;obtain⟨t,rfl⟩:=m;obtain⟨t',rfl⟩:=n;exact rule i j t t' s _ _ ⟨.int _,H,I.tok _,⟨_,U⟩,q⟩
theorem Ba {f:Value->Value->Sem Value}{g:Int->Int->Bool}
  (rule:∀ (i j:Int) (t u:Tok) (s:qak) (Q:Value->qak->Prop) (E:Value->qak->Prop),Q (.bool (g i j)) s->wpAny (model X.prog X.w) X.A (f (.int i t) (.int j u)) Q E s) :
  OpR X f (rI0 λi j=>.bl (g i j)):=by
 intro d s l H x y v u Q I m n h;obtain⟨i,j,rfl,rfl,q⟩:=h;obtain⟨t,rfl⟩:=m;obtain⟨t',rfl⟩:=n;exact rule i j t t' s _ _ ⟨.bl _,H,I,U,q⟩
def FY (i j:Int):Prop:=0<j/\j<1073741824
def uc (i j:Int):Prop:=0<=j/\j<=1000000/\i.natAbs<2^64
def Ai (i j:Int):Prop:=(-(2^64)<i/\i<2^64)\/(-(2^64)<j/\j<2^64)
theorem Ai.ok {i j:Int} (h:Ai i j):qhj i j:=by
 rcases h with⟨D,F⟩|⟨D,F⟩
 ·exact .of_left (intBits_le_64 D F)
 ·exact .of_right (intBits_le_64 D F)
theorem vd (k:Nat):(0:Int)<=2^k:=by
 exact Int.natCast_nonneg _
theorem Dp:OpR X (qbE .Add) (rI0 λi j=>.int (i+j)):=Do λ_ _ _ _ _ _ _ q=>add_int q
theorem Dw:OpR X (qbE .Sub) (rI0 λi j=>.int (i - j)):=Do λ_ _ _ _ _ _ _ q=>sub_int q
theorem Be:OpR X (qbE .FloorDiv) (rI FY λi j=>.int (i / j)):=opI λi j _ _ _ _ _ e q=>by
 have D:=e.1;have F:=e.2;exact floordiv_int (by lia) (by rw[qdS i (by lia)];exact q) (.inl (PyProof.noPylong_small (by lia)))
theorem Ds:OpR X (qbE .Mod) (rI (λ_ j=>0<j) λi j=>.int (i%j)):=opI λi j _ _ _ _ _ e q=>by
 exact mod_int' (by lia) (by rw[Int.fmod_eq_emod_of_nonneg i (by lia)];exact q)
theorem Dt:OpR X (qbE .Pow) (rI uc λi j=>.int (i^j.toNat)):=opI λ_ _ _ _ _ _ _ e q=>pow_int_small e.1 e.2.1 e.2.2 q
theorem Du:OpR X (qbE .LShift) (rI uc λi j=>.int (i*2^j.toNat)):=opI λ_ _ _ _ _ _ _ e q=>lshift_int_small e.1 e.2.1 e.2.2 q
theorem Dv:OpR X (qbE .RShift) (rI (λ_ j=>0<=j) λi j=>.int (i / 2^j.toNat)):=opI λi j _ _ _ _ _ e q=>
 rshift_int e (by rw[qdS i (vd _)];exact q)
theorem Dq:OpR X (qbE .BitAnd) (rI0 λi j=>.int (qdM i j)):=Do λ_ _ _ _ _ _ _ q=>and_int q
theorem unI {f:Value->Sem Value}{g:Int->Int}
  (rule:∀ (i:Int) (t:Tok) (s:qak) (Q:Value->qak->Prop) (E:Value->qak->Prop),Q (.int (g i) s.toks) { s with toks:=s.toks+1 }->wpAny (model X.prog X.w) X.A (f (.int i t)) Q E s) :
  UnR X f (rU λi=>.int (g i)):=by
 intro d s l H x v Q I m h;obtain⟨i,rfl,q⟩:=h;obtain⟨t,rfl⟩:=m;exact rule i t s _ _ ⟨.int _,H,I.tok _,⟨_,U⟩,q⟩
theorem Ed:UnR X (unaryOp .USub) (rU λi=>.int (-i)):=unI λ_ _ _ _ _ q=>neg_int q
end
section
variable {X:Cx}{a b c:Expr}{D J tc:TE}{pos:Pos}
theorem yq {d:List (Addr×Obj)}{f:St}{H:Hp}{s:qak}{Q:VK}{k R:Bool} (I:Inv X d f H s) (q:Q (.bl k) H) (e:k=R):EP X d f Q (.bool R) s:=by
 subst e;exact⟨.bl k,H,I,U,q⟩
theorem Fb:OpR X (qbV .Lt) (rI0 λi j=>.bl (decide (i<j))):=Ba λ_ _ _ _ _ _ _ q=>lt_int q
theorem Fa:OpR X (qbV .LtE) (rI0 λi j=>.bl (decide (i<=j))):=Ba λ_ _ _ _ _ _ _ q=>le_int q
theorem E9:OpR X (qbV .Gt) (rI0 λi j=>.bl (decide (j<i))):=Ba λ_ _ _ _ _ _ _ q=>gt_int q
theorem E8:OpR X (qbV .GtE) (rI0 λi j=>.bl (decide (j<=i))):=Ba λ_ _ _ _ _ _ _ q=>ge_int q
theorem Dr:OpR X (qbV .Is) (λx y H Q=>y=.non/\Q (.bl (decide (x=.non))) H):=by
 intro d s f H x y v u Q I l C h;obtain⟨rfl,q⟩:=h;cases C;refine is_none_gen (yq I q ?_);cases x<;>first
  |(rfl)
  |(obtain⟨t,rfl⟩:=l;rfl)
theorem Bg:OpR X (qbV .IsNot) (λx y H Q=>y=.non/\Q (.bl (!decide (x=.non))) H):=by
 intro d s f H x y v u Q I l C h;obtain⟨rfl,q⟩:=h;cases C;refine isnot_none_gen (yq I q ?_);cases x<;>first
  |(rfl)
  |(obtain⟨t,rfl⟩:=l;rfl)
theorem Bj {B:CmpOp}{r:R2} (O:OpR X (qbV B) r) (F:PE X a D) (hb:PE X b J) (hm:qfC B b=false):PE X (.Compare a [B] [b] pos) (tOp r D J):=by
 intro d s f H Q I h;exact wpAny_Compare1 (CK F hb I h λv u M x y H2 I2 l C q=>O d M f H2 x y v u Q I2 l C q) hm
def FP (t:TE):TT:=λf H Q=>t f H λx H'=>∃ k,x=.bl k/\Q k H'
theorem Bt {B:CmpOp}{r:R2} (O:OpR X (qbV B) r) (F:PE X a D) (hb:PE X b J) (hm:qfC B b=false):PT X (.Compare a [B] [b] pos) (FP (tOp r D J)):=by
 intro d s f H Q I h
 refine wpAny_isTrue_Compare1 (thn (F d s f H _ I h) λv s1 ⟨x,H1,I1,A,N⟩=>thn (hb d s1 f H1 _ I1 N) λu M ⟨y,H2,I2,L,T⟩=>
  thn (O d M f H2 x y v u _ I2 A L T) λc s3 ⟨z,H3,I3,r3,k,e,Y⟩=>?_) hm
 subst e;cases r3;exact qel ⟨H3,I3,Y⟩
def Am (K:qae) (x:V) (H:Hp) (k:Bool):Prop:=
 match x with
 |.non=>k=false
 |.bl b=>k=b
 |.int i=>k=(i != 0)
 |.str y=>y.length<=qaG/\k=((y.length:Int) != 0)
 |.byt y=>y.size<=qaG/\k=((y.size:Int) != 0)
 |.ref p=>(∃ xs,SqL K H p xs/\k=!xs.isEmpty)\/(∃ xs,SqT K H p xs/\k=!xs.isEmpty)\/∃ g,H p=some (.dK g)/\k=!g.isEmpty
 |_=>False
theorem uz {S:Type}{g:List (S×V)}{E:List (S×Value)} (r:KV g E):(!E.isEmpty)=!g.isEmpty:=by
 cases r<;>rfl
theorem mU {xs:List V}{o:List Value} (r:aF xs o):(!o.toArray.isEmpty)=!xs.isEmpty:=by
 cases r<;>simp
theorem ki:(qaG:Nat)<2^63:=by decide
theorem Ea:F0 X (λx H Q=>∃ k,Am X.K x H k/\Q k H):=by
 intro d s f H x v Q I l h;obtain⟨k,e,q⟩:=h;have hs:=qcJ;cases x with
 |non=>
  cases l;subst e;exact truthy_none ⟨H,I,q⟩
 |bl b=>
  cases l;subst e;exact qel ⟨H,I,q⟩
 |int i=>
  obtain⟨t,rfl⟩:=l;subst e;exact PySem.P.truthy_int ⟨H,I,q⟩
 |str y=>
  obtain⟨t,rfl⟩:=l;obtain⟨hy,n⟩:y.length<=qaG/\k=_:=e;subst n;exact PySem.P.truthy_str (by lia) ⟨H,I.tok _,q⟩
 |byt y=>
  obtain⟨t,rfl⟩:=l;obtain⟨hy,n⟩:y.size<=qaG/\k=_:=e;subst n;exact PySem.W.truthy_bytes (by lia) ⟨H,I.tok _,q⟩
 |ref p=>
  cases l;have n:=e;rcases n with⟨xs,hx,n⟩|⟨xs,hx,n⟩|⟨g,hx,n⟩
  ·subst n
   obtain⟨o,r,P,hz⟩:=I.list hx;have w:=r.length;exact wpAny_truthy_list P.isList (by simp only[qaC];lia) ⟨H,I.tok _,by rw[mU r];exact q⟩
  ·subst n
   obtain⟨o,r,P,hz⟩:=I.tuple hx;have w:=r.length;exact truthy_tuple P (by simp only[qaC];lia) ⟨H,I.tok _,by rw[mU r];exact q⟩
  ·subst n
   obtain⟨hz,hS,E,r,m⟩:g.length<=qaG/\(p==qcn)=false/\∃ E,KV g E/\s.heap.DictOf _ p E:=I.hok p _ hx;have w:=qeG r;exact wpAny_truthy_dict hS m (by lia) ⟨H,I.tok _,by rw[uz r];exact q⟩
 |_=>exact (show False from e).elim
theorem zy (F:PE X a D) (W:∀ whole,qjF a X.env whole=(do let v <-whole;qjx a.pos;qfW [v] (truthy v))) :
  PT X a (λf H Q=>D f H λx H'=>∃ k,Am X.K x H' k/\Q k H'):=by
 intro d s f H Q I h;exact isTrue_plain (thn (F d s f H _ I h) λv s1 ⟨x,H1,I1,A,N⟩=>Ea d s1 f H1 x v Q I1 A N) (W _)
theorem uS:OpR X (qbE .Add) (λx y H Q=>∃ i j,x=.str i/\y=.str j/\i.length+j.length<=qaG/\Q (.str (i++j)) H):=by
 intro d s f H x y v u Q I l C h;obtain⟨i,j,rfl,rfl,hz,q⟩:=h;obtain⟨t,rfl⟩:=l;obtain⟨t',rfl⟩:=C;exact add_str (λt' tk=>⟨.str _,H,I.tok _,⟨_,U⟩,q⟩) hz
theorem gL {x:V}{G:List Value} (r:aF [x] G):∃ u,G=[u]/\aK x u:=by
 cases r with
 |cons A L=>cases L;exact⟨_,U,A⟩
theorem yg:bb X (.builtin "abs") (λxs H Q=>∃ i,xs=[.int i]/\Q (.int (if i<0 then -i else i)) H):=by
 intro d s f H xs G Q I r h;obtain⟨i,rfl,q⟩:=h;obtain⟨u,rfl,t,rfl⟩:=gL r;exact call_abs_int λu tk=>⟨.int _,H,I.tok _,⟨_,U⟩,q⟩
theorem ox:bb X (.type "int") (λxs H Q=>(∃ i,xs=[.int i]/\Q (.int i) H)\/∃ k,xs=[.bl k]/\Q (.int (if k then 1 else 0)) H):=by
 intro d s f H xs G Q I r h;rcases h with⟨i,rfl,q⟩|⟨k,rfl,q⟩
 ·obtain⟨u,rfl,t,rfl⟩:=gL r
  exact call_int_int ⟨.int i,H,I,⟨_,U⟩,q⟩
 ·obtain⟨u,rfl,A⟩:=gL r
  cases A;exact call_int_bool ⟨.int _,H,I.tok _,⟨_,U⟩,q⟩
end
structure wQ (h:Heap) (x dx C:Addr) (mA:Str->Option Value):Prop where
 obj:h.get? x=some (qc9 C dx)
 ns:h.Ns1 dx mA
 ne:dx≠x
theorem xC {h:Heap}{c:Addr}{d:Str->Option Value} (n:h.Ns1 c d):∃ f,h.get? c=some f/\∀ name,qfE name f=some (d name):=by
 obtain⟨o,es,l,g,hd,k,_,hm⟩:=n;refine⟨o,g,λname=>?_⟩;have e:=hm name;unfold nsFind findBy at e;rw[<-Array.find?_toList]at e;unfold qfE;rw[hd];dsimp only;split
 ·rename_i y q
  rw[q]at e;exact congrArg some e
 ·rename_i q
  rw[q]at e;have a:es.toList.any (·.refKey)=false:=by
   rw[qfe];intro y j;obtain⟨z,t,b⟩:=k y (Array.mem_toList_iff.mp j);simp[DictEntry.refKey,b]
  have i:¬ es.toList.any (·.refKey)=true:=by rw[a];exact qaU
  rw[iFN i];exact congrArg some e
theorem wQ.look {h:Heap}{x b C:Addr}{c:Str->Option Value} (I:wQ h x b C c):∃ a,PySem.W.InstAt h x (qc9 C b) C (some a)/\∀ name,qfE name a=some (c name):=
 let ⟨a,ho,hl⟩:=xC I.ns
 ⟨a,⟨I.obj,U,U,ho⟩,hl⟩
section
variable {prog:qaO}{w:World}{A:qa0}{E:Value->qak->Prop}{s:qak}{K:qae}{x g C f:Addr}{c:Str->Option Value}{name:Str}{v:Value}
theorem AE {a:Bool}{Q:Value->qak->Prop} (X:K.In s.heap) (I:wQ s.heap x g C c) (hg:qd5 K C name=true) (i:qdO K C=true)
  (H:qca K (.ref C) name=some none) (t:c name=some v) (k:qgW v=true) (h:Q v { s with toks:=s.toks+1 }) :
  wpAny (model prog w) A (getAttr (.ref x) name a) Q E s:=by
 obtain⟨D,J,q⟩:=I.look;exact PySem.W.get_value X J (PySem.W.plainGet_of hg).1 (PySem.W.findObj_own i H U (by rw[q,t])) k h
theorem BJ {ns:List Str}{Q:Unit->qak->Prop} (X:K.In s.heap) (I:wQ s.heap x g C c)
  (B:qca K (.ref C) "__setattr__" = some (some (.builtin "object.__setattr__"))) (r:qeS K C=true) (G:qfi K C name=some none) (i:qdO K C=true)
  (hw:qgv c ns) (F:ns.length<=qaG)
  (h:∀ h',wQ h' x g C (λy=>if y=name then some v else c y)->qdd g s.heap h'->Q () { s with heap:=h',toks:=s.toks+2 }) :
  wpAny (model prog w) A (setAttr (.ref x) name v) Q E s:=by
 obtain⟨D,J,q⟩:=I.look;refine PySem.W.set_plain X J B (PySem.W.osa_open X J r G λb=>?_);obtain⟨O,z,l⟩:=PySem.W.any_some i;refine qac (qar (qac (qac (wpAny_loadPart I.obj (qac (qiy (PySem.W.looks_clsIn X z) ?_))))));rw[l];refine qar (qac (qar (qac ?_)));refine wpAny_nsSet1 I.ns λh' e d=>?_;obtain⟨N,M,u,n,o,j⟩:=e.count (qjn name v hw);refine qac (wpAny_lookBehind n (by rw[o];exact pastItsLine_dict (qaH j (by rw[qaq];lia))) ?_);exact qar (h _ ⟨(d.2 _ (qbD I.ne)).trans I.obj,e,I.ne⟩ d)
theorem yU {R:qjJ->qak->Prop}{p:List Value}{m:List (Str×Value)} (X:K.In s.heap) (hm:qfj K C=true)
  (hi:qca K (.ref C) "__init__" = some (some (.ref f))) (L:PySem.W.typeIn K (.ref f)=some (.type "function"))
  (h:qfg (model prog w) (A.under (.builtin "type.__call__" ⟨.ref C::p,m⟩)) (.call (.ref f) ⟨.ref (s.heap.objs.size+1)::p,m⟩) (PySem.W.InitBack (s.heap.objs.size+1) R)
    { s with heap:=(s.heap.push qcP).push (qc9 C s.heap.objs.size) }) :
  qfg (model prog w) A (.call (.ref C) ⟨p,m⟩) R s:=by
 exact PySem.W.make_core (PySem.W.makes_of X hm) (PySem.W.looks_findIn X hi) (λself=>PySem.W.bind_fn X self L) (.inl U) h
end
def eZ (f:Str) (v:V):List (Str×V)->List (Str×V)
 |[]=>[(f,v)]
 |(g,x)::r=>if g=f then (g,v)::r else (g,x)::eZ f v r
theorem kQ (f g:Str) (v:V):∀ fs:List (Str×V),(eZ f v fs).lookup g=if g=f then some v else fs.lookup g
 |[]=>by
  show qdI g [(f,v)]=_;by_cases h:g=f
  ·simp only[qdI,(beq_iff_eq.mpr h),iFP h]
  ·simp only[qdI,(beq_eq_false_iff_ne.mpr h),iFN h]
 |(k,x)::r=>by
  rw[show eZ f v _=(if k=f then (k,v)::r else (k,x)::eZ f v r) from U];by_cases a:k=f
  ·rw[iFP a]
   by_cases h:g=k
   ·simp only[qdI,(beq_iff_eq.mpr h),iFP (h.trans a)]
   ·simp only[qdI,(beq_eq_false_iff_ne.mpr h),iFN (λe:g=f=>h (e.trans a.symm))]
  ·rw[iFN a]
   by_cases h:g=k
   ·simp only[qdI,(beq_iff_eq.mpr h),iFN (λe=>a (h.symm.trans e))]
   ·simp only[qdI,(beq_eq_false_iff_ne.mpr h)]
    exact (kQ f g v r)
theorem kg (f:Str) (v:V):∀ fs:List (Str×V),f∈(eZ f v fs).map (·.1)/\∀ g,g∈fs.map (·.1)->g∈(eZ f v fs).map (·.1)
 |[]=>⟨by simp[eZ],λg h=>by simp at h⟩
 |(k,x)::r=>by
  obtain⟨b,c⟩:=kg f v r;rw[show eZ f v _=(if k=f then (k,v)::r else (k,x)::eZ f v r) from U];by_cases a:k=f
  ·subst a
   exact⟨by simp,λg h=>by simpa using h⟩
  ·rw[iFN a]
   refine⟨?_,λg h=>?_⟩
   ·exact qah _ b
   ·rcases qaz.mp h with e|e
    ·exact qaz.mpr (.inl e)
    ·exact qah _ (c g e)
theorem kO (f:Str) (v:V):∀ fs:List (Str×V),(eZ f v fs).length<=fs.length+1
 |[]=>by simp[eZ]
 |(k,x)::r=>by
  have b:=kO f v r;rw[show eZ f v _=(if k=f then (k,v)::r else (k,x)::eZ f v r) from U];by_cases a:k=f
  ·rw[iFP a,qaq,qaq];lia
  ·rw[iFN a,qaq,qaq];lia
theorem kY.some_of {v:V}{o:Option Value} (r:kY (some v) o):∃ u,o=some u/\aK v u:=by
 cases o with
 |none=>exact (r).elim
 |some u=>exact⟨u,U,r⟩
theorem xi {v:V}{u:Value} (r:aK v u):qgW u=true:=by
 cases v with
 |non=>cases (r);rfl
 |bl b=>cases (r);rfl
 |int i=>obtain⟨t,e⟩:=(r);cases e;rfl
 |str x=>obtain⟨t,e⟩:=(r);cases e;rfl
 |byt b=>obtain⟨t,e⟩:=(r);cases e;rfl
 |flt b=>obtain⟨t,e⟩:=(r);cases e;rfl
 |ref a=>cases (r);rfl
 |ty n=>cases (r);rfl
section
variable {P:qaO}{w:World}{H H':Hp}{h h':Heap}{a C c:Addr}{fs g:List (Str×V)}
theorem qe (hok:HOk P w H h) (e:H a=some (.ins C c fs)):∃ b,wQ h a c C b/\(∀ f,kY (fs.lookup f) (b f))/\qgv b (fs.map (·.1))/\fs.length<=1000/\H c=some (.own a):=by
 obtain⟨d,z,ne,ob,b,n,r,q⟩:=(hok a _ e);exact⟨b,⟨ob,n,ne⟩,r,q,z,d⟩
end
structure Cls (K:qae) (C:Addr):Prop where
 pg:qd5 K C Str.empty=true
 hd:qdO K C=true
 po:qeS K C=true
 sa:qca K (.ref C) "__setattr__" = some (some (.builtin "object.__setattr__"))
theorem Cls.get {K:qae}{C:Addr} (c:Cls K C) (f:Str):qd5 K C f=true:=c.pg
def b8 (K:qae) (C:Addr) (f:Str):Prop:=qca K (.ref C) f=some none
theorem b8.taker {K:qae}{C:Addr}{f:Str} (n:b8 K C f):qfi K C f=some none:=by
 unfold qfi;rw[n];rfl
section
variable {X:Cx}{d:List (Addr×Obj)}{i:St}{H:Hp}{s:qak}{a C k:Addr}{fs:List (Str×V)}{f:Str}{v:V}{A:qa0}{E:Value->qak->Prop}
theorem ut {b:Bool}{Q:Value->qak->Prop} (I:Inv X d i H s) (e:H a=some (.ins C k fs)) (c:Cls X.K C) (n:b8 X.K C f) (l:fs.lookup f=some v)
  (h:∀ u s',Inv X d i H s'->aK v u->Q u s'):wpAny (model X.prog X.w) A (getAttr (.ref a) f b) Q E s:=by
 obtain⟨t,O,r,_,_,_⟩:=qe I.hok e;obtain⟨u,D,x⟩:=kY.some_of (by rw[<-l];exact r f);exact AE I.kIn O (c.get f) c.hd n D (xi x) (h u _ (I.tok _) x)
theorem uZ {y:V}{u:Value}{Q:Unit->qak->Prop} (I:Inv X d i H s) (e:H a=some (.ins C k fs)) (c:Cls X.K C) (n:b8 X.K C f) (K:fs.length<1000) (G:aK y u)
  (h:∀ s',Inv X d i (upd H a (.ins C k (eZ f y fs))) s'->Q () s'):wpAny (model X.prog X.w) A (setAttr (.ref a) f u) Q E s:=by
 obtain⟨t,O,r,p,_,m⟩:=qe I.hok e;have hz:(fs.map (·.1)).length<=qaG:=by rw[qaf,qcJ];lia
 refine BJ I.kIn O c.sa c.po n.taker c.hd p hz λh' O' J=>h _ ?_;refine I.write (by rw[e];exact True.intro) (.inr m) (λb q hb z=>(J.2 b hb).trans z) (let ⟨o,_,_,e',_⟩:=O'.ns;⟨o,e'⟩) ?_;refine⟨by rw[upd_ne O.ne];exact m,?_,O.ne,O'.obj,_,O'.ns,λg=>?_,λg hg=>?_⟩
 ·have:=kO f y fs;lia
 ·rw[kQ]
  by_cases q:g=f
  ·rw[iFP q,iFP q];exact G
  ·rw[iFN q,iFN q];exact r g
 ·by_cases q:g=f
  ·rw[q];exact (kg f y fs).1
  ·refine (kg f y fs).2 g (p g λz=>hg ?_)
   show (if g=f then some u else t g)=none;rw[iFN q];exact z
theorem Inv.made (I:Inv X d i H s):Inv X d i (upd (upd H s.heap.objs.size (.own (s.heap.objs.size+1))) (s.heap.objs.size+1) (.ins C s.heap.objs.size []))
  { s with heap:=(s.heap.push qcP).push (qc9 C s.heap.objs.size) }:=by
 have e1:(s.heap.push qcP).get? s.heap.objs.size=some qcP:=qax s.heap U;have e2:=by
  have:=qax (s.heap.push qcP) (o:=qc9 C s.heap.objs.size) U
  rwa [qbp]at this
 refine (I.laid (o:=.own _) (t':=s.toks) (λb u q=>qaj _ q) (qao _) ⟨_,e1⟩).laid (λb u q=>qaj _ q) (qdf (qbp _ _)) ?_;have ne:s.heap.objs.size≠s.heap.objs.size+1:=qaF (qbY _);refine⟨by rw[upd_ne ne,upd_same],qbA _,ne,e2,_,(Heap.Ns1.of_empty ⟨qcP,_,_,e1,U,(λe B=>absurd B (by simp)),λ_=>rfl⟩).at λo q=>qaj _ q,λ_=>True.intro,λy F=>absurd U F⟩
theorem Ap {prog:qaO}{w:World}{env:Env}{e:Expr}{f:Str}{pos:Pos}{s:qak}{Q:Value->qak->Prop} (hb:qct e f env (eval e env)=eval e env)
  (h:wpAny (model prog w) A (eval e env) (λo j=>wpAny (model prog w) A (getAttr o f true) Q E j) E s):wpAny (model prog w) A (eval (.Attribute e f pos) env) Q E s:=
 Attribute_any_ h (by rw[arm_eval_Attribute,hb])
end
def Gw (K:qae) (b:TE) (f:Str):TE:=λc H Q=>b c H λx H1=>∃ a C d fs v,x=.ref a/\H1 a=some (.ins C d fs)/\Cls K C/\b8 K C f/\fs.lookup f=some v/\Q v H1
def Gr (K:qae) (d e:TE) (f:Str):TS:=λD b H=>e b H λy H1=>d b H1 λx H2=>∃ a C c fs,x=.ref a/\H2 a=some (.ins C c fs)/\Cls K C/\b8 K C f/\fs.length<1000/\
 D.nx b (upd H2 a (.ins C c (eZ f y fs)))
section
variable {X:Cx}{o e b:Expr}{f:Str}{pos g p:Pos}{j r:TE}
theorem Dy (w:PE X e j) (hb:qct e f X.env (eval e X.env)=eval e X.env):PE X (.Attribute e f pos) (Gw X.K j f):=by
 intro d s i H Q I h;refine Ap hb (thn (w d s i H _ I h) λu s1 ⟨x,H1,I1,k,a,C,F,fs,v,ex,m,c,n,l,q⟩=>?_);subst ex;obtain rfl:u=Value.ref a:=k;exact ut I1 m c n l λL B I2 K=>⟨v,H1,I2,K,q⟩
theorem zv (G:PE X o j) (z:PE X b r) (E:qcr b (some (.Attribute o f g)) pos.line X.env=pure false):PS X (.Assign [.Attribute o f g] b pos) (Gr X.K j r f):=by
 intro d s i H D I h;refine plainObj_wpAny_Assign_Attribute (thn (z d s i H _ I h) λu s1 ⟨y,H1,I1,J,q⟩=>thn (G d s1 i H1 _ I1 q) λA B ⟨x,H2,I2,k,a,C,F,fs,ex,m,c,n,l,t⟩=>?_) E;subst ex;obtain rfl:A=Value.ref a:=k;exact uZ I2 m c n l J λM I3=>⟨i,_,I3,t⟩
end
section
variable {X:Cx}{k:List (Addr×Obj)}{r:St}{H:Hp}{s:qak}{A:qa0}{E:Value->qak->Prop}{Q:Value->qak->Prop}{c:Value}{b:Bool}
inductive kZ (K:qae) (H:Hp):V->Value->Prop where
 |non:kZ K H .non (.type "NoneType")
 |bl (x:Bool):kZ K H (.bl x) (.type "bool")
 |int (i:Int):kZ K H (.int i) (.type "int")
 |str (x:Str):kZ K H (.str x) (.type "str")
 |flt (x:UInt64):kZ K H (.flt x) (.type "float")
 |lst {a:Addr}{xs:List V} (e:H a=some (.lst xs)):kZ K H (.ref a) (.type "list")
 |frz {a:Addr}{o:Obj}{xs:List V} (e:H a=some (.frz o (.lst xs))):kZ K H (.ref a) (.type "list")
 |tup {a:Addr}{xs:List V} (e:H a=some (.tup xs)):kZ K H (.ref a) (.type "tuple")
 |dK {a:Addr}{kvs:List (Key×V)} (e:H a=some (.dK kvs)):kZ K H (.ref a) (.type "dict")
 |dT {a:Addr}{kvs:List (List Key×V)} (e:H a=some (.dT kvs)):kZ K H (.ref a) (.type "dict")
 |ins {a C dx:Addr}{fs:List (Str×V)} (e:H a=some (.ins C dx fs)) (cl:Cls K C) (ha:qca K (.ref C) "__class__" = some (some (.builtin "object.__class__")))
   (hn:PySem.W.specialIn K (.builtin "object.__class__") "__get__" = some (some (.builtin "getset_descriptor.__get__"))) (htk:PySem.W.takesIn K (.builtin "object.__class__")=some true)
   (hm:PySem.W.mroIn K C (.type "object")=some true):kZ K H (.ref a) (.ref C)
theorem bP {x:V}{u t:Value} (I:Inv X k r H s) (d:aK x u) (ty:kZ X.K H x t) (e:qhn X.K t c=some b) (h:∀ m,Q (.bool b) { s with toks:=m }) :
  wpAny (model X.prog X.w) A (call (.builtin "isinstance") [u,c]) Q E s:=by
 cases ty with
 |non=>cases (d);exact qbM PySem.W.kitx_none I.kIn True.intro e (λz=>nomatch z) h
 |bl y=>cases (d);exact qbM PySem.W.kitx_bool I.kIn True.intro e (λz=>nomatch z) h
 |int i=>obtain⟨t,q⟩:=(d);cases q;exact qbM PySem.W.kitx_int I.kIn True.intro e (λz=>nomatch z) h
 |str y=>obtain⟨t,q⟩:=(d);cases q;exact qbM PySem.W.kitx_str I.kIn True.intro e (λz=>nomatch z) h
 |flt y=>obtain⟨t,q⟩:=(d);cases q;exact qbM PySem.W.kitx_float I.kIn True.intro e (λz=>nomatch z) h
 |@lst a xs f=>
  cases (show u=Value.ref a from d);obtain⟨_,_,n,_,g⟩:=(I.hok a _ f);exact qbM qgH I.kIn ⟨_,g,U⟩ e (λz=>nomatch z) h
 |@frz a ob xs f=>
  cases (d);obtain⟨_,_,_,n,_,g⟩:=(I.hok a _ f);exact qbM qgH I.kIn ⟨_,g,U⟩ e (λz=>nomatch z) h
 |@tup a xs f=>
  cases (show u=Value.ref a from d);obtain⟨_,_,_,p⟩:=(I.hok a _ f);obtain⟨o,g,j,_⟩:=p;exact qbM qgD I.kIn ⟨o,g,j⟩ e (λz=>nomatch z) h
 |@dK a kvs f=>
  cases (show u=Value.ref a from d);obtain⟨_,_,v,_,p⟩:=(I.hok a _ f);obtain⟨o,es,l,g,j,_⟩:=p;exact qbM qgI I.kIn ⟨o,g,j.1⟩ e (λz=>nomatch z) h
 |@dT a kvs f=>
  cases (show u=Value.ref a from d);obtain⟨_,_,xs,_,o,es,l,g,j,_⟩:=(I.hok a _ f);exact qbM qgI I.kIn ⟨o,g,j.1⟩ e (λz=>nomatch z) h
 |@ins a C dx fs f cl ha hn htk hm=>
  cases (d);obtain⟨w,O,_⟩:=qe I.hok f;obtain⟨B,J,_⟩:=O.look;exact qbM (PySem.W.kitx_own (cl.get _) cl.hd ha hn htk hm) I.kIn J e (λz=>nomatch z) h
end
structure bh (k:Nat) (A:qa0):Prop where
 hd:A.handled=none
 dp:A.depth+3*k+5<qjW
 un:A.units+16*k+200<cLine
 gd:A.guards=some []
theorem bh.mono {j k:Nat}{A:qa0} (r:bh k A) (h:j<=k):bh j A:=⟨r.hd,by have:=r.dp;lia,by have:=r.un;lia,r.gd⟩
theorem bh.deeper {k:Nat}{A:qa0} (r:bh (k+1) A) (env:Env):bh k (A.deeper env):=
 ⟨r.hd,by have:=r.dp;show A.depth+1+3*k+5<_;lia,by have:=r.un;show A.units+3+16*k+200<_;lia,r.gd⟩
theorem uO {A:qa0}{C:Addr}{a:List Value}{b:List (Str×Value)}:(A.under (.builtin "type.__call__" ⟨.ref C::a,b⟩)).depth=A.depth+1:=by
 first|rfl|simp[qgm,Code.weight,Code.isCreation,qiC,Code.isCaller,qjw,qiD,guardIds]
theorem uP {A:qa0}{C:Addr}{a:List Value}{b:List (Str×Value)}:(A.under (.builtin "type.__call__" ⟨.ref C::a,b⟩)).units=A.units+1:=by
 first|rfl|simp[qgm,Code.cUnits,qjw,qiD]
theorem bh.make {k:Nat}{A:qa0} (r:bh (k+1) A) (C:Addr) (a:List Value) (b:List (Str×Value)):bh k (A.under (.builtin "type.__call__" ⟨.ref C::a,b⟩)):=
 ⟨r.hd,by have:=r.dp;rw[uO];lia,by have:=r.un;rw[uP];lia,by
  unfold qgm
  simp[r.gd,pushGuards,Code.guards,qiC,guardIds]⟩
theorem bh.depth {k:Nat}{A:qa0} (r:bh k A):A.depth<qjW:=by have:=r.dp;lia
theorem bh.units {k:Nat}{A:qa0} (r:bh k A):A.units+64<cLine:=by have:=r.un;lia
theorem bh.units0 {k:Nat}{A:qa0} (r:bh k A):A.units<cLine:=by have:=r.un;lia
def GC:TA:=λ_ H Q=>Q [] H
def FH (c:TE) (b:TA):TA:=λa H Q=>c a H λx H1=>b a H1 λxs H2=>Q (x::xs) H2
section
variable {X:Cx}{e:Expr}{es:List Expr}{te:TE}{t:TA}{pos:Pos}
theorem qP:PA X [] GC:=λ_ _ _ _ H Q I h=>Calls.spliced_nil ⟨_,H,I,.nil,h⟩
theorem l6 (j:PE X e te) (k:PA X es t) (n:qbB (e::es) X.env=(false,eval e X.env)::qbB es X.env:=by rfl):PA X (e::es) (FH te t):=by
 intro pos a s c H Q I h;rw[n];refine Calls.spliced_cons (thn (j a s c H _ I h) λu s1 ⟨x,H1,I1,m,l⟩=>?_);exact thn (k pos a s1 c H1 _ I1 l) λd o ⟨xs,H2,I2,g,i⟩=>⟨_,H2,I2,.cons m g,i⟩
def GG (t:TA):TE:=λc H Q=>t c H λxs H1=>xs.length<=qaG/\∀ p,H1 p=none->Q (.ref p) (upd H1 p (.tup xs))
def GB (t:TA):TE:=λc H Q=>t c H λxs H1=>xs.length<=qaG/\∀ p,H1 p=none->Q (.ref p) (upd H1 p (.lst xs))
theorem zg {x1} (h:PA X es t):PE X (.Tuple es x1 pos) (GG t):=by
 intro a s c H Q I f;refine wpAny_Tuple_spliced (thn (h pos a s c H _ I f) λd s1 ⟨xs,H1,I1,r,z,q⟩=>⟨by rw[<-r.length];exact z,?_⟩);refine⟨.ref s1.heap.objs.size,_,I1.laid (λb u e=>qaj _ e) (qao _) ?_,U,q _ (I1.hok.fresh (qao _))⟩;exact⟨z,d,r,d9.new _ _⟩
theorem zf (h:PA X es t):PE X (.List es pos) (GB t):=by
 intro a s c H Q I f;refine wpAny_List_spliced (thn (h pos a s c H _ I f) λd s1 ⟨xs,H1,I1,r,z,q⟩=>⟨by rw[<-r.length];exact z,?_⟩);refine⟨.ref s1.heap.objs.size,_,I1.laid (λb u e=>qaj _ e) (qao _) ?_,U,q _ (I1.hok.fresh (qao _))⟩;exact⟨z,d,0,r,qax _ U⟩
end
abbrev Sp:=List V->Hp->VK->XK->Prop
abbrev CXT:=List Env->Hp->qak->XK->Value->qak->Prop
structure wP (P:qaO) (w:World) (K:qae) (mg:Str->Option Value) (base:Heap) (A:qa0) (outer:List Env) (s:qak) (H:Hp):Prop where
 frames:A.frames=some outer
 mod:Mod K mg base
 bs:∀ b o,base.get? b=some o->s.heap.get? b=some o/\H b=none
 bsz:base.objs.size<=s.heap.objs.size
 funs:s.heap.FunFrames base outer
 frf:∀ b∈frs outer,H b=none
 hok:HOk P w H s.heap
 bare:qfp s.gens
def CE (outer:List Env) (P:qaO) (w:World) (H:Hp) (s:qak) (Q:VK) (u:Value) (s':qak):Prop:=
 ∃ v H',s'.os=s.os/\qfp s'.gens/\Un (frs outer) [] H H' s.heap s'.heap/\HOk P w H' s'.heap/\aK v u/\Q v H'
def CR (CX:CXT) (outer:List Env) (P:qaO) (w:World) (H:Hp) (s:qak) (Q:VK) (E:XK) (r:qjJ) (s':qak):Prop:=
 match r with
 |.ok (.ret u)=>CE outer P w H s Q u s'
 |.ok _=>False
 |.error e=>CX outer H s E e s'
structure cZ (P:qaO) (w:World) (K:qae) (mg:Str->Option Value) (base:Heap) (CX:CXT) (k:Nat) (f:Addr) (fd:qb0) (ps:List Str) (sp:Sp):Prop where
 len:∀ vs H Q E,sp vs H Q E->vs.length=ps.length
 run:∀ (A:qa0) (outer:List Env) (s:qak) (H:Hp) (args:Args) (us:List Value) (vs:List V) (Q:VK) (E:XK),bh k A->wP P w K mg base A outer s H->qhk s fd args (ps.zip us)->aF vs us->sp vs H Q E->
  qfg (model P w) A (.call (.ref f) args) (CR CX outer P w H s Q E) s
theorem cZ.mono {P:qaO}{w:World}{K:qae}{mg:Str->Option Value}{base:Heap}{CX:CXT}{j k:Nat}{f:Addr}{fd:qb0}{ps:List Str}{sp:Sp} (F:cZ P w K mg base CX j f fd ps sp) (h:j<=k) :
  cZ P w K mg base CX k f fd ps sp:=⟨F.len,λA outer s H args b a Q E c=>F.run A outer s H args b a Q E (c.mono h)⟩
theorem wP.make {P:qaO}{w:World}{K:qae}{mg:Str->Option Value}{base:Heap}{A:qa0}{outer:List Env}{s:qak}{H:Hp} (e:wP P w K mg base A outer s H) (C:Addr) (a:List Value) (b:List (Str×Value)) :
  wP P w K mg base (A.under (.builtin "type.__call__" ⟨.ref C::a,b⟩)) outer s H:=⟨by first|exact e.frames|(simpa  using e.frames),e.mod,e.bs,e.bsz,e.funs,e.frf,e.hok,e.bare⟩
section
variable {X:Cx}{a:List (Addr×Obj)}{c:St}{H:Hp}{s s':qak}
theorem Inv.env0 (I:Inv X a c H s):wP X.prog X.w X.K X.mg X.base X.A X.stack s H:=
 ⟨I.ok.frames,I.ok.mod,I.bs,qaH I.ok.bsz I.sz,I.stack,I.stkFree,I.hok,I.bare⟩
theorem Inv.after {Q:VK}{u:Value} (I:Inv X a c H s) (h:CE X.stack X.prog X.w H s Q u s'):EP X a c Q u s':=by
 obtain⟨v,H',os,bare,un,hok,r,q⟩:=h;obtain⟨f,g,d,t,e⟩:=s';obtain rfl:e=s.os:=os;exact⟨v,H',I.call un hok bare (λb z=>absurd z (by simp)),r,q⟩
end
def FG (sp:Sp) (a:List V) (E:XK) (t:TA):TE:=λc H Q=>t c H λb H1=>sp (b++a) H1 Q E
def FL (C:Addr) (sp:Sp) (b:List V) (E:XK) (t:TA):TE:=λd H Q=>t d H λc H1=>∀ x a,H1 x=none->H1 a=none->a≠x->
 sp (.ref x::(c++b)) (upd (upd H1 a (.own x)) x (.ins C a [])) (λv H2=>v=.non/\Q (.ref x) H2) E
def cN (K:qae) (fd:qb0) (ps:List Str) (ds:List Value):Prop:=
 ∀ (s:qak) (a:List Value),K.In s.heap->(a++ds).length=ps.length->qhk s fd ⟨a,[]⟩ (ps.zip (a++ds))
theorem cN.all {K:qae}{fd:qb0}{ps:List Str} (h:∀ a:List Value,a.length=ps.length->bindArgs fd ⟨a,[]⟩=pure (ps.zip a)):cN K fd ps []:=λs a _ b=>by
 rw[qbH]at b ⊢;exact .of_eq (h a b)
def md (CX:CXT) (X:Cx) (E:XK):Prop:=∀ (a:List (Addr×Obj)) (b:St) (H:Hp) (s:qak) (e:Value) (s':qak),Inv X a b H s->CX X.stack H s E e s'->X.xe e s'
section
variable {X:Cx}{CX:CXT}{k:Nat}{f C:Addr}{fd:qb0}{ps:List Str}{sp:Sp}{b:List V}{ds:List Value}{E:XK}{x m:Str}{p pos G:Pos}{e o:Expr}{es:List Expr}{P:TE}{t:TA}
theorem DX {a:List (Addr×Obj)}{g:St}{H:Hp}{s:qak}{Q:VK}{d:List Value}{w:List V} (F:cZ X.prog X.w X.K X.mg X.base CX k f fd ps sp) (l:bh k X.A) (hb:cN X.K fd ps ds) (hd:aF b ds) (hx:md CX X E)
  (I:Inv X a g H s) (r:aF w d) (h:sp (w++b) H Q E):wpAny (model X.prog X.w) X.A (call (.ref f) d) (EP X a g Q) X.xe s:=by
 have y:=r.append hd;have D:(d++ds).length=ps.length:=by rw[<-y.length];exact F.len _ _ _ _ h
 refine wpAny_call (qf4 (F.run X.A X.stack s H _ _ _ Q E l I.env0 (hb s d I.kIn D) y h) λr s' i=>?_);cases r with
 |error e=>exact hx a g H s e s' I i
 |ok fl=>
  cases fl with
  |ret u=>exact I.after i
  |next=>exact qcv i
  |brk=>exact qcv i
  |cont=>exact qcv i
theorem wk (F:cZ X.prog X.w X.K X.mg X.base CX k f fd ps sp) (l:bh k X.A) (hg:Gl X x) (hm:X.mg x=some (.ref f)) (L:qcB X.K (.ref f)=true) (hb:cN X.K fd ps ds) (hd:aF b ds) (hx:md CX X E)
  (B:PA X (e::es) t) (n:(x==("__debug__" : Str))=false:=by decide) (A:qbB (e::es) X.env=(false,eval e X.env)::qbB es X.env:=by rfl) (j:(qeR pos (qbB es X.env)).any (·.1)=false:=by rfl) :
  PE X (.Call (.Name x p) (e::es) [] pos) (FG sp b E t):=by
 intro a s g H Q I h;refine qeb (vY I hg hm ?_ n);refine qgE I.ok.mod.kin L (thn (B pos a s g H _ I h) λd s1 ⟨w,H1,I1,r,q⟩=>⟨I1.kIn,?_⟩) A j;exact DX F l hb hd hx I1 r q
structure Mk (K:qae) (C f:Addr):Prop where
 makes:qfj K C=true
 init:qca K (.ref C) "__init__" = some (some (.ref f))
 fn:qhK K (.ref f)=true
 kp:qcB K (.ref C)=true
theorem zP {a:List (Addr×Obj)}{g:St}{H:Hp}{s:qak}{Q:VK}{d:List Value}{w:List V} (M:Mk X.K C f) (F:cZ X.prog X.w X.K X.mg X.base CX k f fd ps sp) (l:bh (k+1) X.A) (hb:cN X.K fd ps ds) (hd:aF b ds)
  (hx:md CX X E) (I:Inv X a g H s) (r:aF w d)
  (h:∀ x z,H x=none->H z=none->z≠x->sp (.ref x::(w++b)) (upd (upd H z (.own x)) x (.ins C z [])) (λv H2=>v=.non/\Q (.ref x) H2) E) :
  wpAny (model X.prog X.w) X.A (call (.ref C) d) (EP X a g Q) X.xe s:=by
 have i:=h _ s.heap.objs.size (I.hok.fresh (qcF _)) (I.hok.fresh (qao _)) (qaF (qbY _));have I2:=Inv.made (C:=C) I;have y:aF (V.ref (s.heap.objs.size+1)::_) _:=.cons U (r.append hd);have D:=by
  have e:=y.length;rw[F.len _ _ _ _ i]at e;exact e.symm
 refine wpAny_call (yU I.kIn M.makes M.init (beq_iff_eq.mp M.fn) (qf4 (F.run _ X.stack _ _ _ _ _ _ E (l.make C d [])
  (I2.env0.make C d []) (hb _ _ I2.kIn D) y i) λr s' c=>?_))
 cases r with
 |error e=>exact hx a g _ _ e s' I2 c
 |ok fl=>
  cases fl with
  |ret u=>
   obtain⟨v,H',I3,O,N,J⟩:=I2.after c;subst N;exact⟨O,⟨V.ref _,H',I3,U,J⟩⟩
  |next=>exact qcv c
  |brk=>exact qcv c
  |cont=>exact qcv c
theorem Bl (M:Mk X.K C f) (F:cZ X.prog X.w X.K X.mg X.base CX k f fd ps sp) (l:bh (k+1) X.A) (hg:Gl X x) (hm:X.mg x=some (.ref C)) (hb:cN X.K fd ps ds) (hd:aF b ds) (hx:md CX X E)
  (B:PA X (e::es) t) (n:(x==("__debug__" : Str))=false:=by decide) (A:qbB (e::es) X.env=(false,eval e X.env)::qbB es X.env:=by rfl) (j:(qeR pos (qbB es X.env)).any (·.1)=false:=by rfl) :
  PE X (.Call (.Name x p) (e::es) [] pos) (FL C sp b E t):=by
 intro a s g H Q I h;refine qeb (vY I hg hm ?_ n);refine qgE I.ok.mod.kin M.kp (thn (B pos a s g H _ I h) λd s1 ⟨w,H1,I1,r,q⟩=>⟨I1.kIn,?_⟩) A j;exact zP M F l hb hd hx I1 r q
end
section
variable {X:Cx}{CX:CXT}{k:Nat}{f C:Addr}{fd:qb0}{ps d:List Str}{sp:Sp}{E:XK}{x m:Str}{p pos b a:Pos}{e o:Expr}{es:List Expr}{c:List qhZ}{te j:TE}{t i:TA}{nm:Option Str}
variable {g:List Value->List Value->List Value}{h:List V->List V->List V}
end
structure b6 (N P:List Str) (sc:Scope):Prop where
 kind:sc.kind=.function
 co:sc.isCoroutine=false
 gen:sc.isGenerator=false
 nd:N.Nodup
 pre:N.take P.length=P
 par:∀ x∈P,sc.names.lookup x=some .local\/sc.names.lookup x=some .cell
 nofree:∀ y∈sc.names,y.2≠.free
theorem ow {kindOf:Str->Option qbZ}{x:Str}:∀ {binds:List (Str×Value)}{m:Str->Option Value},(∀ v,(x,v)∉binds)->bindL kindOf binds m x=m x
 |[],_,_=>rfl
 |(n,v)::r,m,h=>by
  unfold bindL;rw[ow λw hw=>h w (qah _ hw)];split
  ·have:x≠n:=by rintro rfl;exact h v qag
   simp[this]
  ·rfl
theorem ot {kindOf:Str->Option qbZ}{x:Str}:∀ {binds:List (Str×Value)}{m:Str->Option Value},(∀ v,(x,v)∉binds)->bindC kindOf binds m x=m x
 |[],_,_=>rfl
 |(n,v)::r,m,h=>by
  unfold bindC;rw[ot λw hw=>h w (qah _ hw)];split
  ·rfl
  ·have:x≠n:=by rintro rfl;exact h v qag
   simp[this]
theorem ou {kindOf:Str->Option qbZ}{x:Str}{v:Value}:∀ {P:List Str}{a:List Value}{i:Nat}{m:Str->Option Value},P.Nodup->P[i]?=some x->a[i]?=some v->kindOf x=some .local->
  bindL kindOf (P.zip a) m x=some v
 |[],_,_,_,_,h,_,_=>by simp at h
 |_::_,[],_,_,_,_,h,_=>by simp at h
 |p::P,w::a,0,m,nd,b,c,d=>by
  simp at b c;subst b;subst c
  show bindL kindOf ((p,w)::P.zip a) m p=_;unfold bindL;rw[ow λv e=>(qce.mp nd).1 (qfN e).1,iFP d]
  simp
 |p::P,w::a,i+1,m,nd,b,c,d=>by
  unfold bindL;exact ou (qce.mp nd).2 (by simpa using b) (by simpa using c) d
theorem oq {kindOf:Str->Option qbZ}{x:Str}{v:Value}:∀ {P:List Str}{a:List Value}{i:Nat}{m:Str->Option Value},P.Nodup->P[i]?=some x->a[i]?=some v->kindOf x≠some .local->
  bindC kindOf (P.zip a) m x=some v
 |[],_,_,_,_,h,_,_=>by simp at h
 |_::_,[],_,_,_,_,h,_=>by simp at h
 |p::P,w::a,0,m,nd,b,c,d=>by
  simp at b c;subst b;subst c
  show bindC kindOf ((p,w)::P.zip a) m p=_;unfold bindC;rw[ot λv e=>(qce.mp nd).1 (qfN e).1,iFN d]
  simp
 |p::P,w::a,i+1,m,nd,b,c,d=>by
  unfold bindC;exact oq (qce.mp nd).2 (by simpa using b) (by simpa using c) d
def gJ (N:List Str) (a:List V):St:=a.map some++qaD (N.length - a.length) none
def eJ (CX:CXT) (P:qaO) (w:World) (K:qae) (mg:Str->Option Value) (base:Heap) (N:List Str) (b:Str) (a:Scope) (f:Addr) (d:Value) (A:qa0) (outer:List Env) (s:qak) (H:Hp) (E:XK):Cx where
 prog:=P
 w:=w
 K:=K
 mg:=mg
 base:=base
 A:=A.deeper (qen b a s.heap.objs.size f d)
 N:=N
 s₀:=s
 H₀:=H
 env:=qen b a s.heap.objs.size f d
 outer:=outer
 stack:=qen b a s.heap.objs.size f d::outer
 ex:=[]
 calm:=true
 fn:=λ_=>true
 pn:=[]
 xe:=λe s'=>wpAny (model P w) (A.deeper (qen b a s.heap.objs.size f d)) (leaving (qen b a s.heap.objs.size f d) e) (λ_ c=>CX outer H s E e c) (λg c=>CX outer H s E g c) s'
theorem rQ {a:Scope}{n:Nat}{x:Str} (h:a.names.lookup x=some .cell):∃ c,(qcs n a.names []).lookup x=some c:=by
 exact qcp.mp (qdh a.names n [] (.inl h))
theorem xu {CX:CXT}{P:qaO}{w:World}{K:qae}{mg:Str->Option Value}{base:Heap}{N ps:List Str}{g:Str}{d:Scope}{f:Addr}{C:Value}{A:qa0}{outer:List Env}{s s1:qak}{H:Hp}{E:XK}{D:List Value}{m:List V}
  (S:b6 N ps d) (hd:A.handled=none) (e0:wP P w K mg base A outer s H) (O:m.length=ps.length) (r:aF m D)
  (x:InCallC s s.heap.objs.size (bindL (qen g d s.heap.objs.size f C).kindOf (ps.zip D) λ_=>none) (qcs (s.heap.objs.size+1) d.names []) (bindC (qen g d s.heap.objs.size f C).kindOf (ps.zip D) λ_=>none) s1) :
  Inv (eJ CX P w K mg base N g d f C A outer s H E) [] (gJ N m) H s1:=by
 have I:ps.length<=N.length:=by have:=congrArg qgZ S.pre;rw[qch]at this;lia
 obtain⟨B,Q,rfl,F⟩:=x.done;have l:∀ b ,b∉(eJ CX P w K mg base N g d f C A outer s H E).ex:=λb z=>absurd (show b∈([]) from z) (by simp)
 refine⟨⟨e0.mod,S.kind,U,U,qao _,λy z c B j=>?_,λy t=>?_,λy c _ h=>?_,λ_=>hd,Around.frames_deeper e0.frames,.inr ⟨U,U⟩,λb z=>absurd z (l b),e0.bs,e0.bsz,λb _ _=>l b,λb z=>absurd z (l b),e0.funs,e0.frf⟩,
  rfl,e0.bare,Un.kept F,⟨_,x.toInCall.ns,λi y v B j M=>?_⟩,λy c h=>⟨_,x.cell y c h⟩,e0.hok.fresh (qao _),λy c h=>?_,λp o=>absurd (show p∈([]) from o) (by simp),e0.hok.kept F,?_⟩
 ·exact name_of_addr x.apart (qbr B) (qbr j)
 ·rcases t with t|t
  ·exact rQ t
  ·exact absurd U (S.nofree _ (qbr t))
 ·exact qez (x.above y c (qbr h))
 ·have hi:i<m.length:=by
   unfold gJ at j;by_cases hi:i<m.length
   ·exact hi
   ·rw[qaJ (by simpa using hi)]at j
    rw[qcC]at j;split at j<;>cases j
  have L:m[i]?=some v:=by
   unfold gJ at j;rw[qaB (by simpa using hi),qav]at j;cases e:m[i]? with
   |none=>rw[e]at j;cases j
   |some a=>rw[e]at j;cases j;rfl
  obtain⟨u,G,J⟩:=r.get L;have o:ps[i]?=some y:=by
   rw[<-S.pre,qd7 (by lia)];exact B
  have n:ps.Nodup:=by rw[<-S.pre];exact S.nd.sublist (qhp _ _)
  refine⟨u,J,?_⟩;rcases S.par y (qbj o) with k|k
  ·exact .inl ⟨k,ou n o G k⟩
  ·obtain⟨c,e⟩:=rQ k
   refine .inr ⟨.inl k,c,e,?_⟩;have q:=x.cell y c e;rw[oq n o G (by show d.names.lookup y≠_;rw[k];decide)]at q;exact q
 ·exact e0.hok.fresh (qez (x.above y c (qbr h)))
 ·unfold gJ
  show _=N.length;rw[qaw,qaf,qb3];lia
theorem ED {CX:CXT}{P:qaO}{w:World}{K:qae}{mg:Str->Option Value}{base:Heap}{k:Nat}{f:Addr}{name c:Str}{d:Arguments}{body:List Stmt}{a:Scope}{G kV p D g ct W:Value}{F O:Option Addr}
  {y:Array (Option Value)}{N ps:List Str}{sp:Sp} (M:K.lookup f=some ⟨W,O,.func (qdE name c d body a G kV p D F g ct),y⟩) (z:qfF K g c=true) (S:b6 N ps a)
  (len:∀ j H Q E,sp j H Q E->j.length=ps.length)
  (i:∀ (A:qa0) (outer:List Env) (s:qak) (H:Hp) (j:List V) (Q:VK) (E:XK),bh k (A.deeper (qen c a s.heap.objs.size f g))->sp j H Q E->
    ∃ t,PSs (eJ CX P w K mg base N c a f g A outer s H E) body t/\t { nx:=λ_ H'=>Q .non H',rt:=Q } (gJ N j) H) :
  cZ P w K mg base CX (k+1) f (qdE name c d body a G kV p D F g ct) ps sp:=by
 refine⟨len,λA outer s H args X j Q E B e0 hb r m=>?_⟩;have KX:=e0.mod.kin.keeps λb o e=>(e0.bs b o e).1;refine codeAny_call_function B.depth (KX _ _ M) U S.co S.gen U (PySem.W.codeRec_of KX z) (hb _ _ _ _ ?_)
 refine wpAny_newFunctionEnv_cells S.kind (λ⟨n,v⟩ T=>by
  rcases S.par n (qfN T).1 with q|q
  ·exact .inl q
  ·exact .inr ⟨q,qdh _ _ _ (.inl q)⟩) λenv I s1 x=>?_
 subst I;refine⟨(e0.mod.nolimit.keeps λb o e=>(e0.bs b o e).1).keeps x.toInCall.keep,codeAny_func ?_⟩;obtain⟨t,R,L⟩:=i A outer s H j Q E (B.deeper _) m;refine qcm (R [] s1 _ H _ (xu S B.hd e0 (len _ _ _ _ m) r x) L) (λfl s' l=>?_) λe s' l=>l;have fin:∀ {h:St}{H':Hp}{v:V}{u:Value},Inv (eJ CX P w K mg base N c a f g A outer s H E) [] h H' s'->aK v u->Q v H'->CE outer P w H s Q u s':=
  λ{h H' v u} J C q=>⟨v,H',J.os,J.bare,J.base,J.hok,C,q⟩
 cases fl with
 |ret u=>
  obtain⟨v,h,H',J,C,q⟩:=l;exact fin J C q
 |next=>
  obtain⟨h,H',J,q⟩:=l;exact fin (v:=V.non) J U q
 |brk=>
  obtain⟨_,_,_,q⟩:=l;exact qcv q
 |cont=>
  obtain⟨_,_,_,q⟩:=l;exact qcv q
section
variable {X:Cx}{x:Str}{p pos:Pos}{e:Expr}{es:List Expr}{t:TA}{id T:String}{r:List V->Hp->VK->Prop}
def tCB (r:List V->Hp->VK->Prop) (t:TA):TE:=λd H Q=>t d H λf H1=>r f H1 Q
theorem nw (n:bb X (.builtin id) r) (hg:Gl X x) (hm:X.mg x=none) (m:qb9 x=some (.builtin id)) (i:PA X (e::es) t) (hn:x≠"__name__":=by decide) (b:(x==("__debug__" : Str))=false:=by decide)
  (g:qbB (e::es) X.env=(false,eval e X.env)::qbB es X.env:=by rfl) (c:(qeR pos (qbB es X.env)).any (·.1)=false:=by rfl):PE X (.Call (.Name x p) (e::es) [] pos) (tCB r t):=by
 intro a s d H Q I h;refine qeb (iY I hg hm m ?_ hn b);exact qjq (thn (i pos a s d H _ I h) λj s1 ⟨f,H1,I1,l,k⟩=>n a s1 d H1 f j Q I1 l k) g c
theorem cH (n:bb X (.type T) r) (hg:Gl X x) (hm:X.mg x=none) (m:qb9 x=some (.type T)) (i:PA X (e::es) t) (hn:x≠"__name__":=by decide) (b:(x==("__debug__" : Str))=false:=by decide)
  (g:qbB (e::es) X.env=(false,eval e X.env)::qbB es X.env:=by rfl) (c:(qeR pos (qbB es X.env)).any (·.1)=false:=by rfl):PE X (.Call (.Name x p) (e::es) [] pos) (tCB r t):=by
 intro a s d H Q I h;refine qeb (iY I hg hm m ?_ hn b);exact qb7 (thn (i pos a s d H _ I h) λj s1 ⟨f,H1,I1,l,k⟩=>n a s1 d H1 f j Q I1 l k) g c
end
end L2
namespace HT
open PySem PyProof.Rows
section
open PySem.SeqAt
open PySem.AutoSeq1 (wpAny_loadPart')
open PySem.MeetsSeq PySem.MeetsSeq2 PySem.MeetsSeq3
end
section
variable {prog:qaO}{w:World}{A:qa0}{E:Value->qak->Prop}{s:qak}
theorem cat_tup {t b:Addr}{l ws:List Value}{Q:Value->qak->Prop} (y:IsTup s.heap t l.toArray) (hb:IsTup s.heap b ws.toArray) (B:l≠[])
  (T:ws=[]->Q (.ref t) s) (V:ws≠[]->Q (.ref s.heap.objs.size) { s with heap:=s.heap.push { cls:=.type "tuple",data:=.seq (l++ws).toArray } })
  (G:l.length+ws.length<=qaG):wpAny (model prog w) A (qbE .Add (.ref t) (.ref b)) Q E s:=by
 obtain⟨⟨cls,O,data,g⟩,H,S,n,hd⟩:=id y;obtain⟨⟨P,C,data2,D⟩,f,L,R,K⟩:=id hb;subst S hd L K;have e:l.toArray++ws.toArray=(l++ws).toArray:=by simp
 by_cases hw:ws=[]
 ·exact qhA ⟨_,H,U⟩ ⟨_,f,U⟩ qgd qg7 qd8 qd1 (qdP _ _)
   (tuple_addW1 t b l.toArray ws.toArray n R O C g D (by simpa using B) (by simp[hw])) ⟨H,f,T hw⟩
 ·refine qhA ⟨_,H,U⟩ ⟨_,f,U⟩ qgd qg7 qd8 qd1 (qdP _ _)
   (tuple_addW2 t b l.toArray ws.toArray n R O C g D (by simpa using B) (by simpa using hw) (by exact G)) ⟨H,f,?_⟩
  rw[e];exact V hw
def sIx (n d:Nat):Option Int->Nat
 |none=>d
 |some v=>if v<0 then (v+(n:Int)).toNat else min v.toNat n
theorem sIx_none (n d:Nat):sIx n d none=d:=rfl
theorem sIx_nat (n d k:Nat):sIx n d (some (k:Int))=min k n:=by
 show (if (k)<0 then ((k)+(n:Int)).toNat else min (k:Int).toNat n)=min k n;rw[iFN (by lia),qa7]
theorem Gs (n d:Nat) (hd:d<=n) (o:Option Int):sIx n d o<=n:=by
 cases o with
 |none=>exact hd
 |some v=>
  show (if v<0 then (v+_).toNat else min v.toNat n)<=n;by_cases B:v<0
  ·lia
  ·rw[iFN B];exact Nat.min_le_right _ _
theorem vi (v:Int) (n d:Nat):(if v<0 then max (v+(n:Int)) 0 else min v (n:Int))=((sIx n d (some v):Nat):Int):=by
 show _=(((if v<0 then (v+_).toNat else min v.toNat n):Nat):Int);by_cases B:v<0
 ·lia
 ·lia
theorem ue (lo hi:Option Int) (n:Nat):qeV lo hi 1 (n:Int)=(((sIx n 0 lo:Nat):Int),((sIx n n hi:Nat):Int)):=by
 refine Prod.ext ?_ ?_
 ·cases lo with
  |none=>rfl
  |some v=>exact vi v n 0
 ·cases hi with
  |none=>rfl
  |some v=>exact vi v n n
theorem uT (i j:Nat):qcK (i:Int) (j:Int) 1=j - i:=by
 unfold qcK;split<;>lia
theorem nK {v:Value}{o:Option Int}{Q:Option Int->qak->Prop} (p:qga v o) (h:Q o s):wpAny (model prog w) A (qiG v) Q E s:=by
 cases p with
 |none=>exact qjU h
 |int i t=>exact slicePart_int h
theorem fk {g:Addr}{u z:Value}{lo hi:Option Int}{n:Nat}{Q:Int×Int×Nat->qak->Prop} (I:s.heap.IsSliceOf g u z .none) (M:qga u lo) (N:qga z hi)
  (h:Q (((sIx n 0 lo:Nat):Int),1,sIx n n hi - sIx n 0 lo) s):wpAny (model prog w) A (qiH (.ref g) (pure (n:Int))) Q E s:=by
 obtain⟨os,a,F,c⟩:=id I;refine qac (qac (qb4 a c (x:=u) U (qac (qb4 a c (x:=z) U (qac (qb4 a c U (qar ?_)))))));refine qac (qjU ?_);refine qac (nK M (qac (nK N (qac (qar ?_)))));show wpAny _ _ (match qeV lo hi 1 _ with|(lo,hi)=>pure (lo,_,qcK lo hi 1)) _ _ s
 rw[ue lo hi n];show wpAny _ _ (pure (_,_,qcK _ _ 1)) _ _ s;rw[uT];exact qar h
theorem zm (xs:Array Value) (i k:Nat):((qai k).filterMap λ(m:Nat)=>xs[((i:Int)+(m:Int)*1).toNat]?).toArray=((xs.toList.drop i).take k).toArray:=by
 have e:(λ(m:Nat)=>xs[((i)+(m:Int)*1).toNat]?)=λm=>xs[i+m]?:=by
  funext m
  have:((i)+(m:Int)*1).toNat=i+m:=by lia
  rw[this]
 rw[e]
 have:=pick_run xs i k
 rw[List.filterMap_map]at this;have e2:(_ ∘ λx=>i+x)=λm=>xs[i+m]?:=rfl;rw[e2]at this;rw[this]
theorem getItem_tuple_cut {t g:Addr}{items:Array Value}{u z:Value}{lo hi:Option Int}{Q:Value->qak->Prop} (y:IsTup s.heap t items) (I:s.heap.IsSliceOf g u z .none) (M:qga u lo) (N:qga z hi)
  (hw:¬ (sIx items.size 0 lo=0/\sIx items.size items.size hi=items.size))
  (h:Q (.ref s.heap.objs.size) { s with heap:=s.heap.push { cls:=.type "tuple",data:=.seq ((items.toList.drop (sIx items.size 0 lo)).take (sIx items.size items.size hi - sIx items.size 0 lo)).toArray } })
  (G:items.size<=qaG):wpAny (model prog w) A (qeQ (.ref t) (.ref g)) Q E s:=by
 have r:=by
  show ((items.toList.drop (sIx items.size 0 lo)).take (sIx items.size items.size hi - sIx items.size 0 lo)).toArray.size<=qaG;rw[qaC,qch,qfr,qc6];lia
 obtain⟨os,a,F,c⟩:=id I;unfold qeQ
 try with_reducible refine qcq ?_
 refine qac (qin y.typeIs (by decide) ?_)
 refine qac (qbK y.typeIs qbC
  (qbU qbC y.typeIs qhV ?_ (qia _ _)))
 show wpAny _ _ (qeL _ >>= _) _ _ s;refine qac (tupleItemsOf_ y ?_);refine qac (qhw ⟨os,a,F⟩ ?_);refine qac (fk I M N ?_);have J:¬ ((((sIx items.size 0 lo):Int)==0&&(1:Int)==1&&(sIx items.size items.size hi - sIx items.size 0 lo)==items.size)=true):=by
  intro q;exact hw ⟨by lia,by lia⟩
 show wpAny _ _ (if _=true then _ else _) _ _ s;rw[iFN J,zm]
 first
  |exact qac (qcE (qar ⟨_,rfl,qar h⟩) r)
  |exact qac _
  |exact qac _
  |exact qac _
end
end HT
namespace L2
open PySem PySem.Spec PyProof.Rows
abbrev TO:=St->Hp->(Option Int->Hp->Prop)->Prop
def PO (X:Cx) (e:Option Expr) (t:TO):Prop:=
 ∀ (a:List (Addr×Obj)) (s:qak) (b:St) (H:Hp) (Q:Option Int->Hp->Prop),Inv X a b H s->t b H Q->
  wpAny (model X.prog X.w) X.A (evalPart e X.env) (λu s'=>∃ o H',Inv X a b H' s'/\qga u o/\Q o H') X.xe s
def BR:TO:=λ_ H Q=>Q none H
def FO (t:TE):TO:=λa H Q=>t a H λx H1=>∃ i,x=.int i/\Q (some i) H1
theorem iU {ns:List Int}:∀ {a:List Value},aF (ns.map V.int) a->qdy a ns:=by
 induction ns with
 |nil=>intro a r;cases r;exact .nil
 |cons n ns d=>
  intro a r;cases r with
  |cons c b=>
   obtain⟨t,e⟩:=c;subst e;exact .cons n t (d b)
section
variable {X:Cx}{e:Expr}{te:TE}{lo hi:Option Expr}{tl B:TO}{pos F:Pos}
theorem Bo:PO X none BR:=by
 intro c s d H Q I h;exact qar ⟨none,H,I,.none,h⟩
theorem Bp (h:PE X e te):PO X (some e) (FO te):=by
 intro c s d H Q I hw;refine thn (h c s d H _ I hw) λu s1 ⟨x,H1,I1,g,n⟩=>?_;obtain⟨i,rfl,q⟩:=n;obtain⟨t,rfl⟩:=g;exact⟨_,H1,I1,.int i t,q⟩
def SlR (X:Cx) (r:V->Option Int->Option Int->Hp->VK->Prop):Prop:=
 ∀ (c:List (Addr×Obj)) (s:qak) (d:St) (H:Hp) (x:V) (v j m:Value) (lo hi:Option Int) (L:Addr) (Q:VK),Inv X c d H s->aK x v->s.heap.IsSliceOf L j m .none->qga j lo->qga m hi->r x lo hi H Q->
  ∃ T id,typeLookup (.type T) "__getitem__" = pure (some (.builtin id))/\s.TypeIs v T/\wpAny (model X.prog X.w) X.A (qeQ v (.ref L)) (EP X c d Q) X.xe s
def tSl (r:V->Option Int->Option Int->Hp->VK->Prop) (te:TE) (tl B:TO):TE:=λd H Q=>te d H λx H1=>tl d H1 λl H2=>B d H2 λu H3=>r x l u H3 Q
theorem tE {r:V->Option Int->Option Int->Hp->VK->Prop} (hr:SlR X r) (P:PE X e te) (hl:PO X lo tl) (Y:PO X hi B):PE X (.Subscript e (.Slice lo hi none F) pos) (tSl r te tl B):=by
 intro c s d H Q I h;refine qiw (thn (P c s d H _ I h) λv s1 ⟨x,H1,I1,g,n⟩=>?_);refine wpAny_Slice (thn (hl c s1 d H1 _ I1 n) λj W ⟨l,H2,I2,J,D⟩=>thn (Y c W d H2 _ I2 D) λm G ⟨u,H3,I3,M,R⟩=>?_);refine qar ?_;obtain⟨T,id,S,C,hg⟩:=hr c { G with heap:=G.heap.push { cls:=.type "slice",data:=.fields #[j,m,.none] } } d H3 x v j m l u G.heap.objs.size Q (I3.kept λb ob q=>qaj _ q) g (qig ..) J M R
 exact tail_any C S hg (by with_unfolding_all rfl)
def ul (xs:List V) (lo hi:Option Int):List V:=(xs.drop (HT.sIx xs.length 0 lo)).take (HT.sIx xs.length xs.length hi - HT.sIx xs.length 0 lo)
theorem kF (xs:List V) (lo hi:Option Int):(ul xs lo hi).length<=xs.length:=by
 unfold ul;rw[qch,qfr];lia
def Gq (K:qae):V->Option Int->Option Int->Hp->VK->Prop:=λx lo hi H Q=>∃ a xs,x=.ref a/\SqT K H a xs/\
 ¬ (HT.sIx xs.length 0 lo=0/\HT.sIx xs.length xs.length hi=xs.length)/\∀ p,H p=none->Q (.ref p) (upd H p (.tup (ul xs lo hi)))
theorem DY:SlR X (Gq X.K):=by
 intro c s d H x v j m lo hi L Q I E hs J M h;obtain⟨a,xs,rfl,hx,hw,q⟩:=h;cases E;obtain⟨o,r,C,hz⟩:=I.tuple hx;have f:o.toArray.size=xs.length:=by exact r.length.symm
 refine⟨"tuple",_,qbC.lookup,C.typeIs,?_⟩
 refine HT.getItem_tuple_cut C hs J M (by rw[f];exact hw) ?_ (by rw[f];exact hz);rw[f];refine⟨.ref s.heap.objs.size,_,I.laid (λb ob q=>qaj _ q) (qao _) ?_,U,q _ (I.hok.fresh (qao _))⟩;exact⟨qaH (kF xs lo hi) hz,_,(r.drop _).take _,d9.new _ _⟩
def Fo (K:qae):R2:=λx y H Q=>∃ a b xs k,x=.ref a/\y=.ref b/\SqT K H a xs/\SqT K H b k/\xs≠[]/\xs.length+k.length<=qaG/\
 (k=[]->Q (.ref a) H)/\(k≠[]->∀ p,H p=none->Q (.ref p) (upd H p (.tup (xs++k))))
theorem aF.nil_iff {xs:List V}{N:List Value} (r:aF xs N):N=[]↔xs=[]:=by
 cases r with
 |nil=>simp
 |cons _ _=>simp
theorem Bc:OpR X (qbE .Add) (Fo X.K):=by
 intro c s d H x y v u Q I E ry h;obtain⟨a,b,xs,k,rfl,rfl,ha,hb,hx,hz,n,D⟩:=h;cases E;cases ry;obtain⟨o,g,p1,_⟩:=I.tuple ha;obtain⟨O,A,F,_⟩:=I.tuple hb;refine HT.cat_tup p1 F (λz=>hx (g.nil_iff.mp z)) (λz=>⟨.ref a,H,I,U,n (A.nil_iff.mp z)⟩) (λz=>?_) (by rw[<-g.length,<-A.length];exact hz);refine⟨.ref s.heap.objs.size,_,I.laid (λb ob q=>qaj _ q) (qao _) ?_,U,D (λw=>z (A.nil_iff.mpr w)) _ (I.hok.fresh (qao _))⟩;exact⟨by rw[qaw];exact hz,_,g.append A,d9.new _ _⟩
end
def ixN (n:Nat) (i:Int):Option Nat:=if 0<=i then (if i<n then some i.toNat else none) else if -(n:Int)<=i then some (i+n).toNat else none
def atI {α:Type} (xs:List α) (i:Int):Option α:=(ixN xs.length i).bind λj=>xs[j]?
theorem lU {n:Nat}{i:Int}{j:Nat} (h:ixN n i=some j):qjA i n=some j/\j<n/\-(n:Int)<=i/\i<n:=by
 unfold ixN at h;by_cases b:0<=i
 ·rw[iFP b]at h
  by_cases a:i<n
  ·rw[iFP a]at h
   exact⟨by rw[qhR b a,(qaL h)],by lia,by lia,a⟩
  ·rw[iFN a]at h;cases h
 ·rw[iFN b]at h
  by_cases a:-(n)<=i
  ·rw[iFP a]at h
   exact⟨by rw[qhz (by lia) a,(qaL h)],by lia,a,by lia⟩
  ·rw[iFN a]at h;cases h
theorem oX {α:Type}{xs:List α}{i:Int}{v:α} (h:atI xs i=some v):∃ j,qjA i xs.length=some j/\xs[j]?=some v/\j<xs.length/\-(xs.length:Int)<=i/\i<xs.length:=by
 unfold atI at h;cases e:ixN xs.length i with
 |none=>rw[e]at h;cases h
 |some j=>
  rw[e]at h;obtain⟨a,b,c,d⟩:=lU e;exact⟨j,a,h,b,c,d⟩
theorem cK {α:Type}{xs:List α}{j:Nat}{v:α} (h:xs[j]?=some v):atI xs (j:Int)=some v:=by
 have a:=(qap.mp h).1;have e:ixN xs.length (j)=some j:=by
  unfold ixN;rw[iFP (by lia),iFP (by lia)];simp
 unfold atI;rw[e];exact h
theorem ya {α:Type} (xs:List α) (v:α):atI (xs++[v]) (-1)=some v:=by
 have a:(xs++[v]).length=xs.length+1:=by simp
 have e:ixN (xs++[v]).length (-1)=some xs.length:=by
  unfold ixN;rw[iFN (by decide),iFP (by lia)]
  congr 1
  lia
 unfold atI;rw[e]
 simp
def vf (b:Expr):Prop:=∀ o i,qgp b false o i=operate [o,i] (qeQ o i)
def IxR (X:Cx) (r:R2):Prop:=
 ∀ (c a:Expr) (b:List (Addr×Obj)) (s:qak) (d:St) (H:Hp) (x y:V) (v u:Value) (Q:VK),Inv X b d H s->aK x v->aK y u->r x y H Q->
  qgp a false v u=operate [v,u] (qeQ v u)->wpAny (model X.prog X.w) X.A (subscriptTail c a v u) (EP X b d Q) X.xe s
def MtR (X:Cx) (id:String) (r:V->List V->Hp->VK->Prop):Prop:=
 ∀ (a:List (Addr×Obj)) (s:qak) (c:St) (H:Hp) (x:V) (xs:List V) (v:Value) (b:List Value) (Q:VK),Inv X a c H s->aK x v->aF xs b->r x xs H Q->
  wpAny (model X.prog X.w) X.A (call (.builtin id) (v::b)) (EP X a c Q) X.xe s
section
variable {X:Cx}{a b:Expr}{ta tb:TE}{pos:Pos}
theorem IxR.or {r M:R2} (h:IxR X r) (h':IxR X M):IxR X (λx y H Q=>r x y H Q\/M x y H Q):=by
 intro G J g s C H x y v u Q I m N q R;rcases q with q|q
 ·exact h G J g s C H x y v u Q I m N q R
 ·exact h' G J g s C H x y v u Q I m N q R
theorem ze {r:R2} (hr:IxR X r) (ha:PE X a ta) (hb:PE X b tb) (R:vf b):PE X (.Subscript a b pos) (tOp r ta tb):=by
 intro g s C H Q I h;exact qiw (CK ha hb I h λv u s2 x y H2 I2 m N q=>hr a b g s2 C H2 x y v u Q I2 m N q (R _ _))
def Fs (K:qae):R2:=λx y H Q=>∃ p xs i v,x=.ref p/\y=.int i/\SqL K H p xs/\atI xs i=some v/\Q v H
def Fu (K:qae):R2:=λx y H Q=>∃ p xs i v,x=.ref p/\y=.int i/\SqT K H p xs/\atI xs i=some v/\Q v H
def Ft:R2:=λx y H Q=>∃ z i c,x=.str z/\y=.int i/\z.length<=qaG/\atI z.cps.toList i=some c/\Q (.str ⟨#[c]⟩) H
theorem AN:IxR X (Fs X.K):=by
 intro G J g s C H x y v u Q I m N h R;obtain⟨p,xs,i,z,rfl,rfl,B,he,q⟩:=h;cases m;obtain⟨t,rfl⟩:=N;obtain⟨d,r,D,hz⟩:=I.list B;obtain⟨j,O,h2,h3,h4,h5⟩:=oX he;obtain⟨w,ew,rw'⟩:=r.get h2;have hl:=r.length;have hn:=ki;have fin:EP X g C Q w s:=⟨z,H,I,rw',q⟩;by_cases h0:0<=i
 ·have hj:=by
   rw[qhR h0 h5]at O;exact qaL O
  exact item_listR D.isList h0 (by lia) (by rw[hj];simpa using ew) fin R
 ·have hj:(i+(d.toArray.size)).toNat=j:=by
   rw[qhz (by lia) h4]at O;rw[qaC,<-hl];exact qaL O
  exact qhl D.isList.typeIs qiq.lookup
   (wpAny_getItem_list_neg D.isList (by lia) (by rw[qaC]<;>lia) (by lia) (by rw[hj];simpa using ew) ⟨U,fin⟩) R
theorem C9:IxR X (Fu X.K):=by
 intro G J g s C H x y v u Q I m N h R;obtain⟨p,xs,i,z,rfl,rfl,B,he,q⟩:=h;cases m;obtain⟨t,rfl⟩:=N;obtain⟨d,r,D,hz⟩:=I.tuple B;obtain⟨j,O,h2,h3,h4,h5⟩:=oX he;obtain⟨w,ew,rw'⟩:=r.get h2;have hn:=ki;exact qhl D.typeIs slot_tuple_getitem.lookup
  (getItem_tuple D (by lia) (by lia) (by rw[qaC,<-r.length];exact O) (by simpa using ew) ⟨U,⟨z,H,I,rw',q⟩⟩) R
theorem C8:IxR X Ft:=by
 intro G J g s C H x y v u Q I m N h R;obtain⟨z,i,c,rfl,rfl,hz,he,q⟩:=h;obtain⟨t,rfl⟩:=m;obtain⟨t',rfl⟩:=N;obtain⟨j,O,h2,h3,h4,h5⟩:=oX he;have hl:z.cps.toList.length=z.length:=by simp[Str.length]
 rw[hl]at O h4 h5;have hn:=ki
 exact tail_any (typeIs_str s z t) slot_str_getitem.lookup (getItem_str (by
  rw[(decide_eq_false (by lia)),(decide_eq_false (by lia)),Bool.or_false]) (by rw[O];simpa using h2) ⟨.str _,H,I.tok _,⟨_,U⟩,q⟩) R
def rIx (K:qae):R2:=λx y H Q=>Fs K x y H Q\/Fu K x y H Q\/Ft x y H Q
theorem qt:IxR X (rIx X.K):=AN.or (C9.or C8)
theorem uQ (d:List Value) (n j:Nat) (u:Value):qcy (·.setIfInBounds j u) { cls:=.type "list",data:=.seq d.toArray n }={ cls:=.type "list",data:=.seq (d.set j u).toArray n }:=by
 simp[qcy]
theorem Inv.lst {g:List (Addr×Obj)}{C:St}{H:Hp}{s:qak}{p:Addr}{xs:List V} (I:Inv X g C H s) (h:H p=some (.lst xs)) :
  ∃ (d:List Value) (n:Nat),aF xs d/\s.heap.get? p=some { cls:=.type "list",data:=.seq d.toArray n }/\xs.length<=qaG:=by
 obtain⟨z,d,n,r,e⟩:=I.hok p _ h;exact⟨d,n,r,e,z⟩
theorem Inv.lstUpd {g:List (Addr×Obj)}{C:St}{H:Hp}{s:qak}{p:Addr}{xs F:List V}{d its':List Value}{n n':Nat}{f:Obj->Obj} (I:Inv X g C H s) (h:H p=some (.lst xs))
  (ho:s.heap.get? p=some { cls:=.type "list",data:=.seq d.toArray n }) (hf:f { cls:=.type "list",data:=.seq d.toArray n }={ cls:=.type "list",data:=.seq its'.toArray n' }) (r:aF F its') (hz:F.length<=qaG) (t:Nat) :
  Inv X g C (upd H p (.lst F)) { s with heap:=s.heap.update p f,toks:=t }:=by
 have e:(s.heap.update p f).get? p=some { cls:=.type "list",data:=.seq its'.toArray n' }:=by
  rw[qes f ho (by rw[hf]<;>rfl),hf]
 refine I.write (by rw[h];trivial) (.inl U) (λb u hb q=>(qds _ _ (qbD hb)).trans q) ⟨_,e⟩ ?_;exact⟨hz,its',n',r,e⟩
def Fx:V->V->V->Hp->(Hp->Prop)->Prop:=λo i v H Q=>∃ p xs k j,o=.ref p/\i=.int k/\H p=some (.lst xs)/\ixN xs.length k=some j/\Q (upd H p (.lst (xs.set j v)))
theorem jR:El X Fx:=by
 intro g s C H o i v ov iv u Q I ro ri rv h;obtain⟨p,xs,k,j,rfl,rfl,hp,hj,q⟩:=h;cases ro;obtain⟨t,rfl⟩:=ri;obtain⟨d,n,r,ho,hz⟩:=I.lst hp;obtain⟨O,h2,h3,h4⟩:=lU hj;have hl:=r.length;have hn:=ki;have I':=
  I.lstUpd hp ho (uQ d n j u) (r.set rv j) (by rw[qb2];exact hz) s.toks
 by_cases h0:0<=k
 ·have Y:=by
   rw[qhR h0 h4]at O;exact qaL O
  exact PySem.W.ki_setAt ho h0 (by lia) (by rw[qaC,<-hl];exact h4) (by rw[Y];exact⟨_,I',q⟩)
 ·have Y:(k+(d.toArray.size)).toNat=j:=by
   rw[qhz (by lia) h3]at O;rw[qaC,<-hl];exact qaL O
  exact PySem.W.ki_setBack ho (by lia) (by rw[qaC,<-hl];exact h3) (by lia) (by rw[Y];exact⟨_,I',q⟩)
theorem q9 (lo hi:Option Int) (n:Nat):(qdY lo hi none n).1=((HT.sIx n 0 lo:Nat):Int)/\(qdY lo hi none n).2.1=((HT.sIx n n hi:Nat):Int)/\(qdY lo hi none n).2.2=1:=by
 refine⟨?_,?_,U⟩
 ·cases lo with
  |none=>simp[qdY,HT.sIx]
  |some i=>
   simp only[qdY,HT.sIx,qhe,show (1:Int) > 0 by decide,if_true];by_cases h:i<0
   ·simp only[h,if_true]<;>lia
   ·simp only[h,if_false]<;>lia
 ·cases hi with
  |none=>simp[qdY,HT.sIx]
  |some i=>
   simp only[qdY,HT.sIx,qhe,show (1:Int) > 0 by decide,if_true];by_cases h:i<0
   ·simp only[h,if_true]<;>lia
   ·simp only[h,if_false]<;>lia
theorem om (d:List Value) (lo hi:Option Int):slicePick d.toArray lo hi none=((d.drop (HT.sIx d.length 0 lo)).take (HT.sIx d.length d.length hi - HT.sIx d.length 0 lo)).toArray:=by
 obtain⟨O,h2,h3⟩:=q9 lo hi d.toArray.size;unfold slicePick;rw[O,h2,h3];simp only[sliceRange_one,pick_run,qaC]<;>rfl
def Gp (K:qae):V->Option Int->Option Int->Hp->VK->Prop:=λx lo hi H Q=>∃ a xs,x=.ref a/\SqL K H a xs/\∀ p,H p=none->Q (.ref p) (upd H p (.lst (ul xs lo hi)))
theorem BL:SlR X (Gp X.K):=by
 intro g s C H x v vl vu lo hi sl Q I m R D pu h;obtain⟨a,xs,rfl,hx,q⟩:=h;cases m;obtain⟨d,r,ht,hz⟩:=I.list hx;have E:=r.length;refine⟨"list",_,qiq.lookup,ht.isList.typeIs,?_⟩
 refine wpAny_getItem_list_slice ht.isList R D pu .none (by simp) ?_ (by rw[qaC]<;>lia);rw[om,<-E];refine⟨.ref s.heap.objs.size,_,I.laid (λb ob q=>qaj _ q) (qao _) ?_,U,q _ (I.hok.fresh (qao _))⟩;exact⟨qaH (kF xs lo hi) hz,_,0,(r.drop _).take _,qax _ U⟩
def dO:V->Bool
 |.non=>true
 |.bl _=>true
 |.int _=>true
 |.str _=>true
 |_=>false
def eqV:V->V->Bool
 |.non,.non=>true
 |.bl a,.bl b=>a==b
 |.bl a,.int b=>(if a then 1 else 0)==b
 |.int a,.bl b=>a==(if b then 1 else 0)
 |.int a,.int b=>a==b
 |.str a,.str b=>a==b
 |_,_=>false
theorem uq {A:qa0}{s:qak}{y x:V}{u v:Value} (N:aK y u) (m:aK x v) (fy:dO y=true) (W:dO x=true):qdZ A s u v (eqV y x):=by
 cases y with
 |non=>
  cases N;cases x with
  |non=>cases m;exact qeY _
  |bl b=>cases m;exact qkN b
  |int b=>obtain⟨t,rfl⟩:=m;exact qkM b t
  |str b=>obtain⟨t,rfl⟩:=m;exact qkK b t
  |_=>exact absurd (W) qaU
 |bl a=>
  cases N;cases x with
  |non=>cases m;exact qk0 a
  |bl b=>cases m;exact qk3 a b
  |int b=>obtain⟨t,rfl⟩:=m;exact qk2 a b t
  |str b=>obtain⟨t,rfl⟩:=m;exact qkZ a b t
  |_=>exact absurd (W) qaU
 |int a=>
  obtain⟨t',rfl⟩:=N;cases x with
  |non=>cases m;exact qkU a t'
  |bl b=>cases m;exact qkX a t' b
  |int b=>obtain⟨t,rfl⟩:=m;exact qkW a t' b t
  |str b=>obtain⟨t,rfl⟩:=m;exact qgg a t' b t
  |_=>exact absurd (W) qaU
 |str a=>
  obtain⟨t',rfl⟩:=N;cases x with
  |non=>cases m;exact qkG a t'
  |bl b=>cases m;exact qkI a t' b
  |int b=>obtain⟨t,rfl⟩:=m;exact qgf a t' b t
  |str b=>obtain⟨t,rfl⟩:=m;exact qge a t' b t
  |_=>exact absurd (W) qaU
 |_=>exact absurd (fy) qaU
def eqU (x:V) (u:Value):Bool:=match u with
 |.none=>eqV .non x
 |.bool b=>eqV (.bl b) x
 |.int i _=>eqV (.int i) x
 |.str z _=>eqV (.str z) x
 |_=>false
theorem yp {x y:V}{u:Value} (r:aK y u) (f:dO y=true):eqU x u=eqV y x:=by
 cases y with
 |non=>cases r;rfl
 |bl b=>cases r;rfl
 |int i=>obtain⟨t,rfl⟩:=r;rfl
 |str z=>obtain⟨t,rfl⟩:=r;rfl
 |_=>exact absurd (f) qaU
theorem jd {x:V}:∀ {xs:List V}{P:List Value},aF xs P->xs.all dO=true->P.any (eqU x)=xs.any λy=>eqV y x
 |_,_,.nil,_=>rfl
 |y::xs,u::P,.cons r t,f=>by
  rw[qbu,qaX]at f;rw[qcc,qcc,yp r f.1,jd t f.2]
theorem gA {A:qa0}{s:qak}{x:V}{v:Value} (m:aK x v) (W:dO x=true):∀ {xs:List V}{P:List Value},aF xs P->xs.all dO=true->∀ u∈P,qdZ A s u v (eqU x u)
 |_,_,.nil,_=>λu hu=>by cases hu
 |y::xs,u::P,.cons r t,f=>λu' hu=>by
  rw[qbu,qaX]at f;rcases qaz.mp hu with rfl|hu
  ·rw[yp r f.1];exact uq r m f.1 W
  ·exact gA m W t f.2 u' hu
def inV (x:V) (xs:List V):Bool:=xs.any λy=>eqV y x
def rIn (K:qae) (neg:Bool):R2:=λx y H Q=>∃ p xs,y=.ref p/\(SqL K H p xs\/SqT K H p xs)/\dO x=true/\xs.all dO=true/\Q (.bl (if neg then !inV x xs else inV x xs)) H
theorem xH:OpR X (qbV .In) (rIn X.K false):=by
 intro g s C H x y v u Q I m N h;obtain⟨p,xs,rfl,B,W,fs,q⟩:=h;cases N;rcases B with B|B
 ·obtain⟨d,r,D,hz⟩:=I.list B
  refine SeqAt.in_listAt _ D.isList (λw hw=>gA m W r fs w (by simpa using hw)) ⟨.bl _,H,I,U,?_⟩;rw[show d.toArray.any _=d.any (eqU x) by simp,jd r fs];exact q
 ·obtain⟨d,r,D,hz⟩:=I.tuple B
  refine SeqAt.in_tupleAt _ D (λw hw=>gA m W r fs w (by simpa using hw)) ⟨.bl _,H,I,U,?_⟩;rw[show d.toArray.any _=d.any (eqU x) by simp,jd r fs];exact q
theorem qO:OpR X (qbV .NotIn) (rIn X.K true):=by
 intro g s C H x y v u Q I m N h;obtain⟨p,xs,rfl,B,W,fs,q⟩:=h;cases N;rcases B with B|B
 ·obtain⟨d,r,D,hz⟩:=I.list B
  refine SeqAt.notIn_listAt _ D.isList (λw hw=>gA m W r fs w (by simpa using hw)) ⟨.bl _,H,I,U,?_⟩;rw[show d.toArray.any _=d.any (eqU x) by simp,jd r fs];exact q
 ·obtain⟨d,r,D,hz⟩:=I.tuple B
  refine SeqAt.notIn_tupleAt _ D (λw hw=>gA m W r fs w (by simpa using hw)) ⟨.bl _,H,I,U,?_⟩;rw[show d.toArray.any _=d.any (eqU x) by simp,jd r fs];exact q
theorem pd:bb X (.builtin "len") (λxs H Q=>∃ p F,xs=[.ref p]/\(SqL X.K H p F\/SqT X.K H p F)/\Q (.int F.length) H):=by
 intro g s C H xs P Q I r h;obtain⟨p,F,rfl,B,q⟩:=h;obtain⟨u,rfl,m⟩:=gL r;cases m;have hn:=ki;rcases B with B|B
 ·obtain⟨d,M,D,hz⟩:=I.list B
  have E:=M.length;exact Calls.call_len_list D.isList (by simp only[qaC]<;>lia) ⟨.int F.length,H,I.tok _,⟨_,by rw[qaC,E]⟩,q⟩
 ·obtain⟨d,M,D,hz⟩:=I.tuple B
  have E:=M.length;exact len_tuple D (by simp only[qaC]<;>lia) ⟨.int F.length,H,I.tok _,⟨_,by rw[qaC,E]⟩,q⟩
theorem pe:bb X (.builtin "len") (λxs H Q=>∃ z,xs=[.str z]/\z.length<=qaG/\Q (.int z.length) H):=by
 intro g s C H xs P Q I r h;obtain⟨z,rfl,hz,q⟩:=h;obtain⟨u,rfl,t,rfl⟩:=gL r;have hn:=ki;exact len_str (by lia) ⟨.int z.length,H,I.tok _,⟨_,U⟩,q⟩
theorem bb.or {f:Value}{r M:List V->Hp->VK->Prop} (h:bb X f r) (h':bb X f M):bb X f (λxs H Q=>r xs H Q\/M xs H Q):=by
 intro g s C H xs P Q I rs q;rcases q with q|q
 ·exact h g s C H xs P Q I rs q
 ·exact h' g s C H xs P Q I rs q
theorem pf:bb X (.type "list") (λxs H Q=>∃ p F,xs=[.ref p]/\(SqL X.K H p F\/SqT X.K H p F)/\∀ l,H l=none->Q (.ref l) (upd H l (.lst F))):=by
 intro g s C H xs P Q I r h;obtain⟨p,F,rfl,B,q⟩:=h;obtain⟨u,rfl,m⟩:=gL r;cases m;have fin:∀ (d:List Value),aF F d->F.length<=qaG->∀ (h':Heap) (c':Nat),_->
   h'.get? s.heap.objs.size=some { cls:=.type "list",dict:=none,data:=.seq d.toArray c',slots:=#[] }->EP X g C Q _ { s with heap:=h' }:=λd M hz h' c' kp e=>
  ⟨.ref s.heap.objs.size,_,I.laid kp (qao _) (show bZ X.prog X.w _ h' _ (.lst F) from ⟨hz,d,c',M,e⟩),U,q _ (I.hok.fresh (qao _))⟩
 rcases B with B|B
 ·obtain⟨d,M,D,hz⟩:=I.list B
  have E:=M.length;obtain⟨o,ho,hc,n,hd⟩:=D.isList;exact call_list_seq p (.inl U) ho hc hd (λh' c' kp e=>fin d M hz h' c' kp e) (by simp only[qaC]<;>lia)
 ·obtain⟨d,M,D,hz⟩:=I.tuple B
  have E:=M.length;obtain⟨o,ho,hc,n,hd⟩:=D;exact call_list_seq p (.inr U) ho hc hd (λh' c' kp e=>fin d M hz h' c' kp e) (by simp only[qaC]<;>lia)
theorem n8:bb X (.type "tuple") (λxs H Q=>∃ p F,xs=[.ref p]/\((SqL X.K H p F/\∀ l,H l=none->Q (.ref l) (upd H l (.tup F)))\/(SqT X.K H p F/\Q (.ref p) H))):=by
 intro g s C H xs P Q I r h;obtain⟨p,F,rfl,h⟩:=h;obtain⟨u,rfl,m⟩:=gL r;cases m;rcases h with⟨B,q⟩|⟨B,q⟩
 ·obtain⟨d,M,D,hz⟩:=I.list B
  have E:=M.length;refine call_tuple_list D.isList (λh' kp=>?_) (by simp only[qaC]<;>lia);have I1:=I.kept (t':=s.toks) kp;exact⟨.ref h'.objs.size,_,(I1.laid (λb o e=>qaj _ e) (qao _) (show bZ X.prog X.w _ _ _ (.tup F) from ⟨hz,d,M,d9.new _ _⟩)),U,q _ (I1.hok.fresh (qao _))⟩
 ·obtain⟨d,M,D,hz⟩:=I.tuple B
  exact call_tuple_same D ⟨.ref p,H,I,U,q⟩
def tyV (K:qae) (T:String) (x:V) (H:Hp):Prop:=match x with
 |.str _=>T = "str"
 |.int _=>T = "int"
 |.ref p=>(T = "list"/\∃ xs,SqL K H p xs)\/(T = "tuple"/\((∃ o,K.lookup p=some o/\o.cls=.type "tuple"/\o.dict=none)\/∃ xs,SqT K H p xs))\/
   (T = "dict"/\((∃ kvs,H p=some (.dK kvs))\/∃ kvs,H p=some (.dT kvs)))\/(T = "set"/\∃ S n,H p=some (.set S n))
 |_=>False
theorem Ec {g:List (Addr×Obj)}{C:St}{H:Hp}{s:qak}{T:String}{x:V}{v:Value} (I:Inv X g C H s) (r:aK x v) (ty:tyV X.K T x H) :
  s.TypeIs v T/\∀ a,v=.ref a->∃ ob,s.heap.get? a=some ob/\ob.dict=none:=by
 cases x with
 |str z=>
  obtain⟨t,rfl⟩:=r;cases (ty);exact⟨typeIs_str s z t,λ_ e=>nomatch e⟩
 |int i=>
  obtain⟨t,rfl⟩:=r;cases (ty);exact⟨qeW s i t,λ_ e=>nomatch e⟩
 |ref p=>
  cases r;rcases ty with⟨rfl,xs,B⟩|⟨rfl,ht⟩|⟨rfl,Y⟩|⟨rfl,S,n,Y⟩
  ·obtain⟨d,_,D,_⟩:=I.list B
   refine⟨D.isList.typeIs,λa e=>?_⟩;cases e;obtain⟨o,n,e,c,hd,_⟩:=D;exact⟨o,e,hd⟩
  ·have z:∃ o:Obj,s.heap.get? p=some o/\o.cls=.type "tuple"/\o.dict=none:=by
    rcases ht with⟨o,Y,hc,hd⟩|⟨xs,B⟩
    ·exact⟨o,I.kIn p o Y,hc,hd⟩
    ·exact I.tuple1 B
   obtain⟨o,e1,hc,hd⟩:=z;refine⟨⟨o,e1,hc⟩,λa e=>?_⟩;cases e;exact⟨o,e1,hd⟩
  ·have z:∃ o,s.heap.get? p=some o/\o.ExactDict:=by
    rcases Y with⟨kvs,Y⟩|⟨kvs,Y⟩
    ·obtain⟨_,_,_,_,o,_,_,e,ex,_⟩:=I.hok p _ Y
     exact⟨o,e,ex⟩
    ·obtain⟨_,_,_,_,o,_,_,e,ex,_⟩:=I.hok p _ Y
     exact⟨o,e,ex⟩
   obtain⟨o,e,ex⟩:=z;refine⟨⟨o,e,ex.1⟩,λa e2=>?_⟩;cases e2;exact⟨o,e,ex.2.1⟩
  ·obtain⟨o,_,_,_,e,ex,_⟩:=I.hok p _ Y
   refine⟨⟨o,e,ex.1⟩,λa e2=>?_⟩;cases e2;exact⟨o,e,ex.2.1⟩
 |_=>exact qcv ty
def tBM (K:qae) (T:String) (r:V->List V->Hp->VK->Prop) (to:TE) (t:TA):TE:=λC H Q=>to C H λx H1=>tyV K T x H1/\t C H1 λxs H2=>r x xs H2 Q
variable {o e:Expr}{es:List Expr}{to:TE}{t:TA}{name:Str}{apos L:Pos}{T id:String}{r:V->List V->Hp->VK->Prop}
theorem zc (pa:PlainAttrs T) (slot:Slot T name id) (hty:typeOf (.builtin id)=pure (.type "method_descriptor")) (hm:MtR X id r) (ho:PE X o to) (ha:PA X (e::es) t)
  (hbase:qct o name X.env (eval o X.env)=eval o X.env:=by rfl)
  (hfew:((qeR L (qbB (e::es) X.env)).all (λx=>!x.1) && (qh9 L (qgs [] X.env)).all (λx=>x.1.isSome)
    && decide ((e::es).length+([]:List qhZ).length+(if ([]:List qhZ).isEmpty then 0 else 1)<30))=true:=by rfl)
  (hline:(apos.endLine==L.line)=true:=by rfl) (R:qbB (e::es) X.env=(false,eval e X.env)::qbB es X.env:=by rfl) (hplain:(qeR L (qbB es X.env)).any (·.1)=false:=by rfl) :
  PE X (.Call (.Attribute o name apos) (e::es) [] L) (tBM X.K T r to t):=by
 intro g s C H Q I h;refine wpAny_Call_method_late hbase hfew hline U (thn (ho g s C H _ I h) λv s1 ⟨x,H1,I1,r1,ty,q1⟩=>?_);obtain⟨O,h2⟩:=Ec I1 r1 ty;refine⟨T,id,pa,slot,hty,O,h2,?_⟩;have hA:=ha L g s1 C H1 _ I1 q1;rw[R]at hA ⊢;refine Calls.callWith_builtin (by show (false||(qeR L _).any _)=false;rw[hplain]<;>rfl) (Calls.evalArgs_plain ?_);exact thn hA λP s2 ⟨vs,H2,I2,r2,q2⟩=>hm g s2 C H2 x vs v P Q I2 r1 r2 q2
end
def MtM (X:Cx) (id:String) (r:V->List V->Hp->VK->Prop):Prop:=
 ∀ (a:List (Addr×Obj)) (s:qak) (c:St) (H:Hp) (x:V) (xs:List V) (v:Value) (b:List Value) (Q:VK),Inv X a c H s->aK x v->aF xs b->r x xs H Q->
  wpAny (model X.prog X.w) X.A (call (.builtin id) (v::b)) (EP X a c Q) X.xe s
theorem aF.one {x:V}{a:List Value} (h:aF [x] a):∃ u,a=[u]/\aK x u:=by
 cases h with
 |cons r t=>cases t;exact⟨_,U,r⟩
theorem aF.two {x y:V}{a:List Value} (h:aF [x,y] a):∃ u v,a=[u,v]/\aK x u/\aK y v:=by
 cases h with
 |cons r t=>cases t with
  |cons q t2=>cases t2;exact⟨_,_,U,r,q⟩
theorem aF.eraseIdx:∀ {xs:List V}{a:List Value} (i:Nat),aF xs a->aF (xs.eraseIdx i) (a.eraseIdx i)
 |_,_,_,.nil=>.nil
 |_,_,0,.cons _ t=>t
 |_,_,i+1,.cons r t=>.cons r (aF.eraseIdx i t)
theorem aF.rep {xs:List V}{a:List Value} (h:aF xs a):∀ k:Nat,aF (qaD k xs).flatten (qaD k a).flatten
 |0=>.nil
 |k+1=>by
  exact aF.append h (aF.rep h k)
theorem oN {α:Type}:∀ (l:List α) (i:Nat),(l.eraseIdx i).length<=l.length
 |[],_=>qao _
 |_::_,0=>qcF _
 |_::r,i+1=>Nat.succ_le_succ (oN r i)
theorem j5 (a:List Value):∀ (k:Nat) (acc:List Value),
  qjO (λx1 b=>x1++b) acc.toArray (qaD k a.toArray)=(acc++(qaD k a).flatten).toArray
 |0,acc=>by simp
 |k+1,acc=>by
  have e:acc.toArray++a.toArray=(acc++a).toArray:=by simp
  have e2:(acc++a)++(qaD k a).flatten=acc++(qaD (k+1) a).flatten:=by
   rw[qc7,qfc,qbJ]
  rw[<-e2,<-j5 a k _,<-e,qc7,List.foldl_cons]
section
variable {X:Cx}{c:List (Addr×Obj)}{d:St}{H:Hp}{s:qak}{l b:Addr}{xs g o:List V}
theorem Inv.lset {a its':List Value}{n:Nat}{f:Array Value->Array Value}{t':Nat} (I:Inv X c d H s) (i:H l=some (.lst xs))
  (e:s.heap.get? l=some { cls:=.type "list",data:=.seq a.toArray n }) (m:f a.toArray=its'.toArray) (j:aF g its') (hz:g.length<=qaG) :
  Inv X c d (upd H l (.lst g)) { s with heap:=s.heap.update l (qcy f),toks:=t' }:=by
 have q:=qeT e f;rw[m]at q;refine I.write (by rw[i];exact trivial) (.inl U) (λp u hb k=>(qds s.heap _ (qbD hb)).trans k) ⟨_,q⟩ ?_;exact⟨hz,its',_,j,q⟩
theorem Inv.lnew {a:List Value}{t':Nat} (I:Inv X c d H s) (j:aF g a) (hz:g.length<=qaG) :
  Inv X c d (upd H s.heap.objs.size (.lst g)) { s with heap:=s.heap.push { cls:=.type "list",data:=.seq a.toArray },toks:=t' }:=
 I.laid (λ_ _ q=>qaj _ q) (qao _) ⟨hz,a,0,j,qax _ U⟩
theorem Inv.fresh (I:Inv X c d H s):H s.heap.objs.size=none:=I.hok.fresh (qao _)
theorem Inv.lstM (I:Inv X c d H s) (i:H l=some (.lst xs)):xs.length<=qaG/\∃ (a:List Value) (n:Nat),aF xs a/\xs.length=a.length/\s.heap.get? l=some { cls:=.type "list",data:=.seq a.toArray n }:=by
 obtain⟨z,a,n,r,e⟩:=I.hok l _ i;exact⟨z,a,n,r,r.length,e⟩
theorem tm {n:Nat} (h:n<=qaG):qcR n=false:=by
 exact decide_eq_false (by lia)
end
section
variable {X:Cx}
def Bz:V->List V->Hp->VK->Prop:=λx b H Q=>∃ l xs y,x=.ref l/\b=[y]/\H l=some (.lst xs)/\xs.length<qaG/\Q .non (upd H l (.lst (xs++[y])))
theorem xF:MtM X "list.append" Bz:=by
 intro d s D H x b v p Q I g j h;obtain⟨l,xs,y,rfl,rfl,c,hz,q⟩:=h;cases g;obtain⟨u,rfl,m⟩:=j.one;obtain⟨z,a,n,r,o,e⟩:=I.lstM c;refine qco qfm ⟨_,e,U⟩ qe7 (qeU _ _) (qe4 l a.toArray n u (by rw[qaC];lia)) ⟨e,?_⟩;refine⟨.non,_,I.lset c e (by simp) (r.append (.cons m .nil)) ?_,U,q⟩;rw[qaw,qb1];lia
def DQ:V->List V->Hp->VK->Prop:=λx b H Q=>∃ l xs i k y,x=.ref l/\b=[.int i]/\H l=some (.lst xs)/\-(2^63)<=i/\i<2^63/\qjA i xs.length=some k/\xs[k]?=some y/\Q y (upd H l (.lst (xs.eraseIdx k)))
theorem yX:MtM X "list.pop" DQ:=by
 intro d s D H x b v p Q I g j h;obtain⟨l,xs,i,k,y,rfl,rfl,c,A,E,G,B,q⟩:=h;cases g;obtain⟨u,rfl,m⟩:=j.one;obtain⟨t,rfl⟩:=m;obtain⟨z,a,n,r,o,e⟩:=I.lstM c;obtain⟨w,hw,f⟩:=r.get B;refine qco F.slot_list_pop ⟨_,e,U⟩ F.entry_list_pop (F.args_list_pop_2 _ _)
  (MeetsSeq.list_pop_at l a.toArray n i t k w (qjY A E) (by rw[qaC,<-o];exact G) (by rw[<-qeo];exact hw) (by rw[qaC];lia)) ⟨e,?_⟩
 refine⟨y,_,I.lset c e ?_ (r.eraseIdx k) ?_,f,q⟩
 ·rw[List.eraseIdxIfInBounds_toArray]
 ·have:=oN xs k
  lia
theorem qy {α:Type} (xs:List α) (k:Nat):(qaD k xs).flatten.length=k*xs.length:=by
 induction k with
 |zero=>simp
 |succ k C=>rw[qc7,qfc,qaw,C,Nat.succ_mul,qgM]
end
section
variable {prog:qaO}{w:World}{A:qa0}{E:Value->qak->Prop}{s:qak}
end
section
variable {X:Cx}
end
end L2
namespace Att
open PySem PySem.W PySem.Calls PyProof.Rows
theorem li {P:Params}{h:Heap}:∀ (ns:List Int) (c:List Value),WellAll P h c (ns.map WData.int)->qdy c ns:=by
 intro ns
 induction ns with
 |nil=>
  intro c w;cases w;exact .nil
 |cons n ns d=>
  intro c w;cases w with
  |cons a b=>
   cases a;exact .cons _ _ (d _ b)
theorem xN {l:OpenLaw}{n:Nat} (hn:l.most=some n) {P:Params}{h:Heap}{args:List WData}{b:List Value}
  (c:l.row.toRowW.claim.pre args=true) (i:WellAll P h b args) :
  ∃ a j ns,b=[Value.ref a]/\args=[WData.list (ns.map WData.int)]/\h.get? a=some { cls:=.type "list",data:=.seq j.toArray }/\qdy j ns/\ns.length<=n:=by
 obtain⟨d,r,rfl,p,q⟩:=hasAllW_cons ((pre_splitW c).1);obtain rfl:=hasAllW_nil q;obtain⟨xs,rfl,s⟩:=hasW_list p;obtain⟨ns,rfl⟩:=items_int s;have f:ns.length<=n:=by
  have g:=by
   have g:=(holds_andW ((pre_splitW c).2)).1;rw[hn]at g;exact g
  have k:=condW_of g (w_not (w_lt w_lit (w_len_list (w_arg U))))
  first
   |(exact absurd k _)
   |(simp at k;lia)
 cases i with
 |cons o w2=>
  cases w2;cases o with
  |list m e=>exact⟨_,_,ns,U,U,m,li ns _ e,f⟩
theorem xK (l:OpenLaw) (args:List WData):l.row.toRowW.claim.post args (.bool true) args=true:=
 postW_of
  (show qiu [] _ .bool=true by first|rfl|decide|simp[qiu,WShape.arms,WShape.armsAll])
  (w_eq_bool (w_res U) w_lit) U
theorem attach_call {l:OpenLaw}{n:Nat}{q:qaO}{c:List Str}{XP:(Str->Option Value)->Heap->Prop}{YP:World->Heap->Prop}{d:DefRec}
  (hn:l.most=some n) (t:d.params.defaults=[])
  (call:∀ (w:World) (s₀ b:qak) (mg y:Str->Option Value) (i:Addr) (o:Obj) (v p g:Value) (a:Addr) (h:List Value) (ns:List Int),
    Ground q c [] XP w s₀ mg y b.heap->YP w b.heap->
    b.heap.get? i=some o->o.data=.func (docDef d.name d.params d.body d.scope v p g)->b.heap.CodeRec p d.name->mg d.name=some (.ref i)->
    b.heap.get? a=some { cls:=.type "list",data:=.seq h.toArray }->qdy h ns->ns.length<=n->b.gens=#[]->
    qfg (model l.prog w) qhc (.call (.ref i) ⟨[.ref a],[]⟩) (λr s'=>r=.ok (.ret (.bool true))/\OldK b.heap s'.heap/\s'.os=b.os/\qfp s'.gens) b) :
  WalkO q c XP YP l.row.toRowW d [] (λf h=>qhd f h):=by
 intro w s₀ b mg y G Y i o v p g K kV H hd u A x hg args z as m B E s D;obtain rfl:K=.none:=Dflts.none A t;obtain rfl:kV=.none:=Dflts.noKw A;obtain⟨a,h,ns,rfl,rfl,k,e,j⟩:=xN hn m s;refine enter_call (qf4 (call w s₀ b mg y i o v p g a h ns G Y H (fd_plain hd) u x k e j hg) λr s' C=>?_);obtain⟨rfl,F,I,J⟩:=C;exact⟨.inl ⟨_,_,_,U,λ_=>rfl,.bool true,xK l _,λ_=>⟨List.Pairwise.nil,λ_ hm=>(nomatch hm)⟩⟩,F,I,J⟩
section
variable {prog:qaO}{w:World}{A:qa0}{E:Value->qak->Prop}{s:qak}{K:Frag}
end
end Att
namespace L2
open PySem PySem.Spec PyProof.Rows
theorem oS:∀ {a:List Value}{ns:List Int},qdy a ns->aF (ns.map V.int) a
 |_,_,.nil=>.nil
 |_,_,.cons n t h=>.cons ⟨t,U⟩ (oS h)
def Ak (H:Hp):Prop:=∀ b,H b=none\/∃ o xs,H b=some (.frz o (.lst xs))
theorem yL {P:qaO}{w:World}{K:qae}{mg M:Str->Option Value}{CX:CXT}{k:Nat}{E a:Addr}{fd:qb0}{x:Str}{sp:Sp}{c:qak}{y:List Value}{ns:List Int}
  (KX:K.In c.heap) (hns:c.heap.Ns qb5 mg) (hb:c.heap.Ns qgV M) (J:∀ x:Str,x≠"__name__"->M x=qb9 x) (t:c.heap.NoLimit) (hg:c.gens=#[])
  (B:c.heap.get? a=some { cls:=.type "list",data:=.seq y.toArray }) (hi:qdy y ns) (O:ns.length<=qaG) (S:bh k qhc)
  (F:∀ base:Heap,K.In base->base.Ns qb5 mg->cZ P w K mg base CX k E fd [x] sp) (j:∀ (s:qak) (u:Value),qhk s fd ⟨[u],[]⟩ [(x,u)])
  (G:∀ H:Hp,Ak H->SqL K H a (ns.map V.int)->sp [.ref a] H (λv _=>v=.bl true) λ_ _ _=>False)
  (D:∀ H e s',CX [] H c (λ_ _ _=>False) e s'->False) :
  qfg (model P w) qhc (.call (.ref E) ⟨[.ref a],[]⟩) (λr s'=>r=.ok (.ret (.bool true))/\OldK c.heap s'.heap/\s'.os=c.os/\qfp s'.gens) c:=by
 have N:=oS hi;have i:∀ H ,Ak H->SqL K H a (ns.map V.int)->HOk P w H c.heap->(∀ b,H b≠none->b=a)->(H a≠none->K.lookup a=none)->
   qfg (model P w) qhc (.call (.ref E) ⟨[.ref a],[]⟩) (λr s'=>r=.ok (.ret (.bool true))/\OldK c.heap s'.heap/\s'.os=c.os/\qfp s'.gens) c:=by
  intro H Q W hok hA T;have f:∀ {b:Addr}{o:Obj},c.heap.get? b=some o->H b=none->(xj c.heap H).get? b=some o:=λe n=>yy e n;have C:∀ {b:Addr}{o:Obj}{es:Array qd4}{A:Nat},c.heap.get? b=some o->o.data=.dict es A->H b=none:=λ{b o es A} e d=>by
   cases q:H b with
   |none=>rfl
   |some u=>
    have I:=hA b (by rw[q];simp);subst I;rw[B]at e;cases e;cases d
  have g:∀ {b:Addr}{m:Str->Option Value},c.heap.Ns b m->(xj c.heap H).Ns b m:=λ{b m} ⟨o,es,A,e,d,r⟩=>⟨o,es,A,f e (C e d),d,r⟩
  have p:=λb o e=>f (KX b o e) (by
   cases q:H b with
   |none=>rfl
   |some u=>
    have I:=hA b (by rw[q];simp);subst I
    rw[T (by rw[q];simp)]at e;cases e)
  refine qf4 ((F _ p (g hns)).run qhc [] c H ⟨[.ref a],[]⟩ [.ref a] [.ref a] _ _ S ⟨U,⟨p,g hns,⟨M,g hb,J⟩,let ⟨mc,h1,h2⟩:=t;⟨mc,g h1,h2⟩⟩,λb o e=>A7 e,qdf (xk _ _),trivial,λb hb=>absurd (show b∈([]) from hb) (by simp),hok,.of_eq hg⟩ (j c _) (.cons U .nil) (G H Q W)) λr s' h=>?_;cases r with
  |error e=>exact (D H e s' h).elim
  |ok fl=>
   cases fl with
   |next=>exact qcv h
   |brk=>exact qcv h
   |cont=>exact qcv h
   |ret u=>
    obtain⟨v,H',os,bare,un,l,R,q⟩:=h;subst q;obtain rfl:u=Value.bool true:=R;refine⟨U,OldK.of_keep λb o e=>?_,os,bare⟩;cases q:H b with
    |none=>exact un.keep b o e q (by intro z;exact absurd (show b∈([]) from z) (by simp)) (by simp)
    |some u=>
     rcases Q b with z|⟨ob,xs,z⟩
     ·rw[q]at z;cases z
     ·obtain⟨e1,_⟩:=hok b _ z
      obtain⟨e2,_⟩:=l b _ (un.frzs b ob _ z);rw[e]at e1;cases e1;exact e2
 cases hk:K.lookup a with
 |some o=>
  -- the script is one of the module's own objects
  have e:=KX a o hk;rw[B]at e;cases e;refine i _ (λ_=>.inl U) (.inr ⟨_,y.toArray,_,hk,U,U,U,by rw[qaC,hi.length];exact O,by simpa using N⟩) (λb u z=>by cases z) (λb z=>absurd U z) λz=>absurd U z
 |none=>
  refine i (λb=>if b=a then some _ else none) (λb=>?_) (.inl (.inr ⟨{ cls:=.type "list",data:=.seq y.toArray },iFP U⟩)) (λb u z=>?_) (λb z=>?_) λ_=>hk
  ·by_cases hb:b=a
   ·exact .inr ⟨_,_,iFP hb⟩
   ·exact .inl (iFN hb)
  ·by_cases hb:b=a
   ·have L:=(iFP hb).symm.trans z
    cases L;subst hb;exact⟨B,by rw[qaf];exact O,y,_,N,B⟩
   ·have L:=(iFN hb).symm.trans z
    cases L
  ·by_cases hb:b=a
   ·exact hb
   ·exact absurd (iFN hb) z
theorem walk_of {l:qfk}{n k:Nat}{q:qaO}{c:List Str}{XP:(Str->Option Value)->Heap->Prop}{YP:World->Heap->Prop}{d:DefRec}{K:Params->qae}{CX:World->CXT}{sp:World->Sp}{x:Str}
  (hn:l.most=some n) (r:n<=qaG) (p:d.params.defaults=[]) (D:bh k qhc)
  (B:∀ (w:World) (h:Heap),YP w h->(K w.params).In h)
  (F:∀ (w:World) (mg:Str->Option Value) (m:Addr) (h:Heap),(K w.params).In h->h.Ns qb5 mg->mg d.name=some (.ref m)->
    ∃ fd:qb0,(∀ (s:qak) (u:Value),qhk s fd ⟨[u],[]⟩ [(x,u)])/\
     ∀ base:Heap,(K w.params).In base->base.Ns qb5 mg->cZ l.prog w (K w.params) mg base (CX w) k m fd [x] (sp w))
  (y:∀ (w:World) (H:Hp) (a:Addr) (ns:List Int),ns.length<=n->Ak H->SqL (K w.params) H a (ns.map V.int)->sp w [.ref a] H (λv _=>v=.bl true) λ_ _ _=>False)
  (t:∀ (w:World) (H:Hp) (s:qak) (e:Value) (s':qak),CX w [] H s (λ_ _ _=>False) e s'->False) :
  qhC q c XP YP l.row.toRowW d [] (λf A=>qhd f A):=by
 refine Att.attach_call hn p λw s₀ i mg P m o O N I a A ns G Y M hd C z j g b hg=>?_;have KX:=B w _ Y;obtain⟨fd,hb,L⟩:=F w mg m _ KX G.T.g z;exact yL KX G.T.g G.T.b G.T.builtins G.T.nolimit hg j g (qaH b r) D L hb (λH J E=>y w H a ns b J E) λH e s'=>t w H i e s'
def lv (s:Stmt):Arguments:=match s with
 |.FunctionDef _ a _ _ _ _ _ _ _ _=>a
 |_=>{ posonlyargs:=[],args:=[],vararg:=none,kwonlyargs:=[],kw_defaults:=[],kwarg:=none,defaults:=[] }
def aX (s:Stmt):List Stmt:=match s with
 |.FunctionDef _ _ b _ _ _ _ _ _ _=>b
 |_=>[]
def ak (s:Stmt):Scope:=match s with
 |.FunctionDef _ _ _ _ _ _ a _ _ _=>a
 |_=>{ kind:=.function,names:=[],isGenerator:=false,isCoroutine:=false }
abbrev CX0:CXT:=λ_ _ _ _ _ _=>False
abbrev E0:XK:=λ_ _ _=>False
theorem zb {X:Cx}:md CX0 X E0:=λ_ _ _ _ _ _ _ h=>h.elim
structure Fun (K:qae) (x qual:Str) (st:Stmt) (f:Addr) (fd:qb0):Prop where
 ex:∃ (oc:Value) (od:Option Addr) (kV doc pm:Value) (an:Option Addr) (cdv ct:Value) (osl:Array (Option Value)),
  fd=qdE x qual (lv st) (aX st) (ak st) .none kV doc pm an cdv ct/\K.lookup f=some ⟨oc,od,.func fd,osl⟩/\qfF K cdv qual=true
 kp:qcB K (.ref f)=true
section
variable {P:qaO}{w:World}{K:qae}{mg:Str->Option Value}{base:Heap}
theorem Fun.ok {x a:Str}{st:Stmt}{f:Addr}{fd:qb0}{N ps:List Str}{k:Nat}{sp:Sp} (F:Fun K x a st f fd) (S:b6 N ps (ak st)) (len:∀ j H Q E,sp j H Q E->j.length=ps.length)
  (m:∀ (b:Value) (A:qa0) (outer:List Env) (s:qak) (H:Hp) (j:List V) (Q:VK) (E:XK),bh k (A.deeper (qen a (ak st) s.heap.objs.size f b))->sp j H Q E->
    ∃ t,PSs (eJ CX0 P w K mg base N a (ak st) f b A outer s H E).nox (aX st) t/\t { nx:=λ_ H'=>Q .non H',rt:=Q } (gJ N j) H):cZ P w K mg base CX0 (k+1) f fd ps sp:=by
 obtain⟨p,o,kV,d,g,i,b,ct,e,rfl,v,n⟩:=F.ex;refine ED v n S len λA outer s H j Q E y r=>?_;obtain⟨t,h,q⟩:=m b A outer s H j Q E y r;exact⟨t,h.nox,q⟩
theorem Fun.binds {x a:Str}{st:Stmt}{f:Addr}{fd:qb0}{ps:List Str} (F:Fun K x a st f fd)
  (h:∀ (kV d g:Value) (i:Option Addr) (b ct:Value) (u:List Value),u.length=ps.length->bindArgs (qdE x a (lv st) (aX st) (ak st) .none kV d g i b ct) ⟨u,[]⟩=pure (ps.zip u)):cN K fd ps []:=by
 obtain⟨p,o,kV,d,g,i,b,ct,e,rfl,v,n⟩:=F.ex;exact .all (h kV d g i b ct)
theorem fun_mk {x a:Str}{st:Stmt}{f:Addr}{p:Value}{o i:Option Addr}{e:Array (Option Value)}{kV d g b ct:Value} (l:K.lookup f=some ⟨p,o,.func (qdE x a (lv st) (aX st) (ak st) .none kV d g i b ct),e⟩)
  (c:qfF K b a=true) (k:qcB K (.ref f)=true):Fun K x a st f (qdE x a (lv st) (aX st) (ak st) .none kV d g i b ct):=⟨⟨p,o,kV,d,g,i,b,ct,e,U,l,c⟩,k⟩
end
theorem B6 {A:qa0}{k:Nat} (a:bh k A):A.units+1<cLine:=qbO (Nat.add_le_add_left (by decide) _) a.units
theorem xQ {n:Nat} (h:n<=1000):n<qaG:=qbO h (by decide)
section
variable {X:Cx}
end
theorem C4 {A B:Prop} (h:B):if false=true then A else B:=by
 exact h
theorem C5 {A B:Prop} (h:A):if true=true then A else B:=by
 exact h
def aN (H H':Hp):Prop:=∀ b o,H b=some o->H' b=some o
theorem aN.refl (H:Hp):aN H H:=λ_ _ h=>h
theorem aN.trans {H H1 H2:Hp} (a:aN H H1) (b:aN H1 H2):aN H H2:=λc o h=>b c o (a c o h)
def b9 (a:List (Str×Addr)):List (Str×qbZ)->List (Str×Addr)->List (Str×Addr)
 |[],acc=>acc
 |(n,k)::r,acc=>if k==.free then b9 a r ((n,(a.lookup n).getD 0)::acc) else b9 a r acc
theorem iR {env:Env} (f:Str×qbZ->List (Str×Addr)->Sem (ForInStep (List (Str×Addr))))
  (e:∀ n k d,f (n,k) d=if k==.free then (do let c <-cellOf env n;pure (.yield ((n,c)::d))) else pure (.yield d)) :
  ∀ (names:List (Str×qbZ)) (acc:List (Str×Addr)),(∀ x∈names,x.2=.free->∃ c,env.cells.lookup x.1=some c)->
   forIn names acc f=pure (b9 env.cells names acc)
 |[],acc,_=>by rfl
 |(n,k)::r,acc,h=>by
  rw[qfP,e];unfold b9;by_cases a:(k==.free)=true
  ·obtain⟨c,g⟩:=h (n,k) qag (beq_iff_eq.mp a)
   have b:=g;rw[iFP a,iFP a]
   have:cellOf env n=pure c:=by unfold cellOf;rw[b]
   rw[this,b];exact iR f e r _ λx hx=>h x (qah _ hx)
  ·rw[iFN a,iFN a]
   exact iR f e r _ λx hx=>h x (qah _ hx)
theorem ix {a:Scope}{env:Env} (h:∀ x∈a.names,x.2=.free->∃ c,env.cells.lookup x.1=some c) :
  closureFor a env=pure (b9 env.cells a.names []):=by
 simp only[closureFor];rw[iR _ (λn k b=>by cases hk:k==NameKind.free<;>simp[hk]) a.names [] h]
 simp
theorem eh {a:List (Str×Addr)}:∀ (names:List (Str×qbZ)) (acc:List (Str×Addr)) {x:Str}{c:Addr},(b9 a names acc).lookup x=some c->
  acc.lookup x=some c\/((x,NameKind.free)∈names/\c=(a.lookup x).getD 0)
 |[],_,_,_,h=>.inl h
 |(n,k)::r,acc,x,c,h=>by
  unfold b9 at h;by_cases b:(k==.free)=true
  ·rw[iFP b]at h
   rcases eh r _ h with q|⟨f,d⟩
   ·rw[qbx]at q
    cases hx:x==n with
    |true=>
     rw[hx]at q;have e:=beq_iff_eq.mp hx;subst e;exact .inr ⟨by rw[<-beq_iff_eq.mp b];exact qag,(qaL q).symm⟩
    |false=>rw[hx]at q;exact .inl q
   ·exact .inr ⟨qah _ f,d⟩
  ·rw[iFN b]at h
   rcases eh r _ h with q|⟨f,d⟩
   ·exact .inl q
   ·exact .inr ⟨qah _ f,d⟩
theorem dL {a:List (Str×Addr)}{x:Str}:∀ (names:List (Str×qbZ)) (acc:List (Str×Addr)),((x,NameKind.free)∈names\/(acc.lookup x).isSome=true)->((b9 a names acc).lookup x).isSome=true
 |[],_,h=>h.elim (λz=>nomatch z) id
 |(n,k)::r,acc,h=>by
  unfold b9;by_cases b:(k==.free)=true
  ·rw[iFP b]
   refine dL r _ ?_;rcases h with h|h
   ·rcases qaz.mp h with e|h
    ·cases e
     exact .inr (by rw[qbx,beq_self_eq_true];rfl)
    ·exact .inl h
   ·refine .inr ?_
    rw[qbx];cases x==n
    ·exact h
    ·rfl
  ·rw[iFN b]
   refine dL r _ ?_;rcases h with h|h
   ·rcases qaz.mp h with e|h
    ·cases e;exact absurd U b
    ·exact .inl h
   ·exact .inr h
theorem cA:∀ (names:List (Str×qbZ)) (n:Nat) (acc:List (Str×Addr)) {x:Str}{c:Addr},(qcs n names acc).lookup x=some c->acc.lookup x=some c\/((x,NameKind.cell)∈names/\n<=c)
 |[],_,_,_,_,h=>.inl h
 |(m,k)::r,n,acc,x,c,h=>by
  unfold qcs at h;by_cases a:(k==.cell)=true
  ·rw[iFP a]at h
   rcases cA r _ _ h with q|⟨d,b⟩
   ·rw[qbx]at q
    cases hx:x==m with
    |true=>
     rw[hx]at q;have e:=beq_iff_eq.mp hx;subst e;exact .inr ⟨by rw[<-beq_iff_eq.mp a];exact qag,by rw[qaL q];exact qao _⟩
    |false=>rw[hx]at q;exact .inl q
   ·exact .inr ⟨qah _ d,Nat.le_of_succ_le b⟩
  ·rw[iFN a]at h
   rcases cA r _ _ h with q|⟨d,b⟩
   ·exact .inl q
   ·exact .inr ⟨qah _ d,b⟩
theorem oa:∀ (names:List (Str×qbZ)) (n:Nat) (acc:List (Str×Addr)),(∀ p∈acc,p.2<n)->∀ {x y:Str}{c:Addr},(qcs n names acc).lookup x=some c->(qcs n names acc).lookup y=some c->n<=c->x=y:=by
 have g:∀ (names:List _) (n:Nat) (acc:List _) (lo:Nat),lo<=n->(∀ p∈acc,p.2<n)->(∀ p∈acc,∀ q∈acc,lo<=p.2->p.2=q.2->p.1=q.1)->
   ∀ p∈qcs n names acc,∀ q∈qcs n names acc,lo<=p.2->p.2=q.2->p.1=q.1:=by
  intro names
  induction names with
  |nil=>intro n acc lo _ _ h;exact h
  |cons z r i=>
   intro n acc lo f a h;obtain⟨m,k⟩:=z;unfold qcs;by_cases j:(k==.cell)=true
   ·rw[iFP j]
    refine i _ _ lo (Nat.le_succ_of_le f) (λp b=>?_) (λp b q d l e=>?_)
    ·rcases qaz.mp b with e|b
     ·rw[e];exact qbY _
     ·exact qba (a p b)
    ·rcases qaz.mp b with e1|b<;>rcases qaz.mp d with e2|d
     ·rw[e1,e2]
     ·rw[e1]at e;exact absurd (a q d) (by rw[<-e];exact qa3 _)
     ·rw[e2]at e;exact absurd (a p b) (by rw[e];exact qa3 _)
     ·exact h p b q d l e
   ·rw[iFN j]
    exact i _ _ lo f a h
 intro names n acc a x y c hx o s;exact g names n acc n (qao _) a (λp b q d l _=>absurd (a p b) (qhG.mpr l)) _ (qbr hx) _ (qbr o) s U
theorem cX:∀ (names:List (Str×qbZ)) (h:Heap) (acc:List (Str×Addr)),(∀ p∈acc,∃ v,h.IsCell p.2 v)->∀ p∈qcs h.objs.size names acc,∃ v,(qeO h names).IsCell p.2 v
 |[],_,_,h=>h
 |(m,k)::r,h,acc,d=>by
  unfold qcs qeO;by_cases a:(k==.cell)=true
  ·rw[iFP a,iFP a]
   have:=cX r (h.push { cls:=.type "cell",data:=.cell none }) ((m,h.objs.size)::acc) (λp c=>by
    rcases qaz.mp c with e|c
    ·rw[e];exact⟨none,_,qax _ U,U⟩
    ·obtain⟨v,z⟩:=d p c
     exact⟨v,z.keeps λb o e=>qaj _ e⟩)
   rwa [qbp]at this
  ·rw[iFN a,iFN a]
   exact cX r h acc d
theorem dg {names:List (Str×qbZ)} (nd:(names.map (·.1)).Nodup):∀ {x:Str}{k:qbZ},(x,k)∈names->names.lookup x=some k:=by
 induction names with
 |nil=>intro x k h;cases h
 |cons z r a=>
  intro x k h;obtain⟨m,b⟩:=z;rw[qau,qce]at nd;rw[qbx];rcases qaz.mp h with e|h
  ·cases e;rw[beq_self_eq_true]
  ·have:(x==m)=false:=beq_eq_false_iff_ne.mpr λe=>nd.1 (e ▸ qaM.mpr ⟨(x,k),by assumption,U⟩)
   rw[this];exact a nd.2 h
theorem cv {env:Env}:∀ {names:List (Str×qbZ)}{x:Str}{k:qbZ},
  (names.map λ(n,k)=>if (k==NameKind.free&&env.scope.kind==.function&&env.kindOf n==some .cell) then (n,NameKind.cell) else (n,k)).lookup x=some k->
  ∃ a,names.lookup x=some a/\(k=a\/(a=.free/\k=.cell))
 |[],_,_,h=>by cases h
 |(n,a)::r,x,k,h=>by
  rw[qau]at h;dsimp only at h;rw[qbx];by_cases b:(a==NameKind.free&&env.scope.kind==.function&&env.kindOf n==some .cell)=true
  ·rw[iFP b,qbx]at h
   cases hx:x==n with
   |true=>
    rw[hx]at h;refine⟨a,U,.inr ⟨?_,(qaL h).symm⟩⟩;simp only[qaX]at b;exact beq_iff_eq.mp b.1.1
   |false=>rw[hx]at h;exact cv h
  ·rw[iFN b,qbx]at h
   cases hx:x==n with
   |true=>rw[hx]at h;exact⟨a,U,.inl (qaL h).symm⟩
   |false=>rw[hx]at h;exact cv h
theorem fL {env:Env}:∀ {names:List (Str×qbZ)}{x:Str},names.lookup x=some .free->
  (names.map λ(n,k)=>if (k==NameKind.free&&env.scope.kind==.function&&env.kindOf n==some .cell) then (n,NameKind.cell) else (n,k)).lookup x=some .free\/
  (names.map λ(n,k)=>if (k==NameKind.free&&env.scope.kind==.function&&env.kindOf n==some .cell) then (n,NameKind.cell) else (n,k)).lookup x=some .cell
 |[],_,h=>by cases h
 |(n,b)::r,x,h=>by
  rw[qau];dsimp only;rw[qbx]at h;by_cases a:(b==NameKind.free&&env.scope.kind==.function&&env.kindOf n==some .cell)=true
  ·rw[iFP a,qbx]
   cases hx:x==n with
   |true=>exact .inr U
   |false=>rw[hx]at h;exact fL h
  ·rw[iFN a,qbx]
   cases hx:x==n with
   |true=>rw[hx]at h;exact .inl h
   |false=>rw[hx]at h;exact fL h
theorem jL {M:Model}{A:qa0}{E:Value->qak->Prop}{s:qak}{a:Scope}{env:Env}{c:List (Str×Addr)}{Q:Env->qak->Prop}
  (d:Q (newEnv a s.heap.objs.size env.globals (qcs (s.heap.objs.size+1) a.names c) env.qual none .none (some env) qgV)
    { s with heap:=qeO (s.heap.push { cls:=.type "dict",data:=.dict #[] }) a.names }) :
  wpAny M A (newFunctionEnv a env.globals c [] env.qual none .none (some env)) Q E s:=by
 refine qac (wpAny_alloc ?_);refine qac (wpAny_layCells _ (λname kind b=>by cases hkc:kind==NameKind.cell<;>simp[hkc]) _ _ _ _ ?_);rw[qbp ..];refine qac ?_;exact qar (qar d)
theorem cO {prog:qaO}{w:World}{A:qa0}{R:qjJ->qak->Prop}{s:qak}{p a iter:Expr}{u:List Expr}{o:Scope}{pos:Pos}{z acc:Value}{env:Env} (I:Nat->qak->Prop)
  (turn:∀ n s,I n s->wpAny (model prog w) A (qgU z) (λr d=>match r with
    |none=>R (.ok .next) d
    | some v=>wpAny (model prog w) A (qgr a z v) (λ_ e=>wpAny (model prog w) A (qf5 a env v) (λ_ i=>
      wpAny (model prog w) A (forIn u true λc r=>if r=true then do let ok <-qjF c env (eval c env);pure (ForInStep.yield ok) else pure (ForInStep.yield r)) (λok b=>
       if ok=true then wpAny (model prog w) A (eval p env) (λx g=>
        wpAny (model prog w) A (call (.builtin "list.append") [acc,x]) (λ_ j=>∃ m,m<n/\I m j) (λ_ _=>False) g) (λ_ _=>False) b
       else ∃ m,m<n/\I m b) (λ_ _=>False) i) (λ_ _=>False) e) (λ_ _=>False) d) (λ_ _=>False) s)
  (n:Nat) (h:I n s) :
  qfg (model prog w) A (.compLoop (.ListComp p [⟨a,iter,u,0⟩] o pos) 0 z acc env) R s:=by
 refine codeAny_loop U I (λn s B=>?_) n h;refine wpAny_noted ?_;rw[compTurn_list];refine qac (qeu (qac (qcm (turn n s B) (λr d k=>?_) λ_ _ h'=>h'.elim)));cases r with
 |none=>exact qar k
 |some v=>
  refine qac (qcm k (λ_ e l=>?_) λ_ _ h'=>h'.elim);refine qac (qcm l (λ_ i y=>qac (qcm y (λok b f=>?_) λ_ _ h'=>h'.elim)) λ_ _ h'=>h'.elim);cases ok with
  |false=>exact qar ⟨U,f⟩
  |true=>
   exact qac (qac (qcm f (λx g t=>qac (qcm t (λ_ j q=>qar (qar ⟨U,q⟩)) λ_ _ h'=>h'.elim)) λ_ _ h'=>h'.elim))
def lcX (X:Cx) (a:Scope) (b:List (Str×Addr)) (Nc:List Str) (s:qak) (H:Hp) (C:Addr) (c:List Addr):Cx where
 prog:=X.prog
 w:=X.w
 K:=X.K
 mg:=X.mg
 base:=X.base
 A:=X.A
 N:=Nc
 s₀:=s
 H₀:=H
 env:=qhb a b C X.env
 outer:=X.stack
 stack:=X.stack
 ex:=c
 fn:=λx=>a.names.lookup x==some .cell
 calm:=X.calm
 pn:=[]
 xe:=λ_ _=>False
structure c8 (X:Cx) (scope:Scope) (Nc:List Str) (emb:St->St):Prop where
 kind:scope.kind=.function
 nd:(scope.names.map (·.1)).Nodup
 nN:Nc.Nodup
 free:∀ x∈scope.names,x.2=.free->X.env.kindOf x.1=some .cell\/X.env.kindOf x.1=some .free
 len:∀ σ:St,σ.length=X.N.length->(emb σ).length=Nc.length
 emb:∀ σ:St,σ.length=X.N.length->∀ (i:Nat) (x:Str) (v:V),Nc[i]?=some x->(emb σ)[i]?=some (some v)->∃ j:Nat,X.N[j]?=some x/\σ[j]?=some (some v)/\scope.names.lookup x=some .free
section
variable {X:Cx}{E:List (Addr×Obj)}{Q:St}{H:Hp}{s:qak}{a:Scope}{Nc:List Str}{emb:St->St}
theorem c8.clos (S:c8 X a Nc emb) (ok:X.Ok):∀ x∈a.names,x.2=.free->∃ c,X.env.cells.lookup x.1=some c:=λx hx h=>ok.has x.1 (S.free x hx h)
theorem sP (S:c8 X a Nc emb) (I:Inv X E Q H s) {R:List Addr} (T:∀ b∈R,ik X E H b) (hfo:∀ b∈R,∃ o,s.heap.get? b=some o) {lo:Obj} (Y:∀ v,lo.data≠.cell v) (hfr:lo.isFreed=false) :
  Inv (lcX X a (qcs (s.heap.objs.size+2) a.names (b9 X.env.cells a.names [])) Nc s H (s.heap.objs.size+1) R) [(s.heap.objs.size,lo)] (emb Q) H
   { s with heap:=qeO ((s.heap.push lo).push { cls:=.type "dict",data:=.dict #[] }) a.names }:=by
 have P:((s.heap.push lo).push { cls:=.type "dict",data:=.dict #[] }).objs.size=s.heap.objs.size+2:=by rw[qbp,qbp]
 have N:(s.heap.push lo).objs.size=s.heap.objs.size+1:=by rw[qbp]
 have G:∀ b o,s.heap.get? b=some o->(qeO ((s.heap.push lo).push { cls:=.type "dict",data:=.dict #[] }) a.names).get? b=some o:=λb o e=>
  qcW _ _ b o (qaj _ (qaj _ e))
 have has:=S.clos I.ok;have A:∀ {x:Str}{c:Addr},(b9 X.env.cells a.names []).lookup x=some c->X.env.cells.lookup x=some c/\(x,NameKind.free)∈a.names:=λ{x c} h=>by
  rcases eh _ _ h with q|⟨J,K⟩
  ·cases q
  ·obtain⟨c',w⟩:=has _ J U
   have D:=w;rw[D]at K;exact⟨by rw[D,K];rfl,J⟩
 have d:∀ {x:Str}{c:Addr},(qcs (s.heap.objs.size+2) a.names _).lookup x=some c->
   _\/_:=λ{x c} h=>by
  rcases cA _ _ _ h with q|q
  ·exact .inl (A q)
  ·exact .inr q
 have l:∀ {x:Str}{c:Addr},X.env.cells.lookup x=some c->c<s.heap.objs.size:=λ{x c} h=>by
  obtain⟨v,z⟩:=I.cell x c h;exact z.lt
 have C:∀ b∈R,b<s.heap.objs.size:=λb hb=>by obtain⟨o,e⟩:=hfo b hb;exact qaA e
 have f:∀ p∈b9 X.env.cells a.names [],∃ x,X.env.cells.lookup x=some p.2:=by
  have V:∀ (names:List _) (acc:List _),(∀ x∈names,x.2=.free->∃ c,X.env.cells.lookup x.1=some c)->(∀ p∈acc,∃ x,X.env.cells.lookup x=some p.2)->∀ p∈b9 X.env.cells names acc,∃ x,X.env.cells.lookup x=some p.2:=by
   intro names
   induction names with
   |nil=>intro acc _ h;exact h
   |cons z r ih=>
    intro acc hn h;obtain⟨m,k⟩:=z;unfold b9;by_cases G:(k==.free)=true
    ·rw[iFP G]
     refine ih _ (λx hx=>hn x (qah _ hx)) λp g=>?_;rcases qaz.mp g with e|g
     ·obtain⟨c,W⟩:=hn _ qag (beq_iff_eq.mp G)
      exact⟨m,by rw[e,W];rfl⟩
     ·exact h p g
    ·rw[iFN G]
     exact ih _ (λx hx=>hn x (qah _ hx)) h
  exact V _ _ has λp g=>nomatch g
 refine⟨⟨I.ok.mod,S.kind,I.ok.glob,I.ok.blt,qcF _,λx y c n t=>?_,λx hx=>?_,λx c hx h=>?_,I.ok.hd,I.ok.frames,.inl U,λb hb=>?_,I.bs,qaH I.ok.bsz I.sz,λb o e hb=>?_,λb hb=>?_,I.stack,I.stkFree⟩,
  rfl,I.bare,Un.kept G,⟨_,(Heap.Ns.new _ _).keeps (qcW _ _) |> λq=>by rw[N]at q;exact q,λi x v n t _=>?_⟩,λx c h=>?_,I.hok.fresh (qcF _),λx c h=>?_,λp g=>?_,I.hok.kept G,S.len Q I.len⟩
 ·-- inj
  have L:=n;have O:=t;rcases d L with⟨J,_⟩|⟨_,J⟩
  ·rcases d O with⟨K,_⟩|⟨_,K⟩
   ·exact I.ok.inj x y c J K
   ·exact absurd (qaN (qba (qba (l J))) K) (qa3 _)
  ·refine oa a.names _ _ (λp g=>?_) L O J
   obtain⟨z,hz⟩:=f p g;exact qba (qba (l hz))
 ·-- has
  have:∃ B,a.names.lookup x=some B/\(B=.cell\/B=.free):=by
   rcases hx with q|q
   ·obtain⟨B,n,t⟩:=cv q
    exact⟨B,n,t.elim (λe=>.inl e.symm) λe=>.inr e.1⟩
   ·obtain⟨B,n,t⟩:=cv q
    exact⟨B,n,t.elim (λe=>.inr e.symm) λe=>by cases e.2⟩
  obtain⟨B,n,t⟩:=this;refine qcp.mp (qdh a.names _ _ ?_);rcases t with rfl|rfl
  ·exact .inl n
  ·exact .inr (dL _ _ (.inl (qbr n)))
 ·-- cab
  rcases d h with⟨_,q⟩|⟨_,q⟩
  ·have:=dg S.nd q
   rw[(beq_iff_eq.mp hx)]at this;cases this
  ·exact qaH (qcH _ 2) q
 ·-- exf
  refine⟨qaF (qba (C b hb)),λx c h=>?_⟩;rcases d h with⟨q,_⟩|⟨_,q⟩
  ·exact (T b hb).2.2.2.2.1 x c q
  ·intro e
   exact absurd (qaN (qba (qba (C b hb))) (e ▸ q)) (qa3 _)
 ·-- noex
  rcases (T b hb).2.2.2.1 with q|q
  ·exact I.ok.noex b o e q
  ·exact absurd (qaN (qaA (I.ok.bs b o e).1) q) (qa3 _)
 ·-- exfs
  intro hb2;rcases qaz.mp (I.stkSub b hb2) with q|q
  ·exact (T b hb).2.1 q
  ·exact (T b hb).2.2.1 q
 ·-- loc
  obtain⟨j,e1,e2,e3⟩:=S.emb Q I.len i x v n t;have M:=(S.free (x,.free) (qbr e3) U);obtain⟨m,hn,hl⟩:=I.loc;obtain⟨u,ru,lk⟩:=hl j x v e1 e2 (.inr M);refine⟨u,ru,.inr ⟨?_,?_⟩⟩
  ·rcases fL e3 with q|q
   ·exact .inr q
   ·exact .inl q
  ·rcases lk with⟨z,_⟩|⟨_,c,W,F⟩
   ·rcases M with q|q<;>(rw[z]at q;cases q)
   ·obtain⟨c',w⟩:=qcp.mp (qdh a.names _ _ (.inr (dL _ _ (.inl (qbr e3)))))
    rcases d w with⟨q,_⟩|⟨q,_⟩
    ·rw[W]at q
     cases q;exact⟨c,w,F.keeps G⟩
    ·have:=dg S.nd q
     rw[e3]at this;cases this
 ·-- cell
  exact (cX a.names _ (b9 X.env.cells a.names []) (λp g=>by
   obtain⟨z,hz⟩:=f p g;obtain⟨v,q⟩:=I.cell z p.2 hz
   exact⟨v,q.keeps λb o e=>qaj _ (qaj _ e)⟩) (x,c) (by rw[P];exact qbr h))
 ·-- freeC
  rcases d h with⟨q,_⟩|⟨_,q⟩
  ·exact I.freeC x c q
  ·exact I.hok.fresh (qaH (qcH _ 2) q)
 ·-- pin
  have hp':=by
   have:p∈([])++[(s.heap.objs.size,lo)]:=g
   simpa using this
  subst hp';refine⟨qcW _ _ _ _ (qaj _ (qax _ hfr)),I.hok.fresh (qao _),qaF (qbY _),λhb=>?_,Y⟩;rcases qaz.mp (I.stkSub _ hb) with q|q
  ·exact absurd I.lt (by rw[<-q];exact qa3 _)
  ·exact I.nofs (qao _) q
end
def PTs (X:Cx) (d:List Expr) (t:TT):Prop:=
 ∀ (a:List (Addr×Obj)) (s:qak) (b:St) (H:Hp) (Q:Bool->Hp->Prop),Inv X a b H s->t b H Q->
  wpAny (model X.prog X.w) X.A (forIn d true λc r=>if r=true then do let ok <-qjF c X.env (eval c X.env);pure (ForInStep.yield ok) else pure (ForInStep.yield r)) (TP X a b Q) X.xe s
def GH:TT:=λ_ H Q=>Q true H
theorem Bu {X:Cx}:PTs X [] GH:=λ_ _ _ H _ I h=>wpAny_tests_nil ⟨H,I,h⟩
theorem Bv {X:Cx}{c:Expr}{t:TT} (d:PT X c t):PTs X [c] t:=λa s b H Q I h=>wpAny_tests_one (d a s b H Q I h)
def Sub (b a:St):Prop:=b.length=a.length/\∀ (i:Nat) (v:V),b[i]?=some (some v)->a[i]?=some (some v)
def Ek (J:It) (c:St) (g:TG) (tt:TT) (te:TE) (H1:Hp) (Q:VK):Prop:=∃ W:Nat->Nat->List V->Hp->Prop,(∃ m,W 0 m [] H1)/\∀ i m e H,W i m e H->
 (J.stop i H/\∀ D,H D=none->Q (.ref D) (upd H D (.lst e)))\/
 (J.go i H/\e.length<qaG/\∃ N:List V->Hp->Prop,(∀ d H',N d H'->∃ f,f<m/\W (i+1) f d H')/\∀ x H',J.yld i H x H'->g x c H' λa H2=>Sub c a/\tt a H2 λb H3=>if b=true then te a H3 λv H4=>N (e++[v]) H4 else N e H3)
def tLc (emb:St->St) (b:TI) (g:TG) (tt:TT) (te:TE):TE:=λa H Q=>b a H λJ H1=>Ek J (emb a) g tt te H1 Q
section
variable {X:Cx}{j:Scope}{Nc:List Str}{emb:St->St}{elt iter tg:Expr}{ifs:List Expr}{pos:Pos}{wi:TI}{g:TG}{tt:TT}{te:TE}
theorem Ff (S:c8 X j Nc emb) (hc:X.calm=true) (hi:PI X tg iter wi)
  (hg:∀ f s H C A,PG (lcX X j f Nc s H C A) tg g) (ht:∀ f s H C A,PTs (lcX X j f Nc s H C A) ifs tt) (he:∀ f s H C A,PE (lcX X j f Nc s H C A) elt te)
  (hs:∀ x,qbL iter X.env x=pure x:=by intro _;rfl):PE X (.ListComp elt [⟨tg,iter,ifs,0⟩] j pos) (tLc emb wi g tt te):=by
 intro pins s σ H Q I h;refine qgT U hs (ix (S.clos I.ok)) S.kind (λx hx hl=>dg S.nd (by rw[<-hl];exact hx)) ?_;refine thn (hi pins s σ H _ I h) λv s1 h1=>thn h1 λitv R h2=>?_;obtain⟨it,A,tn,J,H2,e,I2,T,st2,f2,W,⟨m0,w0⟩,turn⟩:=h2;subst e;refine qcE (jL ?_);rw[qbp ..];generalize hD:R.heap.objs.size=D;generalize hlo:({ cls:=.type "list",dict:=none,data:=.seq ([]:List Value).toArray }:Obj)=lo
 have fplt:∀ b∈A,b<R.heap.objs.size:=λb hb=>by obtain⟨o,e,_⟩:=T.obj _ _ st2 b hb;exact qaA e
 have I3:=sP (lo:=lo) S I2 f2 (λb hb=>by obtain⟨o,e,_⟩:=T.obj _ _ st2 b hb;exact⟨o,e⟩) (by rw[<-hlo];intro v z;cases z) (by rw[<-hlo];rfl);rw[hD]at I3;generalize hcells:qcs (D+2) j.names _=f at I3;generalize d:lcX X j f Nc R H2 (D+1) A=X' at I3;have K:∀ {H':Hp}{ps:List (Addr×Obj)},(∀ b∈A,H' b=none)->(∀ p∈ps,p.1=D)->∀ b∈A,ik X' ps H' b:=λ{H' ps} hn E b hb=>by
  have ok:=I3.ok;refine⟨hn b hb,?_,?_,.inl (by rw[<-d];exact hb),?_,λp L=>?_⟩
  ·exact (ok.exf b (by rw[<-d];exact hb)).1
  ·exact ok.exfs b (by rw[<-d];exact hb)
  ·exact (ok.exf b (by rw[<-d];exact hb)).2
  ·have hp':p∈([])++ps:=by rw[<-d]at L;exact L
   rw[(E p (by simpa using hp')),<-hD];exact qcd (fplt b hb)
 have Dex:D∈X'.ex\/X'.s₀.heap.objs.size<=D:=.inr (by rw[<-d,<-hD];exact qao _);have Dloc:D≠X'.env.locals:=by rw[<-d];exact qaF (qbY _)
 have pD:=I3.pin (D,lo) (by rw[<-d];exact qay _ qag);have Dcell:∀ x c,X'.env.cells.lookup x=some c->c≠D:=λx c hc' e=>by
  obtain⟨v,o,ho,hd⟩:=I3.cell x c hc';rw[e,pD.1]at ho;cases ho;exact pD.2.2.2.2 v hd
 -- the M
 have M:∀ s3:qak,s3={ R with heap:=qeO ((R.heap.push lo).push { cls:=.type "dict",data:=.dict #[] }) j.names }->
   qfg (model X.prog X.w) X.A (.compLoop (.ListComp elt [⟨tg,iter,ifs,0⟩] j pos) 0 (.ref it) (.ref D) (qhb j f (D+1) X.env))
    (compPost (model X.prog X.w) X.A X.xe none (EP X pins σ Q) (.ref D) (D+1)) s3:=by
  rintro s3 rfl
  refine cO (λn s'=>∃ i Y l k H',Inv X' [(D,{ cls:=.type "list",data:=.seq l.toArray k })] (emb σ) H' s'/\aF Y l/\tn i s'.heap/\(∀ b∈A,H' b=none)/\Y.length<=qaG/\W i n Y H') ?_ m0
   ⟨0,[],[],0,H2,?_,.nil,?_,λb hb=>(f2 b hb).1,qbA _,w0⟩
  ·rintro n s4 ⟨i,Y,l,k,H4,I4,rv,st4,fr4,hlen,w4⟩
   have E:∀ p∈[(D,({ cls:=.type "list",data:=.seq l.toArray k }:Obj))],p.1=D:=λp L=>by
    have:=qam.mp L
    rw[this]
   rcases turn i n Y H4 w4 with⟨stop,qn⟩|⟨go,hlt,N,hN,step⟩
   ·-- the end
    have TD:=T.done X' (by rw[<-d];rfl) (by rw[<-d];rfl) (by rw[<-d];rfl) (by rw[<-d];exact hc) i _ s4 (emb σ) H4 (λ_ _=>False) I4 (K fr4 E) st4 stop;rw[show X'.A=X.A by rw[<-d];rfl]at TD;refine thn TD λr s5 ⟨hr,I5⟩=>?_;subst hr;obtain⟨m5,hn5,_⟩:=id I5.loc;have eC:X'.env.locals=D+1:=by rw[<-d];rfl
    rw[eC]at hn5;refine⟨m5,hn5,λh' F=>?_⟩;have pD5:=I5.pin (D,{ cls:=.type "list",data:=.seq l.toArray k }) (by rw[<-d];exact qay _ qag)
    have neC:∀ b u,H4 b=some u->b≠D+1:=λb u e z=>by
     have:=I5.free
     rw[eC,<-z,e]at this;cases this
    have hD4:H4 D=none:=pD5.2.1;have un:=I5.base;have B:Un (frs X.stack) A H2 H4 R.heap s5.heap:=by rw[<-d]at un;exact un
    have t:∀ b o,R.heap.get? b=some o->b≠D/\b≠D+1:=λb o e=>by
     have q:=qaA e;rw[hD]at q;exact⟨qaF q,qaF (qba q)⟩
    have h2D:H2 D=none:=by rw[<-hD];exact I2.fresh
    have hok':HOk X.prog X.w H4 h':=λb u e=>by
     have ob:bZ X.prog X.w H4 s5.heap b u:=by have:=I5.hok b u e;rw[<-d]at this;exact this
     refine ob.stay (λc v hcv q=>(F.2 c ?_).trans q) (λ_ q=>q) λ_ _ q=>q;rcases hcv with z|z
     ·rw[z];exact neC b u e
     ·exact neC c _ z
    have hokD:HOk X.prog X.w (upd H4 D (.lst Y)) h':=λb u e=>by
     by_cases hb:b=D
     ·subst hb
      rw[upd_same]at e;cases e;exact⟨hlen,l,k,rv,(F.2 b (qaF (qbY _))).trans pD5.1⟩
     ·rw[upd_ne hb]at e
      refine (hok' b u e).stay (λ_ _ _ q=>q) (λc q=>?_) λc z q=>?_
      all_goals first
       |(rw[upd_ne (aH q hD4)];exact q)
       |(rw[upd_ne (aH z hD4)];exact z)
    refine⟨.ref D,upd H4 D (.lst Y),?_,U,qn D hD4⟩;refine I2.call' (s':={ s5 with heap:=h' }) (ch:=A) ?_ ⟨λb o e nb hb hx=>?_,λb o e nb hb hx=>?_,λb o e nb hx=>?_,λb o e hx=>?_,λb xs e=>?_,λb o u e=>?_,λb ps e=>?_⟩ hokD I5.bare (λb hb=>?_)
    ·have:=I5.os
     rw[<-d]at this;exact this
    ·exact (F.2 b (t b o e).2).trans (B.keep b o e nb hb hx)
    ·obtain⟨sl,q⟩:=B.slot b o e nb hb hx
     exact⟨sl,(F.2 b (t b o e).2).trans q⟩
    ·rw[upd_ne (t b o e).1]
     exact B.free b o e nb hx
    ·obtain⟨o',q⟩:=B.there b o e hx
     exact⟨o',(F.2 b (t b o e).2).trans q⟩
    ·rw[upd_ne (aH e h2D)]
     exact B.tups b xs e
    ·rw[upd_ne (aH e h2D)]
     exact B.frzs b o u e
    ·obtain⟨m,q⟩:=B.tbls b ps e
     exact⟨m,by rw[upd_ne (aH e h2D)];exact q⟩
    ·obtain⟨q0,q1,q2,q3,q4,q5⟩:=f2 b hb
     exact⟨q3,q1,q4,q5⟩
   ·-- a turn
    have hA:X'.A=X.A:=by rw[<-d];rfl
    have hP:X'.prog=X.prog:=by rw[<-d];rfl
    have hw:X'.w=X.w:=by rw[<-d];rfl
    have hE:X'.env=qhb j f (D+1) X.env:=by rw[<-d];rfl
    have hxe:X'.xe=λ_ _=>False:=by rw[<-d];rfl
    have TI':=T.item X' hP hw (by rw[<-d];rfl) (by rw[<-d];exact hc) i _ s4 (emb σ) H4 (λ_ _=>False) I4 (K fr4 E) st4 go;rw[hA]at TI';refine thn TI' λr s5 ⟨u,hr,h5⟩=>?_;subst hr;refine thn h5 λ_ s6 ⟨x,H6,I6,r6,y6,st6,fr6⟩=>?_;have I6':=I6.pinned (K fr6 E) (T.obj _ _ st6);have G:=hg f R H2 (D+1) A;have TT':=ht f R H2 (D+1) A;have EE:=he f R H2 (D+1) A;rw[d]at G TT' EE;have G':=G _ s6 (emb σ) H6 x u _ I6' r6 (step x H6 y6);rw[hA,hP,hw,hE,hxe]at G';refine thn G' λ_ s7 ⟨σ7,H7,I7,V,q7⟩=>?_;have T':=TT' _ s7 σ7 H7 _ I7 q7;rw[hA,hP,hw,hE,hxe]at T';refine thn T' λok s8 ⟨H8,I8,q8⟩=>?_
    -- what is pinned
    have w:∀ {σ9:St}{H9:Hp}{P:qak},Inv X' ([(D,({ cls:=.type "list",data:=.seq l.toArray k }:Obj))]++ny A s6.heap) σ9 H9 P->tn (i+1) P.heap/\∀ b∈A,H9 b=none:=λ{σ9 H9 P} I9=>
     ⟨T.keep _ _ _ st6 λb hb o e=>(I9.pin (b,o) (qay _ (qay _ (cg hb e)))).1,λb hb=>by
      obtain⟨o,e,_⟩:=T.obj _ _ st6 b hb
      exact (I9.pin (b,o) (qay _ (qay _ (cg hb e)))).2.1⟩
    cases ok with
    |false=>
     rw[iFN (by decide)]at q8;rw[iFN (by decide)];obtain⟨m',hm,w8⟩:=hN _ _ q8;exact⟨m',hm,i+1,Y,l,k,H8,I8.unpinned.weak V.1 V.2,rv,(w I8).1,(w I8).2,hlen,w8⟩
    |true=>
     rw[iFP U]at q8;rw[iFP U];have E':=EE _ s8 σ7 H8 _ I8 q8;rw[hA,hP,hw,hE,hxe]at E';refine thn E' λy P ⟨v9,H9,I9,r9,n9⟩=>?_;obtain⟨m',hm,w9⟩:=hN _ _ n9;have O:=I9.pin (D,{ cls:=.type "list",data:=.seq l.toArray k }) (qay _ (qa1 _ qag))
     have hl:=rv.length;have I9n:Inv X' [] σ7 H9 P:=I9.pins_of λp L=>nomatch L
     refine qco qfm ⟨_,O.1,U⟩ qe7 (qeU _ _) (qe4 D l.toArray k y (by rw[qaC];lia)) ⟨O.1,?_⟩;have up:∃ k':Nat,(P.heap.update D (qcy λxs=>xs.push y)).get? D=some { cls:=.type "list",data:=.seq (l++[y]).toArray k' }:=by
      have q:=qeT O.1 (λxs:Array Value=>xs.push y);simp only[qhq]at q;exact⟨_,q⟩
     obtain⟨k',up⟩:=up;have hoth:∀ b o,b≠D->P.heap.get? b=some o->(P.heap.update D (qcy λxs=>xs.push y)).get? b=some o:=λb o hb e=>(qds P.heap _ (qbD hb)).trans e;have I10:=I9n.turned (t':=P.toks) hoth O.2.1 Dloc Dex Dcell (λp L=>absurd (show p∈([]:List (Addr×Obj)) by rw[<-d]at L;exact L) (by simp));refine⟨m',hm,i+1,Y++[v9],l++[y],k',H9,(I10.weak V.1 V.2).pins_of (λp L=>?_),rv.append (.cons r9 .nil),T.keep _ _ _ (w I9).1 (λb hb o e=>hoth b o (by rw[<-hD];exact qaF (fplt b hb)) e),(w I9).2,?_,w9⟩
     ·have:=qam.mp L
      subst this;exact⟨up,O.2.1,Dloc,(pD.2.2.2.1),λv z=>by cases z⟩
     ·rw[qaw,qb1]
      lia
  ·rw[<-hlo.symm]
   exact I3
  ·exact T.keep _ _ _ st2 λb hb o e=>qcW _ _ b o (qaj _ (qaj _ e))
 refine qhm ?_ ?_
 ·exact M _ U
 ·refine T.self X.A 0 _ _ _ (T.keep _ _ _ st2 λb hb o e=>qcW _ _ b o (qaj _ (qaj _ e))) ?_
  exact M _ U
end
end L2
namespace L2
open PySem PySem.Spec PyProof.Rows
open PySem.AutoSeq1 (wpAny_loadPart')
section
variable {prog:qaO}{w:World}{A:qa0}{E:Value->qak->Prop}{s:qak}
theorem d5 {c l:Addr}{i:Nat}{items}{x:Value}{Q:Value->qak->Prop} (b:s.heap.IsTupleIter c l i)
  (t:s.heap.IsTuple l items) (hx:items[i]?=some x)
  (q:∀ h',h'.IsTupleIter c l (i+1)->qdd c s.heap h'->Q x { s with heap:=h' }) :
  wpAny (model prog w) A (qcD (.ref c)) Q E s:=by
 obtain⟨o,d,z,hd⟩:=id b;obtain⟨C,f,_,B,g⟩:=t
 refine qac (qbK b.typeIs qcZ
  (qbU qcZ b.typeIs qgi ?_ (qgc _)))
 show wpAny _ _ (field _ 0 >>= _) _ _ s;refine qac (qb4 d hd (x:=.ref l) U ?_);refine qac (qb4 d hd U ?_);refine qac (qcQ f g ?_);simp only[qa7,hx];refine qac (qe9 d hd (by simp) (qar ⟨x,U,qar (q _ ?_ (qdw ..))⟩))
 exact⟨_,qes _ d (qgJ (qdV hd _)),(qhE ..).trans z,by
  rw[qdV hd];simp[qgq]⟩
theorem eW {c l:Addr}{i:Nat}{items}{Q:Value->qak->Prop} (n:A.handled=none)
  (b:s.heap.IsTupleIter c l i) (t:s.heap.IsTuple l items) (hx:items[i]?=none)
  (u:∀ h' e,qg3 c s.heap h'->(∃ o,h'.get? e=some o/\o.cls=.type "StopIteration")->E (.ref e) { s with heap:=h' }) :
  wpAny (model prog w) A (qcD (.ref c)) Q E s:=by
 obtain⟨o,d,z,hd⟩:=id b;obtain⟨C,f,_,B,g⟩:=t
 refine qac (qbK b.typeIs qcZ
  (qbU qcZ b.typeIs qgi ?_ (qgc _)))
 show wpAny _ _ (field _ 0 >>= _) _ _ s;refine qac (qb4 d hd (x:=.ref l) U ?_);refine qac (qb4 d hd U ?_);refine qac (qcQ f g ?_);simp only[qa7,hx];refine qac (qdT (qac (qe9 d hd (by simp) ?_)));refine qac ?_;refine qac (m:=qjZ _ _) (wpAny_of_eq (a:=Value.none) (by first|rfl|(rfl)) ?_)
 refine qcE ?_ (by size_fits);refine qac (wpAny_handled ?_)
 first|rw[n]|rw[n]
 refine qac (qar (wpAny_throw ?_));exact u _ _ (((qdw ..).extBut.push _).push _) ⟨_,qax _ U,U⟩
theorem ge (n:A.handled=none) (c l:Addr) (p:l≠c) (items:Array Value) :
  Draws prog w A c [c,l] items.size (λi v=>items[i]?=some v) (λi h=>h.IsTupleIter c l i/\h.IsTuple l items) where
 live:=λ_ _ st=>let ⟨o,d,_⟩:=st.1;⟨o,d⟩
 frame:=λ_ _ _ st y=>⟨st.1.at λo e=>y c (by simp) o e,by
  obtain⟨o,e,r⟩:=st.2
  exact⟨o,y l (by simp) o e,r⟩⟩
 item:=λi s Q E hi st q=>by
  refine d5 st.1 st.2 (x:=items[i]) (by simp[hi]) λh' j k=>?_;refine q _ h' s.toks (by simp[hi]) ⟨j,?_⟩ k;obtain⟨o,e,r⟩:=st.2;exact⟨o,(k.2 l p).trans e,r⟩
 done:=λs Q E st u=>eW n st.1 st.2 (by simp) u
end
theorem gz (l:Addr) (items:Array Value) (n:Nat) (dct:Option Addr) (f:Array (Option Value)) :
  Meets (qfo.«enumerate.__new__» ⟨[.type "enumerate",.ref l],[]⟩) (λ_ R s=>s.heap.get? l=some { cls:=.type "tuple",dict:=dct,data:=.seq items n,slots:=f }/\
   R (.ok (.ret (.ref (s.heap.push { cls:=.type "tuple_iterator",data:=.fields #[.ref l,.int 0 0] }).objs.size)))
    { s with heap:=(s.heap.push { cls:=.type "tuple_iterator",data:=.fields #[.ref l,.int 0 0] }).push { cls:=.type "enumerate",data:=.fields #[.none,.bool false,.ref s.heap.objs.size,qgq 0,.none,.none] } }):=
 .of_wp λprog w A R s h=>by
  obtain⟨i,g,d,j,os⟩:=s;obtain⟨a,h⟩:=h;have e:=sub_enumerate;have b:Heap.IsTuple _ l items:=⟨_,a,U,n,U⟩
  wp_walk using wpAny_loadPart' a
  refine wpAny_stack_any λst=>qar ?_;split
  ·rename_i c _ _ _ _ _
   cases (c==Value.type "enumerate")
   ·wp_walk using wpAny_loadPart' a,qcT b
    exact⟨_,U,h⟩
   ·wp_walk using wpAny_loadPart' a,qcT b
    exact⟨_,U,h⟩
  ·wp_walk using wpAny_loadPart' a,qcT b
   exact⟨_,U,h⟩
theorem f7 {prog:qaO}{w:World}{A:qa0}{E:Value->qak->Prop}{s:qak}{l:Addr}{items:Array Value}{Q:Value->qak->Prop} (d:s.heap.IsTuple l items)
  (h:∀ h',IsEnum h' (s.heap.objs.size+1) s.heap.objs.size 0 .none->h'.IsTupleIter s.heap.objs.size l 0->h'.objs.size=s.heap.objs.size+2->
    (∀ b o,s.heap.get? b=some o->h'.get? b=some o)->Q (.ref (s.heap.objs.size+1)) { s with heap:=h' }) :
  wpAny (model prog w) A (call (.type "enumerate") [.ref l]) Q E s:=by
 obtain⟨⟨c,dct,dt,e⟩,f,g,n,hd⟩:=d;subst g hd;refine callType_new F.called_enumerate (by decide) (F.typeCall_enumerate_1 _) (F.newCall_enumerate_1 _) (λobj=>F.args_object_init_2 obj _) F.entry_enumerate_new
  (gz l items n dct e) ⟨f,?_⟩
 have hz:(s.heap.push { cls:=.type "tuple_iterator",data:=.fields #[.ref l,.int 0 0] }).objs.size=s.heap.objs.size+1:=qbp ..
 rw[hz];have a:=by
  have:=qax (s.heap.push { cls:=.type "tuple_iterator",data:=.fields #[.ref l,.int 0 0] })
   (o:={ cls:=.type "enumerate",data:=.fields #[.none,.bool false,.ref s.heap.objs.size,qgq 0,.none,.none] }) U
  rw[hz]at this;exact this
 refine⟨⟨_,a,U⟩,h _ a ⟨_,qaj _ (qax _ U),U,U⟩ (by rw[qbp,hz]) λb o x=>qaj _ (qaj _ x)⟩
section
variable {X:Cx}{a:List (Addr×Obj)}{l:St}{H:Hp}{s:qak}{h':Heap}{i:List Addr}
theorem ik.ch (h:∀ b∈i,ik X a H b):∀ b∈i,(b∈X.ex\/X.s₀.heap.objs.size<=b)/\b≠X.env.locals/\(∀ x c,X.env.cells.lookup x=some c->c≠b)/\∀ p∈X.pn++a,p.1≠b:=λb hb=>
 let ⟨_,f1,_,f3,f4,f5⟩:=h b hb
 ⟨f3,f1,f4,f5⟩
theorem Inv.turns {t':Nat} (I:Inv X a l H s) (h:∀ b∈i,ik X a H b) (k:∀ b o,b∉i->s.heap.get? b=some o->h'.get? b=some o):Inv X a l H { s with heap:=h',toks:=t' }:=by
 have f:∀ b u,H b=some u->b∉i:=λb u e z=>by have:=(h b z).1;rw[e]at this;cases this
 refine I.step (ik.ch h) (λb o _ _ d e _=>k b o d e) (λb o _ _ d e _=>⟨o.slots,k b o d e⟩) (λ_ _ _ _ n=>n)
  (λb o d e=>⟨o,k b o d e⟩) (λ_ _ e=>e) (λ_ _ _ e=>e) (λb ps e=>⟨#[],by rw[e];simp⟩) (λm hm=>?_) (λb u e=>?_) I.bare
 ·obtain⟨o,es,w,t,r⟩:=hm
  exact⟨o,es,w,k _ o (λz=>(h _ z).2.1 U) t,r⟩
 ·refine (I.hok b u e).stay (λc v d q=>k c v ?_ q) (λ_ q=>q) λ_ _ q=>q
  rcases d with z|z
  ·rw[z];exact f b u e
  ·exact f c _ z
theorem Inv.turnsT {t':Nat}{T:Addr}{xs:List V}{j:Array Value} (I:Inv X a l H s) (h:∀ b∈i,ik X a H b) (k:∀ b o,b∉i->s.heap.get? b=some o->h'.get? b=some o)
  (y:s.heap.objs.size<=T) (A:d9 h' T j) (B:aF xs j.toList) (hz:xs.length<=qaG):Inv X a l (upd H T (.tup xs)) { s with heap:=h',toks:=t' }:=by
 have f:∀ b u,H b=some u->b∉i:=λb u e z=>by have:=(h b z).1;rw[e]at this;cases this
 have g:=I.hok.fresh y;refine I.step (ik.ch h) (λb o _ _ d e _=>k b o d e) (λb o _ _ d e _=>⟨o.slots,k b o d e⟩) (λb o _ e n=>by rw[upd_ne ((λb o e=>qaF (qaN (qaA e) y)) b o e)];exact n)
  (λb o d e=>⟨o,k b o d e⟩) (λb _ e=>by rw[upd_ne (aH e g)];exact e) (λb _ _ e=>by rw[upd_ne (aH e g)];exact e) (λb ps e=>⟨#[],by rw[upd_ne (aH e g),e];simp⟩) (λm hm=>?_) (λb u e=>?_) I.bare
 ·obtain⟨o,es,w,t,r⟩:=hm
  exact⟨o,es,w,k _ o (λz=>(h _ z).2.1 U) t,r⟩
 ·by_cases hb:b=T
  ·subst hb
   rw[upd_same]at e;cases e;refine⟨hz,j.toList,B,?_⟩;simpa using A
  ·rw[upd_ne hb]at e
   refine (I.hok b u e).stay (λc v d q=>k c v ?_ q) (λc q=>?_) λc z q=>?_
   ·rcases d with z|z
    ·rw[z];exact f b u e
    ·exact f c _ z
   all_goals first
    |(rw[upd_ne (aH q g)];exact q)
    |(exact z)
end
def Ite (S:Hp->List V->Prop):It:=
 ⟨λi H=>∃ xs x,S H xs/\xs[i]?=some x,λi H x H'=>∃ T v,(∀ xs,S H xs->xs[i]?=some v)/\H T=none/\x=.ref T/\H'=upd H T (.tup [.int i,v]),λi H=>∃ xs,S H xs/\xs.length=i⟩
theorem u7 {P:qaO}{w:World}{K:qae}{n:List Expr}{k:Nat}{pos:Pos} (a f e:Addr) (l:e≠f) (J:a≠e) (C:a≠f) :
  ud P w K (.Tuple n k pos) (Ite λH xs=>SqL K H a xs) [e,f] e (λi h=>(∃ g,IsEnum h e f i g)/\h.IsListIter f a i) where
 mem:=by simp
 obj:=λi h st b hb=>by
  rcases qaz.mp hb with rfl|hb
  ·obtain⟨⟨g,q⟩,_⟩:=st
   exact⟨_,q,λv z=>by cases z⟩
  ·rw[qam.mp hb]
   obtain⟨_,o,e,c,d⟩:=st;exact⟨o,e,λv z=>by rw[d]at z;cases z⟩
 keep:=λi h h' st M=>⟨let ⟨g,q⟩:=st.1;⟨g,M e (by simp) _ q⟩,st.2.at λo q=>M f (by simp) o q⟩
 item:=by
  intro X Y hw hK O i L s σ H E I Q st hg;subst Y hw hK;obtain⟨xs,x,N,hx⟩:=hg;obtain⟨j,V,p,hz⟩:=I.list N;obtain⟨u,hu,ru⟩:=V.get hx;have W:=qeX (qjv (prog:=X.prog) (w:=X.w) (A:=X.A.in1) (I.ok.hd O) f a C j.toArray) e l (by simp[l,qbD J]) (by simp);have hi:=by
   simpa using ((qap.mp hu).1)
  obtain⟨⟨ol,F⟩,m⟩:=st;refine qg5 (qjv (A:=X.A.in1) (I.ok.hd O) f a C j.toArray) F ⟨m,p.isList⟩ hi l (by simp[l,qbD J]) λy h1 t hy ho S ht hsz hk=>⟨_,U,?_⟩;have hm:(λ_ (T) (h)=>(∃ x,IsEnumOut h e f _ x T)/\_/\T≠e/\T≠f) i s.heap.objs.size h1:=⟨⟨_,ho⟩,S,qcd (qaA F),qcd (let ⟨_,q,_⟩:=m;qaA q)⟩;have M:∀ b o,b∉[e,f]->s.heap.get? b=some o->h1.get? b=some o:=λb o hb q=>hk b o (λz=>hb (by simp[z])) (λz=>hb (by simp[z])) q;generalize eT:s.heap.objs.size=T at ht ho hm ⊢;have hT:=qdf eT;have r:∃ tk,tk=t+1:=⟨_,U⟩;obtain⟨tk,r⟩:=r;rw[<-r];have ey:=by
   have D:=by simpa using hy
   rw[hu]at D;exact (qaL D).symm
  subst ey;refine W.go n k pos i T _ _ _ hm λh2 B G=>?_;have nT:=W.apart i T _ hm;refine⟨.ref T,_,?_,U,⟨T,x,λys hy=>by rw[I.list_inj hy N];exact hx,I.hok.fresh hT,U,U⟩,⟨B.1,B.2.1⟩,λb hb=>?_⟩
  ·exact (I.turnsT Q (λb o hb q=>G b o hb (M b o hb q)) hT ⟨_,G T _ nT ht,U,⟨_,U⟩,U⟩ (.cons ⟨t,U⟩ (.cons ru .nil)) (by show 2<=qaG;decide))
  ·rw[upd_ne (show b≠T from λz=>nT (z ▸ hb))]
   exact (Q b hb).1
 done:=by
  intro X Y hw hK O i L s σ H E I Q st hg;subst Y hw hK;obtain⟨xs,N,hx⟩:=hg;obtain⟨j,V,p,hz⟩:=I.list N;have hl:=V.length;have hx':j.toArray[i]?=none:=by simp;lia
  obtain⟨⟨g,R⟩,hit⟩:=st
  -- the end at place i
  refine wpAny_pyNext_enum_end (I.ok.hd O) R hit p.isList hx' λh' eb=>⟨U,?_⟩;exact I.turns Q λb o hb q=>eb b o (by simp at hb;exact hb.2) q
 self:=λ_ _ _ _ _ st h=>let ⟨⟨_,R⟩,_⟩:=st;qem R h
theorem u8 {P:qaO}{w:World}{K:qae}{n:List Expr}{k:Nat}{pos:Pos} (a g e:Addr) (f:e≠g) (B:a≠e) (r:a≠g) :
  ud P w K (.Tuple n k pos) (Ite λH xs=>SqT K H a xs) [e,g] e (λi h=>(∃ l,IsEnum h e g i l)/\h.IsTupleIter g a i) where
 mem:=by simp
 obj:=λi h st b hb=>by
  rcases qaz.mp hb with rfl|hb
  ·obtain⟨⟨l,q⟩,_⟩:=st
   exact⟨_,q,λv z=>by cases z⟩
  ·rw[qam.mp hb]
   obtain⟨_,o,e,c,d⟩:=st;exact⟨o,e,λv z=>by rw[d]at z;cases z⟩
 keep:=λi h h' st C=>⟨let ⟨l,q⟩:=st.1;⟨l,C e (by simp) _ q⟩,st.2.at λo q=>C g (by simp) o q⟩
 item:=by
  intro X V hw Y O i M s σ H E I Q st hg;subst V hw Y;obtain⟨xs,x,N,hx⟩:=hg;obtain⟨j,S,p,hz⟩:=I.tuple N;obtain⟨u,hu,ru⟩:=S.get hx;have W:=qeX (ge (prog:=X.prog) (w:=X.w) (A:=X.A.in1) (I.ok.hd O) g a r j.toArray) e f (by simp[f,qbD B]) (by simp);have hi:=by
   simpa using ((qap.mp hu).1)
  obtain⟨⟨ol,J⟩,m⟩:=st;refine qg5 (ge (A:=X.A.in1) (I.ok.hd O) g a r j.toArray) J ⟨m,p⟩ hi f (by simp[f,qbD B]) λy h1 t hy ho R ht hsz hk=>⟨_,U,?_⟩;have hm:(λ_ (T) (h)=>(∃ x,IsEnumOut h e g _ x T)/\_/\T≠e/\T≠g) i s.heap.objs.size h1:=⟨⟨_,ho⟩,R,qcd (qaA J),qcd (let ⟨_,q,_⟩:=m;qaA q)⟩;have C:∀ b o,b∉[e,g]->s.heap.get? b=some o->h1.get? b=some o:=λb o hb q=>hk b o (λz=>hb (by simp[z])) (λz=>hb (by simp[z])) q;generalize eT:s.heap.objs.size=T at ht ho hm ⊢;have hT:=qdf eT;have F:∃ tk,tk=t+1:=⟨_,U⟩;obtain⟨tk,F⟩:=F;have ey:=by
   have G:=by simpa using hy
   rw[hu]at G;exact (qaL G).symm
  subst ey;refine W.go n k pos i T _ _ _ hm λh2 D L=>?_;have nT:=W.apart i T _ hm;refine⟨.ref T,_,?_,U,⟨T,x,λys hy=>by rw[I.tuple_inj hy N];exact hx,I.hok.fresh hT,U,U⟩,⟨D.1,D.2.1⟩,λb hb=>?_⟩
  ·exact (I.turnsT Q (λb o hb q=>L b o hb (C b o hb q)) hT ⟨_,L T _ nT ht,U,⟨_,U⟩,U⟩ (.cons ⟨t,U⟩ (.cons ru .nil)) (by show 2<=qaG;decide))
  ·rw[upd_ne (show b≠T from λz=>nT (z ▸ hb))]
   exact (Q b hb).1
 done:=by
  intro X V hw Y O i M s σ H E I Q st hg;subst V hw Y;obtain⟨xs,N,hx⟩:=hg;obtain⟨j,S,p,hz⟩:=I.tuple N;have hl:=S.length;have hi:i=j.toArray.size:=by simp;lia
  subst hi;refine (qeX (ge (A:=X.A.in1) (I.ok.hd O) g a r j.toArray) e f (by simp[f,qbD B]) (by simp)).done s _ _ ⟨st.1,st.2,p⟩ λh' tk C=>⟨U,I.turns Q C⟩
 self:=λ_ _ _ _ _ st h=>let ⟨⟨_,he⟩,_⟩:=st;qem he h
section
variable {X:Cx}
def CT (K:qae) (M:TA):TI:=λE H R=>M E H λvs H1=>∃ a,vs=[.ref a]/\(∃ xs,SqL K H1 a xs)/\R (Ite λH xs=>SqL K H a xs) H1
theorem zj {D:List Expr}{k:Nat}{C:Pos}{a:Expr}{M:TA}{p pos:Pos} (hg:Gl X "enumerate") (hm:X.mg "enumerate" = none) (ha:PA X [a] M) (hs:qbB [a] X.env=[(false,eval a X.env)]:=by rfl) :
  PI X (.Tuple D k C) (.Call (.Name "enumerate" p) [a] [] pos) (CT X.K M):=by
 intro d s E H R I h;refine Call_ (iY I hg hm qj0 (qb7 (thn (ha pos d s E H _ I h) λw s1 ⟨vs,H1,I1,r1,q1⟩=>?_) hs U));obtain⟨l,e,⟨xs,L⟩,q⟩:=q1;subst e;cases r1 with
 |cons r j=>
  cases j;cases r;obtain⟨G,g,Y,hz⟩:=I1.list L;refine call_enumerate_list Y.isList λh' O N hsz J=>qem O ?_;have m:l<s1.heap.objs.size:=by obtain⟨_,_,e,_⟩:=Y;exact qaA e
  refine⟨_,_,_,_,H1,U,I1.kept J,u7 l s1.heap.objs.size _ (qhL _) (qaF (qba m)) (qaF m),⟨⟨_,O⟩,N⟩,λb hb=>?_,q⟩;have B:s1.heap.objs.size<=b:=by
   rcases qaz.mp hb with e|hb
   ·rw[e];exact qcF _
   ·rw[qam.mp hb];exact qao _
  exact I1.fpOk B (I1.hok.fresh B)
def CU (K:qae) (M:TA):TI:=λE H R=>M E H λvs H1=>∃ a,vs=[.ref a]/\(∃ xs,SqT K H1 a xs)/\R (Ite λH xs=>SqT K H a xs) H1
theorem zk {D:List Expr}{k:Nat}{C:Pos}{a:Expr}{M:TA}{p pos:Pos} (hg:Gl X "enumerate") (hm:X.mg "enumerate" = none) (ha:PA X [a] M) (hs:qbB [a] X.env=[(false,eval a X.env)]:=by rfl) :
  PI X (.Tuple D k C) (.Call (.Name "enumerate" p) [a] [] pos) (CU X.K M):=by
 intro d s E H R I h;refine Call_ (iY I hg hm qj0 (qb7 (thn (ha pos d s E H _ I h) λw s1 ⟨vs,H1,I1,r1,q1⟩=>?_) hs U));obtain⟨l,e,⟨xs,L⟩,q⟩:=q1;subst e;cases r1 with
 |cons r j=>
  cases j;cases r;obtain⟨G,g,Y,hz⟩:=I1.tuple L;refine f7 Y λh' O N hsz J=>qem O ?_;have m:l<s1.heap.objs.size:=by obtain⟨_,e,_⟩:=Y;exact qaA e
  refine⟨_,_,_,_,H1,U,I1.kept J,u8 l s1.heap.objs.size _ (qhL _) (qaF (qba m)) (qaF m),⟨⟨_,O⟩,N⟩,λb hb=>?_,q⟩;have B:s1.heap.objs.size<=b:=by
   rcases qaz.mp hb with e|hb
   ·rw[e];exact qcF _
   ·rw[qam.mp hb];exact qao _
  exact I1.fpOk B (I1.hok.fresh B)
theorem ve {ns:List Int}:∀ {w:List Value},aF (ns.map V.int) w->∃ xs:Array (Int×Tok),w.toArray=intItems xs/\xs.toList.map (·.1)=ns:=by
 induction ns with
 |nil=>intro w r;cases r;exact⟨#[],by simp[intItems],U⟩
 |cons n ns ih=>
  intro w r;cases r with
  |cons r j=>
   obtain⟨t,rfl⟩:=r;obtain⟨xs,e,e2⟩:=ih j;refine⟨#[(n,t)]++xs,?_,by simp[e2]⟩;have e':=congrArg qgB e;simp[intItems]at e' ⊢;exact e'
theorem yi:bb X (.builtin "sum") (λxs H Q=>X.calm=true/\∃ (a:Addr) (ns:List Int),xs=[.ref a]/\SqL X.K H a (ns.map V.int)/\Q (.int ns.sum) H):=by
 intro d s E H xs w Q I g h;obtain⟨T,a,ns,rfl,L,q⟩:=h;cases g with
 |cons r j=>
  cases j;cases r;obtain⟨G,g,p,hz⟩:=I.list L;obtain⟨ps,e1,e2⟩:=ve g;have hl:=p.isList;rw[e1]at hl;refine sum_intListG (I.ok.hd T) hl λh' tk t' J=>?_;refine⟨.int ns.sum,H,I.kept J,⟨t',?_⟩,q⟩;rw[preSum_eq,qdq (by simp),e2]
theorem yh:bb X (.builtin "all") (λxs H Q=>X.calm=true/\∃ (a:Addr) (bs:List Bool),xs=[.ref a]/\SqL X.K H a (bs.map V.bl)/\Q (.bl (bs.all id)) H):=by
 intro d s E H xs w Q I g h;obtain⟨T,a,bs,rfl,L,q⟩:=h;cases g with
 |cons r j=>
  cases j;cases r;obtain⟨G,g,p,hz⟩:=I.list L;have m:a<s.heap.objs.size:=by obtain⟨_,_,e,_⟩:=p;exact qaA e
  have W:=by have:=g.length;simpa using this.symm
  refine call_all_walk (qfU p.isList ?_);refine⟨s.heap.objs.size,_,_,_,_,_,λi=>(bs[i]?).getD true,U,Walks.list (A:=X.A.in1) (I.ok.hd T) s.heap.objs.size a (qaF m) G.toArray,⟨⟨_,qax _ U,U,U⟩,p.isList.push _⟩,?_,λh' tk J=>?_⟩
  ·intro i v s' Q' E' hv hQ'
   have S:=by simpa using hv
   have hi:=(qap.mp S).1;obtain⟨b,hb⟩:∃ b,bs[i]?=some b:=⟨bs[i]'(by lia),by simp[show i<bs.length by lia]⟩
   have:(bs.map V.bl)[i]?=some (.bl b):=by rw[qav,hb];rfl
   obtain⟨u,hu,ru⟩:=g.get this;rw[S]at hu;cases hu;cases ru;have hQ2:Q' ((bs[i]?).getD true) s':=hQ';rw[hb]at hQ2;exact qel hQ2
  ·refine⟨_,H,I.kept (λb o e=>J b o (λz=>absurd (qaA e) (by rw[qam.mp z];exact qa3 _)) (qaj _ e)),?_,q⟩
   congr 1
   have:∀ n,n=bs.length->((qai n).all λi=>(bs[i]?).getD true)=bs.all id:=by
    intro n hn;rw[qfS,qaW,qaW];constructor
    ·intro h b hb
     obtain⟨i,hi,e⟩:=qcu.mp hb
     have:=h i (qaI.mpr (by lia))
     simp[hi,e]at this;exact this
    ·intro h i hi
     have hi':=qaI.mp hi;have P:i<bs.length:=by lia
     simp[P];exact h _ (qbR _)
   exact this _ (by simpa using W)
def fN:V->PyData
 |.non=>.none
 |.bl b=>.bool b
 |.int i=>.int i
 |.str x=>.str x
 |_=>.none
def qZ (c:List V):Str:=(PyData.tuple (c.map fN)).shown
def dk (y:V):Prop:=y=.non\/∃ i:Int,y=.int i/\0<=i/\i<1024
theorem ui:bb X (.builtin "repr") (λxs H Q=>∃ i:Int,xs=[.int i]/\i.natAbs.log2<1920/\Q (.str (toString i)) H):=by
 intro d s E H xs w Q I g h;obtain⟨i,rfl,hi,q⟩:=h;cases g with
 |cons r j=>
  cases j;obtain⟨t,rfl⟩:=r;exact call_repr_gives (qeW s i t) F.slot_int_repr F.entry_int_repr (F.args_int_repr_1 _) (gives_int_repr i t hi) ⟨.str _,H,I.tok _,⟨_,U⟩,q⟩ (hx:=int_text_fits hi)
theorem gD {h:Heap}:∀ {c:List V}{w:List Value},aF c w->(∀ y∈c,dk y)->ReadsAll h w (c.map fN) []
 |_,_,.nil,_=>.nil
 |_,_,.cons (a:=y) r j,f=>by
  have hr:=gD (h:=h) j λz hz=>f z (qah _ hz);rcases f y qag with e|⟨i,e,_⟩
  ·subst e;cases r;exact .cons .none hr
  ·subst e;obtain⟨t,rfl⟩:=r;exact .cons (.int i t) hr
theorem xr {i:Int} (h0:0<=i) (h1:i<1024):((toString i:String):Str).length<=10:=by
 obtain⟨n,rfl⟩:=qgA h0;have hn:n<2^10:=by lia
 have:=nat_repr_length_le (by decide) hn
 rw[qgu];exact this
theorem kS:∀ {c:List V},(∀ y∈c,dk y)->piled (qbN (c.map fN))<=12*c.length
 |[],_=>by simp[qbN,piled]
 |y::c,f=>by
  have ih:=kS λz hz=>f z (qah _ hz);rw[qau,qbN,qis,qaq]
  have:(fN y).shown.length<=10:=by
   rcases f y qag with e|⟨i,e,h0,h1⟩
   ·subst e;decide
   ·subst e;exact xr h0 h1
  lia
theorem gH:∀ {c:List V},(∀ y∈c,dk y)->qdJ (c.map fN)=true
 |[],_=>rfl
 |y::c,f=>by
  rw[qau,qdJ,(gH λz hz=>f z (qah _ hz)),qil];rcases f y qag with e|⟨i,e,h0,h1⟩
  ·subst e;rfl
  ·subst e
   refine decide_eq_true ?_;have hn0:i.natAbs<1024:=by lia
   by_cases hz:i.natAbs=0
   ·rw[hz];decide
   ·exact (qjM hz).mpr (qaN (show i.natAbs<2^10 from hn0) (qaY (by decide) (by decide)))
theorem jM:∀ {c:List V},(∀ y∈c,dk y)->qdU (c.map fN)=false
 |[],_=>rfl
 |y::c,f=>by
  rw[qau,qdU,(jM λz hz=>f z (qah _ hz))];rcases f y qag with e|⟨i,e,_⟩<;>subst e<;>rfl
theorem rX:∀ {c:List V},(∀ y∈c,dk y)->(PyData.tuple (c.map fN)).depth<=2:=by
 intro c f
 have:∀ {c:List V},(∀ y∈c,dk y)->qde (c.map fN)<=1:=by
  intro c
  induction c with
  |nil=>intro _;simp[qde]
  |cons y c ih=>
   intro f
   have:=ih λz hz=>f z (qah _ hz)
   rw[qau,qde]
   have:(fN y).depth<=1:=by
    rcases f y qag with e|⟨i,e,_⟩<;>subst e<;>simp[fN,qdt]
   lia
 have:=this f
 simp only[qdt];lia
theorem uj (hg:X.A.guards=some []) (hu:X.A.units+64<cLine):bb X (.builtin "repr") (λxs H Q=>∃ a c,xs=[.ref a]/\SqT X.K H a c/\(∀ y∈c,dk y)/\c.length<=1000/\Q (.str (qZ c)) H):=by
 intro d s E H xs w Q I g h;obtain⟨a,c,rfl,L,f,hl,q⟩:=h;cases g with
 |cons r j=>
  cases j;cases r;obtain⟨G,g,p,hz⟩:=I.tuple L;obtain⟨o,ho,T,n,hd⟩:=p;refine qjV (.tuple ho T hd (by simpa using gD g f)) (gH f) (qgX (jM f)) hg (by have:=rX f;lia) (λ_ _ e=>e) (λh' u tk J=>⟨.str _,H,I.kept J,⟨u,U⟩,q⟩) ?_;show (qhy _).length<=qaG;have hs:=kS f;have hz2:(Str.join ", " (qbN (c.map fN))).length<=12*c.length:=by
   cases e:qbN _ with
   |nil=>exact qbA _
   |cons x r=>
    have:=qjE (qbN _) (by rw[e];simp)
    lia
  unfold qhy;rw[qdx,qdx];have h2:((if (qbN (c.map fN)).length==1 then ",)" else ")"):Str).length<=2:=by split<;>decide
  have hsz:qaG=16777216:=rfl;have h1':(("(" : Str)).length=1:=rfl
  lia
end
def eM (k:Nat) (js:List Nat) (a:St):St:=qaD k none++js.map λj=>(a[j]?).getD none
def uD (a:Scope) (ns:List (Str×qbZ)) (N Nc:List Str) (k:Nat) (js:List Nat):Bool:=
 decide ((a.names.map (·.1)).Nodup)&&decide Nc.Nodup&&decide (Nc.length=k+js.length) &&
 (a.names.all λx=>x.2 != .free||ns.lookup x.1==some .cell||ns.lookup x.1==some .free) &&
 ((qai js.length).all λi=>match Nc[k+i]?,js[i]? with|some x,some j=>N[j]?==some x&&a.names.lookup x==some .free|_,_=>false)
theorem sO {X:Cx}{a:Scope} (ns:List (Str×qbZ)) (N Nc:List Str) (k:Nat) (js:List Nat) (hns:X.env.scope.names=ns) (hN:X.N=N) (m:a.kind=.function) (h:uD a ns N Nc k js=true):c8 X a Nc (eM k js):=by
 unfold uD at h;simp only[qaX,decide_eq_true_eq]at h;obtain⟨⟨⟨⟨f,g⟩,n⟩,e⟩,l⟩:=h;refine⟨m,f,g,λx hx d=>?_,λb _=>?_,λb _ i x v e1 e2=>?_⟩
 ·have:=qaW.mp e x hx
  rw[d]at this;simp only[qfR,beq_iff_eq,bne_self_eq_false,qbq,false_or]at this;unfold qk4;rw[hns];exact this
 ·unfold eM
  rw[qaw,qb3,qaf,n]
 ·unfold eM at e2
  by_cases hi:i<k
  ·rw[qaB (by simpa using hi),qcC,iFP hi]at e2
   cases e2
  ·rw[qaJ (by simpa using hi),qb3,qav]at e2
   cases ej:js[i - k]? with
   |none=>rw[ej]at e2;cases e2
   |some j=>
    rw[ej]at e2;have c:=(qap.mp ej).1
    have:=qaW.mp l _ (qaI.mpr c)
    rw[show k+_=i by lia,e1,ej]at this;simp only[qaX,beq_iff_eq]at this;refine⟨j,by rw[hN];exact this.1,?_,this.2⟩;have e3:(b[j]?).getD none=some v:=qaL e2;cases eq:b[j]? with
    |none=>rw[eq]at e3;cases e3
    |some o=>rw[eq]at e3;rw[show o=some v from e3]
def zL (names ns:List (Str×qbZ)):List (Str×qbZ):=names.map λx=>if (x.2==NameKind.free&&ns.lookup x.1==some .cell) then (x.1,.cell) else x
theorem l9 {X:Cx}{a:Scope}{b:List (Str×Addr)}{Nc:List Str}{s:qak}{H:Hp}{C:Addr}{d:List Addr}{ns:List (Str×qbZ)} (c:X.env.scope.kind=.function) (hns:X.env.scope.names=ns) :
  (lcX X a b Nc s H C d).env.scope.names=zL a.names ns:=by
 show (a.names.map _)=_
 congr 1
 funext x
 obtain⟨n,k⟩:=x;show (if _=true then (n,NameKind.cell) else (n,k))=_;unfold qk4;rw[c,hns,show (ScopeKind.function==ScopeKind.function)=true from U,qil]
section
variable {a tl:St}{tt:TT}{te:TE}{H:Hp}{Q:VK}
end
section
variable {X:Cx}
theorem Bf:OpR X (qbE .Mult) (rI qhj λi j=>.int (i*j)):=opI λ_ _ _ _ _ _ _ a q=>mul_int q a
end
theorem aN.new {H:Hp}{p:Addr} (h:H p=none) (o:HO):aN H (upd H p o):=λb u q=>by rw[upd_ne (aH q h)];exact q
theorem wX {X:Cx} (hg:X.A.guards=some []) (c:X.A.units+64 < cLine):bb X (.builtin "repr") (λxs H Q=>(∃ i:Int,xs=[.int i]/\i.natAbs.log2 < 1920/\Q (.str (toString i)) H)\/
  (∃ a b,xs=[.ref a]/\SqT X.K H a b/\(∀ y∈b,dk y)/\b.length<=1000/\Q (.str (qZ b)) H)):=bb.or ui (uj hg c)
theorem ii {n:Nat} (h:n<=1000):n<=qaG:=qez (xQ h)
theorem z6 (l:Addr) (items:Array Value) (n:Nat) (dct:Option Addr) (a:Array (Option Value)) (u:Tok) :
  Meets (qfo.«tuple.__mul__» ⟨[.ref l,.int 1 u],[]⟩) (λ_ R s=>s.heap.get? l=some { cls:=.type "tuple",dict:=dct,data:=.seq items n,slots:=a }/\R (.ok (.ret (.ref l))) s):=
 .of_wp λprog w A R s h=>by
  obtain⟨b,h⟩:=h
  wp_walk using wpAny_loadPart' b
  exact⟨_,U,h⟩
theorem xT (l:Addr) (items:Array Value) (n:Nat) (dct:Option Addr) (f:Array (Option Value)) (x:Int) (u:Tok) (j:2<=x) (m:x<1000) (b:items.isEmpty=false) (hz:items.size<=1000)
  (g:((qaD x.toNat items).foldl (λx1 a=>x1++a) #[]).size<=qaG) :
  Meets (qfo.«tuple.__mul__» ⟨[.ref l,.int x u],[]⟩) (λ_ R s=>s.heap.get? l=some { cls:=.type "tuple",dict:=dct,data:=.seq items n,slots:=f }/\
   R (.ok (.ret (.ref s.heap.objs.size))) { s with heap:=s.heap.push { cls:=.type "tuple",data:=.seq ((qaD x.toNat items).foldl (λx1 a=>x1++a) #[]) } }):=
 .of_wp λprog w A R s h=>by
  obtain⟨c,h⟩:=h;have c1:(x < -(2^63)||x>=2^63)=false:=by simp;lia
  have c2:(items.isEmpty||x==1)=false:=by rw[b];simp;lia
  have c3:(x<=0||items.isEmpty)=false:=by rw[b];simp;lia
  have e:(items.size:Int)*x<=1000000:=by
   have i:(items.size:Int)*x<=1000*x:=qfw (by lia) (by lia);lia
  have d:¬ ((items.size:Int)*x > (2^63 - 1) / 8):=by lia
  have k:qiE ((items.size:Int)*x)=false:=by
   exact decide_eq_false (by have:(qaG:Nat)=16777216:=rfl
                             lia)
  refine qeM (decide_eq_false (by rw[c1];exact qaU)) ?_
  wp_walk using wpAny_loadPart' c
  refine qeM (decide_eq_false (by rw[c2];exact qaU)) ?_;refine qeM (decide_eq_false (by rw[c3];exact qaU)) ?_;refine qeM (decide_eq_false d) ?_
  wp_walk using wpAny_loadPart' c
  exact⟨_,U,h⟩
theorem xU (l:Addr) (items:Array Value) (n:Nat) (dct:Option Addr) (a:Array (Option Value)) (u:Tok) (c:items.isEmpty=false) :
  Meets (qfo.«tuple.__mul__» ⟨[.ref l,.int 0 u],[]⟩) (λ_ R s=>s.heap.get? l=some { cls:=.type "tuple",dict:=dct,data:=.seq items n,slots:=a }/\R (.ok (.ret (.ref s.heap.objs.size))) { s with heap:=s.heap.push { cls:=.type "tuple",data:=.seq #[] } }):=
 .of_wp λprog w A R s h=>by
  obtain⟨b,h⟩:=h
  wp_walk using wpAny_loadPart' b
  exact⟨_,U,h⟩
theorem kl:fillsNumberSlot (.type "tuple") "mul" = pure false:=
 PySem.fillsNumberSlot_seq qet.lookup (by decide +kernel) F.slot_tuple_rmul.lookup (by decide +kernel)
theorem qV:seqRepeat? (.type "tuple")=pure (some (.builtin "tuple.__mul__")):=by
 rfl
theorem mR (a:Int) (t:Tok) (l:Addr) (items:Array Value) (n:Nat) (dct:Option Addr) (b:Array (Option Value)) :
  Meets (qfo.«int.__rmul__» ⟨[.int a t,.ref l],[]⟩) (λ_ R s=>s.heap.get? l=some { cls:=.type "tuple",dict:=dct,data:=.seq items n,slots:=b }/\R (.ok (.ret Value.notImplemented)) s):=
 .of_wp λprog w A R s h=>by obtain⟨c,h⟩:=h;wp_walk using wpAny_loadPart' c;exact⟨_,U,h⟩
section
variable {X:Cx}
def Fv (K:qae):R2:=λx y H Q=>∃ l k xs,x=.ref l/\y=.int k/\SqT K H l xs/\xs≠[]/\xs.length<=1000/\0<=k/\k<1000/\(k=1->Q (.ref l) H)/\
 (k≠1->∀ p,H p=none->Q (.ref p) (upd H p (.tup (qaD k.toNat xs).flatten)))
theorem Bh:OpR X (qbE .Mult) (Fv X.K):=by
 intro C s N H x y v u Q I D L h;obtain⟨l,k,xs,rfl,rfl,E,f,w,M,J,G,z⟩:=h;cases D;obtain⟨t,rfl⟩:=L;obtain⟨a,B,p,hz⟩:=I.tuple E;obtain⟨⟨c,dct,dt,j⟩,e,F,n,hd⟩:=p;subst F hd;have b:=B.length;refine qgG (by decide) ⟨_,e,U⟩ (λs'=>qeW s' k t) kl qiB qeE qV qii.lookup
  (qco qeE (qeW s k t) qik (qh2 _ _) (mR k t l a.toArray n dct j) ⟨e,U,⟨_,e,U⟩,?_⟩)
 by_cases r:k=1
 ·subst r
  exact qco qet ⟨_,e,U⟩ qfI (qfn _ _) (z6 l a.toArray n dct j t) ⟨e,.ref l,H,I,U,G U⟩
 ·have A:=by
   exact (j5 a k.toNat [])
  have d:(qaD k.toNat xs).flatten.length<=qaG:=by
   rw[qy]
   have:k.toNat*xs.length<=1000*1000:=qc3 (by lia) w
   have O:qaG=16777216:=rfl;lia
  have i:(qaD k.toNat a).flatten.length<=qaG:=by
   rw[qy]at d ⊢;rw[<-b];exact d
  have g:a.toArray.isEmpty=false:=by
   cases a with
   |nil=>cases xs with
    |nil=>exact absurd U f
    |cons _ _=>cases b
   |cons _ _=>rfl
  by_cases m:k=0
  ·subst m
   refine qco qet ⟨_,e,U⟩ qfI (qfn _ _) (xU l a.toArray n dct j t g) ⟨e,?_⟩;exact⟨.ref _,_,I.laid (o:=.tup []) (λ_ _ q=>qaj _ q) (qao _) ⟨qbA _,_,.nil,⟨_,qax _ U,U,⟨0,U⟩,U⟩⟩,U,z r _ I.fresh⟩
  refine qco qet ⟨_,e,U⟩ qfI (qfn _ _) (xT l a.toArray n dct j k t (by lia) J ?_ (by rw[qaC];lia) (by rw[A];exact i)) ⟨e,?_⟩
  ·cases a with
   |nil=>cases xs with
    |nil=>exact absurd U f
    |cons _ _=>cases b
   |cons _ _=>rfl
  ·rw[A]
   refine⟨.ref _,_,I.laid (o:=.tup (qaD k.toNat xs).flatten) (λ_ _ q=>qaj _ q) (qao _) ⟨d,_,B.rep k.toNat,⟨_,qax _ U,U,⟨0,U⟩,U⟩⟩,U,z r _ I.fresh⟩
end
section
variable {X:Cx}{K:qae}
theorem ET (j:X.calm=true:=by rfl) (c:X.K=K:=by rfl):bb X (.builtin "sum") (λxs H Q=>∃ (a:Addr) (ns:List Int),xs=[.ref a]/\SqL K H a (ns.map V.int)/\Q (.int ns.sum) H):=by
 subst c;intro b s f H xs e Q I g h;exact yi b s f H xs e Q I g ⟨j,h⟩
theorem ES (j:X.calm=true:=by rfl) (c:X.K=K:=by rfl):bb X (.builtin "all") (λxs H Q=>∃ (a:Addr) (bs:List Bool),xs=[.ref a]/\SqL K H a (bs.map V.bl)/\Q (.bl (bs.all id)) H):=by
 subst c;intro b s f H xs e Q I g h;exact yh b s f H xs e Q I g ⟨j,h⟩
theorem yJ {k:Nat} (l:bh k X.A) (c:X.K=K:=by rfl):bb X (.builtin "repr") (λxs H Q=>(∃ i:Int,xs=[.int i]/\i.natAbs.log2 < 1920/\Q (.str (toString i)) H)\/
  (∃ a d,xs=[.ref a]/\SqT K H a d/\(∀ y∈d,dk y)/\d.length<=1000/\Q (.str (qZ d)) H)):=by subst c;exact wX l.gd l.units
end
section
variable {X:Cx}
end
theorem dR {n j:Nat} (h:j<n):ixN n (j:Int)=some j:=by
 unfold ixN;rw[iFP (by lia),iFP (by lia),qa7]
section
variable {X:Cx}{e:Expr}{ty:TE}{p1 j f k b c a:Pos}{g d h i:Nat}
end
section
variable {prog:qaO}{w:World}{A:qa0}{E:Value->qak->Prop}{s:qak}
end
section
variable {X:Cx}
theorem AO:bb X (.type "range") (λxs H Q=>∃ j:Int,xs=[.int j]/\∀ p,H p=none->Q (.ref p) (upd H p (.rng 0 j))):=by
 intro a s e H xs d Q I c h;obtain⟨j,rfl,q⟩:=h;cases c with
 |cons r b=>
  cases b;obtain⟨t,rfl⟩:=r;exact call_range_1 ⟨.ref _,_,I.laid (o:=.rng 0 j) (λ_ _ q=>qaj _ q) (qao _) ⟨_,_,_,qax _ U⟩,U,q _ I.fresh⟩
end
section
variable {prog:qaO}{w:World}{A:qa0}{E:Value->qak->Prop}{s:qak}
end
section
variable {X:Cx}{e:Expr}{te:TE}{p1 b a pos:Pos}{j:Nat}
end
theorem aF.at {xs:List V}{b:List Value} (r:aF xs b):∀ (j:Nat) (h:j<b.length) ,∃ h':j<xs.length,aK xs[j] b[j]:=by
 induction r with
 |nil=>intro j h;exact absurd h (qcz j)
 |cons a t e=>
  intro j h;cases j with
  |zero=>exact⟨Nat.zero_lt_succ _,a⟩
  |succ j=>
   obtain⟨c,d⟩:=e j _;exact⟨Nat.succ_lt_succ c,d⟩
theorem mj (e:Nat->Bool) (n:Nat):(qai (n+1)).all e=(e 0&&(qai n).all λj=>e (j+1)):=by
 rw[qdr,qbu,qer];rfl
section
variable {X:Cx}{K:qae}{c:List (Addr×Obj)}{d:St}{H:Hp}{s:qak}{A:qa0}{a b:Addr}{xs e:List V}
end
section
variable {X:Cx}{pos p1 b:Pos}{a c:Nat}
end
section
variable {K:qae}{H:Hp}
end
section
variable {X:Cx}{K:qae}
end
end L2
namespace HT
open PySem PySem.Spec PyProof.Rows L2
section
variable {prog:qaO}{w:World}{A:qa0}{E:Value->qak->Prop}{s:qak}
theorem getItem_tuple_all {t e:Addr}{items:Array Value}{f i:Value}{lo hi:Option Int}{Q:Value->qak->Prop} (a:IsTup s.heap t items) (g:s.heap.IsSliceOf e f i .none) (j:qga f lo) (l:qga i hi)
  (hw:sIx items.size 0 lo=0/\sIx items.size items.size hi=items.size) (h:Q (.ref t) s):wpAny (model prog w) A (qeQ (.ref t) (.ref e)) Q E s:=by
 obtain⟨os,d,c,k⟩:=id g;unfold qeQ
 try with_reducible refine qcq ?_
 refine qac (qin a.typeIs (by decide) ?_)
 refine qac (qbK a.typeIs qbC
  (qbU qbC a.typeIs qhV ?_ (qia _ _)))
 show wpAny _ _ (qeL _ >>= _) _ _ s;refine qac (tupleItemsOf_ a ?_);refine qac (qhw ⟨os,d,c⟩ ?_);refine qac (fk g j l ?_);have b:(((sIx items.size 0 lo):Int)==0&&(1:Int)==1&&(sIx items.size items.size hi - sIx items.size 0 lo)==items.size)=true:=by
  rw[hw.1,hw.2]
  simp
 show wpAny _ _ (if _=true then _ else _) _ _ s;rw[iFP b];refine qac (qac (qhw a.typeIs (qar ?_)))
 first
  |exact qac (qdT (qar ⟨_,rfl,qar h⟩))
  |exact qac _
  |exact qac _
  |exact qac _
end
end HT
namespace L2
open PySem PySem.Spec PyProof.Rows
def Fy (K:qae):V->Option Int->Option Int->Hp->VK->Prop:=λx lo hi H Q=>∃ a xs,x=.ref a/\SqT K H a xs/\
 ((¬ (HT.sIx xs.length 0 lo=0/\HT.sIx xs.length xs.length hi=xs.length)/\∀ p,H p=none->Q (.ref p) (upd H p (.tup (ul xs lo hi))))\/
   ((HT.sIx xs.length 0 lo=0/\HT.sIx xs.length xs.length hi=xs.length)/\Q (.ref a) H))
theorem Da {X:Cx}{K:qae} (l:X.K=K:=by rfl):SlR X (Fy K):=by
 subst l;intro c s n H x v m o lo hi k Q I g i f j h;obtain⟨a,xs,rfl,hx,h⟩:=h;rcases h with⟨hw,q⟩|⟨hw,q⟩
 ·exact DY c s n H _ v m o lo hi k Q I g i f j ⟨a,xs,U,hx,hw,q⟩
 ·cases g
  obtain⟨d,r,e,hz⟩:=I.tuple hx;have b:d.toArray.size=xs.length:=by exact r.length.symm
  refine⟨"tuple",_,qbC.lookup,e.typeIs,?_⟩
  exact HT.getItem_tuple_all e i f j (by rw[b];exact hw) ⟨.ref a,H,I,U,q⟩
section
variable {X:Cx}{j:Scope}{Nc:List Str}{emb:St->St}{elt iter tg:Expr}{ifs:List Expr}{pos:Pos}{wi:TI}{g:TG}{tt:TT}{te:TE}
theorem Cj {i0:Nat}{x0:Str}{py spos:Pos} (hN0:X.N.Nodup) (hi0:X.N[i0]?=some x0) (hx0:Loc X.env.scope x0) (S:c8 X j Nc emb) (hc:X.calm=true) (hi:PI X tg iter wi)
  (hg:∀ f s H C A,PG (lcX X j f Nc s H C A) tg g) (ht:∀ f s H C A,PTs (lcX X j f Nc s H C A) ifs tt) (he:∀ f s H C A,PE (lcX X j f Nc s H C A) elt te)
  (hsw:qcr (.ListComp elt [⟨tg,iter,ifs,0⟩] j pos) (some (.Name x0 py)) spos.line X.env=pure true:=by rfl)
  (hf0:X.fn x0=true\/X.env.scope.names.lookup x0=some .local:=by first|exact .inl U|exact .inr U|assumption)
  (hs:∀ x,qbL iter X.env x=pure x:=by intro _;rfl):PS X (.Assign [.Name x0 py] (.ListComp elt [⟨tg,iter,ifs,0⟩] j pos) spos) (D4 (tLc emb wi g tt te) (kG i0)):=by
 intro B s σ H DD I h;rw[exec_Assign_Name_used _ _ _ _ hsw];refine qac (qeu (qac ?_));refine qac (qcm (qgT U hs (ix (S.clos I.ok)) S.kind (λx hx hl=>dg S.nd (by rw[<-hl];exact hx)) ?_) (λ_ s' hq=>qar (qar hq)) λ_ _ e=>e);refine thn (hi B s σ H _ I h) λv s1 h1=>thn h1 λitv V h2=>?_;obtain⟨it,A,tn,J,H2,e,I2,T,st2,f2,W,⟨m0,w0⟩,turn⟩:=h2;subst e;refine qcE (jL ?_);rw[qbp ..];generalize hD:V.heap.objs.size=D;generalize hlo:({ cls:=.type "list",dict:=none,data:=.seq ([]:List Value).toArray }:Obj)=lo
 have fplt:∀ b∈A,b<V.heap.objs.size:=λb hb=>by obtain⟨o,e,_⟩:=T.obj _ _ st2 b hb;exact qaA e
 have I3:=sP (lo:=lo) S I2 f2 (λb hb=>by obtain⟨o,e,_⟩:=T.obj _ _ st2 b hb;exact⟨o,e⟩) (by rw[<-hlo];intro v z;cases z) (by rw[<-hlo];rfl);rw[hD]at I3;generalize hcells:qcs (D+2) j.names _=f at I3;generalize d:lcX X j f Nc V H2 (D+1) A=X' at I3;have M:∀ {H':Hp}{ps:List (Addr×Obj)},(∀ b∈A,H' b=none)->(∀ p∈ps,p.1=D)->∀ b∈A,ik X' ps H' b:=λ{H' ps} hn L b hb=>by
  have ok:=I3.ok;refine⟨hn b hb,?_,?_,.inl (by rw[<-d];exact hb),?_,λp O=>?_⟩
  ·exact (ok.exf b (by rw[<-d];exact hb)).1
  ·exact ok.exfs b (by rw[<-d];exact hb)
  ·exact (ok.exf b (by rw[<-d];exact hb)).2
  ·have hp':p∈([])++ps:=by rw[<-d]at O;exact O
   rw[(L p (by simpa using hp')),<-hD];exact qcd (fplt b hb)
 have Dex:D∈X'.ex\/X'.s₀.heap.objs.size<=D:=.inr (by rw[<-d,<-hD];exact qao _);have Dloc:D≠X'.env.locals:=by rw[<-d];exact qaF (qbY _)
 have pD:=I3.pin (D,lo) (by rw[<-d];exact qay _ qag);have Dcell:∀ x c,X'.env.cells.lookup x=some c->c≠D:=λx c hc' e=>by
  obtain⟨v,o,ho,hd⟩:=I3.cell x c hc';rw[e,pD.1]at ho;cases ho;exact pD.2.2.2.2 v hd
 -- the P
 have P:∀ s3:qak,s3={ V with heap:=qeO ((V.heap.push lo).push { cls:=.type "dict",data:=.dict #[] }) j.names }->
   qfg (model X.prog X.w) X.A (.compLoop (.ListComp elt [⟨tg,iter,ifs,0⟩] j pos) 0 (.ref it) (.ref D) (qhb j f (D+1) X.env))
    (compPost (model X.prog X.w) X.A X.xe (some (qf5 (.Name x0 py) X.env)) (λ_ s'=>SP X B DD .next s') (.ref D) (D+1)) s3:=by
  rintro s3 rfl
  refine cO (λn s'=>∃ i K l k H',Inv X' [(D,{ cls:=.type "list",data:=.seq l.toArray k })] (emb σ) H' s'/\aF K l/\tn i s'.heap/\(∀ b∈A,H' b=none)/\K.length<=qaG/\W i n K H') ?_ m0
   ⟨0,[],[],0,H2,?_,.nil,?_,λb hb=>(f2 b hb).1,qbA _,w0⟩
  ·rintro n s4 ⟨i,K,l,k,H4,I4,rv,st4,fr4,hlen,w4⟩
   have L:∀ p∈[(D,({ cls:=.type "list",data:=.seq l.toArray k }:Obj))],p.1=D:=λp O=>by
    have:=qam.mp O
    rw[this]
   rcases turn i n K H4 w4 with⟨stop,qn⟩|⟨go,hlt,N,hN,step⟩
   ·-- the end
    have TD:=T.done X' (by rw[<-d];rfl) (by rw[<-d];rfl) (by rw[<-d];rfl) (by rw[<-d];exact hc) i _ s4 (emb σ) H4 (λ_ _=>False) I4 (M fr4 L) st4 stop;rw[show X'.A=X.A by rw[<-d];rfl]at TD;refine thn TD λr s5 ⟨hr,I5⟩=>?_;subst hr;obtain⟨m5,hn5,_⟩:=id I5.loc;have eC:X'.env.locals=D+1:=by rw[<-d];rfl
    rw[eC]at hn5
    suffices inv5:∀ h',qdd (D+1) s5.heap h'->Inv X B σ (upd H4 D (.lst K)) { s5 with heap:=h' } by
     have I5X:Inv X B σ (upd H4 D (.lst K)) s5:=inv5 s5.heap ⟨U,λ_ _=>rfl⟩;have hD4':H4 D=none:=(I5.pin (D,{ cls:=.type "list",data:=.seq l.toArray k }) (by rw[<-d];exact qay _ qag)).2.1
     have hC4:upd H4 D (.lst K) (D+1)=none:=by
      have:=I5.free
      rw[eC]at this;rw[upd_ne (qcd (qbY D))];exact this
     have fpC:∀ b∈[D+1],ik X B (upd H4 D (.lst K)) b:=λb hb=>by
      have e:=qam.mp hb;subst e;exact I2.fpOk (by rw[hD];exact qcF D) hC4
     obtain⟨oC,esC,epC,getC,datC,relC⟩:=id hn5;have I5p:=I5X.pinned fpC λb hb=>by
      have e:=qam.mp hb;subst e;exact⟨oC,getC,λv z=>by rw[datC]at z;cases z⟩
     refine qio (gK I5p hN0 hi0 hx0 (v:=.ref D) U (λs6 I6=>?_) hf0);have pC:=(I6.pin (D+1,oC) (qay _ (qay _ (cg qag getC)))).1;refine⟨m5,⟨oC,esC,epC,pC,datC,relC⟩,λh' E=>?_⟩;have I6u:=I6.unpinned;exact⟨_,_,I6u.turns (t':=s6.toks) fpC (λb o hb e=>(E.2 b (λz=>hb (by rw[z];exact qag))).trans e),qn D hD4'⟩
    intro h' E;have pD5:=I5.pin (D,{ cls:=.type "list",data:=.seq l.toArray k }) (by rw[<-d];exact qay _ qag)
    have neC:∀ b u,H4 b=some u->b≠D+1:=λb u e z=>by
     have:=I5.free
     rw[eC,<-z,e]at this;cases this
    have hD4:H4 D=none:=pD5.2.1;have un:=I5.base;have F:Un (frs X.stack) A H2 H4 V.heap s5.heap:=by rw[<-d]at un;exact un
    have t:∀ b o,V.heap.get? b=some o->b≠D/\b≠D+1:=λb o e=>by
     have q:=qaA e;rw[hD]at q;exact⟨qaF q,qaF (qba q)⟩
    have h2D:H2 D=none:=by rw[<-hD];exact I2.fresh
    have hok':HOk X.prog X.w H4 h':=λb u e=>by
     have ob:bZ X.prog X.w H4 s5.heap b u:=by have:=I5.hok b u e;rw[<-d]at this;exact this
     refine ob.stay (λc v hcv q=>(E.2 c ?_).trans q) (λ_ q=>q) λ_ _ q=>q;rcases hcv with z|z
     ·rw[z];exact neC b u e
     ·exact neC c _ z
    have hokD:HOk X.prog X.w (upd H4 D (.lst K)) h':=λb u e=>by
     by_cases hb:b=D
     ·subst hb
      rw[upd_same]at e;cases e;exact⟨hlen,l,k,rv,(E.2 b (qaF (qbY _))).trans pD5.1⟩
     ·rw[upd_ne hb]at e
      refine (hok' b u e).stay (λ_ _ _ q=>q) (λc q=>?_) λc z q=>?_
      all_goals first
       |(rw[upd_ne (aH q hD4)];exact q)
       |(rw[upd_ne (aH z hD4)];exact z)
    refine I2.call' (s':={ s5 with heap:=h' }) (ch:=A) ?_ ⟨λb o e nb hb hx=>?_,λb o e nb hb hx=>?_,λb o e nb hx=>?_,λb o e hx=>?_,λb xs e=>?_,λb o u e=>?_,λb ps e=>?_⟩ hokD I5.bare (λb hb=>?_)
    ·have:=I5.os
     rw[<-d]at this;exact this
    ·exact (E.2 b (t b o e).2).trans (F.keep b o e nb hb hx)
    ·obtain⟨sl,q⟩:=F.slot b o e nb hb hx
     exact⟨sl,(E.2 b (t b o e).2).trans q⟩
    ·rw[upd_ne (t b o e).1]
     exact F.free b o e nb hx
    ·obtain⟨o',q⟩:=F.there b o e hx
     exact⟨o',(E.2 b (t b o e).2).trans q⟩
    ·rw[upd_ne (aH e h2D)]
     exact F.tups b xs e
    ·rw[upd_ne (aH e h2D)]
     exact F.frzs b o u e
    ·obtain⟨m,q⟩:=F.tbls b ps e
     exact⟨m,by rw[upd_ne (aH e h2D)];exact q⟩
    ·obtain⟨q0,q1,q2,q3,q4,q5⟩:=f2 b hb
     exact⟨q3,q1,q4,q5⟩
   ·-- a turn
    have hA:X'.A=X.A:=by rw[<-d];rfl
    have hP:X'.prog=X.prog:=by rw[<-d];rfl
    have hw:X'.w=X.w:=by rw[<-d];rfl
    have hE:X'.env=qhb j f (D+1) X.env:=by rw[<-d];rfl
    have hxe:X'.xe=λ_ _=>False:=by rw[<-d];rfl
    have TI':=T.item X' hP hw (by rw[<-d];rfl) (by rw[<-d];exact hc) i _ s4 (emb σ) H4 (λ_ _=>False) I4 (M fr4 L) st4 go;rw[hA]at TI';refine thn TI' λr s5 ⟨u,hr,h5⟩=>?_;subst hr;refine thn h5 λ_ s6 ⟨x,H6,I6,r6,y6,st6,fr6⟩=>?_;have I6':=I6.pinned (M fr6 L) (T.obj _ _ st6);have G:=hg f V H2 (D+1) A;have TT':=ht f V H2 (D+1) A;have EE:=he f V H2 (D+1) A;rw[d]at G TT' EE;have G':=G _ s6 (emb σ) H6 x u _ I6' r6 (step x H6 y6);rw[hA,hP,hw,hE,hxe]at G';refine thn G' λ_ s7 ⟨σ7,H7,I7,Y,q7⟩=>?_;have T':=TT' _ s7 σ7 H7 _ I7 q7;rw[hA,hP,hw,hE,hxe]at T';refine thn T' λok s8 ⟨H8,I8,q8⟩=>?_
    -- what is pinned
    have w:∀ {σ9:St}{H9:Hp}{R:qak},Inv X' ([(D,({ cls:=.type "list",data:=.seq l.toArray k }:Obj))]++ny A s6.heap) σ9 H9 R->tn (i+1) R.heap/\∀ b∈A,H9 b=none:=λ{σ9 H9 R} I9=>
     ⟨T.keep _ _ _ st6 λb hb o e=>(I9.pin (b,o) (qay _ (qay _ (cg hb e)))).1,λb hb=>by
      obtain⟨o,e,_⟩:=T.obj _ _ st6 b hb
      exact (I9.pin (b,o) (qay _ (qay _ (cg hb e)))).2.1⟩
    cases ok with
    |false=>
     rw[iFN (by decide)]at q8;rw[iFN (by decide)];obtain⟨m',hm,w8⟩:=hN _ _ q8;exact⟨m',hm,i+1,K,l,k,H8,I8.unpinned.weak Y.1 Y.2,rv,(w I8).1,(w I8).2,hlen,w8⟩
    |true=>
     rw[iFP U]at q8;rw[iFP U];have E':=EE _ s8 σ7 H8 _ I8 q8;rw[hA,hP,hw,hE,hxe]at E';refine thn E' λy R ⟨v9,H9,I9,r9,n9⟩=>?_;obtain⟨m',hm,w9⟩:=hN _ _ n9;have Q:=I9.pin (D,{ cls:=.type "list",data:=.seq l.toArray k }) (qay _ (qa1 _ qag))
     have hl:=rv.length;have I9n:Inv X' [] σ7 H9 R:=I9.pins_of λp O=>nomatch O
     refine qco qfm ⟨_,Q.1,U⟩ qe7 (qeU _ _) (qe4 D l.toArray k y (by rw[qaC];lia)) ⟨Q.1,?_⟩;have up:∃ k':Nat,(R.heap.update D (qcy λxs=>xs.push y)).get? D=some { cls:=.type "list",data:=.seq (l++[y]).toArray k' }:=by
      have q:=qeT Q.1 (λxs:Array Value=>xs.push y);simp only[qhq]at q;exact⟨_,q⟩
     obtain⟨k',up⟩:=up;have hoth:∀ b o,b≠D->R.heap.get? b=some o->(R.heap.update D (qcy λxs=>xs.push y)).get? b=some o:=λb o hb e=>(qds R.heap _ (qbD hb)).trans e;have I10:=I9n.turned (t':=R.toks) hoth Q.2.1 Dloc Dex Dcell (λp O=>absurd (show p∈([]:List (Addr×Obj)) by rw[<-d]at O;exact O) (by simp));refine⟨m',hm,i+1,K++[v9],l++[y],k',H9,(I10.weak Y.1 Y.2).pins_of (λp O=>?_),rv.append (.cons r9 .nil),T.keep _ _ _ (w I9).1 (λb hb o e=>hoth b o (by rw[<-hD];exact qaF (fplt b hb)) e),(w I9).2,?_,w9⟩
     ·have:=qam.mp O
      subst this;exact⟨up,Q.2.1,Dloc,(pD.2.2.2.1),λv z=>by cases z⟩
     ·rw[qaw,qb1]
      lia
  ·rw[<-hlo.symm]
   exact I3
  ·exact T.keep _ _ _ st2 λb hb o e=>qcW _ _ b o (qaj _ (qaj _ e))
 refine qhm ?_ ?_
 ·exact P _ U
 ·refine T.self X.A 0 _ _ _ (T.keep _ _ _ st2 λb hb o e=>qcW _ _ b o (qaj _ (qaj _ e))) ?_
  exact P _ U
end
def au:Expr->Bool
 |.Starred _ _=>false
 |_=>true
theorem aL {e:Expr}{es:List Expr}{env:Env} (h:au e=true):qbB (e::es) env=(false,eval e env)::qbB es env:=by
 cases e<;>first|(cases h;done)|rfl
theorem a9 {pos:Pos}{env:Env}:∀ {es:List Expr},es.all au=true->(qeR pos (qbB es env)).any (·.1)=false
 |[],_=>by simp[qbB,qeR]
 |e::es,h=>by
  rw[qbu,qaX]at h;rw[aL h.1]
  have:=a9 (pos:=pos) (env:=env) h.2
  unfold qeR at this ⊢;rw[qau,qcc,this];rfl
theorem nO {pos:Pos}{env:Env}{es:List Expr} (h:es.all au=true) (c:es.length < 30):((qeR pos (qbB es env)).all (λx=>!x.1) && (qh9 pos (qgs [] env)).all (λx=>x.1.isSome)
   && decide (es.length+([]:List qhZ).length+(if ([]:List qhZ).isEmpty then 0 else 1)<30))=true:=by
 have a:(qeR pos (qbB es env)).all (λx=>!x.1)=true:=by
  have:=a9 (pos:=pos) (env:=env) h
  rw[qaW];intro x hx;rw[qfe]at this;simpa using this x hx
 have b:(qh9 pos (qgs [] env)).all (λx=>x.1.isSome)=true:=by simp[qgs,qh9]
 rw[a,b];simpa using c
theorem gI {e:Expr}{env:Env} (h:au e=true):qbB [e] env=[(false,eval e env)]:=by rw[aL h];rfl
theorem zX {e e2:Expr}{env:Env} (h:au e=true) (a:au e2=true):qbB [e,e2] env=[(false,eval e env),(false,eval e2 env)]:=by rw[aL h,gI a]
def zp:Expr->Bool
 |.UnaryOp .Not _ _=>false
 |.BoolOp _ _ _=>false
 |.IfExp _ _ _ _=>false
 |.Compare _ _ _ _=>false
 |_=>true
theorem xV {a:Expr}{env:Env} (h:zp a=true):∀ whole,PySem.isTrue a env whole=(do let v <-whole;qjx a.pos;qfW [v] (truthy v)):=by
 intro whole;cases a with
 |UnaryOp b x p=>cases b<;>first|(cases h;done)|rfl
 |BoolOp _ _ _=>cases h
 |IfExp _ _ _ _=>cases h
 |Compare _ _ _ _=>cases h
 |_=>rfl
theorem ml {t:Expr}{ts:List Expr}{env:Env} (h:au t=true):qbW (t::ts) env=(false,qf5 t env)::qbW ts env:=by
 cases t<;>first|(cases h;done)|rfl
theorem lj {env:Env}:∀ {ts:List Expr},ts.all au=true->(qbW ts env).length=ts.length
 |[],_=>by simp[qbW]
 |t::ts,h=>by
  rw[qbu,qaX]at h;rw[ml h.1,qaq,lj h.2,qaq]
theorem je {env:Env}:∀ {ts:List Expr},ts.all au=true->(qbW ts env).findIdx? (·.1)=none
 |[],_=>by simp[qbW]
 |t::ts,h=>by
  rw[qbu,qaX]at h;rw[ml h.1,List.findIdx?_cons,je h.2];rfl
theorem jf {t:Expr}{ts:List Expr}{env:Env} (h:au t=true):(qbW (t::ts) env).map (·.2)=qf5 t env::(qbW ts env).map (·.2):=by rw[ml h];rfl
theorem gO {t:Expr}{env:Env} (h:au t=true):(qbW [t] env).map (·.2)=[qf5 t env]:=by rw[jf h];simp[qbW]
def ko:Expr->Bool
 |.Slice _ _ _ _=>false
 |_=>true
theorem lm {o i:Expr}{pos:Pos}{env:Env} (h:ko i=true) (v:Value):qf5 (.Subscript o i pos) env v=(do
   let ov <-qfW [v] (eval o env)
   let iv <-qfW [v,ov] (eval i env)
   qjx pos
   qfW [v,ov,iv] (qjz ov iv v)
   release [v,ov,iv] []):=by
 cases i<;>first|(cases h;done)|rfl
theorem mW {i:Expr} (h:ko i=true):vf i:=by
 intro o j;cases i<;>first|(cases h;done)|rfl
inductive D where
 |non|bl (b:Bool)|int (i:Int)|str (x:Str)|ty (n:String)|dct|scr (ns:List Int)|tup (ds:List D)|lst (ds:List D)|ob (ns:List Str) (ds:List D)
 deriving Inhabited
inductive W where
 |d (x:D)|h (n:Nat)
 deriving Inhabited
inductive C where
 |l (ds:List D)|n (ws:List W)|m (kvs:List (List Int×D))|k (kvs:List (Int×D))|o (fs:List (Str×W))
 deriving Inhabited
abbrev Sto:=List C
def lg (st:Sto) (n:Nat):Option (List D):=match st[n]? with
 |some (.l ds)=>some ds
 |_=>none
def fW (l:List Int):List Key:=l.map Sum.inl
abbrev Ev:=List (Option W)
def KLs (K:qae) (a:Addr) (xs:List V):Prop:=
 ∃ (o:Obj) (b:Array Value) (n:Nat),K.lookup a=some o/\o.cls=.type "list"/\o.dict=none/\o.data=.seq b n/\b.size<=qaG/\aF xs b.toList
section
variable (K:qae) (H:Hp) (φ:List Addr)
mutual
def Rl:D->V->Prop
 |.non,v=>v=.non
 |.bl b,v=>v=.bl b
 |.int i,v=>v=.int i
 |.str x,v=>v=.str x
 |.ty n,v=>v=.ty n
 |.dct,v=>∃ a,v=.ref a/\a∉φ/\((∃ d,H a=some (.dK d))\/∃ d,H a=some (.dT d))
 |.scr ns,v=>∃ a,v=.ref a/\((∃ o,H a=some (.frz o (.lst (ns.map V.int))))\/KLs K a (ns.map V.int))
 |.tup ds,v=>∃ a vs,v=.ref a/\H a=some (.tup vs)/\Rls ds vs
 |.lst ds,v=>∃ a vs,v=.ref a/\a∉φ/\Rd H a (.lst vs)/\Rls ds vs
 |.ob ns ds,v=>∃ a Cl dx fs vs,v=.ref a/\a∉φ/\H a=some (.ins Cl dx fs)/\fs=ns.zip vs/\ns.length=vs.length/\5<ns.length/\Cls K Cl/\(∀ f∈ns,b8 K Cl f)/\Rls ds vs
def Rls:List D->List V->Prop
 |[],vs=>vs=[]
 |d::ds,vs=>∃ v r,vs=v::r/\Rl d v/\Rls ds r
end
def Rw:W->V->Prop
 |.d x,v=>Rl K H φ x v
 |.h n,v=>∃ a,φ[n]?=some a/\v=.ref a
def Rws:List W->List V->Prop
 |[],vs=>vs=[]
 |d::ds,vs=>∃ v r,vs=v::r/\Rw K H φ d v/\Rws ds r
def Rkv:List (List Int×D)->List (List Key×V)->Prop
 |[],vs=>vs=[]
 |(k,d)::ds,vs=>∃ v r,vs=(fW k,v)::r/\Rl K H φ d v/\Rkv ds r
def Rkk:List (Int×D)->List (Key×V)->Prop
 |[],vs=>vs=[]
 |(k,d)::ds,vs=>∃ v r,vs=(Sum.inl k,v)::r/\Rl K H φ d v/\Rkk ds r
def Rfs:List (Str×W)->List (Str×V)->Prop
 |[],vs=>vs=[]
 |(k,d)::ds,vs=>∃ v r,vs=(k,v)::r/\Rw K H φ d v/\Rfs ds r
def Rc (k:Nat) (a:Addr):C->Prop
 |.l ds=>∃ vs,H a=some (.lst vs)/\Rls K H φ ds vs
 |.n ws=>∃ vs,H a=some (.lst vs)/\Rws K H φ ws vs/\∀ m,W.h m∈ws->m<k
 |.m e=>∃ vs,H a=some (.dT vs)/\Rkv K H φ e vs
 |.k e=>∃ vs,H a=some (.dK vs)/\Rkk K H φ e vs
 |.o fs=>∃ Cl dx vs,H a=some (.ins Cl dx vs)/\Rfs K H φ fs vs/\(∀ m,W.h m∈fs.map (·.2)->m<k)/\Cls K Cl/\∀ p∈fs,b8 K Cl p.1
structure Sr (st:Sto):Prop where
 nd:φ.Nodup
 len:φ.length=st.length
 at_:∀ (n:Nat) a c,φ[n]?=some a->st[n]?=some c->Rc K H φ n a c
structure Er (env:Ev) (σ:St):Prop where
 len:env.length=σ.length
 at_:∀ (i:Nat) w,env[i]?=some (some w)->∃ v,σ[i]?=some (some v)/\Rw K H φ w v
end
structure Fw (φ φ':List Addr) (H H':Hp):Prop where
 ext:∃ ψ,φ'=φ++ψ/\∀ a∈ψ,H a=none
 keep:∀ b o,b∉φ->H b=some o->H' b=some o
 there:∀ b o,H b=some o->∃ o',H' b=some o'
section
variable {K:qae}{H H1 H2 H':Hp}{φ t g φ':List Addr}{st N:Sto}
theorem Fw.refl (φ:List Addr) (H:Hp):Fw φ φ H H:=⟨⟨[],by simp,by simp⟩,λ_ _ _ h=>h,λ_ o h=>⟨o,h⟩⟩
theorem Fw.trans (a:Fw φ t H H1) (b:Fw t g H1 H2):Fw φ g H H2:=by
 obtain⟨ψ,rfl,e1⟩:=a.ext;obtain⟨O,rfl,e2⟩:=b.ext;refine⟨⟨_,by rw[qbJ],λc y=>?_⟩,λc o y h=>?_,λc o h=>?_⟩
 ·rcases qaQ.mp y with z|z
  ·exact e1 c z
  ·cases q:H c with
   |none=>rfl
   |some o=>
    obtain⟨I,F⟩:=a.there c o q;rw[e2 c z]at F;cases F
 ·refine b.keep c o (λz=>?_) (a.keep c o y h)
  rcases qaQ.mp z with z|z
  ·exact y z
  ·rw[e1 c z]at h;cases h
 ·obtain⟨I,q⟩:=a.there c o h
  exact b.there c I q
theorem Fw.same (s:aN H H'):Fw φ φ H H':=⟨⟨[],by simp,by simp⟩,λb o _ h=>s b o h,λb o h=>⟨o,s b o h⟩⟩
theorem Fw.new {p:Addr}{o:HO} (A:H p=none):Fw φ φ H (upd H p o):=.same (aN.new A o)
theorem Fw.get (f:Fw φ φ' H H') {n:Nat}{a:Addr} (h:φ[n]?=some a):φ'[n]?=some a:=by
 obtain⟨ψ,rfl,_⟩:=f.ext;rw[qaB (qap.mp h).1];exact h
theorem Fw.nin (f:Fw φ φ' H H') {a:Addr}{o:HO} (h:a∉φ) (q:H a=some o):a∉φ':=by
 obtain⟨ψ,rfl,e⟩:=f.ext;intro z;rcases qaQ.mp z with z|z
 ·exact h z
 ·rw[e a z]at q;cases q
def E4:HO->Bool
 |.lst _=>true
 |.dT _=>true
 |.dK _=>true
 |.ins _ _ _=>true
 |_=>false
theorem Rc.ob {k:Nat}{a:Addr}{c:C} (h:Rc K H φ k a c):∃ o,H a=some o/\E4 o=true:=by
 cases c with
 |l ds=>obtain⟨vs,q,_⟩:=h;exact⟨_,q,U⟩
 |n ds=>obtain⟨vs,q,_⟩:=h;exact⟨_,q,U⟩
 |m ds=>obtain⟨vs,q,_⟩:=h;exact⟨_,q,U⟩
 |k ds=>obtain⟨vs,q,_⟩:=h;exact⟨_,q,U⟩
 |o ds=>obtain⟨_,_,vs,q,_⟩:=h;exact⟨_,q,U⟩
theorem Sr.lst (S:Sr K H φ st) {a:Addr} (h:a∈φ):∃ o,H a=some o/\E4 o=true:=by
 obtain⟨n,hn,e⟩:=qcu.mp h;have P:n<st.length:=by rw[<-S.len];exact hn
 exact (S.at_ n a st[n] (by rw[qal hn,e]) (by rw[qal P])).ob
theorem qz {st:Sto}{n:Nat}{ds:List D} (h:lg st n=some ds):st[n]?=some (.l ds):=by
 unfold lg at h;split at h
 ·rename_i q;cases h;exact q
 ·cases h
theorem Sr.atl (S:Sr K H φ st) (n:Nat) (a:Addr) (ds:List D) (e1:φ[n]?=some a) (e2:lg st n=some ds):∃ vs,H a=some (.lst vs)/\Rls K H φ ds vs:=S.at_ n a _ e1 (qz e2)
theorem Sr.nin (S:Sr K H φ st) {a:Addr} (h:H a=none):a∉φ:=λz=>by
 obtain⟨vs,q,_⟩:=S.lst z;rw[q]at h;cases h
theorem Rd.nin (S:Sr K H φ st) {a:Addr}{vs:List V} (h:Rd H a (.tup vs)):a∉φ:=λz=>by
 obtain⟨ws,q,qm⟩:=S.lst z;rcases h with h|⟨o,h⟩<;>(rw[q]at h;cases h;cases qm)
theorem Rd.fw (f:Fw φ φ' H H') {a:Addr}{u:HO} (hn:a∉φ) (h:Rd H a u):Rd H' a u:=by
 rcases h with h|⟨o,h⟩
 ·exact .inl (f.keep _ _ hn h)
 ·exact .inr ⟨o,f.keep _ _ hn h⟩
theorem SqT.fw (S:Sr K H φ st) (f:Fw φ φ' H H') {a:Addr}{vs:List V} (h:SqT K H a vs):SqT K H' a vs:=by
 rcases h with h|h
 ·exact .inl (f.keep _ _ (Rd.nin S (.inl h)) h)
 ·exact .inr h
theorem Rd.some {a:Addr}{u:HO} (h:Rd H a u):∃ o,H a=some o:=by
 rcases h with h|⟨o,h⟩
 ·exact⟨_,h⟩
 ·exact⟨_,h⟩
mutual
theorem Rl.fw (S:Sr K H φ st) (f:Fw φ φ' H H'):∀ {d:D}{v:V},Rl K H φ d v->Rl K H' φ' d v
 |.non,_,h=>h
 |.bl _,_,h=>h
 |.int _,_,h=>h
 |.str _,_,h=>h
 |.ty _,_,h=>h
 |.dct,_,h=>by
  obtain⟨a,rfl,hn,h⟩:=h;rcases h with⟨d,h⟩|⟨d,h⟩
  ·exact⟨a,U,f.nin hn h,.inl ⟨d,f.keep _ _ hn h⟩⟩
  ·exact⟨a,U,f.nin hn h,.inr ⟨d,f.keep _ _ hn h⟩⟩
 |.scr ns,_,h=>by
  obtain⟨a,rfl,h⟩:=h;refine⟨a,U,?_⟩;rcases h with⟨o,h⟩|h
  ·refine .inl ⟨o,f.keep _ _ (λz=>?_) h⟩
   obtain⟨ws,q,qm⟩:=S.lst z;rw[q]at h;cases h;cases qm
  ·exact .inr h
 |.tup ds,_,h=>by
  obtain⟨a,vs,rfl,h1,h2⟩:=h;exact⟨a,vs,U,f.keep _ _ (Rd.nin S (.inl h1)) h1,Rls.fw S f h2⟩
 |.lst ds,_,h=>by
  obtain⟨a,vs,rfl,h0,h1,h2⟩:=h;obtain⟨o,e⟩:=h1.some;exact⟨a,vs,U,f.nin h0 e,h1.fw f h0,Rls.fw S f h2⟩
 |.ob ns ds,_,h=>by
  obtain⟨a,Cl,dx,fs,vs,rfl,h0,h1,h2,h3,h4,h5,h7,h6⟩:=h;exact⟨a,Cl,dx,fs,vs,U,f.nin h0 h1,f.keep _ _ h0 h1,h2,h3,h4,h5,h7,Rls.fw S f h6⟩
theorem Rls.fw (S:Sr K H φ st) (f:Fw φ φ' H H'):∀ {ds:List D}{vs:List V},Rls K H φ ds vs->Rls K H' φ' ds vs
 |[],_,h=>h
 |d::ds,_,h=>by
  obtain⟨v,r,rfl,h1,h2⟩:=h;exact⟨v,r,U,Rl.fw S f h1,Rls.fw S f h2⟩
end
theorem Rw.fw (S:Sr K H φ st) (f:Fw φ φ' H H') {w:W}{v:V} (h:Rw K H φ w v):Rw K H' φ' w v:=by
 cases w with
 |d x=>exact Rl.fw S f h
 |h n=>obtain⟨a,e,rfl⟩:=h;exact⟨a,f.get e,U⟩
theorem Rws.fw (S:Sr K H φ st) (f:Fw φ φ' H H'):∀ {ws:List W}{vs:List V},Rws K H φ ws vs->Rws K H' φ' ws vs
 |[],_,h=>h
 |d::ds,_,h=>by
  obtain⟨v,r,rfl,h1,h2⟩:=h;exact⟨v,r,U,h1.fw S f,Rws.fw S f h2⟩
theorem Er.fw (S:Sr K H φ st) (f:Fw φ φ' H H') {env:Ev}{J:St} (h:Er K H φ env J):Er K H' φ' env J:=
 ⟨h.len,λi w e=>let ⟨v,e1,r⟩:=h.at_ i w e;⟨v,e1,r.fw S f⟩⟩
theorem Rkv.fw (S:Sr K H φ st) (f:Fw φ φ' H H'):∀ {ds:List (List Int×D)}{vs:List (List Key×V)},Rkv K H φ ds vs->Rkv K H' φ' ds vs
 |[],_,h=>h
 |(k,d)::ds,_,h=>by
  obtain⟨v,r,rfl,h1,h2⟩:=h;exact⟨v,r,U,Rl.fw S f h1,Rkv.fw S f h2⟩
theorem Rkk.fw (S:Sr K H φ st) (f:Fw φ φ' H H'):∀ {ds:List (Int×D)}{vs:List (Key×V)},Rkk K H φ ds vs->Rkk K H' φ' ds vs
 |[],_,h=>h
 |(k,d)::ds,_,h=>by
  obtain⟨v,r,rfl,h1,h2⟩:=h;exact⟨v,r,U,Rl.fw S f h1,Rkk.fw S f h2⟩
theorem Rfs.fw (S:Sr K H φ st) (f:Fw φ φ' H H'):∀ {ds:List (Str×W)}{vs:List (Str×V)},Rfs K H φ ds vs->Rfs K H' φ' ds vs
 |[],_,h=>h
 |(k,d)::ds,_,h=>by
  obtain⟨v,r,rfl,h1,h2⟩:=h;exact⟨v,r,U,h1.fw S f,Rfs.fw S f h2⟩
theorem Rc.fw (S:Sr K H φ st) (f:Fw φ φ' H H') {k:Nat}{a:Addr}{c:C} (e:∀ o,H a=some o->H' a=some o) (h:Rc K H φ k a c):Rc K H' φ' k a c:=by
 cases c with
 |l ds=>obtain⟨vs,q,r⟩:=h;exact⟨vs,e _ q,r.fw S f⟩
 |n ds=>obtain⟨vs,q,r,b⟩:=h;exact⟨vs,e _ q,r.fw S f,b⟩
 |m ds=>obtain⟨vs,q,r⟩:=h;exact⟨vs,e _ q,r.fw S f⟩
 |k ds=>obtain⟨vs,q,r⟩:=h;exact⟨vs,e _ q,r.fw S f⟩
 |o ds=>obtain⟨Cl,dx,vs,q,r,b⟩:=h;exact⟨Cl,dx,vs,e _ q,r.fw S f,b⟩
theorem Sr.same (S:Sr K H φ st) (s:aN H H'):Sr K H' φ st:=
 ⟨S.nd,S.len,λn a c e1 e2=>(S.at_ n a c e1 e2).fw S (Fw.same s) λo h=>s _ _ h⟩
theorem Sr.new (S:Sr K H φ st) {p:Addr}{o:HO} (A:H p=none):Sr K (upd H p o) φ st:=S.same (aN.new A o)
theorem Rls.length:∀ {ds:List D}{vs:List V},Rls K H φ ds vs->ds.length=vs.length
 |[],_,h=>by cases h;rfl
 |d::ds,_,h=>by
  obtain⟨v,r,rfl,h1,h2⟩:=h;rw[qaq,qaq,Rls.length h2]
theorem Rws.length:∀ {ds:List W}{vs:List V},Rws K H φ ds vs->ds.length=vs.length
 |[],_,h=>by cases h;rfl
 |d::ds,_,h=>by
  obtain⟨v,r,rfl,h1,h2⟩:=h;rw[qaq,qaq,Rws.length h2]
theorem Rls.append:∀ {ds es:List D}{vs G:List V},Rls K H φ ds vs->Rls K H φ es G->Rls K H φ (ds++es) (vs++G)
 |[],_,_,_,h,h'=>by cases h;exact h'
 |d::ds,_,_,_,h,h'=>by
  obtain⟨v,r,rfl,h1,h2⟩:=h;exact⟨v,_,U,h1,Rls.append h2 h'⟩
theorem Rls.get:∀ {ds:List D}{vs:List V},Rls K H φ ds vs->∀ {i:Nat}{d:D},ds[i]?=some d->∃ v,vs[i]?=some v/\Rl K H φ d v
 |[],_,h,i,d,e=>by simp at e
 |d::ds,_,h,i,e,q=>by
  obtain⟨v,r,rfl,h1,h2⟩:=h;cases i with
  |zero=>simp at q;subst q;exact⟨v,U,h1⟩
  |succ i=>simpa using Rls.get h2 (by simpa using q)
theorem Rls.take:∀ {ds:List D}{vs:List V} (n:Nat),Rls K H φ ds vs->Rls K H φ (ds.take n) (vs.take n)
 |_,_,0,_=>by exact U
 |[],_,n+1,h=>by cases h;exact U
 |d::ds,_,n+1,h=>by
  obtain⟨v,r,rfl,h1,h2⟩:=h;exact⟨v,_,U,h1,Rls.take n h2⟩
theorem Rls.drop:∀ {ds:List D}{vs:List V} (n:Nat),Rls K H φ ds vs->Rls K H φ (ds.drop n) (vs.drop n)
 |_,_,0,h=>h
 |[],_,n+1,h=>by cases h;exact U
 |d::ds,_,n+1,h=>by
  obtain⟨v,r,rfl,h1,h2⟩:=h;exact Rls.drop n h2
theorem Rls.set:∀ {ds:List D}{vs:List V} (n:Nat) {d:D}{v:V},Rls K H φ ds vs->Rl K H φ d v->Rls K H φ (ds.set n d) (vs.set n v)
 |[],_,_,_,_,h,_=>by cases h;exact U
 |e::ds,_,0,d,v,h,hd=>by
  obtain⟨u,r,rfl,h1,h2⟩:=h;exact⟨v,r,U,hd,h2⟩
 |e::ds,_,n+1,d,v,h,hd=>by
  obtain⟨u,r,rfl,h1,h2⟩:=h;exact⟨u,_,U,h1,Rls.set n h2 hd⟩
theorem Rls.rep {ds:List D}{vs:List V} (h:Rls K H φ ds vs):∀ k:Nat,Rls K H φ (qaD k ds).flatten (qaD k vs).flatten
 |0=>rfl
 |k+1=>by exact h.append (Rls.rep h k)
theorem Rls.ints:∀ {ns:List Int}{vs:List V},Rls K H φ (ns.map D.int) vs->vs=ns.map V.int
 |[],_,h=>h
 |n::ns,_,h=>by
  obtain⟨v,r,rfl,h1,h2⟩:=h;rw[h1,Rls.ints h2];rfl
theorem Rls.bools:∀ {ns:List Bool}{vs:List V},Rls K H φ (ns.map D.bl) vs->vs=ns.map V.bl
 |[],_,h=>h
 |n::ns,_,h=>by
  obtain⟨v,r,rfl,h1,h2⟩:=h;rw[h1,Rls.bools h2];rfl
theorem Rls.of_ints:∀ (ns:List Int),Rls K H φ (ns.map D.int) (ns.map V.int)
 |[]=>rfl
 |n::ns=>⟨_,_,U,U,Rls.of_ints ns⟩
theorem Rl.less {ψ:List Addr}:∀ {d:D}{v:V},Rl K H (φ++ψ) d v->Rl K H φ d v:=by
 intro d v;refine (?_:∀ v,Rl K H _ d v->Rl K H φ d v) v;refine D.rec (motive_2:=λds=>∀ vs,Rls K H (φ++ψ) ds vs->Rls K H φ ds vs) ?_ ?_ ?_ ?_ ?_ ?_ ?_ ?_ ?_ ?_ ?_ ?_ d
 ·exact λv h=>h
 ·exact λb v h=>h
 ·exact λb v h=>h
 ·exact λb v h=>h
 ·exact λb v h=>h
 ·rintro v ⟨a,e,hn,h⟩;exact⟨a,e,λz=>hn (qa1 _ z),h⟩
 ·exact λns v h=>h
 ·rintro ds j v ⟨a,vs,rfl,h1,h2⟩;exact⟨a,vs,U,h1,j vs h2⟩
 ·rintro ds j v ⟨a,vs,rfl,h0,h1,h2⟩;exact⟨a,vs,U,λz=>h0 (qa1 _ z),h1,j vs h2⟩
 ·rintro ns ds j v ⟨a,Cl,dx,fs,vs,rfl,h0,h1,h2,h3,h4,h5,h7,h6⟩;exact⟨a,Cl,dx,fs,vs,U,λz=>h0 (qa1 _ z),h1,h2,h3,h4,h5,h7,j vs h6⟩
 ·exact λvs h=>h
 ·rintro d ds B E vs ⟨v,r,rfl,h1,h2⟩;exact⟨v,r,U,B v h1,E r h2⟩
theorem Rls.less {ψ:List Addr}:∀ {ds:List D}{vs:List V},Rls K H (φ++ψ) ds vs->Rls K H φ ds vs
 |[],_,h=>h
 |d::ds,_,h=>by
  obtain⟨v,r,rfl,h1,h2⟩:=h;exact⟨v,r,U,Rl.less h1,Rls.less h2⟩
theorem Rkv.less {ψ:List Addr}:∀ {ds:List (List Int×D)}{vs:List (List Key×V)},Rkv K H (φ++ψ) ds vs->Rkv K H φ ds vs
 |[],_,h=>h
 |(k,d)::ds,_,h=>by
  obtain⟨v,r,rfl,h1,h2⟩:=h;exact⟨v,r,U,Rl.less h1,Rkv.less h2⟩
theorem Rkk.less {ψ:List Addr}:∀ {ds:List (Int×D)}{vs:List (Key×V)},Rkk K H (φ++ψ) ds vs->Rkk K H φ ds vs
 |[],_,h=>h
 |(k,d)::ds,_,h=>by
  obtain⟨v,r,rfl,h1,h2⟩:=h;exact⟨v,r,U,Rl.less h1,Rkk.less h2⟩
theorem Rws.less {ψ:List Addr}:∀ {ds:List W}{vs:List V},(∀ m,W.h m∈ds->m<φ.length)->Rws K H (φ++ψ) ds vs->Rws K H φ ds vs
 |[],_,_,h=>h
 |d::ds,_,hm,h=>by
  obtain⟨v,r,rfl,h1,h2⟩:=h;refine⟨v,r,U,?_,Rws.less (λm z=>hm m (qah _ z)) h2⟩;cases d with
  |d x=>exact Rl.less h1
  |h m=>
   obtain⟨a,e,rfl⟩:=h1;rw[qaB (hm m qag)]at e;exact⟨a,e,U⟩
theorem Rfs.less {ψ:List Addr}:∀ {ds:List (Str×W)}{vs:List (Str×V)},(∀ m,W.h m∈ds.map (·.2)->m<φ.length)->Rfs K H (φ++ψ) ds vs->Rfs K H φ ds vs
 |[],_,_,h=>h
 |(k,d)::ds,_,hm,h=>by
  obtain⟨v,r,rfl,h1,h2⟩:=h;refine⟨v,r,U,?_,Rfs.less (λm z=>hm m (qah _ z)) h2⟩;cases d with
  |d x=>exact Rl.less h1
  |h m=>
   obtain⟨a,e,rfl⟩:=h1;rw[qaB (hm m qag)]at e;exact⟨a,e,U⟩
theorem Rc.less {ψ:List Addr}{k:Nat}{a:Addr}{c:C} (L:k<φ.length) (h:Rc K H (φ++ψ) k a c):Rc K H φ k a c:=by
 cases c with
 |l ds=>obtain⟨vs,q,r⟩:=h;exact⟨vs,q,r.less⟩
 |n ds=>obtain⟨vs,q,r,b⟩:=h;exact⟨vs,q,r.less λm z=>qdW (b m z) L,b⟩
 |m ds=>obtain⟨vs,q,r⟩:=h;exact⟨vs,q,r.less⟩
 |k ds=>obtain⟨vs,q,r⟩:=h;exact⟨vs,q,r.less⟩
 |o ds=>obtain⟨Cl,dx,vs,q,r,b,c⟩:=h;exact⟨Cl,dx,vs,q,r.less λm z=>qdW (b m z) L,b,c⟩
theorem Sr.less {ψ:List Addr} (S:Sr K H (φ++ψ) st):Sr K H φ (st.take φ.length):=by
 have M:=S.len;rw[qaw]at M;refine⟨(qcx.mp S.nd).1,by rw[qch];lia,λn a ds e1 e2=>?_⟩;have hn:=(qap.mp e1).1;rw[qd7 hn]at e2;exact (S.at_ n a ds (by rw[qaB hn];exact e1) e2).less hn
end
abbrev Ef:=Ev->Sto->Option (W×Sto)
abbrev Af:=Ev->Sto->Option (List W×Sto)
abbrev Tf:=Ev->Sto->Option (Bool×Sto)
abbrev Lf:=Ev->Sto->Option (List D×Sto)
abbrev Fn:=List W->Sto->Option (W×Sto)
section
variable (K:qae)
def tI (env:Ev) (st:Sto) (r:W×Sto):TE:=λh H Q=>∃ φ,Er K H φ env h/\Sr K H φ st/\∀ v H' b,Fw φ b H H'->Sr K H' b r.2->Rw K H' b r.1 v->Q v H'
def tIA (env:Ev) (st:Sto) (r:List W×Sto):TA:=λh H Q=>∃ φ,Er K H φ env h/\Sr K H φ st/\∀ c H' b,Fw φ b H H'->Sr K H' b r.2->Rws K H' b r.1 c->Q c H'
def tIT (env:Ev) (st:Sto) (r:Bool×Sto):TT:=λh H Q=>∃ φ,Er K H φ env h/\Sr K H φ st/\∀ H' b,Fw φ b H H'->Sr K H' b r.2->Q r.1 H'
def tIL (env:Ev) (st:Sto) (r:List D×Sto):TE:=λh H Q=>∃ φ,Er K H φ env h/\Sr K H φ st/\∀ a c H1 b,Fw φ b H H1->Sr K H1 b r.2->H1 a=none->Rls K H1 b r.1 c->Q (.ref a) (upd H1 a (.lst c))
structure IE (X:Cx) (e:Expr) (f:Ef):Prop where
 run:∀ env st r,f env st=some r->PE X e (tI K env st r)
structure IA (X:Cx) (es:List Expr) (f:Af):Prop where
 run:∀ env st r,f env st=some r->PA X es (tIA K env st r)
structure IT (X:Cx) (e:Expr) (f:Tf):Prop where
 run:∀ env st r,f env st=some r->PT X e (tIT K env st r)
structure ITW (X:Cx) (e:Expr) (f:Tf):Prop where
 run:∀ env st r,f env st=some r->PW X e (tIT K env st r)
structure IL (X:Cx) (e:Expr) (f:Lf):Prop where
 run:∀ env st r,f env st=some r->PE X e (tIL K env st r)
def rD (st:Sto) (x y:W) (d:D):R2:=λk j H Q=>∃ φ,Sr K H φ st/\Rw K H φ x k/\Rw K H φ y j/\∀ v H',aN H H'->Rl K H' φ d v->Q v H'
structure OpD (X:Cx) (f:Value->Value->Sem Value) (g:Sto->W->W->Option D):Prop where
 run:∀ st x y d,g st x y=some d->OpR X f (rD K st x y d)
def rCD (st:Sto) (ws:List W) (d:D):List V->Hp->VK->Prop:=λc H Q=>∃ φ,Sr K H φ st/\Rws K H φ ws c/\∀ v H',aN H H'->Rl K H' φ d v->Q v H'
structure dJ (X:Cx) (f:Value) (g:Sto->List W->Option D):Prop where
 run:∀ st ws d,g st ws=some d->bb X f (rCD K st ws d)
def rCL (st:Sto) (ws:List W) (ds:List D):List V->Hp->VK->Prop:=λc H Q=>∃ φ,Sr K H φ st/\Rws K H φ ws c/\∀ a i H1,aN H H1->H1 a=none->Rls K H1 φ ds i->Q (.ref a) (upd H1 a (.lst i))
structure rq (X:Cx) (f:Value) (g:Sto->List W->Option (List D)):Prop where
 run:∀ st ws d,g st ws=some d->bb X f (rCL K st ws d)
end
def iV (i:Nat):Ef
 |env,st=>(env.getD i none).map λw=>(w,st)
def iC (d:D):Ef
 |_,st=>some (.d d,st)
def iOp (g:Sto->W->W->Option D) (a b:Ef):Ef
 |env,st=>(a env st).bind λx=>(b env x.2).bind λy=>(g y.2 x.1 y.1).map λd=>(.d d,y.2)
def wU:D->Option Bool
 |.bl b=>some b
 |_=>none
def aG (g:Sto->W->W->Option D) (a b:Ef):Tf
 |env,st=>(a env st).bind λx=>(b env x.2).bind λy=>(g y.2 x.1 y.1).bind λd=>(wU d).map λk=>(k,y.2)
def iUn (g:W->Option D) (a:Ef):Ef
 |env,st=>(a env st).bind λx=>(g x.1).map λd=>(.d d,x.2)
def eO (c:Tf) (a b:Ef):Ef
 |env,st=>(c env st).bind λr=>if r.1=true then a env r.2 else b env r.2
def dP (c:Tf):Tf
 |env,st=>(c env st).map λr=>(!r.1,r.2)
def kI (a b:Tf):Tf
 |env,st=>(a env st).bind λr=>if r.1=true then b env r.2 else some (false,r.2)
def dI (a b:Tf):Tf
 |env,st=>(a env st).bind λr=>if r.1=true then some (true,r.2) else b env r.2
def cm (g:Sto->W->Option Bool) (a:Ef):Tf
 |env,st=>(a env st).bind λx=>(g x.2 x.1).map λk=>(k,x.2)
def ac:Af
 |_,st=>some ([],st)
def aa (a:Ef) (r:Af):Af
 |env,st=>(a env st).bind λx=>(r env x.2).map λy=>(x.1::y.1,y.2)
def iCB (g:Sto->List W->Option D) (a:Af):Ef
 |env,st=>(a env st).bind λr=>(g r.2 r.1).map λd=>(.d d,r.2)
def iCL (g:Sto->List W->Option (List D)) (a:Af):Lf
 |env,st=>(a env st).bind λr=>(g r.2 r.1).map λd=>(d,r.2)
def ay (m:Fn) (a:Af):Ef
 |env,st=>(a env st).bind λr=>m r.1 r.2
def og:List W->Option (List D)
 |[]=>some []
 |.d x::ws=>(og ws).map λr=>x::r
 |.h _::_=>none
def aY (a:Af):Ef
 |env,st=>(a env st).bind λr=>(og r.1).bind λds=>if ds.length<=1000 then some (.d (.tup ds),r.2) else none
def bj (a:Af):Lf
 |env,st=>(a env st).bind λr=>(og r.1).bind λds=>if ds.length<=1000 then some (ds,r.2) else none
def av (a:Lf):Ef
 |env,st=>(a env st).map λr=>(.d (.lst r.1),r.2)
def bV (a:Lf):Ef
 |env,st=>(a env st).map λr=>(.h r.2.length,r.2++[.l r.1])
section
variable {K:qae}{X:Cx}{e a b c:Expr}{es:List Expr}{pos:Pos}{f fa fb fc:Ef}
theorem PE.imp {t t':TE} (h:PE X e t) (m:∀ B H Q,t' B H Q->t B H Q):PE X e t':=λM s B H Q I q=>h M s B H Q I (m B H Q q)
theorem PT.imp {t t':TT} (h:PT X e t) (m:∀ B H Q,t' B H Q->t B H Q):PT X e t':=λM s B H Q I q=>h M s B H Q I (m B H Q q)
theorem PW.imp {t t':TT} (h:PW X e t) (m:∀ B H Q,t' B H Q->t B H Q):PW X e t':=λwh M s B H Q I q=>h wh M s B H Q I (m B H Q q)
theorem PA.imp {t t':TA} (h:PA X es t) (m:∀ B H Q,t' B H Q->t B H Q):PA X es t':=λpos M s B H Q I q=>h pos M s B H Q I (m B H Q q)
theorem OpR.imp {g:Value->Value->Sem Value}{r r':R2} (h:OpR X g r) (m:∀ x y H Q,r' x y H Q->r x y H Q):OpR X g r':=λM s B H x y v u Q I rx ry q=>h M s B H x y v u Q I rx ry (m _ _ _ _ q)
theorem bb.imp {g:Value}{r r':List V->Hp->VK->Prop} (h:bb X g r) (m:∀ xs H Q,r' xs H Q->r xs H Q):bb X g r':=λM s B H xs us Q I rx q=>h M s B H xs us Q I rx (m _ _ _ q)
theorem tB:PE X e (λ_ _ _=>False):=λ_ _ _ _ _ _ q=>q.elim
theorem tO:PW X e (λ_ _ _=>False):=λ_ _ _ _ _ _ _ q=>q.elim
theorem CY {i:Nat}{x:Str}{t:TE} (h:PE X (.Name x pos) (t4 i)):IE K X (.Name x pos) (iV i):=by
 refine⟨λenv st r A=>?_⟩;obtain⟨w,hw,rfl⟩:=qad.mp A;refine h.imp ?_
 rintro B H Q ⟨φ,G,E,q⟩
 have hi:env[i]?=some (some w):=by
  rw[qfO]at hw;cases q:env[i]? with
  |none=>rw[q]at hw;cases hw
  |some o=>rw[q]at hw;rw[show o=some w from hw]
 obtain⟨v,e1,r⟩:=G.at_ i w hi;exact⟨v,e1,q v H φ (Fw.refl φ H) E r⟩
theorem iv (i:Nat) {x:Str} (hN:X.N[i]?=some x:=by rfl) (hv:Vis X.env.scope x:=by first|exact Or.inl U|exact Or.inr (Or.inl U)|exact Or.inr (Or.inr U)) (hd:(x==("__debug__" : Str))=false:=by decide)
  (hcd:(x==("__classdict__" : Str))=false:=by decide):IE K X (.Name x pos) (iV i):=CY (t:=t4 i) (i7 hN hv hd hcd)
theorem yC {d:D}{v:V} (h:PE X e (tC v)) (r:∀ H φ,Rl K H φ d v):IE K X e (iC d):=by
 refine⟨λenv st r A=>?_⟩;cases A;refine h.imp ?_
 rintro B H Q ⟨φ,G,E,q⟩
 exact q v H φ (Fw.refl φ H) E (r H φ)
theorem j8 {i j}:IE K X (.Constant (.int i) j pos) (iC (.int i)):=yC Dz λ_ _=>rfl
theorem vG {i j}:IE K X (.Constant (.bool i) j pos) (iC (.bl i)):=yC Fd λ_ _=>rfl
theorem pU {j}:IE K X (.Constant .none j pos) (iC .non):=yC DA λ_ _=>rfl
theorem pW {x j}:IE K X (.Constant (.str x) j pos) (iC (.str x)):=yC DB λ_ _=>rfl
theorem rg {env:Ev}{st:Sto}{x y:W×Sto}{d:D}{B:St}{H:Hp}{Q:VK} (h:tI K env st (.d d,y.2) B H Q):tOp (rD K y.2 x.1 y.1 d) (tI K env st x) (tI K env x.2 y) B H Q:=by
 obtain⟨φ,G,E,q⟩:=h;refine⟨φ,G,E,λv H1 z J s1 R=>⟨z,G.fw E J,s1,λu H2 O P s2 w2=>⟨O,s2,R.fw s1 P,w2,λv3 H3 f3 w3=>?_⟩⟩⟩;exact q v3 H3 O ((J.trans P).trans (Fw.same f3)) (s2.same f3) w3
theorem mL {op:Operator}{g:Sto->W->W->Option D} (ho:OpD K X (qbE op) g) (N:IE K X a fa) (hb:IE K X b fb):IE K X (.BinOp a op b pos) (iOp g fa fb):=by
 refine⟨λenv st r A=>?_⟩;simp only[iOp,qab,qad]at A;obtain⟨x,hx,y,Y,d,hd,rfl⟩:=A;exact (Cf (ho.run _ _ _ _ hd) (N.run _ _ _ hx) (hb.run _ _ _ Y)).imp λB H Q h=>rg h
theorem pQ {op:CmpOp}{g:Sto->W->W->Option D} (ho:OpD K X (qbV op) g) (N:IE K X a fa) (hb:IE K X b fb) (hm:qfC op b=false):IE K X (.Compare a [op] [b] pos) (iOp g fa fb):=by
 refine⟨λenv st r A=>?_⟩;simp only[iOp,qab,qad]at A;obtain⟨x,hx,y,Y,d,hd,rfl⟩:=A;exact (Bj (ho.run _ _ _ _ hd) (N.run _ _ _ hx) (hb.run _ _ _ Y) hm).imp λB H Q h=>rg h
theorem wV {d:D}{k:Bool} (h:wU d=some k):d=.bl k:=by
 cases d<;>first|(cases h;done)|(injection h with h;subst h;rfl)
theorem qo {op:CmpOp}{g:Sto->W->W->Option D} (ho:OpD K X (qbV op) g) (N:IE K X a fa) (hb:IE K X b fb) (hm:qfC op b=false):IT K X (.Compare a [op] [b] pos) (aG g fa fb):=by
 refine⟨λenv st r A=>?_⟩;simp only[aG,qab,qad]at A;obtain⟨x,hx,y,Y,d,hd,k,hk,rfl⟩:=A;cases wV hk;refine (Bt (ho.run _ _ _ _ hd) (N.run _ _ _ hx) (hb.run _ _ _ Y) hm).imp λB H Q h=>?_;obtain⟨φ,G,E,q⟩:=h;refine rg ⟨φ,G,E,λv H1 z J s1 R=>⟨k,R,q H1 z J s1⟩⟩
def im:W->Option D
 |.d (.int i)=>some (.int (-i))
 |_=>none
theorem mK (N:IE K X a fa):IE K X (.UnaryOp .USub a pos) (iUn im fa):=by
 refine⟨λenv st r A=>?_⟩;simp only[iUn,qab,qad]at A;obtain⟨⟨x,s1⟩,hx,d,hd,rfl⟩:=A;cases x with
 |h n=>cases hd
 |d x=>
  cases x with
  |int i=>
   cases hd;refine (Fg Ed (N.run _ _ _ hx)).imp ?_
   rintro B H Q ⟨φ,G,E,q⟩
   exact⟨φ,G,E,λv H1 z J s1 R=>⟨i,R,q _ H1 z J s1 U⟩⟩
  |_=>cases hd
variable {ta tb:Tf}
theorem qp (N:IT K X a ta):IT K X (.UnaryOp .Not a pos) (dP ta):=by
 refine⟨λenv st r A=>?_⟩;simp only[dP,qad]at A;obtain⟨x,hx,rfl⟩:=A;refine (DJ (N.run _ _ _ hx)).imp ?_
 rintro B H Q ⟨φ,G,E,q⟩
 exact⟨φ,G,E,λH1 z J s1=>q H1 z J s1⟩
theorem C6 (h:ITW K X a ta):IT K X a ta:=⟨λenv st r A=>(h.run env st r A).pt⟩
theorem jz (h:IT K X a ta):ITW K X (.BoolOp .And [a] pos) ta:=⟨λenv st r A=>Bw (h.run env st r A)⟩
theorem lT (h:IT K X a ta):ITW K X (.BoolOp .Or [a] pos) ta:=⟨λenv st r A=>DL (h.run env st r A)⟩
theorem lS {rest:List Expr} (N:IT K X a ta) (hb:ITW K X (.BoolOp .And (b::rest) pos) tb):ITW K X (.BoolOp .And (a::b::rest) pos) (kI ta tb):=by
 refine⟨λenv st r A=>?_⟩;simp only[kI,qab]at A;obtain⟨⟨k,s1⟩,hx,A⟩:=A;cases k with
 |false=>
  cases A;refine (zB (N.run _ _ _ hx) tO).imp ?_
  rintro B H Q ⟨φ,G,E,q⟩
  refine⟨φ,G,E,λH1 z J s1=>?_⟩;exact q H1 z J s1
 |true=>
  refine (zB (N.run _ _ _ hx) (hb.run _ _ _ A)).imp ?_
  rintro B H Q ⟨φ,G,E,q⟩
  refine⟨φ,G,E,λH1 z J s1=>?_⟩;exact⟨z,G.fw E J,s1,λH2 O P s2=>q H2 O (J.trans P) s2⟩
theorem qr {rest:List Expr} (N:IT K X a ta) (hb:ITW K X (.BoolOp .Or (b::rest) pos) tb):ITW K X (.BoolOp .Or (a::b::rest) pos) (dI ta tb):=by
 refine⟨λenv st r A=>?_⟩;simp only[dI,qab]at A;obtain⟨⟨k,s1⟩,hx,A⟩:=A;cases k with
 |true=>
  cases A;refine (Cn (N.run _ _ _ hx) tO).imp ?_
  rintro B H Q ⟨φ,G,E,q⟩
  refine⟨φ,G,E,λH1 z J s1=>?_⟩;exact q H1 z J s1
 |false=>
  refine (Cn (N.run _ _ _ hx) (hb.run _ _ _ A)).imp ?_
  rintro B H Q ⟨φ,G,E,q⟩
  refine⟨φ,G,E,λH1 z J s1=>?_⟩;exact⟨z,G.fw E J,s1,λH2 O P s2=>q H2 O (J.trans P) s2⟩
theorem vI {tc:Tf} (hc:IT K X c tc) (N:IE K X a fa) (hb:IE K X b fb):IE K X (.IfExp c a b pos) (eO tc fa fb):=by
 refine⟨λenv st r A=>?_⟩;simp only[eO,qab]at A;obtain⟨⟨k,s1⟩,hx,A⟩:=A;cases k with
 |true=>
  refine (tw (hc.run _ _ _ hx) (N.run _ _ _ A) tB).imp ?_
  rintro B H Q ⟨φ,G,E,q⟩
  refine⟨φ,G,E,λH1 z J s1=>?_⟩;exact⟨z,G.fw E J,s1,λu H2 O P s2 w2=>q u H2 O (J.trans P) s2 w2⟩
 |false=>
  refine (tw (hc.run _ _ _ hx) tB (hb.run _ _ _ A)).imp ?_
  rintro B H Q ⟨φ,G,E,q⟩
  refine⟨φ,G,E,λH1 z J s1=>?_⟩;exact⟨z,G.fw E J,s1,λu H2 O P s2 w2=>q u H2 O (J.trans P) s2 w2⟩
def fX (st:Sto):W->Option (List D)
 |.d (.tup ds)=>some ds
 |.d (.lst ds)=>some ds
 |.d (.scr ns)=>some (ns.map D.int)
 |.h n=>lg st n
 |_=>none
theorem tT {st:Sto}{H:Hp}{φ:List Addr}{w:W}{v:V}{ds:List D} (S:Sr K H φ st) (r:Rw K H φ w v) (e:fX st w=some ds):∃ a L,v=.ref a/\(SqL K H a L\/H a=some (.tup L))/\Rls K H φ ds L:=by
 cases w with
 |h n=>
  obtain⟨a,ea,rfl⟩:=r;obtain⟨L,q,rl⟩:=S.atl n a ds ea e;exact⟨a,L,U,.inl (SqL.of q),rl⟩
 |d x=>
  cases x with
  |tup es=>cases e;obtain⟨a,L,rfl,h1,h2⟩:=r;exact⟨a,L,U,.inr h1,h2⟩
  |lst es=>cases e;obtain⟨a,L,rfl,h0,h1,h2⟩:=r;exact⟨a,L,U,.inl (.inl h1),h2⟩
  |scr ns=>
   cases e;obtain⟨a,rfl,h⟩:=r;refine⟨a,_,U,.inl ?_,Rls.of_ints ns⟩;rcases h with⟨o,h⟩|h
   ·exact .inl (.inr ⟨o,h⟩)
   ·exact .inr h
  |_=>cases e
theorem ig {st:Sto}{H:Hp}{φ:List Addr}{w:W}{v:V}{ds:List D} (S:Sr K H φ st) (r:Rw K H φ w v) (e:fX st w=some ds):∃ a L,v=.ref a/\(SqL K H a L\/SqT K H a L)/\Rls K H φ ds L:=by
 obtain⟨a,L,h0,h1,h2⟩:=tT S r e;exact⟨a,L,h0,h1.imp id SqT.of,h2⟩
def cJ (st:Sto):W->Option Bool
 |.d .non=>some false
 |.d (.bl b)=>some b
 |.d (.int i)=>some (i != 0)
 |w=>(fX st w).map λds=>!ds.isEmpty
theorem BW {st:Sto}{H:Hp}{φ:List Addr}{w:W}{v:V}{k:Bool} (S:Sr K H φ st) (r:Rw K H φ w v) (e:cJ st w=some k):Am K v H k:=by
 have seq:∀ ds,fX st w=some ds->k=!ds.isEmpty->Am K v H k:=λds h hk=>by
  obtain⟨a,L,rfl,h1,h2⟩:=ig S r h;have e':k=!L.isEmpty:=by
   rw[hk];cases ds<;>cases L<;>first|rfl|cases h2.length
  rcases h1 with h1|h1
  ·exact .inl ⟨L,h1,e'⟩
  ·exact .inr (.inl ⟨L,h1,e'⟩)
 cases w with
 |h n=>
  obtain⟨ds,h1,h2⟩:=qad.mp e;exact seq ds h1 h2.symm
 |d x=>
  cases x with
  |non=>subst r;cases e;exact U
  |bl b=>subst r;cases e;exact U
  |int i=>subst r;cases e;exact U
  |tup ds=>exact seq ds U (qaL e).symm
  |lst ds=>exact seq ds U (qaL e).symm
  |scr ds=>exact seq _ U (qaL e).symm
  |_=>cases e
theorem qq (N:IE K X a fa) (he:zp a=true:=by rfl) (hK:X.K=K:=by rfl):IT K X a (cm cJ fa):=by
 subst hK;refine⟨λenv st r A=>?_⟩;simp only[cm,qab,qad]at A;obtain⟨x,hx,k,hk,rfl⟩:=A;refine (zy (N.run _ _ _ hx) (xV he)).imp ?_
 rintro B H Q ⟨φ,G,E,q⟩
 exact⟨φ,G,E,λv H1 z J s1 R=>⟨k,BW s1 R hk,q H1 z J s1⟩⟩
variable {af:Af}
theorem bW:IA K X [] ac:=by
 refine⟨λenv st r A=>?_⟩;cases A;refine qP.imp ?_
 rintro B H Q ⟨φ,G,E,q⟩
 exact q [] H φ (Fw.refl φ H) E U
theorem bm (N:IE K X e fa) (A:IA K X es af) (hs:au e=true:=by rfl):IA K X (e::es) (aa fa af):=by
 refine⟨λenv st r h=>?_⟩;simp only[aa,qab,qad]at h;obtain⟨x,hx,y,Y,rfl⟩:=h;refine (l6 (N.run _ _ _ hx) (A.run _ _ _ Y) (aL hs)).imp ?_
 rintro B H Q ⟨φ,G,E,q⟩
 refine⟨φ,G,E,λv H1 z J s1 R=>⟨z,G.fw E J,s1,λu H2 O P s2 w2=>?_⟩⟩;exact q _ H2 O (J.trans P) s2 ⟨v,u,U,R.fw s1 P,w2⟩
theorem oG {x:Str}{id:String}{p:Pos}{g:Sto->List W->Option D} (hc:dJ K X (.builtin id) g) (hg:Gl X x) (hm:X.mg x=none) (hv:qb9 x=some (.builtin id)) (N:IA K X (e::es) af)
  (hn:x≠"__name__":=by decide) (hdb:(x==("__debug__" : Str))=false:=by decide) (hs:au e=true:=by rfl) (hp:es.all au=true:=by rfl) :
  IE K X (.Call (.Name x p) (e::es) [] pos) (iCB g af):=by
 refine⟨λenv st r A=>?_⟩;simp only[iCB,qab,qad]at A;obtain⟨y,Y,d,hd,rfl⟩:=A;refine (nw (hc.run _ _ _ hd) hg hm hv (N.run _ _ _ Y) hn hdb (aL hs) (a9 hp)).imp ?_
 rintro B H Q ⟨φ,G,E,q⟩
 exact⟨φ,G,E,λv H1 z J s1 R=>⟨z,s1,R,λu H2 P w2=>q u H2 z (J.trans (Fw.same P)) (s1.same P) w2⟩⟩
theorem EL {x:Str}{T:String}{p:Pos}{g:Sto->List W->Option D} (hc:dJ K X (.type T) g) (hg:Gl X x) (hm:X.mg x=none) (hv:qb9 x=some (.type T)) (N:IA K X (e::es) af)
  (hn:x≠"__name__":=by decide) (hdb:(x==("__debug__" : Str))=false:=by decide) (hs:au e=true:=by rfl) (hp:es.all au=true:=by rfl) :
  IE K X (.Call (.Name x p) (e::es) [] pos) (iCB g af):=by
 refine⟨λenv st r A=>?_⟩;simp only[iCB,qab,qad]at A;obtain⟨y,Y,d,hd,rfl⟩:=A;refine (cH (hc.run _ _ _ hd) hg hm hv (N.run _ _ _ Y) hn hdb (aL hs) (a9 hp)).imp ?_
 rintro B H Q ⟨φ,G,E,q⟩
 exact⟨φ,G,E,λv H1 z J s1 R=>⟨z,s1,R,λu H2 P w2=>q u H2 z (J.trans (Fw.same P)) (s1.same P) w2⟩⟩
theorem EM {x:Str}{id:String}{p:Pos}{g:Sto->List W->Option (List D)} (hc:rq K X (.builtin id) g) (hg:Gl X x) (hm:X.mg x=none) (hv:qb9 x=some (.builtin id)) (N:IA K X (e::es) af)
  (hn:x≠"__name__":=by decide) (hdb:(x==("__debug__" : Str))=false:=by decide) (hs:au e=true:=by rfl) (hp:es.all au=true:=by rfl) :
  IL K X (.Call (.Name x p) (e::es) [] pos) (iCL g af):=by
 refine⟨λenv st r A=>?_⟩;simp only[iCL,qab,qad]at A;obtain⟨y,Y,d,hd,rfl⟩:=A;refine (nw (hc.run _ _ _ hd) hg hm hv (N.run _ _ _ Y) hn hdb (aL hs) (a9 hp)).imp ?_
 rintro B H Q ⟨φ,G,E,q⟩
 exact⟨φ,G,E,λv H1 z J s1 R=>⟨z,s1,R,λa us H2 P n2 w2=>q a us H2 z (J.trans (Fw.same P)) (s1.same P) n2 w2⟩⟩
theorem B8 {x:Str}{T:String}{p:Pos}{g:Sto->List W->Option (List D)} (hc:rq K X (.type T) g) (hg:Gl X x) (hm:X.mg x=none) (hv:qb9 x=some (.type T)) (N:IA K X (e::es) af)
  (hn:x≠"__name__":=by decide) (hdb:(x==("__debug__" : Str))=false:=by decide) (hs:au e=true:=by rfl) (hp:es.all au=true:=by rfl) :
  IL K X (.Call (.Name x p) (e::es) [] pos) (iCL g af):=by
 refine⟨λenv st r A=>?_⟩;simp only[iCL,qab,qad]at A;obtain⟨y,Y,d,hd,rfl⟩:=A;refine (cH (hc.run _ _ _ hd) hg hm hv (N.run _ _ _ Y) hn hdb (aL hs) (a9 hp)).imp ?_
 rintro B H Q ⟨φ,G,E,q⟩
 exact⟨φ,G,E,λv H1 z J s1 R=>⟨z,s1,R,λa us H2 P n2 w2=>q a us H2 z (J.trans (Fw.same P)) (s1.same P) n2 w2⟩⟩
theorem ms {H:Hp}{φ:List Addr}:∀ {ws:List W}{L:List V}{ds:List D},og ws=some ds->Rws K H φ ws L->Rls K H φ ds L
 |[],_,_,e,h=>by cases e;exact h
 |.d x::ws,_,_,e,h=>by
  obtain⟨v,r,rfl,h1,h2⟩:=h;obtain⟨es,e1,rfl⟩:=qad.mp e;exact⟨v,r,U,h1,ms e1 h2⟩
 |.h n::ws,_,_,e,h=>by cases e
theorem pX {x1} (h:IA K X es af):IE K X (.Tuple es x1 pos) (aY af):=by
 refine⟨λenv st r A=>?_⟩;simp only[aY,qab]at A;obtain⟨y,Y,ds,hd,A⟩:=A;split at A
 ·cases A
  rename_i hl;refine (zg (h.run _ _ _ Y)).imp ?_
  rintro B H Q ⟨φ,G,E,q⟩
  refine⟨φ,G,E,λL H1 z J s1 R=>?_⟩;have w:=ms hd R;refine⟨by rw[<-w.length];exact ii hl,λp hp=>?_⟩;exact q _ _ z (J.trans (Fw.new hp)) (s1.new hp) ⟨p,L,U,upd_same,w.fw s1 (Fw.new hp)⟩
 ·cases A
theorem j9 (h:IA K X es af):IL K X (.List es pos) (bj af):=by
 refine⟨λenv st r A=>?_⟩;simp only[bj,qab]at A;obtain⟨y,Y,ds,hd,A⟩:=A;split at A
 ·cases A
  rename_i hl;refine (zf (h.run _ _ _ Y)).imp ?_
  rintro B H Q ⟨φ,G,E,q⟩
  refine⟨φ,G,E,λL H1 z J s1 R=>?_⟩;have w:=ms hd R;exact⟨by rw[<-w.length];exact ii hl,λp hp=>q p L H1 z J s1 hp w⟩
 ·cases A
theorem dc {lf:Lf} (h:IL K X e lf):IE K X e (av lf):=by
 refine⟨λenv st r A=>?_⟩;simp only[av,qad]at A;obtain⟨y,Y,rfl⟩:=A;refine (h.run _ _ _ Y).imp ?_
 rintro B H Q ⟨φ,G,E,q⟩
 refine⟨φ,G,E,λa L H1 z J s1 n1 R=>?_⟩;exact q _ _ z (J.trans (Fw.new n1)) (s1.new n1) ⟨a,L,U,s1.nin n1,.inl upd_same,R.fw s1 (Fw.new n1)⟩
theorem Sr.moreC {H:Hp}{φ:List Addr}{st:Sto}{a:Addr}{o:HO}{c:C} (S:Sr K H φ st) (n:H a=none) (w:Rc K (upd H a o) (φ++[a]) φ.length a c):Sr K (upd H a o) (φ++[a]) (st++[c]):=by
 refine⟨?_,by rw[qaw,qaw,S.len];rfl,λi b es e1 e2=>?_⟩
 ·rw[qcx]
  refine⟨S.nd,by simp,λx hx y Y e=>?_⟩;rw[qam.mp Y]at e;rw[e]at hx;exact S.nin n hx
 ·by_cases hi:i<φ.length
  ·rw[qaB hi]at e1
   rw[qaB (by rw[<-S.len];exact hi)]at e2;exact (S.at_ i b es e1 e2).fw S ⟨⟨_,U,λb hb=>by rw[qam.mp hb];exact n⟩,λb o _ h=>aN.new n _ b o h,λb o h=>⟨o,aN.new n _ b o h⟩⟩ λo h=>aN.new n _ _ _ h
  ·have e:i=φ.length:=by
    have:=(qap.mp e1).1
    simp at this
    lia
   subst e;rw[qaJ (qao _)]at e1;rw[S.len,qaJ (qao _)]at e2
   simp at e1 e2
   subst e1 e2;exact w
theorem Fw.moreO {H:Hp}{φ:List Addr}{a:Addr}{o:HO} (n:H a=none):Fw φ (φ++[a]) H (upd H a o):=
 ⟨⟨_,U,λb hb=>by rw[qam.mp hb];exact n⟩,λb o _ h=>aN.new n _ b o h,λb o h=>⟨o,aN.new n _ b o h⟩⟩
theorem Fw.more {H:Hp}{φ:List Addr}{a:Addr}{L:List V} (n:H a=none):Fw φ (φ++[a]) H (upd H a (.lst L)):=Fw.moreO n
theorem Sr.more {H:Hp}{φ:List Addr}{st:Sto}{a:Addr}{L:List V}{ds:List D} (S:Sr K H φ st) (n:H a=none) (w:Rls K H φ ds L):Sr K (upd H a (.lst L)) (φ++[a]) (st++[.l ds]):=
 S.moreC n ⟨L,upd_same,w.fw S (Fw.moreO n)⟩
theorem kc {lf:Lf} (h:IL K X e lf):IE K X e (bV lf):=by
 refine⟨λenv st r A=>?_⟩;simp only[bV,qad]at A;obtain⟨y,Y,rfl⟩:=A;refine (h.run _ _ _ Y).imp ?_
 rintro B H Q ⟨φ,G,E,q⟩
 refine⟨φ,G,E,λa L H1 z J s1 n1 R=>?_⟩;exact q _ _ _ (J.trans (Fw.more n1)) (s1.more n1 R) ⟨a,by rw[<-s1.len];simp,U⟩
def spI (K:qae) (m:Fn):Sp:=λL H Q _=>∃ φ st ws r,m ws st=some r/\Rws K H φ ws L/\Sr K H φ st/\∀ v H' φ',Fw φ φ' H H'->Sr K H' φ' r.2->Rw K H' φ' r.1 v->Q v H'
theorem AH {x:Str}{k j:Nat}{ff:Addr}{fd:qb0}{ps:List Str}{m:Fn}{p:Pos} (F:cZ X.prog X.w X.K X.mg X.base CX0 j ff fd ps (spI K m)) (hjk:j<=k) (A:bh k X.A) (hg:Gl X x) (hm:X.mg x=some (.ref ff)) (hk:qcB X.K (.ref ff)=true) (hb:cN X.K fd ps [])
  (N:IA K X (e::es) af) (hdb:(x==("__debug__" : Str))=false:=by decide) (hs:au e=true:=by rfl) (hp:es.all au=true:=by rfl) :
  IE K X (.Call (.Name x p) (e::es) [] pos) (ay m af):=by
 refine⟨λenv st r h=>?_⟩;simp only[ay,qab]at h;obtain⟨y,Y,h⟩:=h;refine (wk (F.mono hjk) A hg hm hk hb .nil zb (N.run _ _ _ Y) hdb (aL hs) (a9 hp)).imp ?_
 rintro B H Q ⟨φ,G,E,q⟩
 refine⟨φ,G,E,λL H1 z J s1 R=>?_⟩;show spI K m _ H1 Q E0;rw[qbH];exact⟨z,_,_,r,h,R,s1,λv H2 O P s2 w2=>q v H2 O (J.trans P) s2 w2⟩
end
inductive Fl where
 |nx (env:Ev) (st:Sto)|rt (w:W) (st:Sto)|bk (env:Ev) (st:Sto)|ct (env:Ev) (st:Sto)
abbrev Sf:=Ev->Sto->Option Fl
def x4 (K:qae) (φ:List Addr) (H:Hp) (D:n4):Fl->Prop
 |.nx e s=>∀ b H' a,Fw φ a H H'->Er K H' a e b->Sr K H' a s->D.nx b H'
 |.rt w s=>∀ v H' a,Fw φ a H H'->Sr K H' a s->Rw K H' a w v->D.rt v H'
 |.bk e s=>∀ b H' a,Fw φ a H H'->Er K H' a e b->Sr K H' a s->D.bk b H'
 |.ct e s=>∀ b H' a,Fw φ a H H'->Er K H' a e b->Sr K H' a s->D.ct b H'
theorem x4.fw {K:qae}{φ d:List Addr}{H H1:Hp}{D:n4}{r:Fl} (h:x4 K φ H D r) (f:Fw φ d H H1):x4 K d H1 D r:=by
 cases r with
 |nx e s=>exact λb H' a c=>h b H' a (f.trans c)
 |rt w s=>exact λv H' a c=>h v H' a (f.trans c)
 |bk e s=>exact λb H' a c=>h b H' a (f.trans c)
 |ct e s=>exact λb H' a c=>h b H' a (f.trans c)
def tS (K:qae) (env:Ev) (st:Sto) (r:Fl):TS:=λD a H=>∃ φ,Er K H φ env a/\Sr K H φ st/\x4 K φ H D r
structure IS (K:qae) (X:Cx) (s:Stmt) (g:Sf):Prop where
 run:∀ env st r,g env st=some r->PS X s (tS K env st r)
structure ISs (K:qae) (X:Cx) (s:List Stmt) (g:Sf):Prop where
 run:∀ env st r,g env st=some r->PSs X s (tS K env st r)
inductive Tg where
 |nm (i:Nat)|tp (is:List Nat)|tq (i:Nat) (is:List Nat)
def sE:Tg->List Nat
 |.nm i=>[i]
 |.tp is=>is
 |.tq i is=>i::is
def nH:List Nat->List D->Ev->Ev
 |i::is,d::ds,env=>nH is ds (env.set i (some (.d d)))
 |_,_,env=>env
def cw:Tg->W->Ev->Option Ev
 |.nm i,w,env=>some (env.set i (some w))
 |.tp is,.d (.tup ds),env=>if is.length=ds.length then some (nH is ds env) else none
 |.tp is,.d (.lst ds),env=>if is.length=ds.length then some (nH is ds env) else none
 |.tq i is,.d (.tup [d,.tup ds]),env=>if is.length=ds.length then some (nH is ds (env.set i (some (.d d)))) else none
 |_,_,_=>none
def Al (is:List Nat) (b a:St):Prop:=a.length=b.length/\∀ j,j∉is->a[j]?=b[j]?
def tG (K:qae) (g:Tg):TG:=λv c H Q=>∃ φ st env w a,Er K H φ env c/\Sr K H φ st/\Rw K H φ w v/\cw g w env=some a/\∀ b,Er K H φ a b->Al (sE g) c b->Q b H
def tGs (K:qae) (is:List Nat):TGs:=λc b H Q=>∃ φ st env ds,Er K H φ env b/\Sr K H φ st/\Rls K H φ ds c/\is.length=ds.length/\∀ a,Er K H φ (nH is ds env) a->Al is b a->Q a H
def aW:Sf
 |env,st=>some (.nx env st)
def ah (a b:Sf):Sf
 |env,st=>(a env st).bind λr=>match r with
 |.nx e s=>b e s
 |r=>some r
def aD (g:Tg) (f:Ef):Sf
 |env,st=>(f env st).bind λr=>(cw g r.1 env).map λe=>.nx e r.2
def sC (i j:Nat) (a:Af):Sf
 |env,st=>(a env st).bind λr=>match r.1 with
 |[x,y]=>some (.nx ((env.set i (some x)).set j (some y)) r.2)
 |_=>none
def fU (st:Sto) (o i v:W):Option Sto:=match o,i,v with
 |.h n,.d (.int k),.d x=>(lg st n).bind λds=>(ixN ds.length k).map λj=>st.set n (.l (ds.set j x))
 |_,_,_=>none
def bo (o i v:Ef):Sf
 |env,st=>(v env st).bind λb=>(o env b.2).bind λa=>(i env a.2).bind λc=>(fU c.2 a.1 c.1 b.1).map λs=>.nx env s
def aO (f:Ef):Sf
 |env,st=>(f env st).map λr=>.rt r.1 r.2
def cy (f:Ef):Sf
 |env,st=>(f env st).map λr=>.nx env r.2
def bi (c:Tf) (a b:Sf):Sf
 |env,st=>(c env st).bind λr=>if r.1=true then a env r.2 else b env r.2
def uv:Sf
 |env,st=>some (.bk env st)
def oE:Sf
 |env,st=>some (.ct env st)
def b4 (g:Tg) (body:Sf):List D->Ev->Sto->Option Fl
 |[],env,st=>some (.nx env st)
 |d::ds,env,st=>(cw g (.d d) env).bind λe=>(body e st).bind λr=>match r with
  |.nx e s=>b4 g body ds e s
  |.ct e s=>b4 g body ds e s
  |.bk e s=>some (.nx e s)
  |.rt w s=>some (.rt w s)
def cV (a:Lf) (g:Tg) (body:Sf):Sf
 |env,st=>(a env st).bind λr=>b4 g body r.1 env r.2
def bz (c:Tf) (body:Sf):Nat->Ev->Sto->Option Fl
 |0,_,_=>none
 |n+1,env,st=>(c env st).bind λk=>if k.1=true then (body env k.2).bind λr=>match r with
   |.nx e s=>bz c body n e s
   |.ct e s=>bz c body n e s
   |.bk e s=>some (.nx e s)
   |.rt w s=>some (.rt w s)
  else some (.nx env k.2)
def lcI (g:Tg) (tt:Tf) (te:Ef) (env:Ev):List D->Sto->Option (List D×Sto)
 |[],st=>some ([],st)
 |d::ds,st=>(cw g (.d d) env).bind λe=>(tt e st).bind λb=>if b.1=true then (te e b.2).bind λx=>(og [x.1]).bind λa=>(lcI g tt te env ds x.2).map λr=>(a++r.1,r.2)
   else lcI g tt te env ds b.2
def uo (k:Nat) (js:List Nat) (env:Ev):Ev:=qaD k none++js.map λj=>env.getD j none
def iLc (k:Nat) (js:List Nat) (a:Lf) (g:Tg) (tt:Tf) (te:Ef):Lf
 |env,st=>(a env st).bind λr=>if r.1.length<=1000000 then lcI g tt te (uo k js env) r.1 r.2 else none
def aP:Tf
 |_,st=>some (true,st)
def aA (f:Ef):Lf
 |env,st=>(f env st).bind λr=>match r.1 with
 |.d (.tup ds)=>some (ds,r.2)
 |.d (.lst ds)=>some (ds,r.2)
 |_=>none
def cU (lo:Int) (n:Nat):List D:=(qai n).map λk:Nat=>D.int (lo+k)
def ca (a:Af):Lf
 |env,st=>(a env st).bind λr=>match r.1 with
 |[.d (.int j)]=>if -(2^62)<=j/\j<2^62 then some (cU 0 j.toNat,r.2) else none
 |_=>none
def bF:Nat->List D->List D
 |_,[]=>[]
 |k,d::ds=>.tup [.int k,d]::bF (k+1) ds
def bK (a:Af):Lf
 |env,st=>(a env st).bind λr=>match r.1 with
 |[.d (.tup ds)]=>some (bF 0 ds,r.2)
 |[.d (.lst ds)]=>some (bF 0 ds,r.2)
 |_=>none
section
variable {K:qae}{X:Cx}{pos:Pos}
theorem PS.imp {s:Stmt}{t t':TS} (h:PS X s t) (m:∀ D A H,t' D A H->t D A H):PS X s t':=λB s A H D I q=>h B s A H D I (m D A H q)
theorem PSs.imp {s:List Stmt}{t t':TS} (h:PSs X s t) (m:∀ D A H,t' D A H->t D A H):PSs X s t':=λB s A H D I q=>h B s A H D I (m D A H q)
theorem Er.set {H:Hp}{φ:List Addr}{env:Ev}{A:St} (h:Er K H φ env A) (i:Nat) {w:W}{v:V} (r:Rw K H φ w v):Er K H φ (env.set i (some w)) (A.set i (some v)):=by
 refine⟨by rw[qb2,qb2,h.len],λj w' e=>?_⟩;by_cases hj:i=j
 ·subst hj
  have hi:=by
   have:=(qap.mp e).1
   rwa [qb2]at this
  rw[qbn hi]at e;cases e;exact⟨v,by rw[qbn (by rw[<-h.len];exact hi)],r⟩
 ·rw[qbz hj]at e
  obtain⟨v',e1,r1⟩:=h.at_ j w' e;exact⟨v',by rw[qbz hj];exact e1,r1⟩
theorem zY (i:Nat) (A:St) (v:Option V):Al [i] A (A.set i v):=⟨by rw[qb2],λj hj=>by rw[qbz (by rintro rfl;simp at hj)]⟩
theorem jr {i:Nat}{x:Str} (h:PG X (.Name x pos) (kG i)):PG X (.Name x pos) (tG K (.nm i)):=by
 intro B s A H v u Q I P q;obtain⟨φ,st,env,w,Y,E,G,r,e,q⟩:=q;cases e;exact h B s A H v u Q I P (q _ (E.set i r) (zY i A _))
theorem jt:PGs X [] (tGs K []):=by
 intro B s A H T us Q I P q;obtain⟨φ,st,env,ds,E,G,r,e,q⟩:=q;cases ds with
 |nil=>cases r;exact wl B s A H [] us Q I P ⟨U,q A E ⟨U,λ_ _=>rfl⟩⟩
 |cons _ _=>cases e
theorem eP {i:Nat}{is:List Nat}{x:Str}{es:List Expr} (h1:PG X (.Name x pos) (kG i)) (h2:PGs X es (tGs K is)):PGs X (.Name x pos::es) (tGs K (i::is)):=by
 intro B s A H T us Q I P q;obtain⟨φ,st,env,ds,E,G,r,e,q⟩:=q;cases ds with
 |nil=>cases e
 |cons d ds=>
  obtain⟨v,vr,rfl,r1,r2⟩:=r;refine jO h1 h2 (jf U) B s A H _ us Q I P ⟨v,vr,U,φ,st,_,ds,E.set i (w:=.d d) r1,G,r2,by simpa using e,λσ' N s'=>q σ' N ?_⟩;refine⟨by rw[s'.1,qb2],λj hj=>?_⟩;rw[s'.2 j (λz=>hj (qah _ z)),qbz (by rintro rfl;exact hj qag)]
def F8 (K:qae) (n:Nat) (t:TGs):TG:=λv A H Q=>∃ a xs,v=.ref a/\SqL K H a xs/\xs.length=n/\t xs A H Q
theorem DC {es:List Expr}{k:Nat}{t:TGs}{n:Nat} (hc:X.calm=true) (h:PGs X es t) (hn:(qbW es X.env).length=n) (hst:(qbW es X.env).findIdx? (·.1)=none):PG X (.Tuple es k pos) (F8 X.K n t):=by
 intro B s A H v u Q I r hw;obtain⟨a,xs,e1,hq,O,hw⟩:=hw;subst e1;cases r;obtain⟨its,P,p,hz⟩:=I.list hq;refine qac (qeu ?_);unfold unpack;rw[show (qbW es X.env).length=its.toArray.size by simp[hn,<-O,P.length],hst];refine qac (qcq (PySem.W.kun_itemsOf (I.ok.hd hc) p.isList λh' hx=>?_));exact h B _ A H xs _ Q (I.kept λb o e=>hx b o (qaF (qaA e)) e) (by simpa using P) hw
theorem mM {es:List Expr}{k n:Nat}{is:List Nat} (h:PGs X es (tGs K is)) (hes:es.all au=true:=by rfl) (hn:es.length=n:=by rfl) (hi:is.length=n:=by rfl) (hc:X.calm=true:=by rfl) (hK:X.K=K:=by rfl):PG X (.Tuple es k pos) (tG K (.tp is)):=by
 intro B s A H v u Q I P q;obtain⟨φ,st,env,w,Y,E,G,r,e,q⟩:=q;cases w with
 |h n=>cases e
 |d x=>
  cases x with
  |tup ds=>
   have N:(if is.length=ds.length then some _ else none)=some Y:=e;by_cases O:is.length=ds.length
   ·rw[iFP O]at N
    cases N;obtain⟨a,T,rfl,hq,F⟩:=r;exact zi hc h ((lj hes).trans hn) (je hes) B s A H _ u Q I P ⟨a,T,U,(SqT.of hq),by rw[<-F.length,<-O,hi],φ,st,env,ds,E,G,F,O,q⟩
   ·rw[iFN O]at N
    cases N
  |lst ds=>
   have N:(if is.length=ds.length then some _ else none)=some Y:=e;by_cases O:is.length=ds.length
   ·rw[iFP O]at N
    cases N;obtain⟨a,T,rfl,_,hq,F⟩:=r;exact DC hc h ((lj hes).trans hn) (je hes) B s A H _ u Q I P ⟨a,T,U,.inl hq,by rw[<-F.length,<-O,hi],φ,st,env,ds,E,G,F,O,q⟩
   ·rw[iFN O]at N
    cases N
  |_=>cases e
variable {s:Stmt}{ss rest:List Stmt}{e a b c:Expr}{ga gb:Sf}{f fa fb fc:Ef}
theorem lP:ISs K X [] aW:=by
 refine⟨λenv st r F=>?_⟩;cases F;exact Bs.imp λD A H ⟨φ,E,G,q⟩=>q A H φ (Fw.refl φ H) E G
theorem lQ (h:IS K X s ga):ISs K X [s] ga:=⟨λenv st r F=>wt (h.run env st r F)⟩
theorem jy (h1:IS K X s ga) (h2:ISs K X rest gb):ISs K X (s::rest) (ah ga gb):=by
 refine⟨λenv st r F=>?_⟩;simp only[ah,qab]at F;obtain⟨r1,e1,F⟩:=F;cases r1 with
 |nx e s1=>
  refine (cS (h1.run _ _ _ e1) (h2.run _ _ _ F)).imp ?_
  rintro D A H ⟨φ,E,G,q⟩
  exact⟨φ,E,G,λσ' H' φ' f' N s'=>⟨φ',N,s',q.fw f'⟩⟩
 |rt w s1=>
  cases F;exact (cS (h1.run _ _ _ e1) eY).imp λD A H ⟨φ,E,G,q⟩=>⟨φ,E,G,q⟩
 |bk w s1=>
  cases F;exact (cS (h1.run _ _ _ e1) eY).imp λD A H ⟨φ,E,G,q⟩=>⟨φ,E,G,q⟩
 |ct w s1=>
  cases F;exact (cS (h1.run _ _ _ e1) eY).imp λD A H ⟨φ,E,G,q⟩=>⟨φ,E,G,q⟩
theorem qj {i:Nat}{x:Str}{pos':Pos} (hN:X.N.Nodup) (hi:X.N[i]?=some x) (hx:Loc X.env.scope x) (he:IE K X e f) (hs:qcr e (some (.Name x pos')) pos.line X.env=pure false:=by rfl) (hf:X.fn x=true\/X.env.scope.names.lookup x=some .local:=by first|exact .inl U|exact .inr U|assumption) :
  IS K X (.Assign [.Name x pos'] e pos) (aD (.nm i) f):=by
 refine⟨λenv st r F=>?_⟩;simp only[aD,cw,qab,qad]at F;obtain⟨y,hy,N,ee,rfl⟩:=F;cases ee;refine (DI hN hi hx (he.run _ _ _ hy) hs hf).imp ?_
 rintro D A H ⟨φ,E,G,q⟩
 exact⟨φ,E,G,λv H1 L M s1 w1=>q _ H1 L M ((E.fw G M).set i w1) s1⟩
theorem qh {tg:Expr}{g:Tg} (he:IE K X e f) (hg:PG X tg (tG K g)) (hs:qc0 [tg] e pos.line X.env=pure false:=by rfl) (hw:qc1 [tg] e X.env=pure none:=by rfl)
  (h1:au tg=true:=by rfl):IS K X (.Assign [tg] e pos) (aD g f):=by
 refine⟨λenv st r F=>?_⟩;simp only[aD,qab,qad]at F;obtain⟨y,hy,N,ee,rfl⟩:=F;refine (kq (he.run _ _ _ hy) hg hs hw (gO h1)).imp ?_
 rintro D A H ⟨φ,E,G,q⟩
 exact⟨φ,E,G,λv H1 L M s1 w1=>⟨L,_,env,_,N,E.fw G M,s1,w1,ee,λσ' e'' _=>q σ' H1 L M e'' s1⟩⟩
theorem Sr.putC {H:Hp}{φ:List Addr}{st:Sto}{n:Nat}{a:Addr}{o:HO}{c:C} (S:Sr K H φ st) (hn:φ[n]?=some a) (w:Fw φ φ H (upd H a o)->Rc K (upd H a o) φ n a c) :
  Fw φ φ H (upd H a o)/\Sr K (upd H a o) φ (st.set n c):=by
 have f:Fw φ φ H (upd H a o):=⟨⟨[],by simp,by simp⟩,λb o hb h=>by rw[upd_ne (λz=>hb (by rw[z];exact (qbj hn)))];exact h,λb o h=>by
  by_cases z:b=a
  ·subst z;exact⟨_,upd_same⟩
  ·exact⟨o,by rw[upd_ne z];exact h⟩⟩
 refine⟨f,S.nd,by rw[qb2];exact S.len,λm b es e1 e2=>?_⟩;by_cases hm:n=m
 ·subst hm
  rw[e1]at hn;cases hn;have O:n<st.length:=by rw[<-S.len];exact (qap.mp e1).1
  rw[qbn O]at e2;cases e2;exact w f
 ·rw[qbz hm]at e2
  have hne:b≠a:=by
   rintro rfl
   obtain⟨h1,h1'⟩:=qap.mp hn;obtain⟨h2,h2'⟩:=qap.mp e1;exact hm ((qdB S.nd).mp (h1'.trans h2'.symm))
  exact (S.at_ m b es e1 e2).fw S f λo h=>by rw[upd_ne hne];exact h
theorem Sr.put {H:Hp}{φ:List Addr}{st:Sto}{n:Nat}{a:Addr}{T:List V}{ds:List D} (S:Sr K H φ st) (hn:φ[n]?=some a) (w:Rls K H φ ds T) :
  Fw φ φ H (upd H a (.lst T))/\Sr K (upd H a (.lst T)) φ (st.set n (.l ds)):=S.putC hn λf=>⟨T,upd_same,w.fw S f⟩
theorem uY {st s':Sto}{o i v:W} (h:fU st o i v=some s'):∃ n k x ds j,o=.h n/\i=.d (.int k)/\v=.d x/\lg st n=some ds/\ixN ds.length k=some j/\s'=st.set n (.l (ds.set j x)):=by
 unfold fU at h;split at h
 ·obtain⟨ds,e1,h⟩:=qab.mp h
  obtain⟨j,e2,h⟩:=qad.mp h;exact⟨_,_,_,ds,j,U,U,U,e1,e2,h.symm⟩
 ·cases h
theorem jw {tpos:Pos} (ho:IE K X a fa) (hi:IE K X b fb) (hv:IE K X e f) (hb:ko b=true:=by rfl) (hs:qc0 [.Subscript a b tpos] e pos.line X.env=pure false:=by rfl) (hw:qc1 [.Subscript a b tpos] e X.env=pure none:=by rfl) :
  IS K X (.Assign [.Subscript a b tpos] e pos) (bo fa fb f):=by
 refine⟨λenv st r F=>?_⟩;simp only[bo,qab,qad]at F;obtain⟨P,ev,ro,eo,ri,ei,s',es,rfl⟩:=F;refine (kq (hv.run _ _ _ ev) (qQ (ho.run _ _ _ eo) (hi.run _ _ _ ei) jR (lm hb)) hs hw (gO U)).imp ?_
 rintro D A H ⟨φ,E,G,q⟩
 refine⟨φ,E,G,λv H1 L M s1 w1=>⟨L,E.fw G M,s1,λo H2 φ2 f2 s2 w2=>⟨φ2,(E.fw G M).fw s1 f2,s2,λi H3 φ3 f3 s3 w3=>?_⟩⟩⟩;obtain⟨ro1,ro2⟩:=ro;obtain⟨rv1,rv2⟩:=P;obtain⟨ri1,ri2⟩:=ri;obtain⟨n,k,x,ds,j,rfl,rfl,rfl,eds,ej,rfl⟩:=uY es;obtain⟨p,ep,rfl⟩:=(w2.fw s2 f3);obtain⟨T,hp,rl⟩:=s3.atl n p ds ep eds;subst w3;obtain⟨f4,s4⟩:=s3.put ep (Rls.set j rl ((w1.fw s1 f2).fw s2 f3));refine⟨p,T,k,j,U,U,hp,by rw[<-rl.length];exact ej,?_⟩;exact q _ _ φ3 (((M.trans f2).trans f3).trans f4) ((((E.fw G M).fw s1 f2).fw s2 f3).fw s3 f4) s4
theorem qi (h:IE K X e f):IS K X (.Return (some e) pos) (aO f):=by
 refine⟨λenv st r F=>?_⟩;simp only[aO,qad]at F;obtain⟨y,hy,rfl⟩:=F;exact (DH (h.run _ _ _ hy)).imp λD A H ⟨φ,E,G,q⟩=>⟨φ,E,G,q⟩
theorem lH (h:IE K X e f) (hs:qcr e none pos.line X.env=pure false:=by rfl):IS K X (.Expr e pos) (cy f):=by
 refine⟨λenv st r F=>?_⟩;simp only[cy,qad]at F;obtain⟨y,hy,rfl⟩:=F;exact (Br (h.run _ _ _ hy) hs).imp λD A H ⟨φ,E,G,q⟩=>⟨φ,E,G,λv H1 L M s1 w1=>q A H1 L M (E.fw G M) s1⟩
theorem vR {tc:Tf}{sa sb:List Stmt} (hc:IT K X c tc) (ha:ISs K X sa ga) (hb:ISs K X sb gb):IS K X (.If c sa sb pos) (bi tc ga gb):=by
 refine⟨λenv st r F=>?_⟩;simp only[bi,qab]at F;obtain⟨⟨k,s1⟩,hx,F⟩:=F;cases k with
 |true=>
  refine (Ci (hc.run _ _ _ hx) (ha.run _ _ _ F) eY).imp ?_
  rintro D A H ⟨φ,E,G,q⟩
  refine⟨φ,E,G,λH1 L M s1=>C5 ?_⟩;exact⟨L,E.fw G M,s1,q.fw M⟩
 |false=>
  refine (Ci (hc.run _ _ _ hx) eY (hb.run _ _ _ F)).imp ?_
  rintro D A H ⟨φ,E,G,q⟩
  refine⟨φ,E,G,λH1 L M s1=>C4 ?_⟩;exact⟨L,E.fw G M,s1,q.fw M⟩
theorem jv:IS K X (.Break pos) uv:=by
 refine⟨λenv st r F=>?_⟩;cases F;exact zu.imp λD A H ⟨φ,E,G,q⟩=>q A H φ (Fw.refl φ H) E G
theorem lG:IS K X (.Continue pos) oE:=by
 refine⟨λenv st r F=>?_⟩;cases F;exact tL.imp λD A H ⟨φ,E,G,q⟩=>q A H φ (Fw.refl φ H) E G
def FF (K:qae) (g:Sf):TS:=λD A H=>∃ env st r,g env st=some r/\tS K env st r D A H
def Cv (K:qae) (f:Ef):TE:=λA H Q=>∃ env st r,f env st=some r/\tI K env st r A H Q
def z5 (K:qae) (f:Tf):TT:=λA H Q=>∃ env st r,f env st=some r/\tIT K env st r A H Q
theorem ISs.any (h:ISs K X ss ga):PSs X ss (FF K ga):=λB s A H D I ⟨env,st,r,e,q⟩=>h.run env st r e B s A H D I q
theorem IE.any (h:IE K X e f):PE X e (Cv K f):=λB s A H D I ⟨env,st,r,e,q⟩=>h.run env st r e B s A H D I q
theorem IT.any {tf:Tf} (h:IT K X e tf):PT X e (z5 K tf):=λB s A H D I ⟨env,st,r,e,q⟩=>h.run env st r e B s A H D I q
def Yl (K:qae) (φ0:List Addr) (H0:Hp) (J:It) (ds:List D):Prop:=∀ (H:Hp) (φ:List Addr) (st:Sto) (i:Nat),Fw φ0 φ H0 H->Sr K H φ st->
 (∀ d,ds[i]?=some d->J.go i H/\∀ x H',J.yld i H x H'->aN H H'/\Rl K H' φ d x)/\(ds.length=i->J.stop i H)
def tII (K:qae) (env:Ev) (st:Sto) (r:List D×Sto):TI:=λA H R=>∃ φ,Er K H φ env A/\Sr K H φ st/\∀ J H' φ',Fw φ φ' H H'->Sr K H' φ' r.2->Yl K φ' H' J r.1->R J H'
structure II (K:qae) (X:Cx) (tg iter:Expr) (f:Lf):Prop where
 run:∀ env st r,f env st=some r->PI X tg iter (tII K env st r)
theorem PI.imp {tg iter:Expr}{t t':TI} (h:PI X tg iter t) (m:∀ A H R,t' A H R->t A H R):PI X tg iter t':=λB s A H R I q=>h B s A H R I (m A H R q)
variable {tg:Expr}
end
section
variable {K:qae}{X:Cx}{pos:Pos}{tg e a b:Expr}{f:Ef}{af:Af}
theorem mN (h:IE K X e f) (hK:X.K=K:=by rfl):II K X tg e (aA f):=by
 subst hK;refine⟨λenv st r B=>?_⟩;simp only[aA,qab]at B;obtain⟨⟨w,s1⟩,hy,B⟩:=B;dsimp only at B;split at B
 ·rename_i ds
  cases B;refine (DE (h.run _ _ _ hy)).imp ?_
  rintro G H R ⟨φ,W,N,q⟩
  refine⟨φ,W,N,λv H1 E f1 s1 w1=>?_⟩;obtain⟨a,P,rfl,hq,B⟩:=w1;refine⟨a,U,⟨P,(SqT.of hq)⟩,q _ H1 E f1 s1 λH2 u O i f2 s2=>?_⟩;have hq2:=(SqT.of hq).fw s1 f2;have hr2:=B.fw s1 f2;refine⟨λd hd=>?_,λhi=>⟨P,hq2,by rw[<-hr2.length];exact qdf hi⟩⟩;obtain⟨v,ev,rv⟩:=hr2.get hd;refine⟨⟨P,v,hq2,ev⟩,λx H' y=>?_⟩;obtain⟨rfl,y⟩:=y
  have:=y P hq2
  rw[ev]at this;cases this;exact⟨aN.refl _,rv⟩
 ·rename_i ds
  cases B;refine (wm (h.run _ _ _ hy)).imp ?_
  rintro G H R ⟨φ,W,N,q⟩
  refine⟨φ,W,N,λv H1 E f1 s1 w1=>?_⟩;obtain⟨a,P,rfl,h0,hq,B⟩:=w1;refine⟨a,U,⟨P,.inl hq⟩,q _ H1 E f1 s1 λH2 u O i f2 s2=>?_⟩;have hq2:SqL X.K H2 a P:=.inl (hq.fw f2 h0);have hr2:=B.fw s1 f2;refine⟨λd hd=>?_,λhi=>⟨P,hq2,by rw[<-hr2.length];exact qdf hi⟩⟩;obtain⟨v,ev,rv⟩:=hr2.get hd;refine⟨⟨P,v,hq2,ev⟩,λx H' y=>?_⟩;obtain⟨rfl,y⟩:=y
  have:=y P hq2
  rw[ev]at this;cases this;exact⟨aN.refl _,rv⟩
 all_goals cases B
theorem tQ (lo:Int) (n i:Nat):(cU lo n)[i]?=if i<n then some (.int (lo+i)) else none:=by
 unfold cU;rw[qav];by_cases h:i<n
 ·rw[qa6 h,iFP h];rfl
 ·rw[qaE (by simpa using h),iFN h];rfl
theorem gF (lo:Int) (n:Nat):(cU lo n).length=n:=by unfold cU;rw[qaf,qas]
theorem Eg (lo:Int) (n:Nat) {φ:List Addr}{H:Hp}:Yl K φ H (Itr lo n) (cU lo n):=by
 intro H2 u O i f2 s2;refine⟨λd hd=>?_,λhi=>by rw[gF]at hi;exact qdf hi⟩;rw[tQ]at hd;by_cases h:i<n
 ·rw[iFP h]at hd
  cases hd;refine⟨h,λx H' y=>?_⟩;obtain⟨rfl,rfl⟩:=y;exact⟨aN.refl _,U⟩
 ·rw[iFN h]at hd;cases hd
theorem lD {p:Pos} (hg:Gl X "range") (hm:X.mg "range" = none) (ha:IA K X [a] af) (hs:au a=true:=by rfl):II K X tg (.Call (.Name "range" p) [a] [] pos) (ca af):=by
 refine⟨λenv st r B=>?_⟩;simp only[ca,qab]at B;obtain⟨⟨ws,s1⟩,hy,B⟩:=B;dsimp only at B;split at B
 case h_2=>cases B
 rename_i j;have L:(if -(2^62)<=j/\j<2^62 then some (cU 0 j.toNat,s1) else none)=some r:=B;by_cases hj:-(2^62)<=j/\j<2^62
 ·rw[iFP hj]at L
  cases L;refine (xJ hg hm (ha.run _ _ _ hy) (gI hs)).imp ?_
  rintro G H R ⟨φ,W,N,q⟩
  refine⟨φ,W,N,λP H1 E f1 s1 w1=>?_⟩;obtain⟨v,r,rfl,r1,rfl⟩:=w1;exact⟨j,by rw[show v=.int j from r1],hj.1,hj.2,q _ H1 E f1 s1 (Eg 0 _)⟩
 ·rw[iFN hj]at L;cases L
theorem dh:∀ (ds:List D) (k i:Nat),(bF k ds)[i]?=(ds[i]?).map λd=>D.tup [.int ((k+i:Nat):Int),d]
 |[],k,i=>by simp[bF]
 |d::ds,k,0=>by simp[bF]
 |d::ds,k,i+1=>by
  have:=dh ds (k+1) i
  rw[show k+1+i=k+(i+1) by lia]at this;simpa [bF] using this
theorem j0:∀ (ds:List D) (k:Nat),(bF k ds).length=ds.length
 |[],_=>rfl
 |d::ds,k=>by rw[bF,qaq,qaq,j0 ds]
theorem wN {S:Hp->List V->Prop}{ds:List D}{P:List V}{φ:List Addr}{H:Hp} (N:∀ H' Y,Fw φ Y H H'->S H' P) (B:∀ H' Y,Fw φ Y H H'->Rls K H' Y ds P):Yl K φ H (Ite S) (bF 0 ds):=by
 intro H2 u O i f2 s2;have q2:=N H2 u f2;have r2:=B H2 u f2;refine⟨λd hd=>?_,λhi=>⟨P,q2,by rw[<-r2.length,<-j0 ds 0];exact hi⟩⟩;rw[dh,qad]at hd;obtain⟨d',hd',rfl⟩:=hd;obtain⟨v,ev,rv⟩:=r2.get hd';refine⟨⟨P,v,q2,ev⟩,λx H' y=>?_⟩;obtain⟨T,v',y1,hT,rfl,rfl⟩:=y
 have:=y1 P q2
 rw[ev]at this;cases this;refine⟨aN.new hT _,T,_,U,upd_same,_,_,U,?_,_,_,U,rv.fw s2 (Fw.new hT),U⟩;show V.int _=V.int _;rw[qbh]
theorem lC {elts:List Expr}{k:Nat}{tpos p:Pos} (hg:Gl X "enumerate") (hm:X.mg "enumerate" = none) (ha:IA K X [a] af) (hs:au a=true:=by rfl) (hK:X.K=K:=by rfl) :
  II K X (.Tuple elts k tpos) (.Call (.Name "enumerate" p) [a] [] pos) (bK af):=by
 subst hK;refine⟨λenv st r B=>?_⟩;simp only[bK,qab]at B;obtain⟨⟨ws,s1⟩,hy,B⟩:=B;dsimp only at B;split at B
 ·rename_i ds
  cases B;refine (zk hg hm (ha.run _ _ _ hy) (gI hs)).imp ?_
  rintro G H R ⟨φ,W,N,q⟩
  refine⟨φ,W,N,λP H1 E f1 s1 w1=>?_⟩;obtain⟨v,r,rfl,⟨a,us,rfl,hq,B⟩,rfl⟩:=w1;exact⟨a,U,⟨us,(SqT.of hq)⟩,q _ H1 E f1 s1 (wN (λH' Y f=>(SqT.of hq).fw s1 f) λH' Y f=>B.fw s1 f)⟩
 ·rename_i ds
  cases B;refine (zj hg hm (ha.run _ _ _ hy) (gI hs)).imp ?_
  rintro G H R ⟨φ,W,N,q⟩
  refine⟨φ,W,N,λP H1 E f1 s1 w1=>?_⟩;obtain⟨v,r,rfl,⟨a,us,rfl,h0,hq,B⟩,rfl⟩:=w1;exact⟨a,U,⟨us,.inl hq⟩,q _ H1 E f1 s1 (wN (λH' Y f=>.inl (hq.fw f h0)) λH' Y f=>B.fw s1 f)⟩
 all_goals cases B
theorem mV {iter:Expr}{body:List Stmt}{fi:Lf}{g:Tg}{gb:Sf} (hi:II K X tg iter fi) (hg:PG X tg (tG K g)) (hb:ISs K X body gb) (hp:qgw (model X.prog X.w) X.A X.env X.xe) (hc:X.calm=true:=by rfl)
  (hs:∀ x,qbL iter X.env x=pure x:=by intro _;rfl):IS K X (.For tg iter body [] pos) (cV fi g gb):=by
 refine⟨λenv st r B=>?_⟩;simp only[cV,qab]at B;obtain⟨⟨ds,s1⟩,hy,B⟩:=B;refine (zw hp hc (hi.run _ _ _ hy) hg hb.any hs).imp ?_
 rintro D G H ⟨φ,W,N,q⟩
 refine⟨φ,W,N,λJ H1 E f1 S1 yl=>?_⟩;refine⟨λi m G H=>m=ds.length - i/\i<=ds.length/\∃ env st u,Fw E u H1 H/\Er K H u env G/\Sr K H u st/\b4 g gb (ds.drop i) env st=some r,⟨ds.length,by simp,qbA _,env,s1,E,Fw.refl _ _,W.fw N f1,S1,B⟩,?_⟩
 rintro i m G H2 ⟨rfl,hi,env2,O,u,f2,e2,S2,h2⟩
 obtain⟨y1,y2⟩:=yl H2 u O i f2 S2;by_cases hlt:i<ds.length
 ·obtain⟨go,yld⟩:=y1 ds[i] (qal hlt)
  rw[qck hlt]at h2;simp only[b4,qab]at h2;obtain⟨e3,he3,r3,hr3,h3⟩:=h2;refine .inr ⟨go,λσ' H'=>i+1<=ds.length/\∃ env st u,Fw E u H1 H'/\Er K H' u env σ'/\Sr K H' u st/\b4 g gb _ env st=some r,λσ' H' ⟨hn,p'⟩=>⟨_,by lia,U,hn,p'⟩,λx H' y=>?_⟩;obtain⟨sm,rx⟩:=yld x H' y;have S3:=S2.same sm;have f3:=f2.trans (Fw.same sm);refine⟨u,O,env2,.d ds[i],e3,e2.fw S2 (Fw.same sm),S3,rx,he3,λσ' e' _=>?_⟩;refine⟨e3,O,r3,hr3,u,e',S3,?_⟩;cases r3 with
  |nx e4 s4=>exact λσ4 H4 F f4 e4' M=>⟨hlt,e4,s4,F,f3.trans f4,e4',M,h3⟩
  |ct e4 s4=>exact λσ4 H4 F f4 e4' M=>⟨hlt,e4,s4,F,f3.trans f4,e4',M,h3⟩
  |bk e4 s4=>
   cases h3;exact λσ4 H4 F f4 e4' M=>q σ4 H4 F (f1.trans (f3.trans f4)) e4' M
  |rt w s4=>
   cases h3;exact λv H4 F f4 M w4=>q v H4 F (f1.trans (f3.trans f4)) M w4
 ·have hi':i=ds.length:=by lia
  subst hi';rw[qfs]at h2;cases h2;exact .inl ⟨y2 U,q G H2 u (f1.trans f2) e2 S2⟩
def pP (n:Nat) (c:Tf) (b:Sf):Sf
 |env,st=>bz c b n env st
theorem jx {c:Expr}{body:List Stmt}{tc:Tf}{gb:Sf} (n:Nat) (hc:IT K X c tc) (hb:ISs K X body gb) (hp:qgw (model X.prog X.w) X.A X.env X.xe):IS K X (.While c body [] pos) (pP n tc gb):=by
 refine⟨λenv st r B=>?_⟩;refine (zx hp hc.any hb.any).imp ?_
 rintro D G H ⟨φ,W,N,q⟩
 refine⟨λm G H'=>∃ env st u,Fw φ u H H'/\Er K H' u env G/\Sr K H' u st/\bz tc gb m env st=some r,⟨n,env,st,φ,Fw.refl _ _,W,N,B⟩,?_⟩
 rintro m G H2 ⟨env2,O,u,f2,e2,S2,h2⟩
 cases m with
 |zero=>cases h2
 |succ m=>
  simp only[bz,qab]at h2;obtain⟨⟨k,s3⟩,hk,h2⟩:=h2;refine⟨env2,O,_,hk,u,e2,S2,λH3 φ3 f3 S3=>?_⟩;cases k with
  |false=>
   cases h2;exact C4 (q G H3 φ3 (f2.trans f3) (e2.fw S2 f3) S3)
  |true=>
   simp only[if_true,qab]at h2;obtain⟨r3,hr3,h3⟩:=h2;refine C5 ⟨_,λσ' H' p'=>⟨m,qbY _,p'⟩,?_⟩;refine⟨env2,s3,r3,hr3,φ3,e2.fw S2 f3,S3,?_⟩;have f3':=f2.trans f3;cases r3 with
   |nx e4 s4=>exact λσ4 H4 F f4 e4' M=>⟨e4,s4,F,f3'.trans f4,e4',M,h3⟩
   |ct e4 s4=>exact λσ4 H4 F f4 e4' M=>⟨e4,s4,F,f3'.trans f4,e4',M,h3⟩
   |bk e4 s4=>
    cases h3;exact λσ4 H4 F f4 e4' M=>q σ4 H4 F (f3'.trans f4) e4' M
   |rt w s4=>
    cases h3;exact λv H4 F f4 M w4=>q v H4 F (f3'.trans f4) M w4
structure ITs (K:qae) (X:Cx) (ifs:List Expr) (t:Tf):Prop where
 run:PTs X ifs (z5 K t)
theorem gY:ITs K X [] aP:=by
 refine⟨λpins s G H Q I ⟨env,st,r,e,φ,W,N,q⟩=>?_⟩;cases e;exact Bu pins s G H Q I (q H φ (Fw.refl φ H) N)
theorem lR {c:Expr}{t:Tf} (h:IT K X c t):ITs K X [c] t:=⟨Bv h.any⟩
theorem Er.emb {H:Hp}{φ:List Addr}{env:Ev}{G:St} (h:Er K H φ env G) (k:Nat) (js:List Nat):Er K H φ (uo k js env) (eM k js G):=by
 refine⟨by unfold uo eM;simp,λi w e=>?_⟩;unfold uo at e;unfold eM;by_cases hi:i<k
 ·rw[qaB (by simpa using hi),qcC,iFP hi]at e
  cases e
 ·rw[qaJ (by simpa using hi),qb3,qav,qad]at e
  obtain⟨j,ej,e⟩:=e;have ej2:env[j]?=some (some w):=by
   rw[qfO]at e;cases q:env[j]? with
   |none=>rw[q]at e;cases e
   |some o=>rw[q]at e;rw[show o=some w from e]
  obtain⟨v,ev,rv⟩:=h.at_ j w ej2;refine⟨v,?_,rv⟩;rw[qaJ (by simpa using hi),qb3,qav,ej];show some ((G[j]?).getD none)=_;rw[ev];rfl
theorem Sub.stay {k:Nat}{js is:List Nat}{G σ':St} (h:Al is (eM k js G) σ') (hi:∀ j∈is,j<k):Sub (eM k js G) σ':=by
 refine⟨h.1.symm,λj v e=>?_⟩;by_cases hj:j∈is
 ·have:=hi j hj
  unfold eM at e;rw[qaB (by simpa using this),qcC,iFP this]at e;cases e
 ·rw[h.2 j hj];exact e
theorem uF {k:Nat}{js:List Nat}{g:Tg}{tt:Tf}{te:Ef}{env:Ev}{st s1:Sto}{ds:List D}{r:List D×Sto} (hgi:∀ j∈sE g,j<k) (hdl:ds.length<=1000000) (L:lcI g tt te (uo k js env) ds s1=some r) :
  ∀ G H Q,tIL K env st r G H Q->tLc (eM k js) (tII K env st (ds,s1)) (tG K g) (z5 K tt) (Cv K te) G H Q:=by
 rintro G H Q ⟨φ,W,N,q⟩
 refine⟨φ,W,N,λJ H1 E f1 S1 yl=>?_⟩;refine⟨λi m ys H2=>m=ds.length - i/\i<=ds.length/\∃ st u es r2,Fw E u H1 H2/\Sr K H2 u st/\Rls K H2 u es ys/\es.length<=i/\lcI g tt te _ (ds.drop i) st=some r2/\r=(es++r2.1,r2.2),⟨ds.length,by simp,qbA _,s1,E,[],r,Fw.refl _ _,S1,U,qao _,L,U⟩,?_⟩
 rintro i m ys H2 ⟨rfl,hi,O,u,es,r2,f2,S2,rl2,hle,h2,rfl⟩
 obtain⟨y1,y2⟩:=yl H2 u O i f2 S2;by_cases hlt:i<ds.length
 ·obtain⟨go,yld⟩:=y1 ds[i] (qal hlt)
  rw[qck hlt]at h2;simp only[lcI,qab]at h2;obtain⟨e3,he3,⟨kb,s3⟩,hb3,h3⟩:=h2;have hz:ys.length<qaG:=by
   rw[<-rl2.length]
   have:=qcJ
   lia
  refine .inr ⟨go,hz,λys' H'=>i+1<=ds.length/\∃ st u es' r2',Fw E u H1 H'/\Sr K H' u st/\Rls K H' u es' ys'/\es'.length<=i+1/\lcI g tt te _ _ st=some r2'/\(es++r2.1,r2.2)=(es'++r2'.1,r2'.2),λys' H' ⟨hn,p'⟩=>⟨_,by lia,U,hn,p'⟩,λx H' y=>?_⟩;obtain⟨sm,rx⟩:=yld x H' y;have S3:=S2.same sm;have f3:=f2.trans (Fw.same sm);refine⟨u,O,_,.d ds[i],e3,((W.fw N f1).emb k js).fw S1 f3,S3,rx,he3,λσ' e' stay=>⟨Sub.stay stay hgi,?_⟩⟩;refine⟨e3,O,_,hb3,u,e',S3,λH4 F f4 S4=>?_⟩;cases kb with
  |false=>
   exact C4 ⟨hlt,s3,F,es,r2,f3.trans f4,S4,(rl2.fw S2 (Fw.same sm)).fw S3 f4,by lia,h3,U⟩
  |true=>
   simp only[if_true,qab,qad]at h3;obtain⟨x5,hx5,zs,hzs,r5,hr5,rfl⟩:=h3;refine C5 ⟨e3,s3,x5,hx5,F,e'.fw S3 f4,S4,λv H5 φ5 f5 S5 w5=>?_⟩;obtain⟨x5,s5⟩:=x5;cases x5 with
   |h n=>cases hzs
   |d z=>
    cases hzs;refine⟨hlt,s5,φ5,es++[z],r5,(f3.trans f4).trans f5,S5,(((rl2.fw S2 (Fw.same sm)).fw S3 f4).fw S4 f5).append ⟨v,_,U,w5,U⟩,by simp;lia,hr5,?_⟩
    simp
 ·have hi':i=ds.length:=by lia
  subst hi';rw[qfs]at h2;cases h2;refine .inl ⟨y2 U,λDn hD=>?_⟩
  have:=q Dn ys H2 u (f1.trans f2) S2 hD
  exact this (by simpa using rl2)
theorem yE {A:Scope}{Nc:List Str}{k:Nat}{js:List Nat}{elt iter:Expr}{ifs:List Expr}{fi:Lf}{g:Tg}{tt:Tf}{te:Ef}
  (S:c8 X A Nc (eM k js)) (hc:X.calm=true) (hgi:∀ j∈sE g,j<k) (hi:II K X tg iter fi)
  (hg:∀ l s H C fp,PG (lcX X A l Nc s H C fp) tg (tG K g)) (ht:∀ l s H C fp,ITs K (lcX X A l Nc s H C fp) ifs tt) (he:∀ l s H C fp,IE K (lcX X A l Nc s H C fp) elt te)
  (hs:∀ x,qbL iter X.env x=pure x:=by intro _;rfl):IL K X (.ListComp elt [⟨tg,iter,ifs,0⟩] A pos) (iLc k js fi g tt te):=by
 refine⟨λenv st r B=>?_⟩;simp only[iLc,qab]at B;obtain⟨⟨ds,s1⟩,hy,B⟩:=B;have L:=B;by_cases hdn:¬ ds.length<=1000000
 ·rw[iFN hdn]at L;cases L
 have hdl:ds.length<=1000000:=by lia
 rw[iFP hdl]at L;refine (Ff S hc (hi.run _ _ _ hy) hg (λl s H C fp=>(ht l s H C fp).run) (λl s H C fp=>(he l s H C fp).any) hs).imp (uF hgi hdl L)
theorem EO {A:Scope}{Nc:List Str}{k:Nat}{js:List Nat}{elt iter:Expr}{ifs:List Expr}{fi:Lf}{g:Tg}{tt:Tf}{te:Ef}{i0:Nat}{x0:Str}{py spos:Pos}
  (hN0:X.N.Nodup) (hi0:X.N[i0]?=some x0) (hx0:Loc X.env.scope x0) (S:c8 X A Nc (eM k js)) (hc:X.calm=true) (hgi:∀ j∈sE g,j<k) (hi:II K X tg iter fi)
  (hg:∀ l s H C fp,PG (lcX X A l Nc s H C fp) tg (tG K g)) (ht:∀ l s H C fp,ITs K (lcX X A l Nc s H C fp) ifs tt) (he:∀ l s H C fp,IE K (lcX X A l Nc s H C fp) elt te)
  (hsw:qcr (.ListComp elt [⟨tg,iter,ifs,0⟩] A pos) (some (.Name x0 py)) spos.line X.env=pure true:=by rfl)
  (hf0:X.fn x0=true\/X.env.scope.names.lookup x0=some .local:=by first|exact .inl U|exact .inr U|assumption)
  (hs:∀ x,qbL iter X.env x=pure x:=by intro _;rfl):IS K X (.Assign [.Name x0 py] (.ListComp elt [⟨tg,iter,ifs,0⟩] A pos) spos) (aD (.nm i0) (av (iLc k js fi g tt te)))/\
   IS K X (.Assign [.Name x0 py] (.ListComp elt [⟨tg,iter,ifs,0⟩] A pos) spos) (aD (.nm i0) (bV (iLc k js fi g tt te))):=by
 have key:∀ env st r0 r,iLc k js fi g tt te env st=some r->(∀ G φ H (D:n4),Er K H φ env G->Sr K H φ st->x4 K φ H D r0->∀ a P H1 Y,Fw φ Y H H1->Sr K H1 Y r.2->H1 a=none->Rls K H1 Y r.1 P->D.nx (G.set i0 (some (.ref a))) (upd H1 a (.lst P)))->
   PS X (.Assign [.Name x0 py] (.ListComp elt [⟨tg,iter,ifs,0⟩] A pos) spos) (tS K env st r0):=by
  intro env st r0 r B h;simp only[iLc,qab]at B;obtain⟨⟨ds,s1⟩,hy,B⟩:=B;have L:=B;by_cases hdn:¬ ds.length<=1000000
  ·rw[iFN hdn]at L;cases L
  have hdl:ds.length<=1000000:=by lia
  rw[iFP hdl]at L;refine (Cj hN0 hi0 hx0 S hc (hi.run _ _ _ hy) hg (λl s H C fp=>(ht l s H C fp).run) (λl s H C fp=>(he l s H C fp).any) hsw hf0 hs).imp ?_
  rintro D G H ⟨φ,W,N,q⟩
  exact uF hgi hdl L G H _ ⟨φ,W,N,h G φ H D W N q⟩
 constructor
 ·refine⟨λenv st r B=>?_⟩
  simp only[aD,av,cw,qab,qad]at B;obtain⟨y,⟨r2,hy,rfl⟩,e',ee,rfl⟩:=B;cases ee;refine key _ _ _ _ hy λG φ H D W N q a P H1 E f1 s1 n1 w1=>?_;exact q _ _ E (f1.trans (Fw.new n1)) ((((W.fw N f1).fw s1 (Fw.new n1))).set i0 ⟨a,P,U,s1.nin n1,.inl upd_same,w1.fw s1 (Fw.new n1)⟩) (s1.new n1)
 ·refine⟨λenv st r B=>?_⟩
  simp only[aD,bV,cw,qab,qad]at B;obtain⟨y,⟨r2,hy,rfl⟩,e',ee,rfl⟩:=B;cases ee;refine key _ _ _ _ hy λG φ H D W N q a P H1 E f1 s1 n1 w1=>?_;exact q _ _ _ (f1.trans (Fw.more n1)) (((W.fw N f1).fw s1 (Fw.more n1)).set i0 ⟨a,by rw[<-s1.len];simp,U⟩) (s1.more n1 w1)
end
def br (n k:Nat) (b:Sf):Fn
 |ws,st=>if ws.length=k then (b (ws.map some++qaD (n - k) none) st).bind λr=>match r with
 |.nx _ s=>some (.d .non,s)
 |.rt w s=>some (w,s)
 |_=>none
 else none
def xg (n:Nat) (w:W) (s:Sto):Option (W×Sto):=match w with
 |.d x=>some (.d x,s.take n)
 |.h m=>if m<n then some (.h m,s.take n) else (lg s m).map λds=>(.d (.lst ds),s.take n)
def dE (n k:Nat) (b:Sf):Fn
 |ws,st=>if ws.length=k then (b (ws.map some++qaD (n - k) none) st).bind λr=>match r with
 |.nx _ s=>some (.d .non,s.take st.length)
 |.rt w s=>xg st.length w s
 |_=>none
 else none
section
variable {P:qaO}{w:World}{K:qae}{mg:Str->Option Value}{base:Heap}
theorem mG {H:Hp}{φ:List Addr}{N:List Str}{k:Nat}:∀ {ws:List W}{o:List V},Rws K H φ ws o->ws.length=k->Er K H φ (ws.map some++qaD (N.length - k) none) (gJ N o):=by
 intro ws o r T;have n:=r.length;refine⟨by unfold gJ;simp;lia,λi x e=>?_⟩;unfold gJ;by_cases hi:i<ws.length
 ·rw[qaB (by simpa using hi),qav,qad]at e
  obtain⟨y,u,e⟩:=e
  have:∃ v,o[i]?=some v/\Rw K H φ y v:=by
   clear T n hi e
   induction ws generalizing o i with
   |nil=>simp at u
   |cons w ws R=>
    obtain⟨v,r',rfl,r1,M⟩:=r;cases i with
    |zero=>simp at u;subst u;exact⟨v,U,r1⟩
    |succ i=>simpa using R M i (by simpa using u)
  obtain⟨v,Y,rv⟩:=this;cases e;refine⟨v,?_,rv⟩;rw[qaB (by rw[qaf,<-n];exact hi),qav,Y];rfl
 ·rw[qaJ (by simpa using hi)]at e
  have:=qbj e
  have:=(List.mem_replicate.mp this).2
  cases this
theorem F7 {x g:Str}{st:Stmt}{f:Addr}{fd:qb0}{N ps:List Str}{k:Nat}{b:Sf} (F:Fun K x g st f fd) (S:b6 N ps (ak st))
  (hb:∀ (j:Value) (A:qa0) (outer:List Env) (s:qak) (H:Hp) (E:XK),bh k (A.deeper (qen g (ak st) s.heap.objs.size f j))->ISs K (eJ CX0 P w K mg base N g (ak st) f j A outer s H E).nox (aX st) b) :
  cZ P w K mg base CX0 (k+1) f fd ps (spI K (br N.length ps.length b)):=by
 refine F.ok S (λo H Q E h=>?_) λj A outer s H o Q E G h=>?_
 ·obtain⟨φ,st,ws,r,e,rw,_⟩:=h
  rw[br]at e;by_cases n:ws.length=ps.length
  ·rw[<-rw.length,n]
  ·rw[iFN n]at e;cases e
 ·obtain⟨φ,p,ws,r,e,rw,S',q⟩:=h
  rw[br]at e;by_cases n:ws.length=ps.length
  ·rw[iFP n]at e
   obtain⟨fl,e1,e2⟩:=qab.mp e;refine⟨_,(hb j A outer s H E G).run _ _ _ e1,φ,mG rw n,S',?_⟩;cases fl with
   |nx e s=>cases e2;exact λJ H' c l e' s'=>q .non H' c l s' U
   |rt w s=>cases e2;exact λv H' c l s' C=>q v H' c l s' C
   |bk e s=>cases e2
   |ct e s=>cases e2
  ·rw[iFN n]at e;cases e
theorem Fw.less {φ c:List Addr}{H H':Hp} (f:Fw φ c H H'):Fw φ φ H H':=⟨⟨[],by simp,by simp⟩,f.keep,f.there⟩
theorem EF {x g:Str}{st:Stmt}{f:Addr}{fd:qb0}{N ps:List Str}{k:Nat}{b:Sf} (F:Fun K x g st f fd) (S:b6 N ps (ak st))
  (hb:∀ (j:Value) (A:qa0) (outer:List Env) (s:qak) (H:Hp) (E:XK),bh k (A.deeper (qen g (ak st) s.heap.objs.size f j))->ISs K (eJ CX0 P w K mg base N g (ak st) f j A outer s H E).nox (aX st) b) :
  cZ P w K mg base CX0 (k+1) f fd ps (spI K (dE N.length ps.length b)):=by
 refine F.ok S (λo H Q E h=>?_) λj A outer s H o Q E G h=>?_
 ·obtain⟨φ,st,ws,r,e,rw,_⟩:=h
  rw[dE]at e;by_cases n:ws.length=ps.length
  ·rw[<-rw.length,n]
  ·rw[iFN n]at e;cases e
 ·obtain⟨φ,p,ws,r,e,rw,S',q⟩:=h
  rw[dE]at e;by_cases n:ws.length=ps.length
  ·rw[iFP n]at e
   obtain⟨fl,e1,e2⟩:=qab.mp e;refine⟨_,(hb j A outer s H E G).run _ _ _ e1,φ,mG rw n,S',?_⟩;have less:∀ {H':Hp}{c:List Addr}{s':Sto},Fw φ c H H'->Sr K H' c s'->Sr K H' φ (s'.take p.length):=λ{H' c s'} l S2=>by
    obtain⟨ψ,rfl,_⟩:=l.ext;rw[<-S'.len];exact S2.less
   cases fl with
   |nx e s=>cases e2;exact λJ H' c l e' s'=>q .non H' φ l.less (less l s') U
   |rt w s=>
    intro v H' c l s' C;have e3:xg p.length w s=some r:=e2;obtain⟨ψ,t,_⟩:=l.ext;cases w with
    |d x=>
     cases e3;subst t;exact q v H' φ l.less (less l s') (Rl.less C)
    |h m=>
     obtain⟨a,B,rfl⟩:=C;unfold xg at e3;by_cases hm:m<p.length
     ·have e4:=by
       have:=e3
       simp only[hm,if_true]at this;exact this
      cases e4;subst t;rw[qaB (by rw[S'.len];exact hm)]at B;exact q _ H' φ l.less (less l s') ⟨a,B,U⟩
     ·simp only[hm,if_false]at e3
      obtain⟨ds,D,rfl⟩:=qad.mp e3;obtain⟨o,O,rl⟩:=s'.atl m a ds B D;have hn:a∉φ:=λz=>by
       obtain⟨i,hi,X⟩:=qcu.mp z;have h1:c[i]?=some a:=by subst t;rw[qaB hi,qal hi,X]
       obtain⟨h2,L⟩:=qap.mp h1;obtain⟨h3,I⟩:=qap.mp B
       have:=(qdB s'.nd).mp (L.trans I.symm)
       rw[S'.len]at hi;lia
      subst t;exact q _ H' φ l.less (less l s') ⟨a,o,U,hn,.inl O,rl.less⟩
   |bk e s=>cases e2
   |ct e s=>cases e2
  ·rw[iFN n]at e;cases e
end
def bG:D->Bool
 |.non=>true
 |.bl _=>true
 |.int _=>true
 |.str _=>true
 |_=>false
def vOf:D->V
 |.bl b=>.bl b
 |.int i=>.int i
 |.str x=>.str x
 |_=>.non
mutual
def eqD:D->D->Bool
 |.non,.non=>true
 |.bl a,.bl b=>a==b
 |.bl a,.int b=>(if a then 1 else 0)==b
 |.int a,.bl b=>a==(if b then 1 else 0)
 |.int a,.int b=>a==b
 |.str a,.str b=>a==b
 |.tup as,.tup bs=>io as bs
 |.lst as,.lst bs=>io as bs
 |_,_=>false
def io:List D->List D->Bool
 |[],[]=>true
 |a::as,b::bs=>eqD a b&&io as bs
 |_,_=>false
end
def okD:Nat->D->Bool
 |_,.non=>true
 |_,.bl _=>true
 |_,.int _=>true
 |_,.str _=>true
 |n+1,.tup ds=>ds.all (okD n)
 |n+1,.lst ds=>ds.all (okD n)
 |_,_=>false
def lsD (st:Sto):W->Option (List D)
 |.d (.lst ds)=>some ds
 |.h n=>lg st n
 |_=>none
def aV (st:Sto) (x y:W):Option D:=match x,y with
 |.d (.int i),.d (.int j)=>some (.int (i+j))
 |.d (.tup a),.d (.tup b)=>if a.length+b.length<=1000000 then some (.tup (a++b)) else none
 |.d (.str a),.d (.str b)=>if a.length+b.length<=1000000 then some (.str (a++b)) else none
 |x,y=>(lsD st x).bind λa=>(lsD st y).bind λb=>if a.length+b.length<=1000000 then some (.lst (a++b)) else none
def jY (_:Sto):W->W->Option D
 |.d (.int i),.d (.int j)=>some (.int (i - j))
 |_,_=>none
instance (a b:Int):Decidable (qhj a b):=by unfold qhj;infer_instance
def aU (_:Sto):W->W->Option D
 |.d (.int i),.d (.int j)=>if qhj i j then some (.int (i*j)) else none
 |.d (.tup a),.d (.int k)=>if a≠[]/\a.length<=1000/\0<=k/\k<1000 then some (.tup (qaD k.toNat a).flatten) else none
 |.d (.lst a),.d (.int k)=>if a.length<=1000/\-1000<=k/\k<1000 then some (.lst (qaD k.toNat a).flatten) else none
 |_,_=>none
def iy (_:Sto):W->W->Option D
 |.d (.int i),.d (.int j)=>if 0<j/\j<1073741824 then some (.int (i / j)) else none
 |_,_=>none
def f9 (_:Sto):W->W->Option D
 |.d (.int i),.d (.int j)=>if 0<j then some (.int (i%j)) else none
 |_,_=>none
instance (i j:Int):Decidable (uc i j):=by unfold uc;infer_instance
def Ay (_:Sto):W->W->Option D
 |.d (.int i),.d (.int j)=>if uc i j then some (.int (i^j.toNat)) else none
 |_,_=>none
def Az (_:Sto):W->W->Option D
 |.d (.int i),.d (.int j)=>if uc i j then some (.int (i*2^j.toNat)) else none
 |_,_=>none
def AA (_:Sto):W->W->Option D
 |.d (.int i),.d (.int j)=>if 0<=j then some (.int (i / 2^j.toNat)) else none
 |_,_=>none
def dLt (_:Sto):W->W->Option D
 |.d (.int i),.d (.int j)=>some (.bl (decide (i<j)))
 |_,_=>none
def dLe (_:Sto):W->W->Option D
 |.d (.int i),.d (.int j)=>some (.bl (decide (i<=j)))
 |_,_=>none
def dGt (_:Sto):W->W->Option D
 |.d (.int i),.d (.int j)=>some (.bl (decide (j<i)))
 |_,_=>none
def dGe (_:Sto):W->W->Option D
 |.d (.int i),.d (.int j)=>some (.bl (decide (j<=i)))
 |_,_=>none
def dQ:D->Bool
 |.non=>true
 |_=>false
def jl (_:Sto):W->W->Option D
 |.d x,.d .non=>some (.bl (dQ x))
 |_,_=>none
def rW (_:Sto):W->W->Option D
 |.d x,.d .non=>some (.bl (!dQ x))
 |_,_=>none
def inD (x:D) (ds:List D):Bool:=ds.any λy=>eqD y x
def dIn (st:Sto) (x y:W):Option D:=match x with
 |.d x=>(fX st y).bind λds=>if bG x=true/\ds.all bG=true then some (.bl (inD x ds)) else none
 |_=>none
def pF (st:Sto) (x y:W):Option D:=match x with
 |.d x=>(fX st y).bind λds=>if bG x=true/\ds.all bG=true then some (.bl (!inD x ds)) else none
 |_=>none
section
variable {K:qae}{X:Cx}
theorem d6 {H:Hp}{φ:List Addr}{d:D}{v:V} (h:bG d=true) (r:Rl K H φ d v):v=vOf d/\dO v=true:=by
 cases d with
 |non=>cases (r);exact⟨U,U⟩
 |bl b=>cases (r);exact⟨U,U⟩
 |int b=>cases (r);exact⟨U,U⟩
 |str b=>cases (r);exact⟨U,U⟩
 |_=>cases h
theorem pN {a b:D} (C:bG a=true) (hb:bG b=true):eqV (vOf a) (vOf b)=eqD a b:=by
 cases a<;>cases b<;>first|rfl|(cases C;done)|(cases hb)|(done)
theorem nE {H:Hp}{φ:List Addr}:∀ {ds:List D}{m:List V},ds.all bG=true->Rls K H φ ds m->m=ds.map vOf/\m.all dO=true
 |[],_,_,h=>by cases h;exact⟨U,U⟩
 |d::ds,_,h,r=>by
  rw[qbu,qaX]at h;obtain⟨v,E,rfl,l,k⟩:=r;obtain⟨e1,e2⟩:=d6 h.1 l;obtain⟨e3,e4⟩:=nE h.2 k;exact⟨by rw[e1,e3];rfl,by rw[qbu,e2,e4];rfl⟩
theorem pZ {x:D} (hx:bG x=true):∀ {ds:List D},ds.all bG=true->inV (vOf x) (ds.map vOf)=inD x ds
 |[],_=>rfl
 |d::ds,h=>by
  rw[qbu,qaX]at h;have z:=pZ hx h.2;unfold inV inD at z ⊢;rw[qau,qcc,qcc,z,pN h.1 hx]
theorem Dk {f:Value->Value->Sem Value}{g:Sto->W->W->Option D} (h:∀ st x y d,g st x y=some d->∃ i j,x=.d (.int i)/\y=.d (.int j)/\OpR X f (λp o H Q=>p=.int i/\o=.int j/\Q (vOf d) H)/\bG d=true):OpD K X f g:=by
 refine⟨λst x y d hd=>?_⟩;obtain⟨i,j,rfl,rfl,A,B⟩:=h st x y d hd;refine A.imp ?_
 rintro p o H Q ⟨φ,S,l,k,q⟩
 refine⟨l,k,q _ H (aN.refl H) ?_⟩;cases d<;>first|rfl|cases B
theorem w2 {x y:W}{d:D}{F:Int->Int->Option D} (h:(match x,y with|.d (.int i),.d (.int j)=>F i j|_,_=>none)=some d):∃ i j,x=.d (.int i)/\y=.d (.int j)/\F i j=some d:=by
 split at h
 ·exact⟨_,_,U,U,h⟩
 ·cases h
theorem ifS {c:Prop} [Decidable c] {a d:D} (h:(if c then some a else none)=some d):c/\a=d:=by
 split at h
 ·rename_i q
  exact⟨q,qaL h⟩
 ·cases h
theorem fT {f:Value->Value->Sem Value}{g:Sto->W->W->Option D}{F:Int->Int->Option D} (e:∀ st x y,g st x y=match x,y with|.d (.int i),.d (.int j)=>F i j|_,_=>none) (h:∀ i j d,F i j=some d->OpR X f (λp o H Q=>p=.int i/\o=.int j/\Q (vOf d) H)/\bG d=true):OpD K X f g:=Dk λst x y d hd=>by
 rw[e]at hd;obtain⟨i,j,rfl,rfl,hd⟩:=w2 hd;exact⟨i,j,U,U,h i j d hd⟩
theorem qM:OpD K X (qbE .Sub) jY:=fT (λ_ _ _=>rfl) λi j d h=>by cases h;exact⟨Dw.imp λ_ _ _ _ q=>⟨i,j,q⟩,U⟩
theorem wf:OpD K X (qbV .Lt) dLt:=fT (λ_ _ _=>rfl) λi j d h=>by cases h;exact⟨Fb.imp λ_ _ _ _ q=>⟨i,j,q⟩,U⟩
theorem we:OpD K X (qbV .LtE) dLe:=fT (λ_ _ _=>rfl) λi j d h=>by cases h;exact⟨Fa.imp λ_ _ _ _ q=>⟨i,j,q⟩,U⟩
theorem wc:OpD K X (qbV .Gt) dGt:=fT (λ_ _ _=>rfl) λi j d h=>by cases h;exact⟨E9.imp λ_ _ _ _ q=>⟨i,j,q⟩,U⟩
theorem wb:OpD K X (qbV .GtE) dGe:=fT (λ_ _ _=>rfl) λi j d h=>by cases h;exact⟨E8.imp λ_ _ _ _ q=>⟨i,j,q⟩,U⟩
theorem lY:OpD K X (qbE .FloorDiv) iy:=fT (λ_ _ _=>rfl) λi j d h=>by obtain⟨c,rfl⟩:=ifS h;exact⟨Be.imp λ_ _ _ _ q=>⟨i,j,q.1,q.2.1,c,q.2.2⟩,U⟩
theorem qH:OpD K X (qbE .Mod) f9:=fT (λ_ _ _=>rfl) λi j d h=>by obtain⟨c,rfl⟩:=ifS h;exact⟨Ds.imp λ_ _ _ _ q=>⟨i,j,q.1,q.2.1,c,q.2.2⟩,U⟩
theorem qJ:OpD K X (qbE .Pow) Ay:=fT (λ_ _ _=>rfl) λi j d h=>by obtain⟨c,rfl⟩:=ifS h;exact⟨Dt.imp λ_ _ _ _ q=>⟨i,j,q.1,q.2.1,c,q.2.2⟩,U⟩
theorem qK:OpD K X (qbE .LShift) Az:=fT (λ_ _ _=>rfl) λi j d h=>by obtain⟨c,rfl⟩:=ifS h;exact⟨Du.imp λ_ _ _ _ q=>⟨i,j,q.1,q.2.1,c,q.2.2⟩,U⟩
theorem qL:OpD K X (qbE .RShift) AA:=fT (λ_ _ _=>rfl) λi j d h=>by obtain⟨c,rfl⟩:=ifS h;exact⟨Dv.imp λ_ _ _ _ q=>⟨i,j,q.1,q.2.1,c,q.2.2⟩,U⟩
theorem zN {H:Hp}{φ:List Addr}{d:D}{v:V} (r:Rl K H φ d v):decide (v=.non)=dQ d:=by
 cases d with
 |non=>cases (r);rfl
 |bl b=>cases (r);rfl
 |int b=>cases (r);rfl
 |str b=>cases (r);rfl
 |ty b=>cases (r);rfl
 |dct=>obtain⟨a,rfl,_⟩:=r;rfl
 |scr ns=>obtain⟨a,rfl,_⟩:=r;rfl
 |tup ds=>obtain⟨a,m,rfl,_⟩:=r;rfl
 |lst ds=>obtain⟨a,m,rfl,_⟩:=r;rfl
 |ob ns ds=>obtain⟨a,_,_,_,m,rfl,_⟩:=r;rfl
theorem qG:OpD K X (qbV .Is) jl:=by
 refine⟨λst x y d h=>?_⟩
 match x,y,h with
 |.d x,.d .non,h=>
  cases h;refine Dr.imp ?_
  rintro p o H Q ⟨φ,S,l,k,q⟩
  refine⟨k,q _ H (aN.refl H) ?_⟩;rw[zN l];rfl
theorem lZ:OpD K X (qbV .IsNot) rW:=by
 refine⟨λst x y d h=>?_⟩
 match x,y,h with
 |.d x,.d .non,h=>
  cases h;refine Bg.imp ?_
  rintro p o H Q ⟨φ,S,l,k,q⟩
  refine⟨k,q _ H (aN.refl H) ?_⟩;rw[zN l];rfl
theorem wd (t:X.K=K:=by rfl):OpD K X (qbV .In) dIn:=by
 subst t;refine⟨λst x y d h=>?_⟩
 match x,h with
 |.d x,h=>
  simp only[dIn,qab]at h;obtain⟨ds,w,h⟩:=h;split at h
  ·rename_i n
   cases h;refine xH.imp ?_
   rintro p o H Q ⟨φ,S,l,k,q⟩
   obtain⟨a,m,rfl,s,u⟩:=ig S k w;obtain⟨e1,e2⟩:=d6 n.1 l;obtain⟨e3,e4⟩:=nE n.2 u;refine⟨a,m,U,s,e2,e4,q _ H (aN.refl H) ?_⟩;rw[e1,e3,pZ n.1 n.2];rfl
  ·cases h
theorem jN (t:X.K=K:=by rfl):OpD K X (qbV .NotIn) pF:=by
 subst t;refine⟨λst x y d h=>?_⟩
 match x,h with
 |.d x,h=>
  simp only[pF,qab]at h;obtain⟨ds,w,h⟩:=h;split at h
  ·rename_i n
   cases h;refine qO.imp ?_
   rintro p o H Q ⟨φ,S,l,k,q⟩
   obtain⟨a,m,rfl,s,u⟩:=ig S k w;obtain⟨e1,e2⟩:=d6 n.1 l;obtain⟨e3,e4⟩:=nE n.2 u;refine⟨a,m,U,s,e2,e4,q _ H (aN.refl H) ?_⟩;rw[e1,e3,pZ n.1 n.2];rfl
  ·cases h
end
section
variable {K:qae}{X:Cx}
theorem Bb:OpR X (qbE .Add) (λx y H Q=>∃ l b xs zs,x=.ref l/\y=.ref b/\Rd H l (.lst xs)/\Rd H b (.lst zs)/\xs.length+zs.length<=qaG/\∀ p,H p=none->Q (.ref p) (upd H p (.lst (xs++zs)))):=by
 intro G s M H x y v u Q I rx ry h;obtain⟨l,b,xs,zs,rfl,rfl,hH,hB,hz,q⟩:=h;cases rx;cases ry;obtain⟨z,A,n,r,e⟩:=hH.ok I.hok;obtain⟨z2,N,n2,L,e2⟩:=hB.ok I.hok;have J:=r.length;have hl2:=L.length;refine PySem.P.add_list e e2 ?_ (by rw[qaC,qaC];lia);have ea:A.toArray++N.toArray=(A++N).toArray:=by simp
 rw[ea];exact⟨.ref _,_,I.lnew (r.append L) (by rw[qaw];lia),U,q _ I.fresh⟩
theorem y9:OpR X (qbE .Add) (λx y H Q=>∃ a b xs ys,x=.ref a/\y=.ref b/\SqT X.K H a xs/\SqT X.K H b ys/\xs.length+ys.length<=qaG/\
  (xs=[]->Q (.ref b) H)/\(ys=[]->Q (.ref a) H)/\∀ p,H p=none->Q (.ref p) (upd H p (.tup (xs++ys)))):=by
 intro G s M H x y v u Q I rx ry h;obtain⟨a,b,xs,ys,rfl,rfl,ha,hb,hz,q0,q1,q2⟩:=h;by_cases hx:xs=[]
 ·cases rx
  cases ry;obtain⟨A,O,p1,_⟩:=I.tuple ha;obtain⟨N,L,p2,_⟩:=I.tuple hb;obtain⟨⟨cls,dd,data,sl⟩,ho,hc,n,hd⟩:=id p1;obtain⟨⟨cls2,dd2,data2,sl2⟩,ho2,hc2,n2,hd2⟩:=id p2;subst hc hd hc2 hd2;exact qhA ⟨_,ho,U⟩ ⟨_,ho2,U⟩ qgd qg7 qd8 qd1 (qdP _ _)
   (tuple_addW0 a b A.toArray N.toArray n n2 dd dd2 sl sl2 (by simp[O.nil_iff.mpr hx])) ⟨ho,ho2,.ref b,H,I,U,q0 hx⟩
 ·exact Bc G s M H _ _ v u Q I rx ry ⟨a,b,xs,ys,U,U,ha,hb,hx,hz,q1,λ_ p E=>q2 p E⟩
theorem ni {st:Sto}{H:Hp}{φ:List Addr}{w:W}{v:V}{ds:List D} (S:Sr K H φ st) (r:Rw K H φ w v) (e:lsD st w=some ds):∃ a g,v=.ref a/\Rd H a (.lst g)/\Rls K H φ ds g:=by
 cases w with
 |h n=>
  obtain⟨a,ea,rfl⟩:=r;obtain⟨g,q,rl⟩:=S.atl n a ds ea e;exact⟨a,g,U,.inl q,rl⟩
 |d x=>
  cases x with
  |lst es=>cases e;obtain⟨a,g,rfl,h0,C,B⟩:=r;exact⟨a,g,U,C,B⟩
  |_=>cases e
theorem mil:(1000000:Nat)<=qaG:=by decide
theorem i6 (hK:X.K=K:=by rfl):OpD K X (qbE .Add) aV:=by
 subst hK;refine⟨λst x y d h=>?_⟩;have R:(lsD st x).bind (λa=>(lsD st y).bind λb=>if a.length+b.length<=1000000 then some (.lst (a++b)) else none)=some d->OpR X _ (rD X.K st x y d):=λh=>by
  simp only[qab]at h;obtain⟨as,ha,bs,hb,h⟩:=h;split at h
  ·rename_i J
   cases h;refine Bb.imp ?_
   rintro vx vy H Q ⟨φ,S,O,L,q⟩
   obtain⟨a,us,rfl,C,B⟩:=ni S O ha;obtain⟨b,g,rfl,h3,h4⟩:=ni S L hb;refine⟨a,b,us,g,U,U,C,h3,by rw[<-B.length,<-h4.length];exact qaH J mil,λp E=>q _ _ (aN.new E _) ?_⟩;exact⟨p,_,U,S.nin E,.inl upd_same,(B.append h4).fw S (Fw.new E)⟩
  ·cases h
 match x,y,h with
 |.d (.int i),.d (.int j),h=>
  cases h;refine Dp.imp ?_
  rintro vx vy H Q ⟨φ,S,O,L,q⟩
  exact⟨i,j,O,L,q _ H (aN.refl H) U⟩
 |.d (.tup as),.d (.tup bs),h=>
  simp only[aV]at h;split at h
  ·rename_i J
   cases h;refine y9.imp ?_
   rintro vx vy H Q ⟨φ,S,⟨a,us,rfl,C,B⟩,⟨b,g,rfl,h3,h4⟩,q⟩
   refine⟨a,b,us,g,U,U,(SqT.of C),(SqT.of h3),by rw[<-B.length,<-h4.length];exact qaH J mil,λe=>?_,λe=>?_,λp E=>?_⟩
   ·subst e
    have:as=[]:=by cases as with|nil=>rfl|cons _ _=>cases B.length
    subst this;exact q _ H (aN.refl H) ⟨b,g,U,h3,h4⟩
   ·subst e
    have:bs=[]:=by cases bs with|nil=>rfl|cons _ _=>cases h4.length
    subst this;exact q _ H (aN.refl H) ⟨a,us,U,C,by rw[qbH];exact B⟩
   ·exact q _ _ (aN.new E _) ⟨p,_,U,upd_same,(B.append h4).fw S (Fw.new E)⟩
  ·cases h
 |.d (.str as),.d (.str bs),h=>
  simp only[aV]at h;split at h
  ·rename_i J
   cases h;refine uS.imp ?_
   rintro vx vy H Q ⟨φ,S,O,L,q⟩
   exact⟨as,bs,O,L,qaH J mil,q _ H (aN.refl H) U⟩
  ·cases h
 |.d (.lst as),y,h=>exact R (by cases y with|h n=>exact h|d y=>cases y<;>exact h)
 |.h n,y,h=>exact R (by cases y with|h n=>exact h|d y=>cases y<;>exact h)
theorem wj:OpR X (qbE .Mult) (λx y H Q=>∃ l k xs,x=.ref l/\y=.int k/\Rd H l (.lst xs)/\-(2 ^ 63)<=k/\k < 2 ^ 63/\xs.length*k.toNat<=qaG/\
 ∀ p,H p=none->Q (.ref p) (upd H p (.lst (qaD k.toNat xs).flatten))):=by
 intro G s M H x y v u Q I rx ry h;obtain⟨l,k,xs,rfl,rfl,hH,C,B,hz,q⟩:=h;cases rx;obtain⟨t,rfl⟩:=ry;obtain⟨z,A,n,r,e⟩:=hH.ok I.hok;have hlen:A.toArray.size*k.toNat<=qaG:=by rw[qaC,<-r.length];exact hz
 have hcap:¬ A.toArray.size*k.toNat > (2^63 - 1) / 8:=by
  have:(qaG)<=(2^63 - 1) / 8:=by decide
  lia
 have hfit:¬ (!Builtin.List.listFitsIndex k)=true:=by
  rw[qjY C B];exact qaU
 have hlong:¬ qcR (A.toArray.size*k.toNat)=true:=by
  rw[tm hlen];exact qaU
 have hnew:qjO (λx1 x2=>x1++x2) #[] (qaD (if A.toArray.isEmpty=true then 0 else k.toNat) A.toArray)=(qaD k.toNat A).flatten.toArray:=by
  have f0:=λm=>by
   have:=j5 A m []
   rw[qdi]at this;exact this
  rw[f0];cases A with
  |nil=>simp
  |cons a r'=>rw[iFN (by simp)]
 refine qgG (by decide) ⟨_,e,U⟩ (λs'=>qeW s' k t) noFill_list_mul qiB qeE repeat_list qii.lookup
  (qco qeE (qeW s k t) qik (qh2 _ _) (int___rmul___int_list k t l A.toArray n)
    ⟨e,U,⟨_,e,U⟩,qco F.slot_list_mul ⟨_,e,U⟩ F.entry_list_mul (F.args_list_mul_2 _ _) (AutoListH.list___mul___list_int_3 l A.toArray n k t hfit hcap hlong) ⟨e,?_⟩⟩)
 rw[hnew];exact⟨.ref _,_,I.lnew (r.rep k.toNat) (by rw[qy,qgL];exact hz),U,q _ I.fresh⟩
theorem qI (hK:X.K=K:=by rfl):OpD K X (qbE .Mult) aU:=by
 refine⟨λst x y d h=>?_⟩
 match x,y,h with
 |.d (.int i),.d (.int j),h=>
  simp only[aU]at h;split at h
  ·rename_i J
   cases h;refine Bf.imp ?_
   rintro vx vy H Q ⟨φ,S,O,L,q⟩
   exact⟨i,j,O,L,J,q _ H (aN.refl H) U⟩
  ·cases h
 |.d (.tup as),.d (.int k),h=>
  simp only[aU]at h;split at h
  ·rename_i J
   cases h;refine Bh.imp ?_
   rintro vx vy H Q ⟨φ,S,⟨a,us,rfl,C,B⟩,L,q⟩
   have hne:us≠[]:=by rintro rfl;cases as with|nil=>exact J.1 U|cons _ _=>cases B.length
   refine⟨a,k,us,U,L,(SqT.of C),hne,by rw[<-B.length];exact J.2.1,J.2.2.1,J.2.2.2,λe=>?_,λ_ p E=>?_⟩
   ·subst e
    exact q _ H (aN.refl H) ⟨a,us,U,C,by simpa using B⟩
   ·exact q _ _ (aN.new E _) ⟨p,_,U,upd_same,(B.rep _).fw S (Fw.new E)⟩
  ·cases h
 |.d (.lst as),.d (.int k),h=>
  simp only[aU]at h;split at h
  ·rename_i J
   cases h;refine wj.imp ?_
   rintro vx vy H Q ⟨φ,S,⟨a,us,rfl,h0,C,B⟩,L,q⟩
   refine⟨a,k,us,U,L,C,by lia,by lia,?_,λp E=>?_⟩
   ·rw[<-B.length]
    have:as.length*k.toNat<=1000*1000:=qc3 J.1 (by lia)
    exact qaH this mil
   ·exact q _ _ (aN.new E _) ⟨p,_,U,S.nin E,.inl upd_same,(B.rep _).fw S (Fw.new E)⟩
  ·cases h
def dIx (st:Sto) (x y:W):Option D:=match x,y with
 |.d (.str z),.d (.int i)=>if z.length<=1000000 then (atI z.cps.toList i).map λc=>.str ⟨#[c]⟩ else none
 |x,.d (.int i)=>(fX st x).bind λds=>atI ds i
 |_,_=>none
theorem CI {H:Hp}{φ:List Addr}{ds:List D}{g:List V}{i:Int}{d:D} (r:Rls K H φ ds g) (e:atI ds i=some d):∃ v,atI g i=some v/\Rl K H φ d v:=by
 unfold atI at e ⊢;rw[<-r.length];obtain⟨j,e1,e2⟩:=qab.mp e;obtain⟨v,ev,rv⟩:=r.get e2;exact⟨v,by rw[e1];exact ev,rv⟩
theorem IxR.imp {r r':R2} (h:IxR X r) (m:∀ x y H Q,r' x y H Q->r x y H Q):IxR X r':=λvalue slice G s M H x y v u Q I rx ry q hs=>h value slice G s M H x y v u Q I rx ry (m _ _ _ _ q) hs
theorem FW (st:Sto) (x y:W) (d:D) (h:dIx st x y=some d) (hK:X.K=K):IxR X (rD K st x y d):=by
 subst hK
 match y,h with
 |.d (.int i),h=>
  have seq:(fX st x).bind _=some d->IxR X (rD X.K st x (.d (.int i)) d):=λh=>by
   obtain⟨ds,e1,e2⟩:=qab.mp h;refine qt.imp ?_
   rintro vx vy H Q ⟨φ,S,O,L,q⟩
   obtain⟨a,g,rfl,C,B⟩:=ig S O e1;obtain⟨v,ev,rv⟩:=CI B e2;rcases C with C|C
   ·exact .inl ⟨a,g,i,v,U,L,C,ev,q _ H (aN.refl H) rv⟩
   ·exact .inr (.inl ⟨a,g,i,v,U,L,C,ev,q _ H (aN.refl H) rv⟩)
  match x,h with
  |.d (.str z),h=>
   simp only[dIx]at h;split at h
   ·rename_i J
    obtain⟨c,e1,rfl⟩:=qad.mp h;refine qt.imp ?_
    rintro vx vy H Q ⟨φ,S,O,L,q⟩
    exact .inr (.inr ⟨z,i,c,O,L,qaH J mil,e1,q _ H (aN.refl H) U⟩)
   ·cases h
  |.d (.tup z),h=>exact seq h
  |.d (.lst z),h=>exact seq h
  |.d (.scr z),h=>exact seq h
  |.h z,h=>exact seq h
 |.d .non,h=>cases x with|h n=>cases h|d x=>cases x<;>cases h
 |.d (.ob _ _),h=>cases x with|h n=>cases h|d x=>cases x<;>cases h
 |.d (.bl _),h=>cases x with|h n=>cases h|d x=>cases x<;>cases h
 |.d (.str _),h=>cases x with|h n=>cases h|d x=>cases x<;>cases h
 |.d (.ty _),h=>cases x with|h n=>cases h|d x=>cases x<;>cases h
 |.d (.scr _),h=>cases x with|h n=>cases h|d x=>cases x<;>cases h
 |.d .dct,h=>cases x with|h n=>cases h|d x=>cases x<;>cases h
 |.d (.tup _),h=>cases x with|h n=>cases h|d x=>cases x<;>cases h
 |.d (.lst _),h=>cases x with|h n=>cases h|d x=>cases x<;>cases h
 |.h _,h=>cases x with|h n=>cases h|d x=>cases x<;>cases h
variable {e a b:Expr}{pos p2:Pos}{f fa fb:Ef}
theorem vJ (ha:IE K X a fa) (hb:IE K X b fb) (hs:ko b=true:=by rfl) (hK:X.K=K:=by rfl):IE K X (.Subscript a b pos) (iOp dIx fa fb):=by
 refine⟨λenv st r hr=>?_⟩;simp only[iOp,qab,qad]at hr;obtain⟨x,hx,y,hy,d,hd,rfl⟩:=hr;exact (ze (FW _ _ _ _ hd hK) (ha.run _ _ _ hx) (hb.run _ _ _ hy) (mW hs)).imp λM H Q h=>rg h
abbrev Pf:=Ev->Sto->Option (Option Int×Sto)
def iPn:Pf
 |_,st=>some (none,st)
def EN:W->Option Int
 |.d (.int i)=>some i
 |_=>none
theorem xq {w:W}{i:Int} (h:EN w=some i):w=.d (.int i):=by
 cases w with
 |h n=>cases h
 |d x=>cases x<;>first|(cases h;done)|(injection h with h;subst h;rfl)
def iPs (f:Ef):Pf
 |env,st=>(f env st).bind λr=>(EN r.1).map λi=>(some i,r.2)
def tIO (K:qae) (env:Ev) (st:Sto) (r:Option Int×Sto):TO:=λM H Q=>∃ φ,Er K H φ env M/\Sr K H φ st/\∀ H' φ',Fw φ φ' H H'->Sr K H' φ' r.2->Q r.1 H'
structure IO (K:qae) (X:Cx) (e:Option Expr) (f:Pf):Prop where
 run:∀ env st r,f env st=some r->PO X e (tIO K env st r)
theorem PO.imp {e:Option Expr}{t t':TO} (h:PO X e t) (m:∀ M H Q,t' M H Q->t M H Q):PO X e t':=λG s M H Q I q=>h G s M H Q I (m M H Q q)
theorem lE:IO K X none iPn:=by
 refine⟨λenv st r hr=>?_⟩;cases hr;exact Bo.imp λM H Q ⟨φ,hE,T,q⟩=>q H φ (Fw.refl φ H) T
theorem lF (h:IE K X e f):IO K X (some e) (iPs f):=by
 refine⟨λenv st r hr=>?_⟩;simp only[iPs,qab,qad]at hr;obtain⟨⟨x,s1⟩,hx,i,hi,rfl⟩:=hr;cases xq hi;refine (Bp (h.run _ _ _ hx)).imp ?_
 rintro M H Q ⟨φ,hE,T,q⟩
 exact⟨φ,hE,T,λv H1 P Y s1 w1=>⟨i,w1,q H1 P Y s1⟩⟩
def f8 (xs:List D) (lo hi:Option Int):List D:=(xs.drop (HT.sIx xs.length 0 lo)).take (HT.sIx xs.length xs.length hi - HT.sIx xs.length 0 lo)
theorem vj {H:Hp}{φ:List Addr}{ds:List D}{g:List V} (r:Rls K H φ ds g) (lo hi:Option Int):Rls K H φ (f8 ds lo hi) (ul g lo hi):=by
 unfold f8 ul;rw[r.length];exact (r.drop _).take _
def dSl (st:Sto) (x:W) (lo hi:Option Int):Option D:=match x with
 |.d (.tup ds)=>some (.tup (f8 ds lo hi))
 |.d (.lst ds)=>some (.lst (f8 ds lo hi))
 |.h n=>(lg st n).map λds=>.lst (f8 ds lo hi)
 |.d (.scr ns)=>some (.lst (f8 (ns.map D.int) lo hi))
 |_=>none
def iSl (f:Ef) (lo hi:Pf):Ef
 |env,st=>(f env st).bind λx=>(lo env x.2).bind λl=>(hi env l.2).bind λu=>(dSl u.2 x.1 l.1 u.1).map λd=>(.d d,u.2)
theorem vK {lo hi:Option Expr}{fl fh:Pf} (h:IE K X e f) (J:IO K X lo fl) (hh:IO K X hi fh) (hK:X.K=K:=by rfl):IE K X (.Subscript e (.Slice lo hi none p2) pos) (iSl f fl fh):=by
 subst hK;refine⟨λenv st r hr=>?_⟩;simp only[iSl,qab,qad]at hr;obtain⟨⟨x,s1⟩,hx,l,hl',u,hu',d,hd,rfl⟩:=hr;have list:(∀ {H:Hp}{φ:List Addr}{v:V},Sr X.K H φ u.2->Rw X.K H φ x v->∃ a g ds,v=.ref a/\SqL X.K H a g/\Rls X.K H φ ds g/\d=.lst (f8 ds l.1 u.1))->PE X (.Subscript e (.Slice lo hi none p2) pos) (tI X.K env st (.d d,u.2)):=λhq=>by
  refine (tE BL (h.run _ _ _ hx) (J.run _ _ _ hl') (hh.run _ _ _ hu')).imp ?_
  rintro M H Q ⟨φ,hE,T,q⟩
  refine⟨φ,hE,T,λv H1 P Y s1 w1=>⟨P,hE.fw T Y,s1,λH2 φ2 f2 s2=>⟨φ2,(hE.fw T Y).fw s1 f2,s2,λH3 φ3 f3 s3=>?_⟩⟩⟩;obtain⟨a,g,ds,rfl,C,B,rfl⟩:=hq s3 ((w1.fw s1 f2).fw s2 f3);refine⟨a,g,U,C,λp E=>q _ _ φ3 (((Y.trans f2).trans f3).trans (Fw.new E)) (s3.new E) ?_⟩;exact⟨p,_,U,s3.nin E,.inl upd_same,(vj B _ _).fw s3 (Fw.new E)⟩
 match x,hd with
 |.d (.tup ds),hd=>
  cases hd;refine (tE (Da U) (h.run _ _ _ hx) (J.run _ _ _ hl') (hh.run _ _ _ hu')).imp ?_
  rintro M H Q ⟨φ,hE,T,q⟩
  refine⟨φ,hE,T,λv H1 P Y s1 w1=>⟨P,hE.fw T Y,s1,λH2 φ2 f2 s2=>⟨φ2,(hE.fw T Y).fw s1 f2,s2,λH3 φ3 f3 s3=>?_⟩⟩⟩;obtain⟨a,g,rfl,C,B⟩:=(w1.fw s1 f2).fw s2 f3;refine⟨a,g,U,(SqT.of C),?_⟩;by_cases hc:HT.sIx g.length 0 l.1=0/\HT.sIx g.length g.length u.1=g.length
  ·refine .inr ⟨hc,q _ _ φ3 ((Y.trans f2).trans f3) s3 ⟨a,g,U,C,?_⟩⟩
   have e:f8 ds l.1 u.1=ds:=by
    unfold f8;rw[B.length,hc.1,hc.2,qf9,qgK,<-B.length,qb8]
   rw[e];exact B
  ·exact .inl ⟨hc,λp E=>q _ _ φ3 (((Y.trans f2).trans f3).trans (Fw.new E)) (s3.new E) ⟨p,_,U,upd_same,(vj B _ _).fw s3 (Fw.new E)⟩⟩
 |.d (.lst ds),hd=>
  cases hd;refine list λ{H φ v} S w=>?_;obtain⟨a,g,rfl,h0,C,B⟩:=w;exact⟨a,g,ds,U,.inl C,B,U⟩
 |.d (.scr ns),hd=>
  cases hd;refine list λ{H φ v} S w=>?_;obtain⟨a,rfl,h⟩:=w;refine⟨a,_,_,U,?_,Rls.of_ints ns,U⟩;rcases h with⟨o,h⟩|h
  ·exact .inl (.inr ⟨o,h⟩)
  ·exact .inr h
 |.h n,hd=>
  obtain⟨ds,e1,rfl⟩:=qad.mp hd;refine list λ{H φ v} S w=>?_;obtain⟨a,ea,rfl⟩:=w;obtain⟨g,q,rl⟩:=S.atl n a ds ea e1;exact⟨a,g,ds,U,SqL.of q,rl,U⟩
end
section
variable {K:qae}{X:Cx}{R:List (Addr×Obj)}{σ:St}{H:Hp}{s:qak}{φ:List Addr}{st:Sto}
theorem dq:∀ (xs P:List D),((qai (min xs.length P.length)).all (λj=>eqD (xs.getD j .non) (P.getD j .non))&&xs.length==P.length)=io xs P
 |[],[]=>rfl
 |[],y::P=>by simp[io]
 |x::xs,[]=>by simp[io]
 |x::xs,y::P=>by
  show ((qai (min (xs.length+1) (P.length+1))).all _&&(xs.length+1==P.length+1))=(eqD x y&&io xs P);rw[show min _ _=min xs.length P.length+1 by lia,mj,<-dq xs P];have e:(xs.length+1==P.length+1)=(xs.length==P.length):=by simp
  rw[e,Bool.and_assoc];rfl
theorem iF {xs P:List D} (h:xs.length=P.length):(qai xs.length).all (λj=>eqD (xs.getD j .non) (P.getD j .non))=io xs P:=by
 rw[<-dq xs P,<-h,Nat.min_self];simp
theorem sj:∀ {xs P:List D},xs.length≠P.length->io xs P=false
 |[],[],h=>absurd U h
 |[],_::_,_=>rfl
 |_::_,[],_=>rfl
 |x::xs,y::P,h=>by
  show (eqD x y&&io xs P)=false;rw[sj (by intro e;apply h;rw[qaq,qaq,e]),qh3]
theorem BC (I:Inv X R σ H s) {a:Addr}{E ws:List V} (h:Rd H a (.lst E)) (h':Rd H a (.lst ws)):E=ws:=I.list_inj (.inl h) (.inl h')
theorem vw (I:Inv X R σ H s):∀ (n:Nat) {d e:D}{v:V},Rl X.K H φ d v->Rl X.K H φ e v->okD n d=true->okD n e=true->eqD d e=true:=by
 intro n
 induction n with
 |zero=>
  intro d e v m l N F;cases d<;>first|(cases N;done)|skip
  all_goals (cases e<;>first|(cases F;done)|skip)
  all_goals (first|rfl|(cases m.symm.trans l;done)|(cases m.symm.trans l;simp[eqD]))
 |succ n ih=>
  have lists:∀ {ds es:List D}{E:List V},Rls X.K H φ ds E->Rls X.K H φ es E->(∀ d∈ds,okD n d=true)->(∀ d∈es,okD n d=true)->io ds es=true:=by
   intro ds
   induction ds with
   |nil=>
    intro es E m l _ _;cases m;cases es with
    |nil=>rfl
    |cons e es=>obtain⟨_,_,q,_⟩:=l;cases q
   |cons d ds ihd=>
    intro es E m l N F;obtain⟨v,r,rfl,a1,a2⟩:=m;cases es with
    |nil=>cases l
    |cons e es=>
     obtain⟨v',r',q,b1,b2⟩:=l;cases q;show (eqD d e&&io ds es)=true;rw[ih a1 b1 (N d qag) (F e qag),ihd a2 b2 (λx hx=>N x (qah _ hx)) (λx hx=>F x (qah _ hx))];rfl
  intro d e v m l N F;cases d with
  |tup ds=>
   obtain⟨a,E,rfl,O,M⟩:=m;cases e with
   |tup es=>
    obtain⟨b,J,q,p,B⟩:=l;cases q;rw[I.tuple_inj (SqT.of p) (SqT.of O)]at B;exact lists M B (qaW.mp N) (qaW.mp F)
   |lst es=>
    obtain⟨b,J,q,_,p,B⟩:=l;cases q;obtain⟨_,_,p1,_⟩:=I.tuple (SqT.of O);obtain⟨_,_,f,_⟩:=I.list (.inl p);exact absurd U (qgj f.isList p1)
   |_=>first|(cases F;done)|(cases l)
  |lst ds=>
   obtain⟨a,E,rfl,h0,O,M⟩:=m;cases e with
   |lst es=>
    obtain⟨b,J,q,_,p,B⟩:=l;cases q;rw[BC I p O]at B;exact lists M B (qaW.mp N) (qaW.mp F)
   |tup es=>
    obtain⟨b,J,q,p,B⟩:=l;cases q;obtain⟨_,_,p1,_⟩:=I.tuple (SqT.of p);obtain⟨_,_,f,_⟩:=I.list (.inl O);exact absurd U (qgj f.isList p1)
   |_=>first|(cases F;done)|(cases l)
  |non=>cases e<;>first|rfl|(cases F;done)|(cases m.symm.trans l)|(cases m;obtain⟨_,_,q,_⟩:=l;cases q)
  |bl b=>cases e<;>first|(cases F;done)|(cases m.symm.trans l;simp[eqD])|(cases m.symm.trans l)|(cases m;obtain⟨_,_,q,_⟩:=l;cases q)
  |int b=>cases e<;>first|(cases F;done)|(cases m.symm.trans l;simp[eqD])|(cases m.symm.trans l)|(cases m;obtain⟨_,_,q,_⟩:=l;cases q)
  |str b=>cases e<;>first|(cases F;done)|(cases m.symm.trans l;simp[eqD])|(cases m.symm.trans l)|(cases m;obtain⟨_,_,q,_⟩:=l;cases q)
  |ty b=>cases N
  |scr b=>cases N
  |dct=>cases N
  |ob _ _=>cases N
theorem dj {ds:List D}{E:List V}{J:List Value} (r:Rls K H φ ds E) (T:aF E J):∀ (j:Nat) (h:j<J.length),∃ v,Rl K H φ (ds.getD j .non) v/\aK v J[j]/\ds.getD j .non∈ds:=by
 intro j h;obtain⟨h',q⟩:=T.at j h;have hd:j<ds.length:=by rw[r.length];exact h'
 have e:=qal hd;obtain⟨v,ev,rl⟩:=r.get e;rw[qal h']at ev;cases ev;refine⟨_,?_,q,?_⟩
 ·rw[qfO,e];exact rl
 ·rw[qfO,e];exact qbR hd
theorem CO (I:Inv X R σ H s):∀ (n:Nat) {A:qa0}{d e:D}{v u:V}{vv uu:Value},Rl X.K H φ d v->Rl X.K H φ e u->aK v vv->aK u uu->okD n d=true->okD n e=true->A.units+n<cLine->qdZ A s vv uu (eqD d e):=by
 have flat:∀ {A:qa0}{d e:D}{v u:V}{vv uu:Value},bG d=true->bG e=true->Rl X.K H φ d v->Rl X.K H φ e u->aK v vv->aK u uu->qdZ A s vv uu (eqD d e):=by
  intro A d e v u vv uu f1 f2 m l q1 L;obtain⟨e1,g1⟩:=d6 f1 m;obtain⟨e2,g2⟩:=d6 f2 l;rw[<-pN f1 f2,<-e1,<-e2];exact uq q1 L g1 g2
 intro n
 induction n with
 |zero=>
  intro A d e v u vv uu m l q1 L N F hu;refine flat ?_ ?_ m l q1 L
  ·cases d<;>first|rfl|cases N
  ·cases e<;>first|rfl|cases F
 |succ n ih=>
  intro A d e v u vv uu m l q1 L N F hu;have c:A.units<cLine:=by lia
  have hu1:A.in1.units+n<cLine:=by show A.units+1+n<cLine;lia
  cases d with
  |tup ds=>
   obtain⟨a,E,rfl,O,M⟩:=m;cases q1;obtain⟨G,T,p1,_⟩:=I.tuple (SqT.of O);cases e with
   |tup es=>
    obtain⟨b,J,rfl,p,B⟩:=id l;cases L;by_cases hab:a=b
    ·subst hab
     rw[vw I (n+1) (d:=.tup ds) ⟨a,E,U,O,M⟩ l N F];exact qeY _
    ·obtain⟨g,o,f,_⟩:=I.tuple (SqT.of p)
     have z:=qeC (A:=A) p1 f c λj g1 g2=>by
      obtain⟨v1,k1,k2,k3⟩:=dj M T j (by simpa using g1);obtain⟨v2,k4,k5,k6⟩:=dj B o j (by simpa using g2);exact ih k1 k4 (by simpa using k2) (by simpa using k5) (qaW.mp N _ k3) (qaW.mp F _ k6) hu1
     have e1:G.toArray.size=ds.length:=by simp[<-T.length,M.length]
     have e2:g.toArray.size=es.length:=by simp[<-o.length,B.length]
     rw[e1,e2,dq]at z;exact qep hab z
   |lst es=>
    obtain⟨b,J,rfl,_,p,B⟩:=id l;cases L;obtain⟨g,o,f,_⟩:=I.list (.inl p);exact qkC p1 f.isList c
   |non=>cases l;cases L;exact qkB p1 c
   |bl x=>cases l;cases L;exact qkE x p1 c
   |int x=>cases l;obtain⟨t,rfl⟩:=L;exact qkD x t p1 c
   |str x=>cases l;obtain⟨t,rfl⟩:=L;exact qkA x t p1 c
   |ty _=>cases F
   |scr _=>cases F
   |dct=>cases F
   |ob _ _=>cases F
  |lst ds=>
   obtain⟨a,E,rfl,h0,O,M⟩:=m;cases q1;obtain⟨G,T,p1,_⟩:=I.list (.inl O);cases e with
   |lst es=>
    obtain⟨b,J,rfl,_,p,B⟩:=id l;cases L;by_cases hab:a=b
    ·subst hab
     rw[vw I (n+1) (d:=.lst ds) ⟨a,E,U,h0,O,M⟩ l N F];exact qeY _
    ·obtain⟨g,o,f,_⟩:=I.list (.inl p)
     have e1:G.toArray.size=ds.length:=by simp[<-T.length,M.length]
     have e2:g.toArray.size=es.length:=by simp[<-o.length,B.length]
     by_cases hl:ds.length=es.length
     ·have z:=qgt (A:=A) p1.isList f.isList (by rw[e1,e2,hl]) c λj g1 g2=>by
       obtain⟨v1,k1,k2,k3⟩:=dj M T j (by simpa using g1);obtain⟨v2,k4,k5,k6⟩:=dj B o j (by simpa using g2);exact ih k1 k4 (by simpa using k2) (by simpa using k5) (qaW.mp N _ k3) (qaW.mp F _ k6) hu1
      rw[e1,iF hl]at z;exact qep hab z
     ·show qdZ A s _ _ (io ds es)
      rw[sj hl];exact qep hab (qfh (A:=A) p1.isList f.isList (by rw[e1,e2];simpa using hl) c)
   |tup es=>
    obtain⟨b,J,rfl,p,B⟩:=id l;cases L;obtain⟨g,o,f,_⟩:=I.tuple (SqT.of p);exact qkO p1.isList f c
   |non=>cases l;cases L;exact qkQ p1.isList c
   |bl x=>cases l;cases L;exact qkS x p1.isList c
   |int x=>cases l;obtain⟨t,rfl⟩:=L;exact qkR x t p1.isList c
   |str x=>cases l;obtain⟨t,rfl⟩:=L;exact qkP x t p1.isList c
   |ty _=>cases F
   |scr _=>cases F
   |dct=>cases F
   |ob _ _=>cases F
  |non=>
   cases m;cases q1;cases e with
   |tup es=>obtain⟨b,J,rfl,p,B⟩:=l;cases L;obtain⟨_,_,f,_⟩:=I.tuple (SqT.of p);exact qkJ f c
   |lst es=>obtain⟨b,J,rfl,_,p,B⟩:=l;cases L;obtain⟨_,_,f,_⟩:=I.list (.inl p);exact qkL f.isList c
   |_=>first|(cases F;done)|exact flat U U (d:=.non) U l (v:=.non) U L
  |bl x=>
   cases m;cases q1;cases e with
   |tup es=>obtain⟨b,J,rfl,p,B⟩:=l;cases L;obtain⟨_,_,f,_⟩:=I.tuple (SqT.of p);exact qkY x f c
   |lst es=>obtain⟨b,J,rfl,_,p,B⟩:=l;cases L;obtain⟨_,_,f,_⟩:=I.list (.inl p);exact qk1 x f.isList c
   |_=>first|(cases F;done)|exact flat U U (d:=.bl x) U l (v:=.bl x) U L
  |int x=>
   cases m;obtain⟨t1,rfl⟩:=q1;cases e with
   |tup es=>obtain⟨b,J,rfl,p,B⟩:=l;cases L;obtain⟨_,_,f,_⟩:=I.tuple (SqT.of p);exact qkT x t1 f c
   |lst es=>obtain⟨b,J,rfl,_,p,B⟩:=l;cases L;obtain⟨_,_,f,_⟩:=I.list (.inl p);exact qkV x t1 f.isList c
   |_=>first|(cases F;done)|exact flat U U (d:=.int x) U l (v:=.int x) ⟨t1,U⟩ L
  |str x=>
   cases m;obtain⟨t1,rfl⟩:=q1;cases e with
   |tup es=>obtain⟨b,J,rfl,p,B⟩:=l;cases L;obtain⟨_,_,f,_⟩:=I.tuple (SqT.of p);exact qkF x t1 f c
   |lst es=>obtain⟨b,J,rfl,_,p,B⟩:=l;cases L;obtain⟨_,_,f,_⟩:=I.list (.inl p);exact qkH x t1 f.isList c
   |_=>first|(cases F;done)|exact flat U U (d:=.str x) U l (v:=.str x) ⟨t1,U⟩ L
  |ty _=>cases N
  |scr _=>cases N
  |dct=>cases N
  |ob _ _=>cases N
theorem DR {A:qa0}{y x:V}{u v:Value} (ry:aK y u) (C:aK x v) (fy:dO y=true) (fx:dO x=true):qjm A s u v (eqV y x):=by
 cases y with
 |non=>
  cases ry;cases x with
  |non=>cases C;exact qkf
  |bl b=>cases C;exact qki b
  |int b=>obtain⟨t,rfl⟩:=C;exact qkh b t
  |str b=>obtain⟨t,rfl⟩:=C;exact qke b t
  |_=>cases fx
 |bl a=>
  cases ry;cases x with
  |non=>cases C;exact qkw a
  |bl b=>cases C;exact qkz a b
  |int b=>obtain⟨t,rfl⟩:=C;exact qky a b t
  |str b=>obtain⟨t,rfl⟩:=C;exact qkv a b t
  |_=>cases fx
 |int a=>
  obtain⟨t',rfl⟩:=ry;cases x with
  |non=>cases C;exact qkq a t'
  |bl b=>cases C;exact qkt a t' b
  |int b=>obtain⟨t,rfl⟩:=C;exact qks a t' b t
  |str b=>obtain⟨t,rfl⟩:=C;exact qkp a t' b t
  |_=>cases fx
 |str a=>
  obtain⟨t',rfl⟩:=ry;cases x with
  |non=>cases C;exact qj9 a t'
  |bl b=>cases C;exact qkc a t' b
  |int b=>obtain⟨t,rfl⟩:=C;exact qkb a t' b t
  |str b=>obtain⟨t,rfl⟩:=C;exact qj8 a t' b t
  |_=>cases fx
 |_=>cases fy
theorem zK {A:qa0}{y x:V}{u v:Value} (ry:aK y u) (C:aK x v) (fy:dO y=true) (fx:dO x=true):qib A s u v (!eqV y x):=by
 cases y with
 |non=>
  cases ry;cases x with
  |non=>cases C;exact qiZ
  |bl b=>cases C;exact qi2 b
  |int b=>obtain⟨t,rfl⟩:=C;exact qi1 b t
  |str b=>obtain⟨t,rfl⟩:=C;exact qiY b t
  |_=>cases fx
 |bl a=>
  cases ry;cases x with
  |non=>cases C;exact qji a
  |bl b=>cases C;exact qjl a b
  |int b=>obtain⟨t,rfl⟩:=C;exact qjk a b t
  |str b=>obtain⟨t,rfl⟩:=C;exact qjh a b t
  |_=>cases fx
 |int a=>
  obtain⟨t',rfl⟩:=ry;cases x with
  |non=>cases C;exact qjc a t'
  |bl b=>cases C;exact qjf a t' b
  |int b=>obtain⟨t,rfl⟩:=C;exact qje a t' b t
  |str b=>obtain⟨t,rfl⟩:=C;exact qjb a t' b t
  |_=>cases fx
 |str a=>
  obtain⟨t',rfl⟩:=ry;cases x with
  |non=>cases C;exact qiT a t'
  |bl b=>cases C;exact qiW a t' b
  |int b=>obtain⟨t,rfl⟩:=C;exact qiV a t' b t
  |str b=>obtain⟨t,rfl⟩:=C;exact qiS a t' b t
  |_=>cases fx
 |_=>cases fy
inductive Kin where
 |fl (d:D)|tp (ds:List D)|ls (ds:List D)
def mY (st:Sto):W->Option Kin
 |.d (.tup ds)=>some (.tp ds)
 |.d (.lst ds)=>some (.ls ds)
 |.h n=>(lg st n).map .ls
 |.d .non=>some (.fl .non)
 |.d (.bl b)=>some (.fl (.bl b))
 |.d (.int i)=>some (.fl (.int i))
 |.d (.str x)=>some (.fl (.str x))
 |_=>none
def eqK:Kin->Kin->Option Bool
 |.fl a,.fl b=>some (eqD a b)
 |.tp as,.tp bs=>if (as.isEmpty||bs.isEmpty)=true then some (as.isEmpty&&bs.isEmpty) else if as.all (okD 60)=true/\bs.all (okD 60)=true then some (io as bs) else none
 |.ls as,.ls bs=>if as.length=bs.length then (if as.all (okD 60)=true/\bs.all (okD 60)=true then some (io as bs) else none) else some false
 |.fl _,.tp _=>some false
 |.tp _,.fl _=>some false
 |.fl _,.ls _=>some false
 |.ls _,.fl _=>some false
 |.tp _,.ls _=>some false
 |.ls _,.tp _=>some false
def dEq (st:Sto) (x y:W):Option D:=(mY st x).bind λa=>(mY st y).bind λb=>(eqK a b).map λk=>.bl k
def dNe (st:Sto) (x y:W):Option D:=(mY st x).bind λa=>(mY st y).bind λb=>(eqK a b).map λk=>.bl (!k)
def CB (K:qae) (H:Hp) (φ:List Addr):Kin->V->Prop
 |.fl d,v=>bG d=true/\Rl K H φ d v
 |.tp ds,v=>∃ a E,v=.ref a/\SqT K H a E/\Rls K H φ ds E
 |.ls ds,v=>∃ a E,v=.ref a/\Rd H a (.lst E)/\Rls K H φ ds E
theorem lV {w:W}{v:V}{k:Kin} (S:Sr K H φ st) (r:Rw K H φ w v) (e:mY st w=some k):CB K H φ k v:=by
 cases w with
 |h n=>
  obtain⟨a,ea,rfl⟩:=r;obtain⟨ds,e1,rfl⟩:=qad.mp e;obtain⟨E,q,rl⟩:=S.atl n a ds ea e1;exact⟨a,E,U,.inl q,rl⟩
 |d x=>
  cases x with
  |tup es=>cases e;obtain⟨a,E,rfl,O,M⟩:=r;exact⟨a,E,U,SqT.of O,M⟩
  |lst es=>cases e;obtain⟨a,E,rfl,h0,O,M⟩:=r;exact⟨a,E,U,O,M⟩
  |non=>cases e;exact⟨U,r⟩
  |bl b=>cases e;exact⟨U,r⟩
  |int b=>cases e;exact⟨U,r⟩
  |str b=>cases e;exact⟨U,r⟩
  |_=>cases e
theorem CZ {A:qa0}{k:Nat} (hr:bh k A):A.in1.units+60<cLine:=by
 have:=hr.un
 lia
theorem zJ {k:Nat} (hr:bh k X.A) (I:Inv X R σ H s) {a b:Kin}{v u:V}{vv uu:Value}{r:Bool} (ra:CB X.K H φ a v) (rb:CB X.K H φ b u) (qa:aK v vv) (qb:aK u uu) (e:eqK a b=some r) :
  qjm X.A s vv uu r/\qib X.A s vv uu (!r):=by
 have c:=hr.units0;have items:∀ {ds es:List D}{E J:List V}{G g:List Value},Rls X.K H φ ds E->Rls X.K H φ es J->aF E G->aF J g->ds.all (okD 60)=true->es.all (okD 60)=true->
   ∀ j (g1:j<G.toArray.size) (g2:j<g.toArray.size),qdZ X.A.in1 s G.toArray[j] g.toArray[j] (eqD (ds.getD j .non) (es.getD j .non)):=by
  intro ds es E J G g M B T o N F j g1 g2;obtain⟨v1,k1,k2,k3⟩:=dj M T j (by simpa using g1);obtain⟨v2,k4,k5,k6⟩:=dj B o j (by simpa using g2);exact CO I 60 k1 k4 (by simpa using k2) (by simpa using k5) (qaW.mp N _ k3) (qaW.mp F _ k6) (CZ hr)
 match a,b,e with
 |.fl d,.fl d',e=>
  cases e;obtain⟨f1,m⟩:=ra;obtain⟨f2,l⟩:=rb;obtain⟨e1,g1⟩:=d6 f1 m;obtain⟨e2,g2⟩:=d6 f2 l;rw[<-pN f1 f2,<-e1,<-e2];exact⟨DR qa qb g1 g2,zK qa qb g1 g2⟩
 |.tp ds,.tp es,e=>
  simp only[eqK]at e;obtain⟨a,E,rfl,O,M⟩:=ra;obtain⟨b,J,rfl,p,B⟩:=rb;cases qa;cases qb;obtain⟨G,T,p1,_⟩:=I.tuple O;obtain⟨g,o,f,_⟩:=I.tuple p;have e1:G.toArray.size=ds.length:=by simp[<-T.length,M.length]
  have e2:g.toArray.size=es.length:=by simp[<-o.length,B.length]
  split at e
  ·rename_i Y
   cases e;have hv:∀ j (g1:j<G.toArray.size) (g2:j<g.toArray.size),qdZ X.A.in1 s G.toArray[j] g.toArray[j] (eqD (ds.getD j .non) (es.getD j .non)):=λj g1 g2=>by
    rw[e1]at g1;rw[e2]at g2;rw[qfR]at Y;rcases Y with Y|Y
    ·rw[qhI.mp Y]at g1;exact absurd g1 (qcz _)
    ·rw[qhI.mp Y]at g2;exact absurd g2 (qcz _)
   have z:=qeC (A:=X.A) p1 f c hv;have z':=qfK (A:=X.A) p1 f c hv;rw[e1,e2,dq]at z z';have e3:io ds es=(ds.isEmpty&&es.isEmpty):=by
    cases ds with
    |nil=>cases es<;>rfl
    |cons _ _=>cases es with
     |nil=>rfl
     |cons _ _=>cases Y
   rw[e3]at z z';exact⟨z,z'⟩
  ·split at e
   ·rename_i Y
    cases e;have z:=qeC (A:=X.A) p1 f c (items M B T o Y.1 Y.2);have z':=qfK (A:=X.A) p1 f c (items M B T o Y.1 Y.2);rw[e1,e2,dq]at z z';exact⟨z,z'⟩
   ·cases e
 |.ls ds,.ls es,e=>
  simp only[eqK]at e;obtain⟨a,E,rfl,O,M⟩:=ra;obtain⟨b,J,rfl,p,B⟩:=rb;cases qa;cases qb;obtain⟨G,T,p1,_⟩:=I.list (.inl O);obtain⟨g,o,f,_⟩:=I.list (.inl p);have e1:G.toArray.size=ds.length:=by simp[<-T.length,M.length]
  have e2:g.toArray.size=es.length:=by simp[<-o.length,B.length]
  split at e
  ·rename_i hl
   split at e
   ·rename_i Y
    cases e;have z:=qgt (A:=X.A) p1.isList f.isList (by rw[e1,e2,hl]) c (items M B T o Y.1 Y.2);have z':=qi4 (A:=X.A) p1.isList f.isList (by rw[e1,e2,hl]) c (items M B T o Y.1 Y.2);rw[e1,iF hl]at z z';exact⟨z,z'⟩
   ·cases e
  ·rename_i hl
   cases e;have z':=qi3 (A:=X.A) p1.isList f.isList (by rw[e1,e2];simpa using hl) c;exact⟨(qfh (A:=X.A) p1.isList f.isList (by rw[e1,e2];simpa using hl) c),z'⟩
 |.fl d,.tp es,e=>
  cases e;obtain⟨f1,m⟩:=ra;obtain⟨b,J,rfl,p,B⟩:=rb;cases qb;obtain⟨g,o,f,_⟩:=I.tuple p;cases d with
  |non=>cases m;cases qa;exact⟨qkd f c,qiX f c⟩
  |bl x=>cases m;cases qa;exact⟨qku x f c,qjg x f c⟩
  |int x=>cases m;obtain⟨t,rfl⟩:=qa;exact⟨qko x t f c,qja x t f c⟩
  |str x=>cases m;obtain⟨t,rfl⟩:=qa;exact⟨qj7 x t f c,qiR x t f c⟩
  |_=>cases f1
 |.tp es,.fl d,e=>
  cases e;obtain⟨f1,m⟩:=rb;obtain⟨b,J,rfl,p,B⟩:=ra;cases qa;obtain⟨g,o,f,_⟩:=I.tuple p;cases d with
  |non=>cases m;cases qb;exact⟨qj3 f c,qiN f c⟩
  |bl x=>cases m;cases qb;exact⟨qj6 x f c,qiQ x f c⟩
  |int x=>cases m;obtain⟨t,rfl⟩:=qb;exact⟨qj5 x t f c,qiP x t f c⟩
  |str x=>cases m;obtain⟨t,rfl⟩:=qb;exact⟨qj2 x t f c,qiM x t f c⟩
  |_=>cases f1
 |.fl d,.ls es,e=>
  cases e;obtain⟨f1,m⟩:=ra;obtain⟨b,J,rfl,p,B⟩:=rb;cases qb;obtain⟨g,o,f,_⟩:=I.list (.inl p);replace f:=f.isList;cases d with
  |non=>cases m;cases qa;exact⟨qkg f c,qi0 f c⟩
  |bl x=>cases m;cases qa;exact⟨qkx x f c,qjj x f c⟩
  |int x=>cases m;obtain⟨t,rfl⟩:=qa;exact⟨qkr x t f c,qjd x t f c⟩
  |str x=>cases m;obtain⟨t,rfl⟩:=qa;exact⟨qka x t f c,qiU x t f c⟩
  |_=>cases f1
 |.ls es,.fl d,e=>
  cases e;obtain⟨f1,m⟩:=rb;obtain⟨b,J,rfl,p,B⟩:=ra;cases qa;obtain⟨g,o,f,_⟩:=I.list (.inl p);replace f:=f.isList;cases d with
  |non=>cases m;cases qb;exact⟨qkl f c,qi7 f c⟩
  |bl x=>cases m;cases qb;exact⟨qkn x f c,qi9 x f c⟩
  |int x=>cases m;obtain⟨t,rfl⟩:=qb;exact⟨qkm x t f c,qi8 x t f c⟩
  |str x=>cases m;obtain⟨t,rfl⟩:=qb;exact⟨qkk x t f c,qi6 x t f c⟩
  |_=>cases f1
 |.tp ds,.ls es,e=>
  cases e;obtain⟨a,E,rfl,O,M⟩:=ra;obtain⟨b,J,rfl,p,B⟩:=rb;cases qa;cases qb;obtain⟨G,T,p1,_⟩:=I.tuple O;obtain⟨g,o,f,_⟩:=I.list (.inl p);exact⟨qj4 p1 f.isList c,qiO p1 f.isList c⟩
 |.ls ds,.tp es,e=>
  cases e;obtain⟨a,E,rfl,O,M⟩:=ra;obtain⟨b,J,rfl,p,B⟩:=rb;cases qa;cases qb;obtain⟨G,T,p1,_⟩:=I.list (.inl O);obtain⟨g,o,f,_⟩:=I.tuple p;exact⟨qkj p1.isList f c,qi5 p1.isList f c⟩
theorem wa {k:Nat} (hr:bh k X.A) (hK:X.K=K:=by rfl):OpD K X (qbV .Eq) dEq:=by
 subst hK;refine⟨λst x y d h=>?_⟩;simp only[dEq,qab,qad]at h;obtain⟨a,ha,b,hb,r,e,rfl⟩:=h;intro R s σ H vx vy v u Q I C ry q;obtain⟨φ,S,m,l,q⟩:=q;exact (zJ hr I (lV S m ha) (lV S l hb) C ry e).1 _ _ _ _ ⟨.bl r,H,I,U,q _ H (aN.refl H) U⟩
theorem wg {k:Nat} (hr:bh k X.A) (hK:X.K=K:=by rfl):OpD K X (qbV .NotEq) dNe:=by
 subst hK;refine⟨λst x y d h=>?_⟩;simp only[dNe,qab,qad]at h;obtain⟨a,ha,b,hb,r,e,rfl⟩:=h;intro R s σ H vx vy v u Q I C ry q;obtain⟨φ,S,m,l,q⟩:=q;exact (zJ hr I (lV S m ha) (lV S l hb) C ry e).2 _ _ _ _ ⟨.bl _,H,I,U,q _ H (aN.refl H) U⟩
end
section
variable {K:qae}{X:Cx}
def a8:List D->Option (List Int)
 |[]=>some []
 |.int i::ds=>(a8 ds).map λr=>i::r
 |_=>none
theorem bL:∀ {ds:List D}{ns:List Int},a8 ds=some ns->ds=ns.map D.int
 |[],_,h=>by cases h;rfl
 |.int i::ds,_,h=>by
  obtain⟨r,e,rfl⟩:=qad.mp h;rw[bL e];rfl
 |.non::_,_,h=>by cases h
 |.bl _::_,_,h=>by cases h
 |.str _::_,_,h=>by cases h
 |.ty _::_,_,h=>by cases h
 |.dct::_,_,h=>by cases h
 |.scr _::_,_,h=>by cases h
 |.tup _::_,_,h=>by cases h
 |.lst _::_,_,h=>by cases h
theorem bx:∀ (ns:List Int),a8 (ns.map D.int)=some ns
 |[]=>rfl
 |n::ns=>by rw[qau,a8,bx ns];rfl
def jX:List D->Option (List Bool)
 |[]=>some []
 |.bl i::ds=>(jX ds).map λr=>i::r
 |_=>none
theorem kE:∀ {ds:List D}{ns:List Bool},jX ds=some ns->ds=ns.map D.bl
 |[],_,h=>by cases h;rfl
 |.bl i::ds,_,h=>by
  obtain⟨r,e,rfl⟩:=qad.mp h;rw[kE e];rfl
 |.non::_,_,h=>by cases h
 |.int _::_,_,h=>by cases h
 |.str _::_,_,h=>by cases h
 |.ty _::_,_,h=>by cases h
 |.dct::_,_,h=>by cases h
 |.scr _::_,_,h=>by cases h
 |.tup _::_,_,h=>by cases h
 |.lst _::_,_,h=>by cases h
theorem mo:∀ (ns:List Bool),jX (ns.map D.bl)=some ns
 |[]=>rfl
 |n::ns=>by rw[qau,jX,mo ns];rfl
def aT (st:Sto):List W->Option D
 |[.d (.str x)]=>if x.length<=1000000 then some (.int x.length) else none
 |[w]=>(fX st w).map λds=>.int ds.length
 |_=>none
def wY (_:Sto):List W->Option D
 |[.d (.int i)]=>some (.int (if i<0 then -i else i))
 |_=>none
def Ez (_:Sto):List W->Option D
 |[.d (.int i)]=>some (.int i)
 |[.d (.bl k)]=>some (.int (if k then 1 else 0))
 |_=>none
def pH (_:Sto):List W->Option D
 |[.d (.lst ds)]=>(a8 ds).map λns=>.int ns.sum
 |_=>none
def Ax (_:Sto):List W->Option D
 |[.d (.lst ds)]=>(jX ds).map λns=>.bl (ns.all id)
 |_=>none
def dH (st:Sto):List W->Option D
 |[w]=>(fX st w).map λds=>.tup ds
 |_=>none
def vX (st:Sto):List W->Option (List D)
 |[w]=>fX st w
 |_=>none
def uU:D->Bool
 |.non=>true
 |.int i=>decide (0<=i)&&decide (i<1024)
 |_=>false
def vk (_:Sto):List W->Option D
 |[.d (.int i)]=>if i.natAbs.log2<1920 then some (.str (toString i)) else none
 |[.d (.tup ds)]=>if ds.all uU=true/\ds.length<=1000 then some (.str (qZ (ds.map vOf))) else none
 |_=>none
def Eb (st:Sto):W->Option String
 |.d .non=>some "NoneType"
 |.d (.bl _)=>some "bool"
 |.d (.int _)=>some "int"
 |.d (.str _)=>some "str"
 |.d (.tup _)=>some "tuple"
 |.d (.lst _)=>some "list"
 |.d .dct=>some "dict"
 |.h n=>(lg st n).map λ_=>"list"
 |_=>none
def C2 (t c:String):Option Bool:=
 if c = "int" then some (t=="int" || t=="bool")
 else if c = "bool"\/c = "str"\/c = "tuple"\/c = "list" then some (t==c)
 else none
def lb (st:Sto):List W->Option D
 |[w,.d (.ty c)]=>(Eb st w).bind λt=>(C2 t c).map λb=>.bl b
 |_=>none
theorem fz (O:X.K=K:=by rfl):dJ K X (.builtin "len") aT:=by
 subst O;refine⟨λst ws d h=>?_⟩;have seq:∀ w,(fX st w).map (λds=>D.int ds.length)=some d->bb X _ (rCD X.K st [w] d):=λw h=>by
  obtain⟨ds,e,rfl⟩:=qad.mp h;refine pd.imp ?_
  rintro A H Q ⟨φ,S,⟨v,r,rfl,j,rfl⟩,q⟩
  obtain⟨a,C,rfl,m,J⟩:=ig S j e;exact⟨a,C,U,m,q _ H (aN.refl H) (by rw[<-J.length];rfl)⟩
 cases ws with
 |nil=>cases h
 |cons w tl=>
  cases tl with
  |cons _ _=>
   cases w with
   |h n=>cases h
   |d x=>cases x<;>cases h
  |nil=>
   cases w with
   |h n=>exact seq _ h
   |d x=>
    cases x with
    |str x=>
     simp only[aT]at h;split at h
     ·rename_i P
      cases h;refine pe.imp ?_
      rintro A H Q ⟨φ,S,⟨v,r,rfl,j,rfl⟩,q⟩
      exact⟨x,by rw[j],qaH P mil,q _ H (aN.refl H) U⟩
     ·cases h
    |tup ds=>exact seq _ h
    |lst ds=>exact seq _ h
    |scr ds=>exact seq _ h
    |_=>cases h
theorem pi:dJ K X (.builtin "abs") wY:=by
 refine⟨λst ws d h=>?_⟩
 match ws,h with
 |[.d (.int i)],h=>
  cases h;refine yg.imp ?_
  rintro A H Q ⟨φ,S,⟨v,r,rfl,j,rfl⟩,q⟩
  exact⟨i,by rw[j],q _ H (aN.refl H) U⟩
theorem pq:dJ K X (.type "int") Ez:=by
 refine⟨λst ws d h=>?_⟩
 match ws,h with
 |[.d (.int i)],h=>
  cases h;refine ox.imp ?_
  rintro A H Q ⟨φ,S,⟨v,r,rfl,j,rfl⟩,q⟩
  exact .inl ⟨i,by rw[j],q _ H (aN.refl H) U⟩
 |[.d (.bl i)],h=>
  cases h;refine ox.imp ?_
  rintro A H Q ⟨φ,S,⟨v,r,rfl,j,rfl⟩,q⟩
  exact .inr ⟨i,by rw[j],q _ H (aN.refl H) U⟩
theorem pw (hc:X.calm=true:=by rfl) (O:X.K=K:=by rfl):dJ K X (.builtin "sum") pH:=by
 refine⟨λst ws d h=>?_⟩
 match ws,h with
 |[.d (.lst ds)],h=>
  obtain⟨ns,e,rfl⟩:=qad.mp h;cases bL e;refine (ET hc U).imp ?_
  rintro A H Q ⟨φ,S,⟨v,r,rfl,⟨a,C,rfl,h0,m,J⟩,rfl⟩,q⟩
  cases J.ints;exact⟨a,ns,U,.inl m,q _ H (aN.refl H) U⟩
theorem pj (hc:X.calm=true:=by rfl) (O:X.K=K:=by rfl):dJ K X (.builtin "all") Ax:=by
 refine⟨λst ws d h=>?_⟩
 match ws,h with
 |[.d (.lst ds)],h=>
  obtain⟨ns,e,rfl⟩:=qad.mp h;cases kE e;refine (ES hc U).imp ?_
  rintro A H Q ⟨φ,S,⟨v,r,rfl,⟨a,C,rfl,h0,m,J⟩,rfl⟩,q⟩
  cases J.bools;exact⟨a,ns,U,.inl m,q _ H (aN.refl H) U⟩
theorem pB (O:X.K=K:=by rfl):dJ K X (.type "tuple") dH:=by
 subst O;refine⟨λst ws d h=>?_⟩
 match ws,h with
 |[w],h=>
  obtain⟨ds,e,rfl⟩:=qad.mp h;refine n8.imp ?_
  rintro A H Q ⟨φ,S,⟨v,r,rfl,j,rfl⟩,q⟩
  obtain⟨a,C,rfl,m,J⟩:=tT S j e;refine⟨a,C,U,?_⟩;rcases m with m|m
  ·exact .inl ⟨m,λl P=>q _ _ (aN.new P _) ⟨l,C,U,upd_same,J.fw S (Fw.new P)⟩⟩
  ·exact .inr ⟨SqT.of m,q _ H (aN.refl H) ⟨a,C,U,m,J⟩⟩
theorem gP (O:X.K=K:=by rfl):rq K X (.type "list") vX:=by
 subst O;refine⟨λst ws d h=>?_⟩
 match ws,h with
 |[w],h=>
  refine pf.imp ?_
  rintro A H Q ⟨φ,S,⟨v,r,rfl,j,rfl⟩,q⟩
  obtain⟨a,C,rfl,m,J⟩:=ig S j h;exact⟨a,C,U,m,λl P=>q l C H (aN.refl H) P J⟩
theorem tH {H:Hp}{φ:List Addr}:∀ {ds:List D}{A:List V},ds.all uU=true->Rls K H φ ds A->A=ds.map vOf/\∀ y∈A,dk y
 |[],_,_,h=>by cases h;exact⟨U,λ_ h=>nomatch h⟩
 |d::ds,_,h,r=>by
  rw[qbu,qaX]at h;obtain⟨v,vr,rfl,j,r2⟩:=r;obtain⟨e3,e4⟩:=tH h.2 r2;have hv:v=vOf d/\dk v:=by
   cases d with
   |non=>cases (j);exact⟨U,.inl U⟩
   |int i=>
    cases (j)
    have:=h.1
    simp[uU]at this;exact⟨U,.inr ⟨i,U,this.1,this.2⟩⟩
   |_=>cases h.1
  refine⟨by rw[hv.1,e3];rfl,λy T=>?_⟩;rcases qaz.mp T with z|z
  ·rw[z];exact hv.2
  ·exact e4 y z
theorem As {k:Nat} (Y:bh k X.A) (O:X.K=K:=by rfl):dJ K X (.builtin "repr") vk:=by
 refine⟨λst ws d h=>?_⟩
 match ws,h with
 |[.d (.int i)],h=>
  simp only[vk]at h;split at h
  ·rename_i P
   cases h;refine (yJ Y U).imp ?_
   rintro A H Q ⟨φ,S,⟨v,r,rfl,j,rfl⟩,q⟩
   exact .inl ⟨i,by rw[j],P,q _ H (aN.refl H) U⟩
  ·cases h
 |[.d (.tup ds)],h=>
  simp only[vk]at h;split at h
  ·rename_i P
   cases h;refine (yJ Y U).imp ?_
   rintro A H Q ⟨φ,S,⟨v,r,rfl,⟨a,C,rfl,m,J⟩,rfl⟩,q⟩
   obtain⟨e1,e2⟩:=tH P.1 J;exact .inr ⟨a,C,U,(SqT.of m),e2,by rw[<-J.length];exact P.2,q _ H (aN.refl H) (by rw[e1];rfl)⟩
  ·cases h
theorem eB {t c:String}{b:Bool} (N:t = "NoneType"\/t = "bool"\/t = "int"\/t = "str"\/t = "tuple"\/t = "list"\/t = "dict") (h:C2 t c=some b):qhn K (.type t) (.type c)=some b:=by
 unfold C2 at h;split at h
 ·rename_i hc
  subst hc;rcases N with rfl|rfl|rfl|rfl|rfl|rfl|rfl<;>(cases h;rfl)
 ·split at h
  ·rename_i _ hc
   rcases hc with rfl|rfl|rfl|rfl<;>rcases N with rfl|rfl|rfl|rfl|rfl|rfl|rfl<;>(cases h;rfl)
  ·cases h
theorem pv (O:X.K=K:=by rfl):dJ K X (.builtin "isinstance") lb:=by
 subst O;refine⟨λst ws d h=>?_⟩;unfold lb at h;split at h
 case h_2=>cases h
 rename_i w c;simp only[lb,qab,qad]at h;obtain⟨t,N,b,hb,rfl⟩:=h;intro pins s σ H xs C Q I rv q;obtain⟨φ,S,⟨v,r,rfl,j,u,r',rfl,r2,rfl⟩,q⟩:=q;cases (show u=.ty c from r2);obtain⟨vv,uu,rfl,B,rv2⟩:=rv.two;cases rv2;have fin:∀ tk,EP X pins σ Q (.bool b) { s with toks:=tk }:=λtk=>⟨.bl b,H,I.tok tk,U,q _ H (aN.refl H) U⟩;cases w with
 |h n=>
  obtain⟨a,ea,rfl⟩:=j;obtain⟨ds,eds,rfl⟩:=qad.mp N;obtain⟨A,hv,_⟩:=S.atl n a ds ea eds;exact bP I B (.lst hv) (eB (by simp) hb) fin
 |d x=>
  cases x with
  |non=>cases N;cases j;exact bP I B .non (eB (by simp) hb) fin
  |ob _ _=>cases N
  |bl x=>cases N;cases j;exact bP I B (.bl x) (eB (by simp) hb) fin
  |int x=>cases N;cases j;exact bP I B (.int x) (eB (by simp) hb) fin
  |str x=>cases N;cases j;exact bP I B (.str x) (eB (by simp) hb) fin
  |lst ds=>
   cases N;obtain⟨a,A,rfl,h0,m,J⟩:=j;rcases m with m|⟨o,m⟩
   ·exact bP I B (.lst m) (eB (by simp) hb) fin
   ·exact bP I B (.frz m) (eB (by simp) hb) fin
  |tup ds=>
   cases N;obtain⟨a,A,rfl,m,J⟩:=j;cases B;obtain⟨its,_,p,_⟩:=I.tuple (SqT.of m);obtain⟨o,e1,e2,_⟩:=p;exact qbM qgD I.kIn ⟨o,e1,e2⟩ (eB (by simp) hb) (λz=>nomatch z) fin
  |dct=>
   cases N;obtain⟨a,rfl,_,m⟩:=j;rcases m with⟨d,m⟩|⟨d,m⟩
   ·exact bP I B (.dK m) (eB (by simp) hb) fin
   ·exact bP I B (.dT m) (eB (by simp) hb) fin
  |ty x=>cases N
  |scr x=>cases N
variable {e a b:Expr}{es:List Expr}{pos:Pos}{f fa fb:Ef}{af:Af}
theorem vL {x:Str}{c:String} (hg:Gl X x) (hm:X.mg x=none) (hv:qb9 x=some (.type c)) (hn:x≠"__name__":=by decide) (hd:(x==("__debug__" : Str))=false:=by decide):IE K X (.Name x pos) (iC (.ty c)):=
 yC (v:=.ty c) (Bi hg hm hv U hn hd) λ_ _=>rfl
def cR (g:List D->List W->Option (D×List D)) (o:Ef) (a:Af):Ef
 |env,st=>(o env st).bind λx=>(a env x.2).bind λr=>match x.1 with
 |.h n=>(lg x.2 n).bind λ_=>(lg r.2 n).bind λds=>(g ds r.1).map λy=>(.d y.1,r.2.set n (.l y.2))
 |_=>none
def de (ds:List D):List W->Option (D×List D)
 |[.d x]=>if ds.length<1000000 then some (.non,ds++[x]) else none
 |_=>none
theorem uw {name:Str}{id:String}{E:Pos}{rr:V->List V->Hp->VK->Prop}{g:List D->List W->Option (D×List D)} (slot:Slot "list" name id) (hty:typeOf (.builtin id)=pure (.type "method_descriptor")) (hm:MtR X id rr)
  (hg:∀ (H:Hp) (φ:List Addr) (st:Sto) (n:Nat) (ad:Addr) (ds:List D) (A:List V) (ws:List W) (C:List V) (y:D×List D) (Q:VK),Sr K H φ st->φ[n]?=some ad->lg st n=some ds->H ad=some (.lst A)->Rls K H φ ds A->Rws K H φ ws C->g ds ws=some y->
    (∀ v vs',Rl K H φ y.1 v->Rls K H φ y.2 vs'->(∀ b,v≠.ref b)->Q v (upd H ad (.lst vs')))->rr (.ref ad) C H Q)
  (hfl:∀ ds ws y,g ds ws=some y->bG y.1=true)
  (ho:IE K X a fa) (ha:IA K X (e::es) af) (G:qct a name X.env (eval a X.env)=eval a X.env:=by rfl)
  (F:(e::es).all au=true:=by rfl) (L:(e::es).length<30:=by decide) (M:(E.endLine==pos.line)=true:=by rfl) (O:X.K=K:=by rfl) :
  IE K X (.Call (.Attribute a name E) (e::es) [] pos) (cR g fa af):=by
 have R:=by rw[qbu,qaX]at F;exact F
 refine⟨λenv st r Y=>?_⟩;simp only[cR,qab]at Y;obtain⟨⟨x,s1⟩,hx,⟨ws,s2⟩,hw,Y⟩:=Y;cases x with
 |d x=>cases Y
 |h n=>
  simp only[qab,qad]at Y;obtain⟨ds1,hds1,ds,hds,y,T,rfl⟩:=Y;refine (zc qd0 slot hty hm (ho.run _ _ _ hx) (ha.run _ _ _ hw) G (nO F L) M (aL R.1) (a9 R.2)).imp ?_
  rintro σ H Q ⟨φ,hE,hS,q⟩
  refine⟨φ,hE,hS,λv H1 φ1 f1 S1 w1=>?_⟩;obtain⟨ad,ea,rfl⟩:=w1;obtain⟨vs1,hv1,_⟩:=S1.atl n ad _ ea hds1;refine⟨.inl ⟨U,vs1,SqL.of hv1⟩,φ1,hE.fw hS f1,S1,λC H2 φ2 f2 S2 w2=>?_⟩;have ea2:=f2.get ea;obtain⟨vs2,hv2,rl2⟩:=S2.atl n ad ds ea2 hds;refine hg H2 φ2 s2 n ad ds vs2 ws C y _ S2 ea2 hds hv2 rl2 w2 T λv vs' j r2 hb=>?_;obtain⟨f3,S3⟩:=S2.put ea2 r2;exact q v _ φ2 ((f1.trans f2).trans f3) S3 (j.fw S2 f3)
theorem gR {E:Pos} (ho:IE K X a fa) (ha:IA K X (e::es) af) (G:qct a "append" X.env (eval a X.env)=eval a X.env:=by rfl)
  (F:(e::es).all au=true:=by rfl) (L:(e::es).length<30:=by decide) (M:(E.endLine==pos.line)=true:=by rfl) (O:X.K=K:=by rfl) :
  IE K X (.Call (.Attribute a "append" E) (e::es) [] pos) (cR de fa af):=by
 refine uw PySem.F.slot_list_append PySem.F.type_list_append xF (λH φ st n ad ds A ws C y Q S ea eds hv rl rw T q=>?_) (λds ws y h=>?_) ho ha G F L M O
 ·match ws,T with
  |[.d x],T=>
   simp only[de]at T;split at T
   ·rename_i P
    cases T;obtain⟨v,r,rfl,j,rfl⟩:=rw;exact⟨ad,A,v,U,U,hv,by rw[<-rl.length];exact qaN P mil,q _ _ U (rl.append ⟨v,_,U,j,U⟩) (λb z=>nomatch z)⟩
   ·cases T
 ·match ws,h with
  |[.d x],h=>
   simp only[de]at h;split at h
   ·cases h;rfl
   ·cases h
end
section
variable {K:qae}{X:Cx}{e a b:Expr}{es:List Expr}{pos:Pos}{f fa fb:Ef}{R:Af}
theorem lJ {i j:Nat}{x y:Str}{px py pt:Pos}{kt k2 pt2}
  (h:∀ ta,PA X [a,b] ta->PS X (.Assign [.Tuple [.Name x px,.Name y py] kt pt] (.Tuple [a,b] k2 pt2) pos) (FN i j ta)) (N:IA K X [a,b] R) :
  IS K X (.Assign [.Tuple [.Name x px,.Name y py] kt pt] (.Tuple [a,b] k2 pt2) pos) (sC i j R):=by
 refine⟨λenv st r l=>?_⟩;simp only[sC,qab]at l;obtain⟨⟨ws,s1⟩,O,l⟩:=l;dsimp only at l;split at l
 case h_2=>cases l
 rename_i x y;cases l;refine (h _ (N.run _ _ _ O)).imp ?_
 rintro D σ H ⟨φ,F,A,q⟩
 refine⟨φ,F,A,λvs H1 w C s1 M=>?_⟩;obtain⟨v,r,rfl,r1,u,r',rfl,J,r3⟩:=M;cases r3;exact⟨v,u,U,q _ H1 w C (((F.fw A C).set i r1).set j J) s1⟩
def rL (K:qae) (st:Sto) (x y:W) (ds:List D):R2:=λvx P H Q=>∃ φ,Sr K H φ st/\Rw K H φ x vx/\Rw K H φ y P/\∀ p s,H p=none->Rls K H φ ds s->Q (.ref p) (upd H p (.lst s))
structure OpL (K:qae) (X:Cx) (f:Value->Value->Sem Value) (g:Sto->W->W->Option (List D)):Prop where
 run:∀ st x y d,g st x y=some d->OpR X f (rL K st x y d)
def sB (g:Sto->W->W->Option (List D)) (a b:Ef):Lf
 |env,st=>(a env st).bind λx=>(b env x.2).bind λy=>(g y.2 x.1 y.1).map λd=>(d,y.2)
theorem vO {op:Operator}{g:Sto->W->W->Option (List D)} (ho:OpL K X (qbE op) g) (N:IE K X a fa) (hb:IE K X b fb):IL K X (.BinOp a op b pos) (sB g fa fb):=by
 refine⟨λenv st r l=>?_⟩;simp only[sB,qab,qad]at l;obtain⟨x,hx,y,O,d,hd,rfl⟩:=l;refine (Cf (ho.run _ _ _ _ hd) (N.run _ _ _ hx) (hb.run _ _ _ O)).imp ?_
 rintro σ H Q ⟨φ,F,A,q⟩
 exact⟨φ,F,A,λv H1 w C s1 M=>⟨w,F.fw A C,s1,λu H2 G T Y w2=>⟨G,Y,M.fw s1 T,w2,λp s L r=>q p s H2 G (C.trans T) Y L r⟩⟩⟩
def m6 (_:Sto):W->W->Option (List D)
 |.d (.lst a),.d (.int k)=>if a.length<=1000/\-1000<=k/\k<1000 then some (qaD k.toNat a).flatten else none
 |_,_=>none
theorem qN:OpL K X (qbE .Mult) m6:=by
 refine⟨λst x y d h=>?_⟩
 match x,y,h with
 |.d (.lst as),.d (.int k),h=>
  simp only[m6]at h;split at h
  ·rename_i hl
   cases h;refine wj.imp ?_
   rintro vx P H Q ⟨φ,S,⟨a,s,rfl,h0,E,B⟩,J,q⟩
   refine⟨a,k,s,U,J,E,by lia,by lia,?_,λp L=>q p _ L (B.rep _)⟩;rw[<-B.length]
   have:as.length*k.toNat<=1000*1000:=qc3 hl.1 (by lia)
   exact qaH this mil
  ·cases h
def ux (x:Int):List Int->List Int
 |[]=>[x]
 |y::c=>if x<=y then x::y::c else y::ux x c
def qk:List Int->List Int
 |[]=>[]
 |x::xs=>ux x (qk xs)
theorem ke (x:Int):∀ c,(ux x c).Perm (x::c)
 |[]=>qdm _
 |y::c=>by
  unfold ux;split
  ·exact qdm _
  ·exact (List.Perm.cons y (ke x c)).trans (List.Perm.swap x y c)
theorem kN:∀ xs,(qk xs).Perm xs
 |[]=>qdm _
 |x::xs=>(ke x _).trans (List.Perm.cons x (kN xs))
theorem kL (x:Int):∀ {c:List Int},c.Pairwise (·<=·)->(ux x c).Pairwise (·<=·)
 |[],_=>by simp[ux]
 |y::c,h=>by
  unfold ux;split
  ·rename_i I
   refine qa4.mpr ⟨λz hz=>?_,h⟩;rcases qaz.mp hz with rfl|hz
   ·exact I
   ·exact qeA I ((qa4.mp h).1 z hz)
  ·refine qa4.mpr ⟨λz hz=>?_,kL x (qa4.mp h).2⟩
   rcases qaz.mp ((ke x c).mem_iff.mp hz) with rfl|hz
   ·lia
   ·exact (qa4.mp h).1 z hz
theorem iG:∀ xs,(qk xs).Pairwise (·<=·)
 |[]=>List.Pairwise.nil
 |x::xs=>kL x (iG xs)
theorem tX {xs c:List Int} (p:xs.Perm c) (E:xs.Pairwise (·<=·)) (B:c.Pairwise (·<=·)):xs=c:=
 qfv (λa b _ _ E B=>Int.le_antisymm E B) E B p
theorem jT:∀ {ns:List Int}{s:List Value},qdy s ns->aF (ns.map V.int) s
 |_,_,.nil=>.nil
 |_,_,.cons n t h=>.cons ⟨t,U⟩ (jT h)
theorem BN {H:Hp}{ad:Addr}{ns:List Int}{m:Fn} (hO:Ak H) (A:SqL K H ad (ns.map V.int)) (h:∃ st,m [.d (.scr ns)] []=some (.d (.bl true),st)):spI K m [.ref ad] H (λv _=>v=.bl true) λ_ _ _=>False:=by
 obtain⟨st,h⟩:=h;refine⟨_,_,_,_,h,⟨_,_,U,⟨ad,U,?_⟩,U⟩,⟨qcX,U,λn a ds e=>by simp at e⟩,λv H' φ' _ _ r=>r⟩;rcases A with (h|h)|h
 ·rcases hO ad with z|⟨o,xs,z⟩
  ·rw[h]at z;cases z
  ·rw[h]at z;cases z
 ·exact .inl h
 ·exact .inr h
end
end L2
namespace L2
open PySem
theorem a5 {g:Tg}{body:Sf}:∀ {ds:List D} (Pv:Nat->Ev->Sto->Prop) {env:Ev}{st:Sto},Pv 0 env st->
  (∀ i d env st,ds[i]?=some d->Pv i env st->∃ e1 e2 c,cw g (.d d) env=some e1/\(body e1 st=some (.nx e2 c)\/body e1 st=some (.ct e2 c))/\Pv (i+1) e2 c)->
  ∃ a b,b4 g body ds env st=some (.nx a b)/\Pv ds.length a b
 |[],Pv,env,st,f,_=>⟨env,st,U,f⟩
 |d::ds,Pv,env,st,f,h=>by
  obtain⟨e1,e2,c,k,e,o⟩:=h 0 d env st U f;obtain⟨l,s',j,n⟩:=a5 _ o λi m a b hd p=>h (i+1) m a b (by simpa using hd) p;refine⟨l,s',?_,n⟩;unfold b4;rw[k,qaa];rcases e with e|e<;>(rw[e];exact j)
theorem jC {g:Tg}{tt:Tf}{te:Ef}{env:Ev}{st:Sto} (p:D->Bool) (F:D->D):∀ {ds:List D},(∀ d∈ds,∃ e1,cw g (.d d) env=some e1/\tt e1 st=some (p d,st)/\(p d=true->te e1 st=some (.d (F d),st)))->
  lcI g tt te env ds st=some ((ds.filter p).map F,st)
 |[],_=>rfl
 |d::ds,h=>by
  obtain⟨e1,b,c,e⟩:=h d qag;have a:=jC p F λx hx=>h x (qah _ hx);unfold lcI;rw[b,qaa,c,qaa];cases hp:p d with
  |true=>rw[e hp,qaa,a,qbI,hp];rfl
  |false=>rw[a,qbI,hp];rfl
theorem qw {g:Tg}{te:Ef}{env:Ev}{st:Sto} (F:D->D) {ds:List D} (h:∀ d∈ds,∃ e1,cw g (.d d) env=some e1/\te e1 st=some (.d (F d),st)):lcI g aP te env ds st=some (ds.map F,st):=by
 have:=jC (tt:=aP) _ F λd hd=>by
  obtain⟨e1,a,b⟩:=h d hd;exact⟨e1,a,U,λ_=>b⟩
 rw[this,qeJ.mpr λ_ _=>rfl]
theorem dY {a b:Int} (h:-(2^64)<a/\a<2^64):qbP a b:=Ai.ok (.inl h)
theorem dZ {a b:Int} (h:-(2^64)<b/\b<2^64):qbP a b:=Ai.ok (.inr h)
theorem CH {α:Type} (a:α) (l:List α):atI (a::l) 0=some a:=cK U
theorem Gf (n:Nat):ixN (n+1) 0=some 0:=dR (by lia)
theorem qW {n i:Nat}{d:D} (h:(cU 0 n)[i]?=some d):d=.int (i:Int)/\i<n:=by
 rw[tQ]at h;by_cases hi:i<n
 ·rw[iFP hi]at h
  cases h;exact⟨by rw[qcj],hi⟩
 ·rw[iFN hi]at h;cases h
end L2
namespace L2
open PySem PySem.Spec PyProof.Rows
def Ew:Nat->Nat->StateT qbX Sem (Option Nat):=sortPriv% PySem.Builtin.countRun
def CJ:Nat->Nat->Nat->StateT qbX Sem Bool:=sortPriv% PySem.Builtin.binarySort
def Cm (prog:qaO) (w:World) (A:qa0) (s:qak) (a:qdg) (O:qff) (rk:Keyed->O.α) (S:Keyed->Prop):Prop:=
 ∀ x y,S x->S y->∀ (Q:Bool->qak->Prop) (E:Value->qak->Prop),Q (O.blt (rk x) (rk y)) s->wpAny (model prog w) A (keyLt' a x.1 y.1) Q E s
section
variable {prog:qaO}{w:World}{A:qa0}{E:Value->qak->Prop}{s:qak}{κ:qdg}{O:qff}{rk:Keyed->O.α}{S:Keyed->Prop}
theorem FU (z:Cm prog w A s κ O rk S) {x y:Keyed}{st:qbX}{Q:Option Bool->qbX->Prop} (q:kindOf st=κ) (hx:S x) (D:S y) (h:Q (some (O.blt (rk x) (rk y))) st) :
  wpS (model prog w) A E s (lt' x y) Q st:=by
 rw[lt'_eq];refine qby (qg4 ?_);rw[q];exact qby (wpS_lift (qev (z x y hx D _ _ ⟨U,qb6 h⟩)))
theorem kX {c:Prop} [Decidable c] {M:Model}{A':qa0}{E':Value->qak->Prop}{s':qak}{α:Type}{a b:StateT qbX Sem α}{Q:α->qbX->Prop}{st:qbX} (h:c) (k:wpS M A' E' s' a Q st):wpS M A' E' s' (if c then a else b) Q st:=by rw[iFP h];exact k
theorem oT {c:Prop} [Decidable c] {M:Model}{A':qa0}{E':Value->qak->Prop}{s':qak}{α:Type}{a b:StateT qbX Sem α}{Q:α->qbX->Prop}{st:qbX} (h:¬ c) (k:wpS M A' E' s' b Q st):wpS M A' E' s' (if c then a else b) Q st:=by rw[iFN h];exact k
theorem wL {f:Array Keyed}{i:Nat}{x:Keyed}{st:qbX}{Q:Keyed->qbX->Prop} (hi:f[i]?=some x) (h:Q x st):wpS (model prog w) A E s (elem' f i) Q st:=by
 rw[elem'_eq,hi];exact qb6 h
theorem wM {t:String}{st:qbX}{Q:Unit->qbX->Prop} (h:Q () st):wpS (model prog w) A E s (liftM (rule t):StateT qbX Sem Unit) Q st:=wpS_lift (qdT ⟨U,h⟩)
def kyd (f:Array Keyed) (i:Nat):Keyed:=(f[i]?).getD (.none,.none)
theorem mZ {f:Array Keyed}{i:Nat} (h:i<f.size):f[i]?=some (kyd f i):=by
 unfold kyd;simp[h]
theorem eQ {a b:Array Keyed}{i j:Nat} (h:a[i]?=b[j]?):kyd a i=kyd b j:=by
 unfold kyd;rw[h]
theorem B0 (z:Cm prog w A s κ O rk S) {i j:Nat}{st:qbX}{Q:Option Bool->qbX->Prop} (q:kindOf st=κ) (hi:i<(arrOf st).size) (l:j<(arrOf st).size) (hx:S (kyd (arrOf st) i)) (D:S (kyd (arrOf st) j))
  (h:Q (some (O.blt (rk (kyd (arrOf st) i)) (rk (kyd (arrOf st) j)))) st):wpS (model prog w) A E s (ltAt' i j) Q st:=by
 refine qby (qg4 ?_);exact qby (wL (mZ hi) (qby (wL (mZ l) (FU z q hx D h))))
structure SB (κ:qdg) (a0:Array Keyed) (lo:Nat) (p0:Array (Nat×Nat×Nat)) (g0:Nat) (st:qbX):Prop where
 perm:(arrOf st).Perm a0
 pre:∀ k,k<lo->(arrOf st)[k]?=a0[k]?
 kind:kindOf st=κ
 fail:qha st=none
 pend:qeP st=p0
 gal:qh8 st=g0
variable {a0:Array Keyed}{lo:Nat}{p0:Array (Nat×Nat×Nat)}{g0:Nat}{st:qbX}
theorem SB.size (h:SB κ a0 lo p0 g0 st):(arrOf st).size=a0.size:=h.perm.size_eq
theorem SB.mem (h:SB κ a0 lo p0 g0 st) (C:∀ x∈a0.toList,S x) {i:Nat} (hi:i<a0.size):S (kyd (arrOf st) i):=by
 have m:i<(arrOf st).size:=by rw[h.size];exact hi
 refine C _ ((qfT.mp h.perm).mem_iff.mp ?_);have e:=mZ m;rw[qbQ m]at e;rw[<-qaL e];exact Array.getElem_mem_toList m
theorem SB.set (h:SB κ a0 lo p0 g0 st) {xs:Array Keyed} (I:xs.Perm (arrOf st)) (B:∀ k,k<lo->xs[k]?=(arrOf st)[k]?):SB κ a0 lo p0 g0 (setArr st xs):=
 ⟨I.trans h.perm,λk q=>(B k q).trans (h.pre k q),h.kind,h.fail,h.pend,h.gal⟩
theorem wK (z:Cm prog w A s κ O rk S) (C:∀ x∈a0.toList,S x) (p:SB κ a0 lo p0 g0 st) {i j:Nat}{Q:Option Bool->qbX->Prop} (hi:i<a0.size) (l:j<a0.size)
  (h:Q (some (O.blt (rk (kyd (arrOf st) i)) (rk (kyd (arrOf st) j)))) st):wpS (model prog w) A E s (ltAt' i j) Q st:=
 B0 z p.kind (by rw[p.size];exact hi) (by rw[p.size];exact l) (p.mem C hi) (p.mem C l) h
def Up (rk:Keyed->O.α) (f:Array Keyed) (lo n:Nat):Prop:=∀ i j,lo<=i->i<=j->j<lo+n->O.kle (rk (kyd f i)) (rk (kyd f j))
def ij (rk:Keyed->O.α) (f:Array Keyed) (lo n:Nat):Prop:=∀ i j,lo<=i->i<=j->j<lo+n->O.kle (rk (kyd f j)) (rk (kyd f i))
theorem iW {xs:Array Keyed}{i j:Nat} (l:j<=xs.size) (k:Nat):kyd (qjD xs i j ((j - i) / 2)) k=if i<=k/\k<j then kyd xs (i+j - 1 - k) else kyd xs k:=by
 have e:=qhU (i:=i) l k;by_cases u:i<=k/\k<j
 ·rw[iFP u]at e ⊢;exact eQ e
 ·rw[iFN u]at e ⊢;exact eQ e
theorem m4 {xs:Array Keyed}{g d:Nat} (J:g<xs.size) (hd:d<=g) (k:Nat) :
  kyd (bubble xs g d) k=if k=g - d then kyd xs g else if g - d<k/\k<=g then kyd xs (k - 1) else kyd xs k:=by
 have e:=qjG J d hd k;by_cases u:k=g - d
 ·rw[iFP u]at e ⊢;exact eQ e
 ·rw[iFN u]at e ⊢
  by_cases G:g - d<k/\k<=g
  ·rw[iFP G]at e ⊢;exact eQ e
  ·rw[iFN G]at e ⊢;exact eQ e
theorem SB.rev (p:SB κ a0 lo p0 g0 st) {i j:Nat} (hi:lo<=i) (l:j<=a0.size):SB κ a0 lo p0 g0 (setArr st (qjD (arrOf st) i j ((j - i) / 2))):=
 p.set (mirror_perm _ _ _ _) λk q=>by
  rw[qhU (by rw[p.size];exact l),iFN (by lia)]
theorem gG {xs:Array Keyed}{i j:Nat} (l:j<=xs.size) (F:∀ k,i<=k->k<j->rk (kyd xs k)=rk (kyd xs (j - 1))) (k:Nat):rk (kyd (qjD xs i j ((j - i) / 2)) k)=rk (kyd xs k):=by
 rw[iW l];split
 ·rw[F _ (by lia) (by lia),F k (by lia) (by lia)]
 ·rfl
theorem rn {i j:Nat}{Q:Unit->qbX->Prop} (h:Q () (setArr st (qjD (arrOf st) i j ((j - i) / 2)))):wpS (model prog w) A E s (reverseSlice' i j) Q st:=by
 exact qgS h
theorem Up.more {f:Array Keyed}{n:Nat} (h:Up rk f lo n) (u:1<=n) (B:O.kle (rk (kyd f (lo+n - 1))) (rk (kyd f (lo+n)))):Up rk f lo (n+1):=by
 intro i j hi o l;by_cases r:j<lo+n
 ·exact h i j hi o r
 ·have v:j=lo+n:=by lia
  subst v;by_cases m:i=lo+n
  ·subst m;exact qcM _
  ·exact qdA (h i _ hi (by lia) (by lia)) B
theorem ij.more {f:Array Keyed}{n:Nat} (h:ij rk f lo n) (u:1<=n) (B:O.kle (rk (kyd f (lo+n))) (rk (kyd f (lo+n - 1)))):ij rk f lo (n+1):=by
 intro i j hi o l;by_cases r:j<lo+n
 ·exact h i j hi o r
 ·have v:j=lo+n:=by lia
  subst v;by_cases m:i=lo+n
  ·subst m;exact qcM _
  ·exact qdA B (h i _ hi (by lia) (by lia))
theorem Up.one {f:Array Keyed}:Up rk f lo 1:=λi j hi o l=>by
 have:i=j:=by lia
 subst this;exact qcM _
theorem ij.congr {xs H:Array Keyed}{n:Nat} (h:ij rk xs lo n) (e:∀ k,rk (kyd H k)=rk (kyd xs k)):ij rk H lo n:=λi j hi o l=>by
 rw[e,e];exact h i j hi o l
end
section
variable {prog:qaO}{w:World}{A:qa0}{E:Value->qak->Prop}{s:qak}{G:qdg}{O:qff}{rk:Keyed->O.α}{S:Keyed->Prop}
variable {a0:Array Keyed}{lo:Nat}{L:Array (Nat×Nat×Nat)}{K:Nat}{st:qbX}
theorem Ad {o b:Nat}{f:Nat->Option (Option Nat)×Nat->StateT qbX Sem (ForInStep (Option (Option Nat)×Nat))}{Q:Option (Option Nat)×Nat->qbX->Prop}
  (hf:∀ x n (Q':ForInStep (Option (Option Nat)×Nat)->qbX->Prop),1<=n->n < b->(O.blt (rk (kyd (arrOf st) (lo+n))) (rk (kyd (arrOf st) (lo+n - 1)))=true->Q' (.done (none,n)) st)->
    (O.blt (rk (kyd (arrOf st) (lo+n))) (rk (kyd (arrOf st) (lo+n - 1)))=false->Q' (.yield (none,n+1)) st)->wpS (model prog w) A E s (f x (none,n)) Q' st)
  (M:1<=o) (hn:o<=b) (T:Up rk (arrOf st) lo o)
  (h:∀ n,o<=n->n<=b->Up rk (arrOf st) lo n->(n=b\/O.klt (rk (kyd (arrOf st) (lo+n))) (rk (kyd (arrOf st) (lo+n - 1))))->Q (none,n) st):wpS (model prog w) A E s (forIn [o:b] (none,o) f) Q st:=by
 refine qea (I:=λx c a=>a=st/\c=(none,x)/\Up rk _ lo x) ?_ ?_ ⟨U,U,T⟩
 ·rintro x c a hx X ⟨rfl,rfl,y⟩
  exact hf x x _ (by lia) X (λl=>h x hx (by lia) y (.inr l)) λl=>⟨U,U,y.more (by lia) l⟩
 ·rintro c a ⟨rfl,rfl,y⟩
  rw[show max o b=b by lia]at y ⊢;exact h b hn (qao _) y (.inl U)
def Eqs (rk:Keyed->O.α) (D:Array Keyed) (lo m q:Nat):Prop:=q+1<=m/\∀ i,lo+m - (q+1)<=i->i<lo+m->rk (kyd D i)=rk (kyd D (lo+m - 1))
theorem BZ {o b:Nat}{f:Nat->Option (Option Nat)×Nat×Nat->StateT qbX Sem (ForInStep (Option (Option Nat)×Nat×Nat))}{Q:Option (Option Nat)×Nat×Nat->qbX->Prop}
  (hf:∀ x n q a (Q':ForInStep (Option (Option Nat)×Nat×Nat)->qbX->Prop),1<=n->n < b->SB G a0 lo L K a->
    (O.blt (rk (kyd (arrOf a) (lo+n))) (rk (kyd (arrOf a) (lo+n - 1)))=true->0<q->Q' (.yield (none,n+1,0)) (setArr a (qjD (arrOf a) (lo+n - (q+1)) (lo+n) ((lo+n - (lo+n - (q+1))) / 2))))->
    (O.blt (rk (kyd (arrOf a) (lo+n))) (rk (kyd (arrOf a) (lo+n - 1)))=true->q=0->Q' (.yield (none,n+1,0)) a)->
    (O.blt (rk (kyd (arrOf a) (lo+n - 1))) (rk (kyd (arrOf a) (lo+n)))=true->Q' (.done (none,n,q)) a)->
    (O.blt (rk (kyd (arrOf a) (lo+n))) (rk (kyd (arrOf a) (lo+n - 1)))=false->O.blt (rk (kyd (arrOf a) (lo+n - 1))) (rk (kyd (arrOf a) (lo+n)))=false->Q' (.yield (none,n+1,q+1)) a)->
    wpS (model prog w) A E s (f x (none,n,q)) Q' a)
  (M:1<=o) (hn:o<=b) (hz:lo+b<=a0.size) (t:SB G a0 lo L K st) (hd:ij rk (arrOf st) lo o)
  (h:∀ n q a,o<=n->n<=b->SB G a0 lo L K a->ij rk (arrOf a) lo n->Eqs rk (arrOf a) lo n q->Q (none,n,q) a):wpS (model prog w) A E s (forIn [o:b] (none,o,0) f) Q st:=by
 have one:∀ (D:Array Keyed) m,1<=m->Eqs rk D lo m 0:=λD m hm=>⟨by lia,λi M h2=>by rw[show i=lo+m - 1 by lia]⟩;refine qea (I:=λx c a=>∃ q,c=(none,x,q)/\SB G a0 lo L K a/\ij rk (arrOf a) lo x/\Eqs rk (arrOf a) lo x q) ?_ ?_ ⟨0,U,t,hd,one _ _ M⟩
 ·rintro x c a hx X ⟨q,rfl,e,y,B⟩
  have H:lo+x<=(arrOf a).size:=by rw[e.size];lia
  refine hf x x q a _ (by lia) X e (λl J=>?_) (λl J=>?_) (λl=>h x q a hx (by lia) e y B) λl P=>?_
  ·exact⟨0,U,e.rev (by have:=B.1;lia) (by lia),ij.congr (y.more (by lia) (qdo l)) (gG (rk:=rk) (xs:=arrOf a) (j:=lo+x) H B.2),one _ _ (by lia)⟩
  ·exact⟨0,U,e,y.more (by lia) (qdo l),one _ _ (by lia)⟩
  ·have eq:=qgF P l
   refine⟨_,U,e,y.more (by lia) (by rw[eq];exact qcM _),by have:=B.1;lia,λi M h2=>?_⟩;rw[show lo+_ - 1=lo+x by lia,eq];by_cases hi:i=lo+x
   ·rw[hi,eq]
   ·exact B.2 i (by lia) (by lia)
 ·rintro c a ⟨q,rfl,e,y,B⟩
  rw[show max o b=b by lia]at y B ⊢;exact h b q a hn (qao _) e y B
theorem Ee {m b:Nat}{f:Nat->Option (Option Nat)×Nat->StateT qbX Sem (ForInStep (Option (Option Nat)×Nat))}{k:Option (Option Nat)×Nat->StateT qbX Sem (Option Nat)}{Q:Option Nat->qbX->Prop}
  (t:SB G a0 lo L K st) (hd:ij rk (arrOf st) lo m) (M:1<=m) (hm:m<=b) (hz:lo+b<=a0.size)
  (hf:∀ x n (Q':ForInStep (Option (Option Nat)×Nat)->qbX->Prop) d,SB G a0 lo L K d->1<=n->n < b->(O.blt (rk (kyd (arrOf d) (lo+n))) (rk (kyd (arrOf d) (lo+n - 1)))=true->Q' (.done (none,n)) d)->
    (O.blt (rk (kyd (arrOf d) (lo+n))) (rk (kyd (arrOf d) (lo+n - 1)))=false->Q' (.yield (none,n+1)) d)->wpS (model prog w) A E s (f x (none,n)) Q' d)
  (hk:∀ n d,SB G a0 lo L K d->1<=n->n<=b->Up rk (arrOf d) lo n->wpS (model prog w) A E s (k (none,n)) Q d) :
  wpS (model prog w) A E s (do reverseSlice' lo (lo+m);let r <-forIn [m:b] (none,m) f;k r) Q st:=by
 refine qby (rn ?_);have u:=t.rev (j:=lo+m) (qao _) (by lia);refine qby (Ad (λx n Q' z v hy C=>hf x n Q' _ u z v hy C) M hm ?_ λn' V F hu' _=>hk n' _ u (by lia) F hu');intro i j hi hij hj;have hs3:lo+m<=(arrOf st).size:=by rw[t.size];lia
 rw[iW hs3,iW hs3,iFP (by lia),iFP (by lia)];exact hd _ _ (by lia) (by lia) (by lia)
set_option maxHeartbeats 1000000 in
theorem BY (hC:Cm prog w A s G O rk S) (hS:∀ x∈a0.toList,S x) {b:Nat}{Q:Option Nat->qbX->Prop} (t:SB G a0 lo L K st) (M:1<=b) (hz:lo+b<=a0.size)
  (h:∀ m a,SB G a0 lo L K a->1<=m->m<=b->Up rk (arrOf a) lo m->Q (some m) a):wpS (model prog w) A E s (Ew lo b) Q st:=by
 have Y:∀ a (_:SB G a0 lo L K a) n (Q':Option Bool->qbX->Prop),1<=n->n<b->Q' _ a->
   wpS (model prog w) A E s (ltAt' (lo+n) (lo+n - 1)) Q' a:=λa e n Q' M h2 J=>wK hC hS e (by lia) (by lia) J
 refine qby (Ad (rk:=rk) (lo:=lo) (λx n Q' z v hy C=>?_) (qao 1) M Up.one λn z v T W=>?_)
 ·refine qby (Y st t n _ z v ?_)
  cases l:O.blt (rk (kyd (arrOf st) (lo+n))) _ with
  |true=>exact qb6 (hy l)
  |false=>exact qb6 (C l)
 dsimp only;by_cases hnn:n=b
 ·refine kX (by simpa using hnn) ?_
  exact qb6 (h n st t z v T)
 refine oT (by simpa using hnn) ?_;have R:=W.resolve_left hnn;have hn3:n+1<=b:=by lia
 have H:lo+n<=(arrOf st).size:=by rw[t.size];lia
 by_cases hgt:n > 1
 case' pos=>
  refine kX hgt ?_;refine qby (wK hC hS t (by lia) (by lia) ?_);by_cases g:O.blt (rk (kyd (arrOf st) lo)) (rk (kyd (arrOf st) (lo+n - 1)))=true
  ·rw[g];exact qb6 (h n st t z v T)
  rw[qeh]at g;rw[g];have p:=λk hk1 hk2=>
   qgF (T k (lo+n - 1) hk1 (by lia) (by lia)) (qdA g (T lo k (by lia) hk1 hk2))
  refine qby (rn ?_);have N:=t.rev (i:=lo) (j:=lo+n) (qao _) (by lia);have hd:=by
   refine ij.congr (xs:=arrOf st) (ij.more (λi j hi hij hj=>?_) (by lia) (qdo R)) (gG H p);rw[p i hi (by lia),p j (by lia) hj];exact qcM _
  clear T R g p t H W
 case' neg=>
  refine oT hgt ?_;have N:=t;have hd:ij rk (arrOf st) lo (n+1):=by
   refine ij.more (λi j hi hij hj=>?_) (by lia) (qdo R);rw[show i=j by lia];exact qcM _
  clear T R t H W
  revert N hd
  generalize st=st2;intro N hd
 all_goals
  refine qby (wM ?_);refine qby (BZ (λx m q a Q' hm1 hm2 e c1 c2 c3 c4=>?_) (by lia) hn3 hz N hd λm q a hm1 hm2 e hd' B=>?_)
  ·refine qby (Y a e m _ hm1 hm2 ?_)
   cases l:O.blt (rk (kyd (arrOf a) (lo+m))) _ with
   |true=>
    dsimp only;refine kX U ?_;by_cases J:q > 0
    ·rw[iFP J];exact qby (rn (qb6 (c1 l J)))
    ·rw[iFN J];exact qb6 (c2 l (by lia))
   |false=>
    dsimp only;refine qby (wK hC hS e (by lia) (by lia) ?_);cases P:O.blt _ (rk (kyd (arrOf a) (lo+m))) with
    |true=>exact qb6 (c3 P)
    |false=>exact qb6 (c4 l P)
  have hsz':lo+m<=(arrOf a).size:=by rw[e.size];lia
  dsimp only;by_cases J:q > 0
  case' pos=>
   refine kX J ?_;refine qby (rn ?_);have hB3:=e.rev (i:=lo+m - (q+1)) (j:=lo+m) (by have:=B.1;lia) (by lia);have hd3:=ij.congr hd' (gG hsz' B.2)
  case' neg=>
   refine oT J ?_;have hB3:=e;have hd3:=hd'
  all_goals
   refine Ee hB3 hd3 (by lia) hm2 hz (λx n' Q' d u V F hy C=>?_) λn' d u a1 a2 a3=>qb6 (h n' d u a1 a2 a3);refine qby (Y d u n' _ V F ?_);cases l:O.blt (rk (kyd (arrOf d) (lo+n'))) _ with
   |true=>exact qb6 (hy l)
   |false=>exact qb6 (C l)
end
section
variable {prog:qaO}{w:World}{A:qa0}{E:Value->qak->Prop}{s:qak}{y:qdg}{O:qff}{rk:Keyed->O.α}{S:Keyed->Prop}
variable {a0:Array Keyed}{lo:Nat}{C:Array (Nat×Nat×Nat)}{B:Nat}{st:qbX}
set_option maxHeartbeats 1000000 in
theorem Ae (K:Cm prog w A s y O rk S) (L:∀ x∈a0.toList,S x) {n ok:Nat}{Q:Bool->qbX->Prop} (M:SB y a0 lo C B st) (u:1<=ok) (hok:ok<=n) (hz:lo+n<=a0.size) (H:Up rk (arrOf st) lo ok)
  (h:∀ a,SB y a0 lo C B a->Up rk (arrOf a) lo n->Q true a):wpS (model prog w) A E s (CJ lo n ok) Q st:=by
 refine qby (qh4 (qea (I:=λk c a=>c=(none,())/\SB y a0 lo C B a/\Up rk (arrOf a) lo (min k n)) (Q:=λc a=>c=(none,())/\SB y a0 lo C B a/\Up rk (arrOf a) lo n) ?_ ?_ ?_) ?_)
 ·rintro k c a R P ⟨rfl,d,o⟩
  dsimp only
  refine qby (qh4 (qea (I:=λx c b=>b=a/\∃ l r,c=(none,l,r)/\l<=r/\r<=k/\r - l<=k - x/\(∀ i,i < l->O.kle (rk (kyd (arrOf a) (lo+i))) (rk (kyd (arrOf a) (lo+k))))/\
    ∀ i,r<=i->i<k->O.klt (rk (kyd (arrOf a) (lo+k))) (rk (kyd (arrOf a) (lo+i))))
   (Q:=λc b=>b=a/\∃ l r,c=(none,l,r)/\l<=k/\(∀ i,i<l->O.kle (rk (kyd (arrOf a) (lo+i))) (rk (kyd (arrOf a) (lo+k))))/\∀ i,l<=i->i<k->O.klt (rk (kyd (arrOf a) (lo+k))) (rk (kyd (arrOf a) (lo+i)))) ?_ ?_ ?_) ?_)
  ·rintro x c b _ J ⟨rfl,l,r,rfl,D,p,hm,g,f⟩
   dsimp only;by_cases t:l>=r
   ·refine kX t ?_
    have e:l=r:=by lia
    subst e;exact qb6 ⟨U,l,l,U,p,g,f⟩
   ·refine oT t ?_
    refine qby (wK K L d (by lia) (by lia) ?_);cases hl:O.blt (rk (kyd (arrOf b) (lo+k))) _ with
    |true=>exact qb6 ⟨U,l,(l+r) / 2,U,by lia,by lia,by lia,g,λi u F=>KeyOrd.klt_of_klt_of_kle hl (o _ _ (by lia) (by lia) (by lia))⟩
    |false=>exact qb6 ⟨U,(l+r) / 2+1,r,U,by lia,by lia,by lia,λi u=>qdA (o (lo+i) (lo+(l+r) / 2) (by lia) (by lia) (by lia)) hl,f⟩
  ·rintro c b ⟨rfl,l,r,rfl,D,p,hm,g,f⟩
   have e:l=r:=by lia
   subst e;exact⟨U,l,l,U,p,g,f⟩
  ·exact⟨U,0,k,U,by lia,by lia,by lia,λi hi=>by lia,λi u F=>by lia⟩
  ·rintro c b ⟨rfl,l,r,rfl,N,g,f⟩
   dsimp only;refine qby (m:=moveDown' (lo+k) (lo+l)) ?_;rw[moveDown'_eq];have q:lo+k<(arrOf b).size:=by rw[d.size];lia
   refine qgS (qb6 ⟨U,d.set (bubble_perm _ _ _) λi hi=>?_,?_⟩)
   ·rw[qjG q _ (by lia),iFN (by lia),iFN (by lia)]
   ·intro i j hi G T
    rw[m4 q (by lia),m4 q (by lia),show lo+k - (lo+k - (lo+l))=lo+l by lia];have v:∀ i,lo<=i->i<lo+l->O.kle (rk (kyd (arrOf b) i)) (rk (kyd (arrOf b) (lo+k))):=λi u F=>by
     have:=g (i - lo) (by lia);rwa [show lo+(i - lo)=i by lia]at this
    have z:∀ i,lo+l<=i->i<lo+k->O.klt (rk (kyd (arrOf b) (lo+k))) (rk (kyd (arrOf b) i)):=λi u F=>by
     have:=f (i - lo) (by lia) (by lia);rwa [show lo+(i - lo)=i by lia]at this
    repeat' split
    all_goals first
     |(exfalso;lia)
     |exact qcM _
     |exact v _ (by lia) (by lia)
     |exact qdo (z _ (by lia) (by lia))
     |exact o _ _ (by lia) (by lia) (by lia)
 ·rintro c a ⟨rfl,d,o⟩
  rw[show min (max (max ok 1) n) n=n by lia]at o;exact⟨U,d,o⟩
 ·rw[show max ok 1=ok by lia,show min ok n=ok by lia]
  exact⟨U,M,H⟩
 ·rintro c a ⟨rfl,d,o⟩
  exact qb6 (h a d o)
end
section
variable {O:qff}{rk:Keyed->O.α}
variable {a b c:Array Keyed}{d e:Nat}
variable {na f:Nat}
end
section
variable {prog:qaO}{w:World}{A:qa0}{E:Value->qak->Prop}{s:qak}{c:qdg}{O:qff}{rk:Keyed->O.α}{S:Keyed->Prop}{st:qbX}{a b:Array Keyed}
end
section
variable {prog:qaO}{w:World}{A:qa0}{E:Value->qak->Prop}{s:qak}{d:qdg}{O:qff}{rk:Keyed->O.α}{S:Keyed->Prop}{st:qbX}{a b c:Array Keyed}{na e:Nat}
end
section
variable {prog:qaO}{w:World}{A:qa0}{E:Value->qak->Prop}{s:qak}{g:qdg}{O:qff}{rk:Keyed->O.α}{S:Keyed->Prop}{st:qbX}{d:Array Keyed}{l k:Nat}
theorem FR {a:Array Keyed} (h:Up rk a 0 a.size):a.toList.Pairwise λx y=>O.kle (rk x) (rk y):=by
 rw[List.pairwise_iff_getElem];intro i j hi e f;have c:=by simpa using hi
 have b:=by simpa using e
 have q:=h i j (qbA _) (by lia) (by lia);have e1:=mZ c;have e2:=mZ b;rw[qbQ c]at e1;rw[qbQ b]at e2;rw[<-qaL e1,<-qaL e2]at q;simpa using q
end
section
variable {prog:qaO}{w:World}{A:qa0}{E:Value->qak->Prop}{s:qak}{κ:qdg}{O:qff}{rk:Keyed->O.α}{S:Keyed->Prop}{st:qbX}{a0:Array Keyed}
structure CC (κ:qdg) (O:qff) (rk:Keyed->O.α) (a0:Array Keyed) (n1:Nat) (st:qbX):Prop where
 perm:(arrOf st).Perm a0
 kind:kindOf st=κ
 fail:qha st=none
 pend:qeP st=#[(0,n1,0)]
 up:Up rk (arrOf st) 0 n1
theorem E2 {n:Nat} (v:2<=n) (k:n<64):minRun' n n 0=n:=by
 obtain⟨f,rfl⟩:∃ f,n=f+1:=⟨n - 1,by lia⟩;rw[minRun'_succ,iFP (by lia)]
set_option maxHeartbeats 2000000 in
theorem B1 (z:Cm prog w A s κ O rk S) {Q:Unit->qbX->Prop} (D:kindOf st=κ) (G:qha st=none) (C:qeP st=#[]) (t:arrOf st=a0) (B:∀ x∈a0.toList,S x) (v:2<=a0.size) (k:a0.size<64)
  (h:∀ a,(arrOf a).toList.Perm a0.toList->(arrOf a).toList.Pairwise (λx y=>O.kle (rk x) (rk y))->qha a=none->Q () a):wpS (model prog w) A E s sortRuns' Q st:=by
 obtain⟨j,q,F⟩:∃ j,(sortPriv% PySem.Builtin.minRun) a0.size a0.size 0=j/\j=a0.size:=⟨_,U,E2 v k⟩;refine qby (qg4 ?_);have hz:(arrOf st).size=a0.size:=by rw[t]
 dsimp only;rw[hz,q]
 refine qby (qh4 (qea (I:=λx c a=>(x=0/\c=(none,0)/\SB κ a0 0 #[] (qh8 st) a)\/(c=(none,a0.size)/\CC κ O rk a0 a0.size a/\1<=x))
  (Q:=λc a=>c.1=none/\CC κ O rk a0 a0.size a) ?_ ?_ ?_) ?_)
 ·rintro x c a _ hx H
  rcases H with⟨rfl,rfl,J⟩|⟨rfl,g,r⟩
  ·refine oT (by lia) ?_
   refine qby (BY z B J (by lia) (by lia) λm b i K m2 u=>?_);have put:∀ n d,SB κ a0 0 #[] (qh8 st) d->Up rk _ 0 n->n=a0.size->
     CC κ O rk a0 a0.size (qix _ _ ((qeP d).push (0,n,0)) (qh8 d) _):=λn d e o hn=>
    ⟨e.perm,e.kind,e.fail,by rw[e.pend,hn];rfl,by rw[<-hn];exact o⟩
   by_cases l:m<j
   ·refine kX l ?_
    refine qby (wM (qby (Ae z B i K (by lia) (by lia) u λd e o=>?_)));have hn:min (a0.size - 0) j=a0.size:=by lia
    refine qby (qg4 ?_);have hb:(qeP d).back?=none:=by rw[e.pend];rfl
    rw[hb];exact qby (qgS (qb6 (.inr ⟨by rw[qbh,hn],(put _ d e o hn),by lia⟩)))
   ·refine oT l ?_
    have hn:m=a0.size:=by lia
    refine qby (qg4 ?_);have hb:(qeP b).back?=none:=by rw[i.pend];rfl
    rw[hb];exact qby (qgS (qb6 (.inr ⟨by rw[qbh,hn],(put m b i u hn),by lia⟩)))
  ·refine kX (qao _) ?_
   exact qb6 ⟨U,g⟩
 ·rintro c a (⟨hx,_⟩|⟨rfl,g,r⟩)
  ·lia
  ·exact⟨U,g⟩
 ·exact .inl ⟨U,U,by rw[t],λ_ _=>by rw[t],D,G,C,U⟩
 ·rintro⟨c1,c2⟩ a ⟨rfl,g⟩
  refine qby (qh4 (qea (I:=λy c b=>c=(none,())/\b=a) (Q:=λc b=>c=(none,())/\b=a) ?_ ?_ ?_) ?_)
  ·rintro y c b _ L ⟨rfl,rfl⟩
   refine qby (qg4 ?_);have p:(qeP b).size<=1:=by rw[g.pend];exact qao 1
   refine kX p ?_;exact qb6 ⟨U,U⟩
  ·rintro c b ⟨rfl,rfl⟩
   exact⟨U,U⟩
  ·exact⟨U,U⟩
  ·rintro c b ⟨rfl,rfl⟩
   exact qb6 (h _ (qfT.mp g.perm) (FR (by rw[g.perm.size_eq];exact g.up)) g.fail)
end
end L2
namespace L2
open PySem PySem.Spec PyProof.Rows PySem.SeqAt
open MeetsSeq MeetsSeq2 MeetsSeq3 SeqRoads2
open AutoSeq1 (wpAny_loadPart')
def n5 (A:qa0) (s:qak) (y x:Value) (b:Bool):Prop:=∀ (prog:qaO) (w:World) (E:Value->qak->Prop) (Q:Value->qak->Prop),Q (.bool b) s->wpAny (model prog w) A (richCompare .Lt y x) Q E s
def m9 (e l:Nat->Bool) (fin:Bool):Nat->Nat->Bool
 |0,_=>fin
 |k+1,i=>if e i=true then m9 e l fin k (i+1) else l i
theorem nV (p q:Addr) (a c:Array Value) (n P:Nat) (N C:Option Addr) (O D:Array (Option Value)) (e l:Nat->Bool) :
  Meets (qfo.«tuple.__lt__» ⟨[.ref p,.ref q],[]⟩)
   (λA R s=>(s.heap.get? p=some ⟨.type "tuple",N,.seq a n,O⟩/\s.heap.get? q=some ⟨.type "tuple",C,.seq c P,D⟩)/\
     (∀ j (H:j<a.size) (I:j<c.size),EqAt A.in1 s a[j] c[j] (e j)/\(e j=false->n5 A.in1 s a[j] c[j] (l j)))/\
     R (.ok (.ret (.bool (m9 e l (decide (a.size<c.size)) (min a.size c.size) 0)))) s):=
 .of_wp λprog w A R s h=>by
  obtain⟨B,g,d,F,os⟩:=s;obtain⟨⟨H,I⟩,G,h⟩:=h;have Q:=qfJ;have E:(a.toList.zip c.toList).length=min a.size c.size:=by simp
  wp_walk using wpAny_loadPart' H,wpAny_loadPart' I,wpAny_forIn_list _ (λm b s'=>b.1=none/\s'=⟨B,g,d,F,os⟩/\∃ i,i<=min a.size c.size/\m=(a.toList.zip c.toList).drop i/\
   R (.ok (.ret (.bool (m9 e l (decide (a.size<c.size)) (min a.size c.size - i) i)))) ⟨B,g,d,F,os⟩) _
  case turn=>
   rintro⟨y,x⟩ m b s' ⟨o,rfl,i,hi,hz,u⟩
   have z:i<(a.toList.zip c.toList).length:=by
    rcases qfq i (a.toList.zip c.toList).length with h'|h'
    ·exact h'
    ·rw[List.drop_of_length_le h']at hz;cases hz
   rw[E]at z;have K:i<a.size:=by lia
   have J:i<c.size:=by lia
   rw[qck (by rw[E];exact z)]at hz;injection hz with t r;have v:y=a[i]:=by have:=congrArg qc2 t;simpa using this
   have hx:x=c[i]:=by have:=congrArg qfH t;simpa using this
   subst v hx;obtain⟨k,L⟩:∃ k,min a.size c.size - i=k+1:=⟨min a.size c.size - i - 1,by lia⟩;rw[L]at u;have f:R (.ok (.ret (.bool (if e i=true then m9 e l (decide (a.size<c.size)) k (i+1) else l i)))) ⟨B,g,d,F,os⟩:=u;refine qac ((G i K J).1 prog w _ _ ?_);cases v:e i with
   |true=>
    rw[v,iFP U]at f
    wp_walk
    exact⟨U,U,i+1,by lia,r,by rw[show min a.size c.size - (i+1)=k by lia];exact f⟩
   |false=>
    rw[v,iFN (by simp)]at f;simp only[Bool.not_false,if_true];refine qac (qdT ?_);refine qac ((G i K J).2 v prog w _ _ ?_)
    wp_walk
    exact⟨_,U,f⟩
  case fin=>
   rintro⟨T,S⟩ s' ⟨o,rfl,i,hi,hz,u⟩
   simp only at o
   subst o;have M:min a.size c.size<=i:=by
    rcases qfq i (a.toList.zip c.toList).length with h'|h'
    ·rw[qck h']at hz;cases hz
    ·rw[E]at h';exact h'
   rw[show min a.size c.size - i=0 by lia]at u
   wp_walk
   exact⟨_,U,by simpa [qiF,m9] using u⟩
  case h=>exact⟨U,U,0,qbA _,U,h⟩
section
variable {A:qa0}{s:qak}{p q:Addr}{b a:Array Value}{e l:Nat->Bool}
theorem n5.tuples (y:s.heap.IsTuple p b) (hb:s.heap.IsTuple q a) (t:A.units<cLine) (r:∀ j (B:j<b.size) (C:j<a.size),EqAt A.in1 s b[j] a[j] (e j)/\(e j=false->n5 A.in1 s b[j] a[j] (l j))) :
  n5 A s (.ref p) (.ref q) (m9 e l (decide (b.size<a.size)) (min b.size a.size) 0):=λprog w E Q h=>by
 obtain⟨⟨cls,o,data,u⟩,k,z,n,hd⟩:=id y;obtain⟨⟨m,g,data2,i⟩,c,f,v,d⟩:=id hb;subst z hd f d;exact richCompare_meets_room ⟨_,k,U⟩ ⟨_,c,U⟩ qef qf7 (qfY _ _) (nV p q b a n v o g u i e l)
  ⟨⟨k,c⟩,r,(λx=>nomatch x),h⟩ t
end
end L2
namespace L2
open PySem PySem.Spec PyProof.Rows PySem.SeqAt PySem.W
def bq:List Int->List Int->Bool
 |[],[]=>false
 |[],_::_=>true
 |_::_,[]=>false
 |a::as,b::bs=>if a=b then bq as bs else decide (a<b)
theorem m8:∀ a,bq a a=false
 |[]=>rfl
 |a::as=>by unfold bq;rw[iFP U];exact m8 as
theorem gr:∀ a b,bq a b=false->bq b a=false->a=b
 |[],[],_,_=>rfl
 |[],_::_,h,_=>by cases h
 |_::_,[],_,h=>by cases h
 |a::as,b::bs,h,h'=>by
  unfold bq at h h';by_cases e:a=b
  ·subst e
   rw[iFP U]at h h';rw[gr as bs h h']
  ·lia
theorem lW:∀ a b c,bq a b=true->bq b c=true->bq a c=true
 |[],[],_,h,_=>by cases h
 |[],_::_,[],_,h=>by cases h
 |[],_::_,_::_,_,_=>rfl
 |_::_,[],_,h,_=>by cases h
 |_::_,_::_,[],_,h=>by cases h
 |a::as,b::bs,c::d,h,h'=>by
  unfold bq at h h' ⊢;by_cases e:a=b
  ·subst e
   rw[iFP U]at h;by_cases e2:a=c
   ·subst e2;rw[iFP U]at h' ⊢;exact lW as bs d h h'
   ·rw[iFN e2]at h' ⊢;exact h'
  ·rw[iFN e,decide_eq_true_iff]at h
   by_cases e2:b=c
   ·subst e2;rw[iFN e,decide_eq_true_iff];exact h
   ·lia
theorem yR:∀ a b c,bq a c=true->bq a b=true\/bq b c=true
 |a,b,c,h=>by
  by_cases d:bq a b=true
  ·exact .inl d
  ·rw[qeh]at d
   by_cases e:bq b a=true
   ·exact .inr (lW b a c e h)
   ·rw[qeh]at e
    rw[gr a b d e]at h;exact .inr h
def OI:qff:=⟨List Int,bq,m8,lW,yR,gr⟩
def TuI (h:Heap) (v:Value) (l:List Int):Prop:=∃ a b,v=.ref a/\h.IsTuple a b/\qdy b.toList l
def bX:Value->Int
 |.int n _=>n
 |_=>0
def tuI (h:Heap):Value->List Int
 |.ref a=>match h.get? a with
  |some o=>match o.data with
   |.seq b _=>b.toList.map bX
   |_=>[]
  |none=>[]
 |_=>[]
theorem mT:∀ {a:List Value}{l:List Int},qdy a l->a.map bX=l
 |_,_,.nil=>rfl
 |_,_,.cons n t h=>by rw[qau,mT h];rfl
theorem dw:∀ {a:List Value}{l:List Int},qdy a l->a.length=l.length
 |_,_,.nil=>rfl
 |_,_,.cons n t h=>by rw[qaq,qaq,dw h]
theorem gU:∀ {a:List Value}{l:List Int},qdy a l->∀ (j:Nat) (h:j<a.length),∃ t,a[j]=.int (l.getD j 0) t
 |_,_,.nil,j,h=>absurd h (qcz j)
 |_,_,.cons n t b,0,h=>⟨t,U⟩
 |_,_,.cons n t b,j+1,h=>by
  obtain⟨t',e⟩:=gU b j _;exact⟨t',by simpa using e⟩
theorem TuI.is {h:Heap}{v:Value}{l:List Int} (t:TuI h v l):tuI h v=l:=by
 obtain⟨a,c,rfl,⟨o,b,d,n,hd⟩,hi⟩:=t;simp only[tuI,b,hd];exact mT hi
theorem TuI.fit {h h':Heap}{v:Value}{l:List Int} (t:TuI h v l) (e:∀ b o,h.get? b=some o->h'.get? b=some o):TuI h' v l:=by
 obtain⟨a,c,rfl,⟨o,d,r⟩,hi⟩:=t;exact⟨a,c,U,⟨o,e _ _ d,r⟩,hi⟩
theorem ng:∀ (l m:List Int) (i:Nat) (e f:Nat->Bool),(∀ j,j<l.length->j<m.length->e (i+j)=decide (l.getD j 0=m.getD j 0)/\f (i+j)=decide (l.getD j 0<m.getD j 0))->
  m9 e f (decide (l.length<m.length)) (min l.length m.length) i=bq l m
 |[],[],i,e,f,_=>by simp[m9,bq]
 |[],b::m,i,e,f,_=>by simp[m9,bq]
 |a::l,[],i,e,f,_=>by simp[m9,bq]
 |a::l,b::m,i,e,f,h=>by
  have c:=h 0 (by simp) (by simp);rw[qaq,qaq,show min _ _=min l.length m.length+1 by lia];have e1:decide (l.length+1<m.length+1)=decide (l.length<m.length):=by simp
  rw[e1];show (if e i=true then m9 e f _ _ _ else f i)=if a=b then bq l m else decide _;rw[qjt]at c;rw[c.1,c.2];by_cases q:a=b
  ·subst q
   simp only[qbt,decide_true,if_true];exact ng l m _ e f λj d g=>by
    have:=h (j+1) (by simpa using d) (by simpa using g)
    rw[show i+1+j=i+(j+1) by lia];simpa using this
  ·simp[q]
section
variable {prog:qaO}{w:World}{A:qa0}{E:Value->qak->Prop}{s:qak}{x y:Value}{l m:List Int}
theorem n5.ints {a b:Int}{t u:Tok}:n5 A s (.int a t) (.int b u) (decide (a<b)):=λprog w E Q h=>qfM h
theorem EqAt.ints {a b:Int}{t u:Tok}:EqAt A s (.int a t) (.int b u) (decide (a=b)):=by
 exact (uq (A:=A) (s:=s) (y:=.int a) (x:=.int b) ⟨t,U⟩ ⟨u,U⟩ U U)
theorem TuI.lt (B:TuI s.heap x l) (ty:TuI s.heap y m) (J:A.units<cLine):n5 A s x y (bq l m):=by
 obtain⟨a,d,rfl,D,g⟩:=B;obtain⟨b,f,rfl,H,k⟩:=ty;have e1:d.size=l.length:=by exact dw g
 have e2:f.size=m.length:=by exact dw k
 have z:=n5.tuples D H J λj V R=>by
  obtain⟨t,F⟩:=gU g j _;obtain⟨t',C⟩:=gU k j _;rw[qeB]at F C;rw[F,C];exact⟨EqAt.ints,λ_=>n5.ints⟩
 rw[e1,e2,ng l m 0 _ _ λj D H=>by rw[qbh];exact⟨U,U⟩]at z;exact z
theorem TuI.one (B:TuI s.heap x l) (ty:TuI s.heap y m) (J:A.units<cLine) {Q:Bool->qak->Prop} (h:Q (bq l m) s) (b:Bool):wpAny (model prog w) A (oneLt' b x y) Q E s:=by
 cases b with
 |false=>exact kat_one _ _ (B.lt ty J _ _ _ _ h)
 |true=>
  refine qac (wpAny_cRoomFor J ?_);obtain⟨a,d,rfl,D,g⟩:=id B;obtain⟨c,f,rfl,H,k⟩:=id ty;obtain⟨⟨cls,S,data,T⟩,I,M,n,hd⟩:=id D;obtain⟨⟨N,K,data2,L⟩,q,G,O,p⟩:=id H;subst M hd G p;have e1:d.size=l.length:=by exact dw g
  have e2:f.size=m.length:=by exact dw k
  refine qac (wpAny_callSpecialIfBound?_slot ⟨_,I,U⟩ qef (qco qef ⟨_,I,U⟩ qf7 (qfY _ _)
   (nV a c d f n O S K T L (λj=>decide (l.getD j 0=m.getD j 0)) λj=>decide (l.getD j 0<m.getD j 0)) ⟨⟨I,q⟩,λj V R=>?_,?_⟩))
  ·obtain⟨t,F⟩:=gU g j _
   obtain⟨t',C⟩:=gU k j _;rw[qeB]at F C;rw[F,C];exact⟨EqAt.ints,λ_=>n5.ints⟩
  ·rw[e1,e2,ng l m 0 _ _ λj D H=>by rw[qbh];exact⟨U,U⟩]
   exact qel h
theorem yS {Q:Bool->qak->Prop}{fin:Bool}:∀ {d f:List Value}{l m:List Int} (i:Nat),qdy d l->qdy f m->(fin=decide (l.length<m.length))->Q (bq l m) s->KatLex prog w A true fin Q (d.zip f) i s
 |_,_,_,_,i,.nil,.nil,v,h=>kat_nil (by rw[v];exact h)
 |_,_,_,_,i,.nil,.cons n t r,v,h=>kat_nil (by rw[v];simpa [bq] using h)
 |_,_,_,_,i,.cons n t r,.nil,v,h=>kat_nil (by rw[v];simpa [bq] using h)
 |_,_,_,_,i,.cons a t r,.cons b u P,v,h=>by
  refine kat_cons (EqAt.ints prog w _ _ ?_);unfold bq at h;by_cases e:a=b
  ·subst e
   rw[iFP U]at h;rw[decide_eq_true U];exact kat_yes (yS _ r P (by rw[v];simp) h)
  ·rw[iFN e]at h
   rw[decide_eq_false e];refine kat_no ?_;cases (true&&i==0) with
   |true=>exact oneLt_int h
   |false=>exact kat_one _ _ (qfM h)
theorem TuI.tups (B:TuI s.heap x l) (ty:TuI s.heap y m) {Q:Bool->qak->Prop} (h:Q (bq l m) s):wpAny (model prog w) A (keyLt' (tuples' true) x y) Q E s:=by
 obtain⟨a,d,rfl,⟨o,I,M,n,hd⟩,g⟩:=B;obtain⟨c,f,rfl,⟨W,q,G,O,p⟩,k⟩:=ty;have e1:d.size=l.length:=by exact dw g
 have e2:f.size=m.length:=by exact dw k
 exact kat_lt I hd q p (yS 0 g k (by rw[e1,e2]) h)
end
section
variable {prog:qaO}{w:World}{A:qa0}{E:Value->qak->Prop}{s:qak}{O:qff}{rk:Keyed->O.α}{S:Keyed->Prop}{c:List Value}
theorem ub:∀ (c:List Value),c.zip c=c.map λv=>(v,v)
 |[]=>rfl
 |v::c=>by rw[qeZ,ub c];rfl
theorem DK {α H:Type}{f:α->H}{R:H->H->Prop}:∀ {c:List α},c.toArray.size<2->(c.map f).Pairwise R
 |[],_=>List.Pairwise.nil
 |[v],_=>qgk _ _
 |_::_::_,h=>absurd h (by simp)
set_option maxHeartbeats 1000000 in
theorem oO {a:Addr}{n:Nat}{P:PySem.Fin->qak->Prop} (D:s.heap.get? a=some (qfB "list" c.toArray n)) (u:c.length<64)
  (m:∀ h',(∀ b o,b≠a->s.heap.get? b=some o->h'.get? b=some o)->∃ r,(2<=c.length->∀ (Q':qdg->qak->Prop) E',Q' r { s with heap:=h' }->wpAny (model prog w) A (qh7 c.toArray) Q' E' { s with heap:=h' })/\Cm prog w A { s with heap:=h' } r O rk S)
  (J:∀ v∈c,S (v,v))
  (h:∀ d:List Value,d.Perm c->d.Pairwise (λx y=>O.kle (rk (x,x)) (rk (y,y)))->P (.done (.ret .none)) { s with heap:=sortedHeap s.heap a c d.toArray }) :
  wpAny (model prog w) A (qfo.«list.sort» ⟨[.ref a],[]⟩) P E s:=by
 rw[list_sort_plain];have K:c.toArray.size=c.length:=by simp
 refine qac (listItems_at D U ?_);refine qac (qg9 D U ?_ (by rw[K,qcJ];lia));obtain⟨e1,z⟩:∃ e1,(s.heap.update a (qcy λ_=>#[])).get? a=some (qfB "list" #[] e1):=⟨_,get?_update_seq D (λ_=>#[])⟩
 refine qac (qhS z U ?_);refine qac (qjQ ?_ (by rw[qcJ];show c.toArray.toList.length<=_;simp;lia));refine qac (qfA ?_);refine qcq ?_;have T:(s.heap.update a (qcy λ_=>(#[]:Array Value))).objs.size=s.heap.objs.size:=qhJ ..;have i:∀ b o,b<s.heap.objs.size->(s.heap.update a (qcy λ_=>(#[]:Array Value))).get? b=some o->
   (((s.heap.update a (qcy λ_=>#[])).push (qfB "tuple" c.toArray 0)).push (qfB "list" #[] 0)).get? b=some o:=λb o hb q=>by
  rw[qdv _ _ _ (qaF (by rw[qir,T];exact qba hb)),qdv _ _ _ (qaF (by rw[T];exact hb))];exact q
 have j:=i a _ (qaA D) z;obtain⟨r,I,X⟩:=m _ λb o hb q=>
  i b o (qaA q) (by rw[qg2 _ _ _ _ hb];exact q)
 have pt:(c.toArray.zip c.toArray).toList=c.map λv=>(v,v):=by rw[<-ub];simp
 have fin:∀ g:qbX,(arrOf g).toList.Perm (c.map λv=>(v,v))->(arrOf g).toList.Pairwise (λx y=>O.kle (rk x) (rk y))->∃ d:List Value,d.length=c.length/\(arrOf g).map (·.2)=d.toArray/\P (.done (.ret .none)) { s with heap:=sortedHeap s.heap a c d.toArray }:=λg C p=>by
  refine⟨(arrOf g).toList.map (·.2),by rw[qaf,C.length_eq,qaf],by apply Array.toList_inj.mp;simp,h _ ?_ ?_⟩
  ·have:=C.map (·.2)
   rw[qaR]at this;have e:(c.map ((λx=>x.2) ∘ λv=>((v,v):Keyed)))=c:=by rw[show ((λx:Keyed=>x.2) ∘ λv=>((v,v):Keyed))=id from U,qgY]
   rw[e]at this;exact this
  ·rw[qd6]
   refine p.imp_of_mem λ{x y} hx hy q=>?_;have dx:x=(x.2,x.2):=by obtain⟨v,_,rfl⟩:=qaM.mp (C.mem_iff.mp hx);rfl
   have dy:y=(y.2,y.2):=by obtain⟨v,_,rfl⟩:=qaM.mp (C.mem_iff.mp hy);rfl
   rw[<-dx,<-dy];exact q
 dsimp only;by_cases p:c.toArray.size<2
 ·rw[iFP p,iFP p]
  refine qac (qar ?_);rw[StateT.run_pure];refine qac (qar ?_);dsimp only;obtain⟨d,Y,G,F⟩:=fin (qix general' (c.toArray.zip c.toArray) #[] 7 none) (by rw[pt]) (by rw[pt];exact DK p);refine qac (qhS j U ?_);rw[G];refine qac (qg9 j U ?_);simp only[bne_self_eq_false,qbq,if_false];exact qar F
 ·rw[iFN p,iFN p]
  refine qac (I (by lia) _ _ ?_)
  refine qac (qcm (B1 X (a0:=c.toArray.zip c.toArray) (Q:=λ_ g=>(arrOf g).toList.Perm (c.map λv=>(v,v))/\(arrOf g).toList.Pairwise (λx y=>O.kle (rk x) (rk y))/\qha g=none)
   rfl U U U (λx hx=>?_) (by simp;lia) (by simp;lia) λg t a2 L=>⟨by rw[<-pt];exact t,a2,L⟩) ?_ λ_ _ e=>e)
  ·rw[pt]at hx
   obtain⟨v,V,rfl⟩:=qaM.mp hx;exact J v V
  rintro⟨⟨⟩,g⟩ s' ⟨rfl,t,a2,L⟩
  dsimp only;obtain⟨d,Y,G,F⟩:=fin g t a2;refine qac (qhS j U ?_);rw[G];refine qac (qg9 j U ?_);rw[L];simp only[bne_self_eq_false,qbq,if_false];exact qar F
theorem nM {l:Addr}{Q:Value->qak->Prop} (hl:s.heap.IsList l c.toArray) (u:c.length<64)
  (m:∀ h',(∀ b o,s.heap.get? b=some o->h'.get? b=some o)->∃ r,(2<=c.length->∀ (Q':qdg->qak->Prop) E',Q' r { s with heap:=h' }->wpAny (model prog w) A.in1.in1 (qh7 c.toArray) Q' E' { s with heap:=h' })/\Cm prog w A.in1.in1 { s with heap:=h' } r O rk S)
  (J:∀ v∈c,S (v,v))
  (h:∀ d:List Value,d.Perm c->d.Pairwise (λx y=>O.kle (rk (x,x)) (rk (y,y)))->Q (.ref (s.heap.objs.size+1)) { s with heap:=qjy s.heap c d.toArray }) :
  wpAny (model prog w) A (call (.builtin "sorted") [.ref l]) Q E s:=by
 refine qf3 kind_sorted plain_sorted entry_sorted (args_sorted1 _) ?_;refine qac (qar ?_);refine qac (collect_list hl ?_ (by rw[qcJ];lia));refine qac (qfA ?_ (by rw[qcJ];lia));have hz:((s.heap.push (qfB "list" #[] 0)).update s.heap.objs.size (qcy (·++c.toArray))).objs.size=s.heap.objs.size+1:=by rw[qhJ,qir]
 generalize M:((s.heap.push _).update s.heap.objs.size _)=N at hz ⊢;have B:(N.push (qfB "list" c.toArray 0)).get? (s.heap.objs.size+1)=some (qfB "list" c.toArray 0):=by
  rw[<-hz];exact qax _ U
 have keep:∀ b o,s.heap.get? b=some o->b≠s.heap.objs.size+1/\(N.push (qfB "list" c.toArray 0)).get? b=some o:=λb o q=>by
  have k:=qaA q;refine⟨qaF (qba k),?_⟩;rw[qdv _ _ _ (qaF (by rw[hz];exact qba k)),<-M,qg2 _ _ _ _ (qaF k),qdv _ _ _ (qaF k)];exact q
 rw[hz];refine qac (qcq (qbU qjT ⟨_,B,U⟩ qjH (oO B u (λh' W=>m h' λb o q=>W b o (keep b o q).1 (keep b o q).2) J λd t a2=>⟨_,U,?_⟩) (qj1 _)));refine qar ⟨_,U,?_⟩
 have:=h d t a2
 unfold qjy at this;rw[M]at this;exact this
end
def mI (h:Heap):Value->Option Value
 |.ref a=>match h.get? a with
  |some o=>match o.data with
   |.seq b _=>b[0]?
   |_=>none
  |none=>none
 |_=>none
theorem TuI.fst {h:Heap}{v:Value}{l:List Int} (t:TuI h v l):mI h v=none\/∃ n t,mI h v=some (.int n t):=by
 obtain⟨a,b,rfl,⟨o,c,d,n,hd⟩,hi⟩:=t;simp only[mI,c,hd];by_cases hz:0<b.size
 ·obtain⟨t,e⟩:=gU hi 0 _
  exact .inr ⟨_,t,by rw[qbQ hz];rw[qeB]at e;rw[e]⟩
 ·exact .inl (qdp (by lia))
section
variable {prog:qaO}{w:World}{A:qa0}{E:Value->qak->Prop}{s:qak}
theorem wH {v:Value}{l:List Int} (t:TuI s.heap v l) {Q:Value->qak->Prop} (h:Q (.type "tuple") s):wpAny (model prog w) A (typeOf v) Q E s:=by
 obtain⟨a,D,rfl,⟨o,k,H,n,hd⟩,hi⟩:=t;refine Looks.here ((Looks.ld k).andThen .now) ?_;rw[H];exact h
theorem xh {v:Value}{l:List Int} (t:TuI s.heap v l) {Q:Option Value->qak->Prop} (h:Q (mI s.heap v) s):wpAny (model prog w) A (firstOfTuple' v) Q E s:=by
 refine qac (wH t ?_);obtain⟨a,D,rfl,⟨o,k,H,n,hd⟩,hi⟩:=t;simp only[mI,k,hd]at h;exact qac (listItems_at k hd (qar h))
theorem fC:∀ {b:List Value}{Q:List (Option Value)->qak->Prop},(∀ v∈b,∃ l,TuI s.heap v l)->Q (b.map (mI s.heap)) s->wpAny (model prog w) A (b.mapM firstOfTuple') Q E s
 |[],_,_,h=>by exact qar h
 |v::b,Q,t,h=>by
  rw[List.mapM_cons];obtain⟨l,C⟩:=t v qag;refine qac (xh C (qac (fC (λu g=>t u (qah _ g)) (qar h))))
theorem uk {x y:Value}{l m:List Int} (hx:TuI s.heap x l) (c:TuI s.heap y m) {Q:Bool->qak->Prop} (h:Q (OI.blt (tuI s.heap x) (tuI s.heap y)) s):Q (bq l m) s:=by
 have h':=h;rw[hx.is,c.is]at h';exact h'
theorem sN {b:List Value} (t:∀ v∈b,∃ l,TuI s.heap v l) (g:A.units<cLine):∃ G,(2<=b.length->∀ (Q':qdg->qak->Prop) E',Q' G s->wpAny (model prog w) A (qh7 b.toArray) Q' E' s)/\
  Cm prog w A s G OI (λp=>tuI s.heap p.1) (λp=>∃ l,TuI s.heap p.1 l):=by
 by_cases c1:(b.map (mI s.heap)).toArray.all (·.isSome)=true
 ·refine⟨_,λB Q' E' j=>?_,λx y ⟨l,hx⟩ ⟨m,c⟩ Q E h=>hx.tups c (uk hx c h)⟩
  rw[qhT,qdu];refine qac (qac (fC t (qar ?_)));rw[iFP c1];refine qac (qdT ?_);have J:∀ v∈(b.map (mI s.heap)).filterMap id,∃ n t,v=.int n t:=λv z=>by
   obtain⟨o,k,e⟩:=qe0.mp z;obtain⟨u,g,rfl⟩:=qaM.mp k;obtain⟨l,I⟩:=t u g;rcases I.fst with q|⟨n,t',q⟩
   ·rw[q]at e;cases e
   ·rw[q]at e;exact⟨n,t',(qaL e).symm⟩
  have K:∃ f fr,(b.map (mI s.heap)).filterMap id=f::fr:=by
   match b,B,c1 with
   |v::b,_,c1=>
    simp only[qau,qfu,qbu,qaX]at c1;obtain⟨u,g⟩:=qcp.mp c1.1;exact⟨u,_,by rw[qau,g];rfl⟩
  obtain⟨f,fr,e⟩:=K;have e2:(b.map (mI s.heap)).toArray.filterMap id=(f::fr).toArray:=by rw[<-e];simp
  rw[e2,qjC,qdu];refine qac (qac (qac (kas_mapM (r:=.type "int") _ (λv z Q'' i=>?_) (qar ?_))))
  ·rw[<-e]at z
   obtain⟨n,t',rfl⟩:=J v z;exact qar i
  ·have F:(qhi (λ_=>Value.type "int") (f::fr)).toArray[0]?=some (.type "int"):=by simp
   rw[F];have d:((qhi (λ_=>Value.type "int") (f::fr)).toArray.all λx=>x==.type "int")=true:=by
    simp only[qfu,qer,qaW];intro _ _;rfl
   simp only[d,if_true];exact qar (qar j)
 ·by_cases c2:((b.map (mI s.heap)).toArray[0]?.bind id).isSome=true
  ·refine⟨general',λB Q' E' j=>?_,λx y ⟨l,hx⟩ ⟨m,c⟩ Q E h=>hx.one c g (uk hx c h) false⟩
   rw[qhT,qdu];refine qac (qac (fC t (qar ?_)));rw[iFN c1,iFP c2];exact qar j
  ·refine⟨qh6,λB Q' E' j=>?_,λx y ⟨l,hx⟩ ⟨m,c⟩ Q E h=>hx.one c g (uk hx c h) true⟩
   rw[qhT,qdu];refine qac (qac (fC t (qar ?_)));rw[iFN c1,iFN c2,qjC,qdu];refine qac (qac (qac (kas_mapM (r:=.type "tuple") _ (λv z Q'' i=>?_) (qar ?_))))
   ·obtain⟨l,C⟩:=t v z
    exact wH C i
   ·obtain⟨v,b,rfl⟩:∃ v r,b=v::r:=by
     match b,B with
     |v::r,_=>exact⟨v,r,U⟩
    have F:(qhi (λ_=>Value.type "tuple") (v::b)).toArray[0]?=some (.type "tuple"):=by simp
    rw[F];have d:((qhi (λ_=>Value.type "tuple") (v::b)).toArray.all λx=>x==.type "tuple")=true:=by
     simp only[qfu,qer,qaW];intro _ _;rfl
    simp only[d,if_true];exact qar (qar j)
theorem yK {b:List Value}{ns:List Int} (t:qdy b ns):(2<=b.length->∀ (Q':qdg->qak->Prop) E',Q' qh6 s->wpAny (model prog w) A (qh7 b.toArray) Q' E' s)/\
  Cm prog w A s qh6 OI (λp=>[bX p.1]) (λp=>∃ n t,p.1=.int n t):=by
 refine⟨λB Q' E' j=>?_,λx y ⟨n,t,hx⟩ ⟨m,u,c⟩ Q E h=>?_⟩
 ·match b,B,t with
  |v1::L::r,_,t=>rw[keyKind_ints t];exact qar j
 ·rw[hx,c]
  refine oneLt_int ?_;have e:OI.blt [bX x.1] [bX y.1]=decide (n<m):=by
   rw[hx,c];show (if n=m then bq [] [] else decide (n<m))=_;by_cases q:n=m
   ·subst q;simp[bq]
   ·rw[iFN q]
  rw[e]at h;exact h
end
def uy (x:List Int):List (List Int)->List (List Int)
 |[]=>[x]
 |y::a=>if bq y x=true then y::uy x a else x::y::a
def aE:List (List Int)->List (List Int)
 |[]=>[]
 |x::xs=>uy x (aE xs)
theorem kf (x:List Int):∀ a,(uy x a).Perm (x::a)
 |[]=>qdm _
 |y::a=>by
  unfold uy;split
  ·exact (List.Perm.cons y (kf x a)).trans (List.Perm.swap x y a)
  ·exact qdm _
theorem aI:∀ xs,(aE xs).Perm xs
 |[]=>qdm _
 |x::xs=>(kf x _).trans (List.Perm.cons x (aI xs))
def leL (a b:List Int):Prop:=bq b a=false
theorem xy {a b c:List Int} (h:leL a b) (h':leL b c):leL a c:=qdA (O:=OI) h h'
theorem yO {a b:List Int} (h:leL a b) (h':leL b a):a=b:=gr a b h' h
theorem kM (x:List Int):∀ {b:List (List Int)},b.Pairwise leL->(uy x b).Pairwise leL
 |[],_=>by simp[uy]
 |y::b,h=>by
  unfold uy;split
  ·rename_i a
   refine qa4.mpr ⟨λz hz=>?_,kM x (qa4.mp h).2⟩;rcases qaz.mp ((kf x b).mem_iff.mp hz) with rfl|hz
   ·exact KeyOrd.klt_asymm (O:=OI) a
   ·exact (qa4.mp h).1 z hz
  ·rename_i a
   rw[qeh]at a;refine qa4.mpr ⟨λz hz=>?_,h⟩;rcases qaz.mp hz with rfl|hz
   ·exact a
   ·exact xy a ((qa4.mp h).1 z hz)
theorem cL:∀ xs,(aE xs).Pairwise leL
 |[]=>List.Pairwise.nil
 |x::xs=>kM x (cL xs)
theorem jS {xs d:List (List Int)} (p:xs.Perm d) (c:xs.Pairwise leL) (e:d.Pairwise leL):xs=d:=
 qfv (λa b _ _ c e=>yO c e) c e p
def rh:List D->Option (List (List Int))
 |[]=>some []
 |.tup l::ds=>(a8 l).bind λns=>(rh ds).map λr=>ns::r
 |_=>none
def ag (l:List Int):D:=.tup (l.map D.int)
theorem kW:∀ {ds:List D}{ls:List (List Int)},rh ds=some ls->ds=ls.map ag
 |[],_,h=>by cases h;rfl
 |.tup l::ds,_,h=>by
  simp only[rh,qab,qad]at h;obtain⟨ns,e1,r,e2,rfl⟩:=h;rw[kW e2,bL e1];rfl
 |.non::_,_,h=>by cases h
 |.bl _::_,_,h=>by cases h
 |.int _::_,_,h=>by cases h
 |.str _::_,_,h=>by cases h
 |.ty _::_,_,h=>by cases h
 |.dct::_,_,h=>by cases h
 |.scr _::_,_,h=>by cases h
 |.lst _::_,_,h=>by cases h
def Cu (ds:List D):Option (List D):=match a8 ds with
 |some ns=>some ((qk ns).map D.int)
 |none=>(rh ds).map λls=>(aE ls).map ag
def uC (st:Sto):List W->Option (List D)
 |[w]=>(lsD st w).bind λds=>if ds.length<64 then Cu ds else none
 |_=>none
section
variable {K:qae}{X:Cx}{i:List (Addr×Obj)}{N:St}{H:Hp}{s:qak}{φ:List Addr}
def toV:Value->V
 |.ref a=>.ref a
 |_=>.non
theorem BE {l:List Int}{v:V}{u:Value} (I:Inv X i N H s) (r:Rl X.K H φ (ag l) v) (q:aK v u):TuI s.heap u l/\v=toV u/\aK (toV u) u:=by
 obtain⟨a,R,rfl,C,B⟩:=r;obtain⟨A,Y,p,_⟩:=I.tuple (SqT.of C);have e:=B.ints;subst e;subst q;exact⟨⟨a,A.toArray,U,p,by simpa using iU Y⟩,U,U⟩
theorem nF (I:Inv X i N H s):∀ {ls:List (List Int)}{R:List V}{f:List Value},Rls X.K H φ (ls.map ag) R->aF R f->
  f.map (tuI s.heap)=ls/\∀ u∈f,TuI s.heap u (tuI s.heap u)/\Rl X.K H φ (ag (tuI s.heap u)) (toV u)/\aK (toV u) u
 |[],_,f,h,q=>by cases h;cases q;exact⟨U,λu z=>by cases z⟩
 |l::ls,_,f,h,q=>by
  obtain⟨v,r,rfl,C,B⟩:=h;cases q with
  |cons q1 q2=>
   obtain⟨t,e,e'⟩:=BE I C q1;obtain⟨i1,i2⟩:=nF I B q2;refine⟨by rw[qau,i1,t.is],λx hx=>?_⟩;rcases qaz.mp hx with rfl|hx
   ·rw[t.is,<-e];exact⟨t,C,q1⟩
   ·exact i2 x hx
theorem nD:∀ {f:List Value},(∀ u∈f,TuI s.heap u (tuI s.heap u)/\Rl K H φ (ag (tuI s.heap u)) (toV u)/\aK (toV u) u)->Rls K H φ (f.map λu=>ag (tuI s.heap u)) (f.map toV)/\aF (f.map toV) f
 |[],_=>⟨U,.nil⟩
 |u::f,h=>by
  have C:=h u qag;have B:=nD λx hx=>h x (qah _ hx);exact⟨⟨_,_,U,C.2.1,B.1⟩,.cons C.2.2 B.2⟩
theorem mS:∀ {f:List Value}{l:List Int},qdy f l->∀ u∈f,∃ n t,u=.int n t
 |_,_,.nil,u,z=>by cases z
 |_,_,.cons n t h,u,z=>by
  rcases qaz.mp z with rfl|z
  ·exact⟨n,t,U⟩
  ·exact mS h u z
theorem oH:∀ {f:List Value},(∀ u∈f,∃ n t,u=.int n t)->qdy f (f.map bX)
 |[],_=>.nil
 |u::f,h=>by
  obtain⟨n,t,rfl⟩:=h u qag;exact .cons n t (oH λx hx=>h x (qah _ hx))
theorem jk {k:Nat} (hr:bh k X.A) (hK:X.K=K:=by rfl):rq K X (.builtin "sorted") uC:=by
 subst hK;refine⟨λst ws d h=>?_⟩
 match ws,h with
 |[w],h=>
  simp only[uC,qab]at h;obtain⟨ds,e1,h⟩:=h;split at h
  ·intro i s N H xs f Q I Y q
   obtain⟨φ,S,⟨v,r,rfl,r1,rfl⟩,q⟩:=q;obtain⟨a,R,rfl,C,B⟩:=ni S r1 e1;obtain⟨u,rfl,ru⟩:=gL Y;cases ru;obtain⟨A,G,pl,hz⟩:=I.list (.inl C);have g:A.length<64:=by
    have:=G.length
    have:=B.length
    lia
   have hun:X.A.in1.in1.units<cLine:=by
    have:=hr.un
    lia
   have hn:=I.hok.fresh (qcF _);have M:∀ (c:List Value) (F:List V),aF F c->c.length<64->Inv X i N _ { s with heap:=qjy s.heap A c.toArray }:=λc F j ho=>by
    obtain⟨ep,he⟩:=sortedAll_at s.heap A c.toArray;refine I.laid (o:=.lst F) (λb o q=>sortedAll_old q) (qcF _) ⟨?_,c,ep,j,by simpa  using he⟩;rw[j.length];exact ii (by lia)
   unfold Cu at h;cases hi:a8 ds with
   |some ns=>
    rw[hi]at h;cases h;cases bL hi;cases B.ints;have P:=iU G;refine nM pl.isList g (λh' _=>⟨qh6,yK P⟩) (λv j=>mS P v j) λc D a2=>?_;have T:=by
     have:=D.map bX
     rw[mT P]at this;exact this
    have hs:(c.map bX).Pairwise (·<=·):=by
     rw[qd6];refine a2.imp λ{x y} q=>?_;have q':bq [bX y] [bX x]=false:=q;by_cases e:bX y=bX x
     ·lia
     ·have:bq [bX y] [bX x]=decide (bX y<bX x):=by show (if _ then _ else _)=_;rw[iFN e]
      lia
    have j:=jT (oH (λu z=>mS P u (D.mem_iff.mp z)));rw[(tX (T.trans (kN ns).symm) hs (iG ns))]at j;exact⟨.ref _,_,M c _ j (by rw[D.length_eq];exact g),U,q _ _ H (aN.refl H) hn (Rls.of_ints _)⟩
   |none=>
    rw[hi]at h;obtain⟨ls,W,rfl⟩:=qad.mp h;cases kW W;obtain⟨m1,m2⟩:=nF I B G;refine nM (O:=OI) (rk:=λp=>tuI s.heap p.1) (S:=λp=>∃ l,TuI s.heap p.1 l) pl.isList g (λh' L=>?_) (λv j=>⟨_,(m2 v j).1⟩) λc D a2=>?_
    ·obtain⟨κ,k1,k2⟩:=sN (s:={ s with heap:=h' }) (λv j=>⟨_,(m2 v j).1.fit L⟩) hun
     refine⟨κ,k1,λx y ⟨l,hx⟩ ⟨m,hy⟩ Q E hq=>k2 x y ⟨l,hx.fit L⟩ ⟨m,hy.fit L⟩ Q E ?_⟩;have J:Q (bq (tuI s.heap x.1) (tuI s.heap y.1)) { s with heap:=h' }:=hq;show Q (bq (tuI h' x.1) (tuI h' y.1)) { s with heap:=h' };rw[(hx.fit L).is,(hy.fit L).is];rw[hx.is,hy.is]at J;exact J
    ·obtain⟨b1,b2⟩:=nD (λu z=>m2 u (D.mem_iff.mp z))
     have T:=by
      have:=D.map (tuI s.heap)
      rw[m1]at this;exact this
     have hs:(c.map (tuI s.heap)).Pairwise leL:=by
      rw[qd6];exact a2.imp λ{x y} q=>q
     have e2:(c.map λu=>ag (tuI s.heap u))=(aE ls).map ag:=by rw[<-(jS (T.trans (aI ls).symm) hs (cL ls)),qaR];rfl
     rw[e2]at b1;exact⟨.ref _,_,M c _ b2 (by rw[D.length_eq];exact g),U,q _ _ H (aN.refl H) hn b1⟩
  ·cases h
end
end L2
namespace L2
open PySem PySem.Spec PyProof.Rows
section
variable {K:qae}{X:Cx}
end
end L2
namespace L2
open PySem PySem.Spec PyProof.Rows
open PySem.AutoSeq1 (wpAny_loadPart')
def SIt (k:Bool) (h:Heap) (a l:Addr) (i:Nat):Prop:=match k with
 |true=>h.IsTupleIter a l i
 |false=>h.IsListIter a l i
def SIs (k:Bool) (h:Heap) (l:Addr) (xs:Array Value):Prop:=match k with
 |true=>h.IsTuple l xs
 |false=>h.IsList l xs
theorem SIt.to {k:Bool}{h h':Heap}{b l:Addr}{i:Nat} (a:SIt k h b l i) (f:∀ o,h.get? b=some o->h'.get? b=some o):SIt k h' b l i:=by
 cases k with
 |true=>exact Heap.IsTupleIter.at a f
 |false=>exact Heap.IsListIter.at a f
theorem SIs.to {k:Bool}{h h':Heap}{l:Addr}{xs:Array Value} (a:SIs k h l xs) (f:∀ o,h.get? l=some o->h'.get? l=some o):SIs k h' l xs:=by
 cases k with
 |true=>obtain⟨o,e,r⟩:=a;exact⟨o,f o e,r⟩
 |false=>exact Heap.IsList.at a f
theorem SIt.live {k:Bool}{h:Heap}{b l:Addr}{i:Nat} (a:SIt k h b l i):∃ o c,h.get? b=some o/\o.data=.fields c:=by
 cases k with
 |true=>obtain⟨o,e,_,d⟩:=a;exact⟨o,_,e,d⟩
 |false=>obtain⟨o,e,_,d⟩:=a;exact⟨o,_,e,d⟩
section
variable {prog:qaO}{w:World}{A:qa0}{E:Value->qak->Prop}{s:qak}{k k2:Bool}
theorem qC {C l:Addr}{i:Nat}{xs:Array Value}{x:Value}{Q:Value->qak->Prop} (r:SIt k s.heap C l i) (hl:SIs k s.heap l xs) (hx:xs[i]?=some x)
  (N:∀ h',SIt k h' C l (i+1)->qdd C s.heap h'->Q x { s with heap:=h' }):wpAny (model prog w) A (qcD (.ref C)) Q E s:=by
 cases k with
 |true=>exact d5 r hl hx N
 |false=>exact wpAny_nextOf_list_item r hl hx N
theorem y4 {C l:Addr}{i:Nat}{xs:Array Value}{Q:Value->qak->Prop} (O:A.handled=none) (r:SIt k s.heap C l i) (hl:SIs k s.heap l xs) (hx:xs[i]?=none)
  (hE:∀ h' e,qg3 C s.heap h'->(∃ o,h'.get? e=some o/\o.cls=.type "StopIteration")->E (.ref e) { s with heap:=h' }):wpAny (model prog w) A (qcD (.ref C)) Q E s:=by
 cases k with
 |true=>exact eW O r hl hx hE
 |false=>exact wpAny_nextOf_list_end O r hl hx hE
variable {z TI TO i1 i2 l1 l2:Addr}{n:Nat}{xs ys:Array Value}{a b:Value}
structure ZSt (k k2:Bool) (z TI TO i1 i2 l1 l2:Addr) (f0:Value) (n:Nat) (h:Heap):Prop where
 z:IsZip h z TI TO f0
 ti:qg1 h TI (.ref i1) (.ref i2)
 to:∃ a b,qg1 h TO a b
 t1:SIt k h i1 l1 n
 t2:SIt k2 h i2 l2 n
set_option maxHeartbeats 1000000 in
theorem Ah {x y:Value}{Q:Option Value->qak->Prop} (D:ZipApart z TI TO i1 i2 l1 l2) (hs:ZSt k k2 z TI TO i1 i2 l1 l2 .none n s.heap) (B:SIs k s.heap l1 xs) (J:SIs k2 s.heap l2 ys) (hx:xs[n]?=some x) (hy:ys[n]?=some y)
  (N:∀ h',ZSt k k2 z TI TO i1 i2 l1 l2 (qgq s.heap.objs.size) (n+1) h'->qg1 h' s.heap.objs.size x y->h'.objs.size=s.heap.objs.size+1->
    (∀ c o,c≠z->c≠TO->c≠i1->c≠i2->s.heap.get? c=some o->h'.get? c=some o)->Q (some (.ref s.heap.objs.size)) { s with heap:=h' }) :
  wpAny (model prog w) A (qgU (.ref z)) Q E s:=by
 obtain⟨hz,u,⟨a,b,M⟩,h1,h2⟩:=hs;have P:s.TypeIs (.ref z) "zip":=⟨_,hz,U⟩
 unfold qgU;refine qac (qev (qbK (name:=Str.ofString "__next__") P qeD (qbU qeD P qij ?_ (qh1 _))))
 show wpAny _ _ (field (.ref z) 2 >>= _) _ _ _;refine qac (qb4 hz U (x:=.bool false) U ?_);show wpAny _ _ (field (.ref z) 3 >>= _) _ _ _;refine qac (qb4 hz U (x:=.ref TI) U (qac (qcQ u U ?_)));refine qac ?_;unfold qhu;refine qac (qb4 hz U (x:=.none) U (qar ?_));simp only[if_true];refine qac (qdT (qac (qb4 hz U (x:=.ref TO) U ?_)));refine qac (qcS hz (by simp) λg1 p s1=>?_);replace p:IsZip g1 z TI TO .ellipsis:=p;refine qac ?_;simp only[qhH,qhO,qfP,qhY];have e1:=s1.extBut;refine qac (qac (qfz ?_));refine qac (qC (h1.to λo q=>e1 _ o D.i1z q) (B.to λo q=>e1 _ o D.l1z q) hx λg2 h12 I=>qar ?_);have e2:=I.extBut;have d:qg1 g2 TO a b:=e2 _ _ D.TOi1 (e1 _ _ D.TOz M);refine qac (qcQ d U (qac (qe3 d λg3 m H=>?_)));replace m:qg1 g3 TO x b:=m;have e3:=H.extBut;refine qac (qhQ (qar ?_));refine qac (qac (qfz ?_));refine qac (qC (h2.to λo q=>e3 _ o D.TOi2.symm (e2 _ o D.i12.symm (e1 _ o D.i2z q))) (J.to λo q=>e3 _ o D.l2TO (e2 _ o D.l2i1 (e1 _ o D.l2z q))) hy λg4 h24 Y=>qar ?_);have e4:=Y.extBut;have G:qg1 g4 TO x b:=e4 _ _ D.TOi2 m;refine qac (qcQ G U (qac (qe3 G λf j s5=>?_)));replace j:qg1 f TO x y:=j;have e5:=s5.extBut;refine qac (qhQ (qar (qar ?_)));refine qac (qcQ j U (qac (qjQ ?_)));have hsz:f.objs.size=s.heap.objs.size:=by rw[s5.1,Y.1,H.1,I.1,s1.1]
 have T:IsZip f z TI TO .ellipsis:=e5 _ _ D.TOz.symm (e4 _ _ D.i2z.symm (e3 _ _ D.TOz.symm (e2 _ _ D.i1z.symm p)));have kp:∀ c o,c≠z->c≠TO->c≠i1->c≠i2->s.heap.get? c=some o->f.get? c=some o:=λc o c1 c2 c3 c4 e=>e5 _ _ c2 (e4 _ _ c4 (e3 _ _ c2 (e2 _ _ c3 (e1 _ _ c1 e))));have h25:SIt k2 f i2 l2 (n+1):=h24.to λo q=>e5 _ o D.TOi2.symm q;have F:z<f.objs.size:=qaA T;show wpAny _ _ (qdN (.ref z) (.ref f.objs.size) >>= _) _ _ _;refine qac ?_;unfold qdN;have hz6:IsZip (f.push { cls:=.type "tuple",data:=.seq #[x,y] }) z TI TO .ellipsis:=qaj _ T
 refine qac (qcS hz6 (by simp) λg7 L s7=>?_);replace L:IsZip g7 z TI TO (qgq f.objs.size):=L;refine qcS L (by simp) λg8 v s8=>?_;replace v:IsZip g8 z TI TO (qgq f.objs.size):=v;have up:∀ c o,c≠z->f.get? c=some o->g8.get? c=some o:=λc o c1 e=>s8.extBut _ _ c1 (s7.extBut _ _ c1 (qaj _ e));have R:qg1 g8 f.objs.size x y:=s8.extBut _ _ (qcd F) (s7.extBut _ _ (qcd F) (qax _ U));have S:g8.objs.size=f.objs.size+1:=by rw[s8.1,s7.1,qbp]
 rw[hsz]at v R S;refine qar ⟨_,U,qar ?_⟩;show Q (some (.ref f.objs.size)) _;rw[hsz];exact N g8 ⟨v,up _ _ D.TIz (kp _ _ D.TIz D.TITO D.TIi1 D.TIi2 u),⟨_,_,up _ _ D.TOz j⟩,(h12.to λo q=>e5 _ o D.TOi1.symm (e4 _ o D.i12 (e3 _ o D.TOi1.symm q))).to λo q=>up _ o D.i1z q,h25.to λo q=>up _ o D.i2z q⟩ R S λc o c1 c2 c3 c4 e=>up c o c1 (kp c o c1 c2 c3 c4 e)
set_option maxHeartbeats 1000000 in
theorem B2 {Q:Option Value->qak->Prop} (O:A.in1.handled=none) (D:ZipApart z TI TO i1 i2 l1 l2) (hs:ZSt k k2 z TI TO i1 i2 l1 l2 .none n s.heap) (B:SIs k s.heap l1 xs) (J:SIs k2 s.heap l2 ys) (W:xs[n]?=none\/ys[n]?=none)
  (N:∀ h',(∀ c o,c≠z->c≠TO->c≠i1->c≠i2->s.heap.get? c=some o->h'.get? c=some o)->Q none { s with heap:=h' }):wpAny (model prog w) A (qgU (.ref z)) Q E s:=by
 obtain⟨hz,u,⟨a,b,M⟩,h1,h2⟩:=hs;have P:s.TypeIs (.ref z) "zip":=⟨_,hz,U⟩
 have fin:∀ (h':Heap) (e:Addr),_->(∃ o,h'.get? e=some o/\o.cls=.type "StopIteration")->
   wpAny (model prog w) A (do if (<-isInstance (.ref e) _) then pure none else throw (.ref e)) Q E { s with heap:=h' }:=λh' e hk ⟨o,ho,hc⟩=>
  qac (qiK ⟨o,ho,hc⟩ qjX (qar (N _ hk)))
 refine qac (qev (qbK P qeD (qbU qeD P qij ?_ (qh1 _))));show wpAny _ _ (field (.ref z) 2 >>= _) _ _ _;refine qac (qb4 hz U (x:=.bool false) U ?_);refine qac (qb4 hz U U (qac (qcQ u U ?_)));refine qac ?_;refine qac (qb4 hz U U (qar ?_));refine qac (qdT (qac (qb4 hz U U ?_)));refine qac (qcS hz (by simp) λg1 p s1=>?_);refine qac ?_;simp only[qhH,qhO,qfP,qhY];have e1:=s1.extBut;refine qac (qac (qfz ?_));cases hx:xs[n]? with
 |none=>
  refine qac (y4 O (h1.to λo q=>e1 _ o D.i1z q) (B.to λo q=>e1 _ o D.l1z q) hx λg2 e I he=>?_);obtain⟨oe,g,t⟩:=he;have X:IsZip g2 z TI TO .ellipsis:=I _ _ D.i1z.symm p;have K:e≠z:=λx=>by subst x;rw[X]at g;cases g;simp at t
  exact qcS X (by simp) λg3 _ H=>fin g3 e (λc o c1 _ c3 _ x=>H.extBut _ _ c1 (I _ _ c3 (e1 _ _ c1 x))) ⟨oe,H.extBut _ _ K g,t⟩
 |some x=>
  have hy:ys[n]?=none:=by rcases W with h|h;rw[hx]at h;cases h;exact h
  refine qac (qC (h1.to λo q=>e1 _ o D.i1z q) (B.to λo q=>e1 _ o D.l1z q) hx λg2 h12 I=>qar ?_);have e2:=I.extBut;have d:=e2 _ _ D.TOi1 (e1 _ _ D.TOz M);refine qac (qcQ d U (qac (qe3 d λg3 m H=>?_)));have e3:=H.extBut;refine qac (qhQ (qar ?_));refine qac (qac (qfz ?_));refine qac (y4 O (h2.to λo q=>e3 _ o D.TOi2.symm (e2 _ o D.i12.symm (e1 _ o D.i2z q))) (J.to λo q=>e3 _ o D.l2TO (e2 _ o D.l2i1 (e1 _ o D.l2z q))) hy λg4 e Y he=>?_);obtain⟨oe,g,t⟩:=he;have V:IsZip g4 z TI TO .ellipsis:=Y _ _ D.i2z.symm (e3 _ _ D.TOz.symm (e2 _ _ D.i1z.symm p));have K:e≠z:=λx=>by subst x;rw[V]at g;cases g;simp at t
  exact qcS V (by simp) λf _ s5=>fin f e (λc o c1 c2 c3 c4 x=>s5.extBut _ _ c1 (Y _ _ c4 (e3 _ _ c2 (e2 _ _ c3 (e1 _ _ c1 x))))) ⟨oe,s5.extBut _ _ K g,t⟩
end
def EQ (k:Bool):Value:=if k=true then .type "tuple_iterator" else .type "list_iterator"
def sH (k:Bool) (l:Addr):Obj:={ cls:=EQ k,data:=.fields #[.ref l,.int 0 0] }
abbrev zH1 (k:Bool) (h:Heap) (a:Addr):Heap:=h.push (sH k a)
abbrev zH2 (k k2:Bool) (h:Heap) (b a:Addr):Heap:=(zH1 k h b).push (sH k2 a)
abbrev zH3 (k k2:Bool) (h:Heap) (a b:Addr):Heap:=(zH2 k k2 h a b).push { cls:=.type "tuple",data:=.seq #[.ref h.objs.size,.ref (zH1 k h a).objs.size] }
abbrev zH4 (k k2:Bool) (h:Heap) (b a:Addr):Heap:=(zH3 k k2 h b a).push { cls:=.type "tuple",data:=.seq #[.none,.none] }
abbrev zH5 (k k2:Bool) (h:Heap) (b a:Addr):Heap:=(zH4 k k2 h b a).push { cls:=.type "zip",data:=.fields #[.none,.bool false,.bool false,.ref (zH2 k k2 h b a).objs.size,.ref (zH3 k k2 h b a).objs.size] }
section
variable {prog:qaO}{w:World}{A:qa0}{E:Value->qak->Prop}{s:qak}{k k2:Bool}
theorem sJ {l:Addr}{xs:Array Value}{Q:Value->qak->Prop} (C:SIs k s.heap l xs) (h:Q (.ref s.heap.objs.size) { s with heap:=s.heap.push (sH k l) }):wpAny (model prog w) A (qjB (.ref l)) Q E s:=by
 cases k with
 |true=>exact qcT C h
 |false=>exact qfU C h
theorem oi (a b:Addr) (xs j:Array Value) (k k2:Bool) :
  Meets (qfo.«zip.__new__» ⟨[.type "zip",.ref a,.ref b],[]⟩) (λ_ R s=>SIs k s.heap a xs/\SIs k2 s.heap b j/\R (.ok (.ret (.ref (zH4 k k2 s.heap a b).objs.size))) { s with heap:=zH5 k k2 s.heap a b }):=
 .of_wp λprog w A R s h=>by
  obtain⟨G,g,d,I,os⟩:=s;obtain⟨i,f,h⟩:=h;have B:=sub_zip;have p:SIs k2 (Shared.heap ⟨G.push (sH k a),g,d,I,os⟩) b j:=f.to λo q=>qaj _ q
  wp_walk using sJ i,sJ p
  exact⟨_,U,h⟩
theorem sI (k:Bool) {h:Heap}{u l:Addr} (e:h.get? u=some (sH k l)):SIt k h u l 0:=by
 cases k with
 |true=>exact⟨_,e,U,U⟩
 |false=>exact⟨_,e,U,U⟩
theorem ph {a b:Addr}{xs j:Array Value}{Q:Value->qak->Prop} (i:SIs k s.heap a xs) (f:SIs k2 s.heap b j)
  (h:∀ h',ZSt k k2 (s.heap.objs.size+4) (s.heap.objs.size+2) (s.heap.objs.size+3) s.heap.objs.size (s.heap.objs.size+1) a b .none 0 h'->
    (∀ c o,s.heap.get? c=some o->h'.get? c=some o)->Q (.ref (s.heap.objs.size+4)) { s with heap:=h' }) :
  wpAny (model prog w) A (call (.type "zip") [.ref a,.ref b]) Q E s:=by
 refine callType_new F.called_zip (by decide) (F.typeCall_zip_2 _ _) (F.newCall_zip_2 _ _) (λobj=>F.args_object_init_3 obj _ _) F.entry_zip_new (oi a b xs j k k2) ⟨i,f,?_⟩;have t:(zH1 k s.heap a).objs.size=s.heap.objs.size+1:=qbp ..;have m:(zH2 k k2 s.heap a b).objs.size=s.heap.objs.size+2:=by rw[qbp,t]
 have r:(zH3 k k2 s.heap a b).objs.size=s.heap.objs.size+3:=by rw[qbp,m]
 have z:(zH4 k k2 s.heap a b).objs.size=s.heap.objs.size+4:=by rw[qbp,r]
 have up:∀ {h:Heap}{H:Obj}{c:Addr}{o:Obj},h.get? c=some o->(h.push H).get? c=some o:=λe=>qaj _ e;have n:(zH5 k k2 s.heap a b).get? (zH4 k k2 s.heap a b).objs.size=some _:=qax _ U;have v:(zH5 k k2 s.heap a b).get? (zH3 k k2 s.heap a b).objs.size=some _:=up (qax _ U);have D:(zH5 k k2 s.heap a b).get? (zH2 k k2 s.heap a b).objs.size=some _:=up (up (qax _ U));have y:(zH5 k k2 s.heap a b).get? (zH1 k s.heap a).objs.size=some _:=up (up (up (qax _ U)));rw[m,r,z]at n;rw[t,m]at D;rw[r]at v;rw[t]at y;rw[z];exact⟨⟨_,n,U⟩,h _ ⟨n,D,⟨_,_,v⟩,sI k (up (up (up (up (qax _ U))))),sI k2 y⟩ λc o x=>up (up (up (up (up x))))⟩
end
def SqK (k:Bool) (K:qae) (H:Hp) (a:Addr) (xs:List V):Prop:=match k with
 |true=>SqT K H a xs
 |false=>SqL K H a xs
def Itz (S1 S2:Hp->List V->Prop):It:=
 ⟨λi H=>∃ xs a x y,S1 H xs/\S2 H a/\xs[i]?=some x/\a[i]?=some y,λi H x H'=>∃ T v u,(∀ xs,S1 H xs->xs[i]?=some v)/\(∀ a,S2 H a->a[i]?=some u)/\H T=none/\x=.ref T/\H'=upd H T (.tup [v,u]),
  λi H=>∃ xs a,S1 H xs/\S2 H a/\(xs[i]?=none\/a[i]?=none)⟩
theorem Inv.seqK {X:Cx}{c:List (Addr×Obj)}{d:St}{H:Hp}{s:qak}{k:Bool}{a:Addr}{xs:List V} (I:Inv X c d H s) (h:SqK k X.K H a xs):∃ b:List Value,aF xs b/\SIs k s.heap a b.toArray:=by
 cases k with
 |true=>obtain⟨b,r,p,_⟩:=I.tuple h;exact⟨b,r,p⟩
 |false=>obtain⟨b,r,p,_⟩:=I.list h;exact⟨b,r,p.isList⟩
theorem Inv.seqK_inj {X:Cx}{b:List (Addr×Obj)}{d:St}{H:Hp}{s:qak}{k:Bool}{a:Addr}{xs c:List V} (I:Inv X b d H s) (h:SqK k X.K H a xs) (h':SqK k X.K H a c):xs=c:=by
 cases k with
 |true=>exact I.tuple_inj h h'
 |false=>exact I.list_inj h h'
theorem z8 {P:qaO}{w:World}{K:qae}{m:List Expr}{T:Nat}{pos:Pos}{k k2:Bool}{z TI TO n r C N:Addr} (D:ZipApart z TI TO n r C N) :
  ud P w K (.Tuple m T pos) (Itz (λH xs=>SqK k K H C xs) λH xs=>SqK k2 K H N xs) [z,TI,TO,n,r] z (λi h=>ZSt k k2 z TI TO n r C N .none i h) where
 mem:=by simp
 obj:=λi h st b hb=>by
  simp only[qaz,qbv,or_false]at hb;rcases hb with rfl|rfl|rfl|rfl|rfl
  ·exact⟨_,st.z,λv z=>by cases z⟩
  ·exact⟨_,st.ti,λv z=>by cases z⟩
  ·obtain⟨a,b,e⟩:=st.to;exact⟨_,e,λv z=>by cases z⟩
  ·obtain⟨o,M,e,d⟩:=st.t1.live;exact⟨o,e,λv z=>by rw[d]at z;cases z⟩
  ·obtain⟨o,M,e,d⟩:=st.t2.live;exact⟨o,e,λv z=>by rw[d]at z;cases z⟩
 keep:=λi h h' st kp=>by
  obtain⟨a,b,e⟩:=st.to;exact⟨kp z (by simp) _ st.z,kp TI (by simp) _ st.ti,⟨a,b,kp TO (by simp) _ e⟩,st.t1.to λo q=>kp n (by simp) o q,st.t2.to λo q=>kp r (by simp) o q⟩
 item:=by
  intro X G hw J O i t s σ H E I A st hg;subst G hw J;obtain⟨xs,ys,x,y,g,f,hx,Q⟩:=hg;obtain⟨V,l,p1⟩:=I.seqK g;obtain⟨M,j,B⟩:=I.seqK f;obtain⟨u,hu,ru⟩:=l.get hx;obtain⟨v,Y,rv⟩:=j.get Q;refine Ah D st p1 B (by simpa using hu) (by simpa using Y) λh1 c W hsz kp=>⟨_,U,?_⟩;refine wpAny_letOwnedTupleGo_zip c.z λh2 F s2=>?_;have e2:=s2.extBut;obtain⟨c1,c2,L⟩:=c.to;have R:∀ b∈[z,TI,TO,n,r],b≠s.heap.objs.size:=λb hb e=>by
   obtain⟨o,ho,_⟩:=(show ∃ o,s.heap.get? b=some o/\True by
    simp only[qaz,qbv,or_false]at hb;obtain⟨a',b',e'⟩:=st.to;obtain⟨o1,_,q1,_⟩:=st.t1.live;obtain⟨o2,_,S,_⟩:=st.t2.live;rcases hb with rfl|rfl|rfl|rfl|rfl
    ·exact⟨_,st.z,trivial⟩
    ·exact⟨_,st.ti,trivial⟩
    ·exact⟨_,e',trivial⟩
    ·exact⟨_,q1,trivial⟩
    ·exact⟨_,S,trivial⟩)
   have:=qaA ho
   rw[e]at this;exact qa3 _ this
  refine⟨.ref s.heap.objs.size,_,?_,U,⟨s.heap.objs.size,x,y,λzs hz=>by rw[I.seqK_inj hz g];exact hx,λzs hz=>by rw[I.seqK_inj hz f];exact Q,I.hok.fresh (qao _),U,U⟩,?_,λb hb=>?_⟩
  ·have I2:=I.turnsT (h':=h2) (t':=s.toks) A (λb o hb q=>by
    simp only[qaz,qbv,or_false,not_or]at hb
    exact e2 b o hb.1 (kp b o hb.1 hb.2.2.1 hb.2.2.2.1 hb.2.2.2.2 q)) (qao _) ⟨_,e2 _ _ (qbD (R z (by simp))) W,U,⟨_,U⟩,U⟩ (.cons ru (.cons rv .nil)) (by show 2<=qaG;decide)
   exact I2
  ·exact⟨F,e2 _ _ D.TIz c.ti,⟨c1,c2,e2 _ _ D.TOz L⟩,c.t1.to λo q=>e2 _ o D.i1z q,c.t2.to λo q=>e2 _ o D.i2z q⟩
  ·rw[upd_ne (R b hb)];exact (A b hb).1
 done:=by
  intro X G hw J O i t s σ H E I A st hg;subst G hw J;obtain⟨xs,ys,g,f,p⟩:=hg;obtain⟨V,l,p1⟩:=I.seqK g;obtain⟨M,j,B⟩:=I.seqK f;have hl1:=l.length;have hl2:=j.length
  refine B2 (I.ok.hd O) D st p1 B (by
   rcases p with h|h
   ·rw[qcY]at h;simp;lia
   ·rw[qcY]at h;simp;lia) λh' kp=>⟨U,I.turns A λb o hb q=>?_⟩
  simp only[qaz,qbv,or_false,not_or]at hb;exact kp b o hb.1 hb.2.2.1 hb.2.2.2.1 hb.2.2.2.2 q
 self:=λ_ _ _ _ _ st h=>qiJ st.z h
def Ge (K:qae) (k k2:Bool) (d:TA):L2.TI:=λe H R=>d e H λc H1=>∃ a b,c=[.ref a,.ref b]/\(∃ xs,SqK k K H1 a xs)/\(∃ xs,SqK k2 K H1 b xs)/\R (Itz (λH xs=>SqK k K H a xs) λH xs=>SqK k2 K H b xs) H1
theorem DF {X:Cx}{i:List Expr}{z:Nat}{d:Pos}{a b:Expr}{w:TA}{p pos:Pos}{k k2:Bool} (hg:Gl X "zip") (hm:X.mg "zip" = none) (L:PA X [a,b] w) (G:qbB [a,b] X.env=[(false,eval a X.env),(false,eval b X.env)]:=by rfl) (f:qbB [b] X.env=[(false,eval b X.env)]:=by rfl) :
  PI X (.Tuple i z d) (.Call (.Name "zip" p) [a,b] [] pos) (Ge X.K k k2 w):=by
 intro j s E H R I h;refine Call_ (iY I hg hm boot_zip (qb7 (thn (L pos j s E H _ I h) λn s1 ⟨K,H1,I1,F,D⟩=>?_) (by rw[G,f]) (by rw[f];rfl)));obtain⟨l,m,e,⟨xs,C⟩,⟨M,t⟩,q⟩:=D;subst e;cases F with
 |cons r u=>
  cases u with
  |cons y u=>
   cases u;cases r;cases y;obtain⟨n,J,p1⟩:=I1.seqK C;obtain⟨K,B,v⟩:=I1.seqK t;have lt:∀ {k:Bool}{l:Addr}{n:Array Value},SIs k s1.heap l n->l<s1.heap.objs.size:=λ{k l n} x=>by
    cases k with
    |true=>obtain⟨_,o,_⟩:=x;exact qaA o
    |false=>obtain⟨_,o,_⟩:=x;exact qaA o
   refine ph p1 v λh' g A=>qiJ g.z ?_;refine⟨_,_,_,_,H1,U,I1.kept A,z8 (zipApart_new (lt p1) (lt v)),g,λb hb=>?_,q⟩;have c:s1.heap.objs.size<=b:=by
    simp only[qaz,qbv,or_false]at hb;rcases hb with rfl|rfl|rfl|rfl|rfl
    ·exact qcH _ 4
    ·exact qcH _ 2
    ·exact qcH _ 3
    ·exact qao _
    ·exact qcH _ 1
   exact I1.fpOk c (I1.hok.fresh c)
def dG:List D->List D->List D
 |d::ds,e::es=>.tup [d,e]::dG ds es
 |_,_=>[]
def D3:W->Option (Bool×List D)
 |.d (.tup ds)=>some (true,ds)
 |.d (.lst ds)=>some (false,ds)
 |_=>none
def cY (c:Af):Lf
 |env,st=>(c env st).bind λr=>match r.1 with
  |[x,y]=>(D3 x).bind λa=>(D3 y).map λb=>(dG a.2 b.2,r.2)
  |_=>none
theorem fm:∀ (ds es:List D) (i:Nat),(dG ds es)[i]?=(ds[i]?).bind λd=>(es[i]?).map λe=>D.tup [d,e]
 |[],es,i=>by simp[dG]
 |d::ds,[],i=>by cases i<;>simp[dG]
 |d::ds,e::es,0=>by simp[dG]
 |d::ds,e::es,i+1=>by simpa [dG] using fm ds es i
theorem nZ:∀ (ds es:List D),(dG ds es).length=min ds.length es.length
 |[],es=>by simp[dG]
 |d::ds,[]=>by simp[dG]
 |d::ds,e::es=>by simp[dG,nZ ds es]
section
variable {K:qae}{X:Cx}{a b:Expr}{pos:Pos}{af:Af}
theorem wA {st:Sto}{H:Hp}{φ:List Addr}{w:W}{v:V}{p:Bool×List D} (r:Rw K H φ w v) (e:D3 w=some p) (S:Sr K H φ st):∃ a l,v=.ref a/\SqK p.1 K H a l/\(∀ H' c,Fw φ c H H'->SqK p.1 K H' a l)/\Rls K H φ p.2 l:=by
 cases w with
 |h n=>cases e
 |d x=>
  cases x with
  |tup ds=>
   cases e;obtain⟨a,j,rfl,o,g⟩:=r;exact⟨a,j,U,(SqT.of o),λH' c f=>(SqT.of o).fw S f,g⟩
  |lst ds=>
   cases e;obtain⟨a,j,rfl,h0,o,g⟩:=r;exact⟨a,j,U,.inl o,λH' c f=>.inl (o.fw f h0),g⟩
  |_=>cases e
theorem Eh {S1 S2:Hp->List V->Prop}{ds es:List D}{l j:List V}{φ:List Addr}{H:Hp} (h1:∀ H' c,Fw φ c H H'->S1 H' l) (h2:∀ H' c,Fw φ c H H'->S2 H' j) (r1:∀ H' c,Fw φ c H H'->Rls K H' c ds l) (r2:∀ H' c,Fw φ c H H'->Rls K H' c es j) :
  Yl K φ H (Itz S1 S2) (dG ds es):=by
 intro H2 m st2 i B s2;have N:=h1 H2 m B;have E:=h2 H2 m B;have C:=r1 H2 m B;have w2:=r2 H2 m B;refine⟨λd hd=>?_,λhi=>⟨l,j,N,E,?_⟩⟩
 ·rw[fm,qab]at hd
  obtain⟨d1,O,hd⟩:=hd;obtain⟨d2,G,rfl⟩:=qad.mp hd;obtain⟨v,ev,rv⟩:=C.get O;obtain⟨u,eu,ru⟩:=w2.get G;refine⟨⟨l,j,v,u,N,E,ev,eu⟩,λx H' y=>?_⟩;obtain⟨T,v',u',y1,y2,I,rfl,rfl⟩:=y;have z1:=y1 l N;have z2:=y2 j E;rw[ev]at z1;rw[eu]at z2;cases z1;cases z2;exact⟨aN.new I _,T,_,U,upd_same,_,_,U,rv.fw s2 (Fw.new I),_,_,U,ru.fw s2 (Fw.new I),U⟩
 ·rw[nZ]at hi
  have l1:=C.length;have l2:=w2.length;rw[qcY,qcY];lia
theorem mO {z:List Expr}{k:Nat}{s p:Pos} (hg:Gl X "zip") (hm:X.mg "zip" = none) (ha:IA K X [a,b] af) (hs:au a=true:=by rfl) (t:au b=true:=by rfl) (hK:X.K=K:=by rfl) :
  II K X (.Tuple z k s) (.Call (.Name "zip" p) [a,b] [] pos) (cY af):=by
 subst hK;refine⟨λenv st r g=>?_⟩;simp only[cY,qab]at g;obtain⟨⟨ws,s1⟩,hy,g⟩:=g;dsimp only at g;split at g
 case h_2=>cases g
 rename_i x y;simp only[qab,qad]at g;obtain⟨p1,Y,p2,P,rfl⟩:=g;refine (DF (k:=p1.1) (k2:=p2.1) hg hm (ha.run _ _ _ hy) (zX hs t) (gI t)).imp ?_
 rintro σ H R ⟨φ,hE,hS,q⟩
 refine⟨φ,hE,hS,λl H1 J f1 s1 C=>?_⟩;obtain⟨v,r,rfl,rx,v2,r',rfl,ry,rfl⟩:=C;obtain⟨a,j,rfl,o,F,g⟩:=wA rx Y s1;obtain⟨b,M,rfl,L,A,Q⟩:=wA ry P s1;exact⟨a,b,U,⟨j,o⟩,⟨M,L⟩,q _ H1 J f1 s1 (Eh F A (λH' c f=>g.fw s1 f) λH' c f=>Q.fw s1 f)⟩
end
section
variable {prog:qaO}{w:World}{A:qa0}{s:qak}{I l S:Addr}{items:Array Value}{ns:List Int}{a:List (Str×Value)}{R:qjJ->qak->Prop}
variable {E:Value->qak->Prop}
end
section
variable {K:qae}{X:Cx}{e a b:Expr}{es:List Expr}{pos:Pos}{f d g:Ef}{c:Af}
end
section
variable {K:qae}{X:Cx}
def CL (_:Sto):W->W->Option D
 |.d (.int i),.d (.int j)=>some (.int (qdM i j))
 |_,_=>none
theorem qE:OpD K X (qbE .BitAnd) CL:=fT (λ_ _ _=>rfl) λi j d h=>by cases h;exact⟨Dq.imp λ_ _ _ _ q=>⟨i,j,q⟩,U⟩
end
section
variable {K:qae}{X:Cx}{pos:Pos}{a b:Expr}{c:Af}
end
def cE (a b:Ef):Ef
 |env,st=>(a env st).bind λx=>(b env x.2).bind λy=>match x.1,y.1 with
 | .h n,.d (.int i)=>(match y.2[n]? with
  |some (.n ws)=>(atI ws i).map λw=>(w,y.2)
  |_=>none)
 |_,_=>none
def yA (a:Af):Ef
 |env,st=>(a env st).bind λr=>if r.1.length<=1000 then some (.h r.2.length,r.2++[.n r.1]) else none
def jo (o i v:Ef):Sf
 |env,st=>(v env st).bind λc=>(o env c.2).bind λb=>(i env b.2).bind λa=>match b.1,a.1,c.1 with
 | .h n,.d (.int k),.d x=>(match a.2[n]? with
  |some (.n ws)=>(ixN ws.length k).map λj=>.nx env (a.2.set n (.n (ws.set j (.d x))))
  |_=>none)
 |_,_,_=>none
def uN (ds:List D):List W->Option (D×List D)
 |[.d (.int i)]=>(ixN ds.length i).bind λk=>(ds[k]?).bind λd=>if bG d=true/\-(2^62)<=i/\i<2^62 then some (d,ds.eraseIdx k) else none
 |_=>none
def sD (i j l:Nat) (a:Af):Sf
 |env,st=>(a env st).bind λr=>match r.1 with
 |[x,y,z]=>some (.nx (((env.set i (some x)).set j (some y)).set l (some z)) r.2)
 |_=>none
section
variable {K:qae}{X:Cx}{pos:Pos}{e a b c:Expr}{es:List Expr}{f fa fb:Ef}{af:Af}
theorem Rws.get {H:Hp}{φ:List Addr}:∀ {ds:List W}{s:List V},Rws K H φ ds s->∀ {i:Nat}{d:W},ds[i]?=some d->∃ v,s[i]?=some v/\Rw K H φ d v
 |[],_,h,i,d,e=>by simp at e
 |d::ds,_,h,i,e,q=>by
  obtain⟨v,r,rfl,J,I⟩:=h;cases i with
  |zero=>simp at q;subst q;exact⟨v,U,J⟩
  |succ i=>simpa using Rws.get I (by simpa using q)
theorem Rws.set {H:Hp}{φ:List Addr}:∀ {ds:List W}{s:List V} (n:Nat) {d:W}{v:V},Rws K H φ ds s->Rw K H φ d v->Rws K H φ (ds.set n d) (s.set n v)
 |[],_,_,_,_,h,_=>by cases h;exact U
 |e::ds,_,0,d,v,h,hd=>by
  obtain⟨u,r,rfl,J,I⟩:=h;exact⟨v,r,U,hd,I⟩
 |e::ds,_,n+1,d,v,h,hd=>by
  obtain⟨u,r,rfl,J,I⟩:=h;exact⟨u,_,U,J,Rws.set n I hd⟩
theorem Rws.mem {H:Hp}{φ:List Addr}:∀ {ds:List W}{s:List V},Rws K H φ ds s->∀ {m:Nat},W.h m∈ds->m<φ.length
 |[],_,_,m,hm=>nomatch hm
 |d::ds,_,h,m,hm=>by
  obtain⟨v,r,rfl,J,I⟩:=h;rcases qaz.mp hm with z|z
  ·subst z
   obtain⟨a,e,_⟩:=J;exact (qap.mp e).1
  ·exact Rws.mem I z
theorem Sr.atn {H:Hp}{φ:List Addr}{st:Sto} (S:Sr K H φ st) {n:Nat}{p:Addr}{ws:List W} (e1:φ[n]?=some p) (e2:st[n]?=some (.n ws)):∃ s,H p=some (.lst s)/\Rws K H φ ws s/\∀ m,W.h m∈ws->m<n:=S.at_ n p _ e1 e2
theorem Ao {H:Hp}{φ:List Addr}{ds:List W}{s:List V}{i:Int}{d:W} (r:Rws K H φ ds s) (e:atI ds i=some d):∃ v,atI s i=some v/\Rw K H φ d v:=by
 unfold atI at e ⊢;rw[<-r.length];obtain⟨j,e1,e2⟩:=qab.mp e;obtain⟨v,ev,rv⟩:=r.get e2;exact⟨v,by rw[e1];exact ev,rv⟩
theorem pS (ha:IE K X a fa) (hb:IE K X b fb) (hs:ko b=true:=by rfl) (hK:X.K=K:=by rfl):IE K X (.Subscript a b pos) (cE fa fb):=by
 subst hK;refine⟨λenv st r g=>?_⟩;simp only[cE,qab]at g;obtain⟨⟨x,s1⟩,hx,⟨y,s2⟩,t,g⟩:=g;dsimp only at g;split at g
 case h_2=>cases g
 rename_i n i;split at g
 ·rename_i ws hws
  obtain⟨w,hw,rfl⟩:=qad.mp g;refine (ze qt (ha.run _ _ _ hx) (hb.run _ _ _ t) (mW hs)).imp ?_
  rintro σ H Q ⟨φ,E,F,q⟩
  refine⟨φ,E,F,λv H1 A C S1 L=>⟨A,E.fw F C,S1,λu H2 R O S2 w2=>?_⟩⟩;obtain⟨p,ep,rfl⟩:=L.fw S1 O;obtain⟨s,hv,N,_⟩:=S2.atn ep hws;obtain⟨z,ez,rz⟩:=Ao N hw;exact .inl ⟨p,s,i,z,U,w2,SqL.of hv,ez,q z H2 R (C.trans O) S2 rz⟩
 ·cases g
theorem lB (h:IA K X es af):IE K X (.List es pos) (yA af):=by
 refine⟨λenv st r g=>?_⟩;simp only[yA,qab]at g;obtain⟨y,t,g⟩:=g;split at g
 ·cases g
  rename_i hl;refine (zf (h.run _ _ _ t)).imp ?_
  rintro σ H Q ⟨φ,E,F,q⟩
  refine⟨φ,E,F,λs H1 A C s1 L=>?_⟩;refine⟨by rw[<-L.length];exact ii hl,λp B=>?_⟩;exact q _ _ _ (C.trans (Fw.more B)) (s1.moreC B ⟨s,upd_same,L.fw s1 (Fw.more B),λm hm=>L.mem hm⟩) ⟨p,by rw[<-s1.len];simp,U⟩
 ·cases g
theorem gW {G:Pos} (ho:IE K X a fa) (hi:IE K X b fb) (hv:IE K X e f) (hb:ko b=true:=by rfl) (hs:qc0 [.Subscript a b G] e pos.line X.env=pure false:=by rfl) (hw:qc1 [.Subscript a b G] e X.env=pure none:=by rfl) :
  IS K X (.Assign [.Subscript a b G] e pos) (jo fa fb f):=by
 refine⟨λenv st r g=>?_⟩;simp only[jo,qab]at g;obtain⟨⟨rv,s1⟩,ev,⟨ro,s2⟩,eo,⟨ri,s3⟩,ei,g⟩:=g;dsimp only at g;split at g
 case h_2=>cases g
 rename_i n k x;split at g
 ·rename_i ws hws
  obtain⟨j,ej,rfl⟩:=qad.mp g;refine (kq (hv.run _ _ _ ev) (qQ (ho.run _ _ _ eo) (hi.run _ _ _ ei) jR (lm hb)) hs hw (gO U)).imp ?_
  rintro D σ H ⟨φ,E,F,q⟩
  refine⟨φ,E,F,λv H1 A C s1 L=>⟨A,E.fw F C,s1,λo H2 R O s2 w2=>⟨R,(E.fw F C).fw s1 O,s2,λi H3 φ3 f3 s3 w3=>?_⟩⟩⟩;have e3:=((E.fw F C).fw s1 O).fw s2 f3;have w1':=(L.fw s1 O).fw s2 f3;obtain⟨p,ep,rfl⟩:=w2.fw s2 f3;obtain⟨s,B,N,bd⟩:=s3.atn ep hws;have w3':i=.int k:=w3;subst w3'
  obtain⟨f4,s4⟩:=s3.putC (o:=.lst (s.set j v)) (c:=.n (ws.set j (.d x))) ep λf=>⟨_,upd_same,(Rws.set j N w1').fw s3 f,λm hm=>by
   rcases List.mem_or_eq_of_mem_set hm with z|z
   ·exact bd m z
   ·cases z⟩
  refine⟨p,s,k,j,U,U,B,by rw[<-N.length];exact ej,?_⟩;exact q _ _ φ3 (((C.trans O).trans f3).trans f4) (e3.fw s3 f4) s4
 ·cases g
theorem Rls.erase {H:Hp}{φ:List Addr}:∀ {ds:List D}{s:List V} (n:Nat),Rls K H φ ds s->Rls K H φ (ds.eraseIdx n) (s.eraseIdx n)
 |[],_,_,h=>by cases h;exact U
 |d::ds,_,0,h=>by
  obtain⟨v,r,rfl,J,I⟩:=h;exact I
 |d::ds,_,n+1,h=>by
  obtain⟨v,r,rfl,J,I⟩:=h;exact⟨v,_,U,J,Rls.erase n I⟩
theorem pV {M:Pos} (ho:IE K X a fa) (ha:IA K X (e::es) af) (P:qct a "pop" X.env (eval a X.env)=eval a X.env:=by rfl)
  (hall:(e::es).all au=true:=by rfl) (T:(e::es).length<30:=by decide) (Y:(M.endLine==pos.line)=true:=by rfl) (hK:X.K=K:=by rfl) :
  IE K X (.Call (.Attribute a "pop" M) (e::es) [] pos) (cR uN fa af):=by
 refine uw PySem.F.slot_list_pop PySem.F.type_list_pop yX (λH φ st n ad ds s ws us y Q S ea eds hv N rw t q=>?_) (λds ws y h=>?_) ho ha P hall T Y hK
 ·match ws,t with
  |[.d (.int i)],t=>
   simp only[uN,qab]at t;obtain⟨k,hk,d,hd,t⟩:=t;split at t
   ·rename_i hl
    cases t;obtain⟨v,r,rfl,r1,rfl⟩:=rw;obtain⟨x,ex,rx⟩:=N.get hd;refine⟨ad,s,i,k,x,U,by rw[r1],hv,by lia,by lia,by rw[<-N.length];exact (lU hk).1,ex,q _ _ rx (N.erase k) λb z=>?_⟩;obtain⟨z1,z2⟩:=d6 hl.1 rx;rw[z]at z2;cases z2
   ·cases t
 ·match ws,h with
  |[.d (.int i)],h=>
   simp only[uN,qab]at h;obtain⟨k,hk,d,hd,h⟩:=h;split at h
   ·rename_i hl
    cases h;exact hl.1
   ·cases h
theorem lK {i j l:Nat}{x y z:Str}{px py pz pt:Pos}{kt k2 pt2} (hx:PG X (.Name x px) (kG i)) (t:PG X (.Name y py) (kG j)) (hz:PG X (.Name z pz) (kG l)) (ha:IA K X [a,b,c] af) (hc:X.calm=true) (hK:X.K=K)
  (hs:qc0 [.Tuple [.Name x px,.Name y py,.Name z pz] kt pt] (.Tuple [a,b,c] k2 pt2) pos.line X.env=pure false) (hw:qc1 [.Tuple [.Name x px,.Name y py,.Name z pz] kt pt] (.Tuple [a,b,c] k2 pt2) X.env=pure none) :
  IS K X (.Assign [.Tuple [.Name x px,.Name y py,.Name z pz] kt pt] (.Tuple [a,b,c] k2 pt2) pos) (sD i j l af):=by
 refine⟨λenv st r g=>?_⟩;simp only[sD,qab]at g;obtain⟨⟨ws,s1⟩,hy',g⟩:=g
 match ws,g with
 |[wx,wy,wz],g=>
  cases g;refine (kq (zg (x1:=k2) (pos:=pt2) (ha.run _ _ _ hy')) (zi (k:=kt) (pos:=pt) hc (jO hx (jO t (jO hz wl (jf U)) (jf U)) (jf U)) ((lj U).trans U) (je U)) hs hw (gO U)).imp ?_
  rintro D σ H ⟨φ,E,F,q⟩
  refine⟨φ,E,F,λs H1 A C S1 L=>?_⟩;obtain⟨v,r,rfl,r1,u,r',rfl,r2,u3,r'',rfl,r3,r4⟩:=L;cases r4;refine⟨by rw[qcJ];simp,λp B=>⟨p,_,U,SqT.of upd_same,U,v,_,U,u,_,U,u3,_,U,U,?_⟩⟩;exact q _ _ A (C.trans (Fw.new B)) (((((E.fw F C).fw S1 (Fw.new B)).set i (r1.fw S1 (Fw.new B))).set j (r2.fw S1 (Fw.new B))).set l (r3.fw S1 (Fw.new B))) (S1.new B)
end
def ax (f:Str) (a:Ef):Ef
 |env,st=>(a env st).bind λx=>match x.1 with
 |.d (.ob ns ds)=>((ns.zip ds).lookup f).map λd=>(.d d,x.2)
 | .h n=>(match x.2[n]? with
  |some (.o fs)=>(fs.lookup f).map λw=>(w,x.2)
  |_=>none)
 |_=>none
section
variable {K:qae}{H:Hp}{φ:List Addr}
theorem ua {f:Str}{d:D}:∀ {ns:List Str}{ds:List D}{b:List V},Rls K H φ ds b->(ns.zip ds).lookup f=some d->∃ v,(ns.zip b).lookup f=some v/\Rl K H φ d v/\f∈ns
 |[],ds,b,r,h=>by cases h
 |n::ns,[],b,r,h=>by cases h
 |n::ns,x::ds,b,r,h=>by
  obtain⟨v,k,rfl,j,c⟩:=r;rw[qeZ,qbx]at h ⊢;by_cases e:(f==n)=true
  ·rw[e]at h ⊢
   cases h;exact⟨v,U,j,by rw[beq_iff_eq.mp e];exact qag⟩
  ·rw[show (f==n)=false by simpa using e]at h ⊢
   obtain⟨l,o,q,s⟩:=ua c h;exact⟨l,o,q,qah _ s⟩
theorem Rfs.look {f:Str}{w:W}:∀ {fs:List (Str×W)}{b:List (Str×V)},Rfs K H φ fs b->fs.lookup f=some w->∃ v,b.lookup f=some v/\Rw K H φ w v/\∃ p∈fs,p.1=f
 |[],b,r,h=>by cases h
 |(n,x)::fs,b,r,h=>by
  obtain⟨v,k,rfl,j,c⟩:=r;rw[qbx]at h ⊢;by_cases e:(f==n)=true
  ·rw[e]at h ⊢
   cases h;exact⟨v,U,j,_,qag,(beq_iff_eq.mp e).symm⟩
  ·rw[show (f==n)=false by simpa using e]at h ⊢
   obtain⟨l,o,q,p,t,s⟩:=Rfs.look c h;exact⟨l,o,q,p,qah _ t,s⟩
theorem Rfs.length:∀ {fs:List (Str×W)}{b:List (Str×V)},Rfs K H φ fs b->fs.length=b.length
 |[],b,r=>by cases r;rfl
 |(n,x)::fs,b,r=>by
  obtain⟨v,k,rfl,j,c⟩:=r;rw[qaq,qaq,Rfs.length c]
theorem Rfs.mem {m:Nat}:∀ {fs:List (Str×W)}{b:List (Str×V)},Rfs K H φ fs b->W.h m∈fs.map (·.2)->m<φ.length
 |[],_,_,hm=>nomatch hm
 |(n,x)::fs,_,r,hm=>by
  obtain⟨v,k,rfl,j,c⟩:=r;rcases qaz.mp hm with z|z
  ·subst z
   obtain⟨a,e,_⟩:=j;exact (qap.mp e).1
  ·exact Rfs.mem c z
def nA (f:Str) (w:W):List (Str×W)->List (Str×W)
 |[]=>[(f,w)]
 |(g,x)::r=>if g=f then (g,w)::r else (g,x)::nA f w r
theorem Rfs.put {f:Str}{w:W}{v:V} (i:Rw K H φ w v):∀ {fs:List (Str×W)}{b:List (Str×V)},Rfs K H φ fs b->Rfs K H φ (nA f w fs) (eZ f v b)
 |[],_,r=>by cases r;exact⟨v,_,U,i,U⟩
 |(g,x)::fs,_,r=>by
  obtain⟨l,k,rfl,j,c⟩:=r;unfold nA eZ;by_cases e:g=f
  ·rw[iFP e,iFP e];exact⟨v,k,U,i,c⟩
  ·rw[iFN e,iFN e];exact⟨l,_,U,j,Rfs.put i c⟩
theorem nB {f:Str}{w:W}:∀ {fs:List (Str×W)}{p:Str×W},p∈nA f w fs->p∈fs\/p=(f,w)
 |[],p,h=>.inr (qam.mp h)
 |(g,x)::fs,p,h=>by
  unfold nA at h;by_cases e:g=f
  ·rw[iFP e]at h
   rcases qaz.mp h with z|z
   ·rw[e]at z;exact .inr z
   ·exact .inl (qah _ z)
  ·rw[iFN e]at h
   rcases qaz.mp h with z|z
   ·exact .inl (z ▸ qag)
   ·rcases nB z with z|z
    ·exact .inl (qah _ z)
    ·exact .inr z
theorem tM {f:Str}{v:V}:∀ {b:List (Str×V)},f∉b.map (·.1)->eZ f v b=b++[(f,v)]
 |[],_=>rfl
 |(g,x)::b,h=>by
  unfold eZ;rw[iFN (by intro e;exact h (e ▸ qag)),tM λz=>h (qah _ z)];rfl
theorem Rfs.keys:∀ {fs:List (Str×W)}{b:List (Str×V)},Rfs K H φ fs b->b.map (·.1)=fs.map (·.1)
 |[],b,r=>by cases r;rfl
 |(n,x)::fs,b,r=>by
  obtain⟨v,k,rfl,j,c⟩:=r;rw[qau,qau,Rfs.keys c]
theorem Rfs.snoc {f:Str}{w:W}{v:V} (i:Rw K H φ w v):∀ {fs:List (Str×W)}{b:List (Str×V)},Rfs K H φ fs b->Rfs K H φ (fs++[(f,w)]) (b++[(f,v)])
 |[],_,r=>by cases r;exact⟨v,_,U,i,U⟩
 |(g,x)::fs,_,r=>by
  obtain⟨l,k,rfl,j,c⟩:=r;exact⟨l,_,U,j,Rfs.snoc i c⟩
end
section
variable {K:qae}{X:Cx}{pos j:Pos}{e o:Expr}{M fb:Ef}{f:Str}
theorem lx (h:IE K X e M) (hb:qct e f X.env (eval e X.env)=eval e X.env:=by rfl) (W:X.K=K:=by rfl):IE K X (.Attribute e f pos) (ax f M):=by
 subst W;refine⟨λenv st r b=>?_⟩;simp only[ax,qab]at b;obtain⟨⟨x,s1⟩,hx,b⟩:=b;refine (Dy (h.run _ _ _ hx) hb).imp ?_
 rintro σ H Q ⟨φ,F,G,q⟩
 refine⟨φ,F,G,λv H1 i y k O=>?_⟩;cases x with
 |d x=>
  cases x with
  |ob ns ds=>
   obtain⟨d,hd,rfl⟩:=qad.mp b;obtain⟨a,Cl,t,fs,I,rfl,h0,C,rfl,h3,J,A,h6,h7⟩:=O;obtain⟨u,T,ru,hf⟩:=ua h7 hd;exact⟨a,Cl,t,_,u,U,C,A,h6 f hf,T,q u H1 i y k ru⟩
  |_=>cases b
 |h n=>
  dsimp only at b;split at b
  ·rename_i fs s
   obtain⟨w,hw,rfl⟩:=qad.mp b;obtain⟨a,P,rfl⟩:=O;obtain⟨Cl,t,I,C,E,h3,J,A⟩:=k.at_ n a _ P s;obtain⟨u,T,ru,p,R,rfl⟩:=E.look hw;exact⟨a,Cl,t,I,u,U,C,J,A p R,T,q u H1 i y k ru⟩
  ·cases b
def kK (f:Str) (o v:Ef):Sf
 |env,st=>(v env st).bind λN=>(o env N.2).bind λL=>match L.1,N.1 with
 | .h n,.d x=>(match L.2[n]? with
  |some (.o fs)=>if fs.length<1000/\(fs.lookup f).isSome=true then some (.nx env (L.2.set n (.o (nA f (.d x) fs)))) else none
  |_=>none)
 |_,_=>none
theorem lN (ho:IE K X o M) (hv:IE K X e fb) (hs:qcr e (some (.Attribute o f j)) pos.line X.env=pure false:=by rfl) (W:X.K=K:=by rfl):IS K X (.Assign [.Attribute o f j] e pos) (kK f M fb):=by
 subst W;refine⟨λenv st r b=>?_⟩;simp only[kK,qab]at b;obtain⟨⟨N,s1⟩,ev,⟨L,B⟩,eo,b⟩:=b;cases L with
 |d x=>cases b
 |h n=>
  cases N with
  |h m=>cases b
  |d x=>
   dsimp only at b;split at b
   case h_2=>cases b
   rename_i fs s;split at b
   case isFalse=>cases b
   rename_i hc;cases b;refine (zv (ho.run _ _ _ eo) (hv.run _ _ _ ev) hs).imp ?_
   rintro D σ H ⟨φ,F,G,q⟩
   refine⟨φ,F,G,λv H1 i y s1 O=>⟨i,F.fw G y,s1,λu H2 Y S B w2=>?_⟩⟩;obtain⟨a,P,rfl⟩:=w2;obtain⟨Cl,t,I,C,E,h3,J,A⟩:=B.at_ n a _ P s;obtain⟨w0,hw0⟩:=qcp.mp hc.2;obtain⟨u0,hu0,ru0,p,R,V⟩:=E.look hw0;have na:=V ▸ A p R;refine⟨a,Cl,t,I,U,C,J,na,by rw[<-E.length];exact hc.1,?_⟩
   obtain⟨f3,s3⟩:=B.putC (o:=.ins Cl t (eZ f v I)) (c:=.o (nA f (.d x) fs)) P λg=>⟨Cl,t,_,upd_same,(Rfs.put (O.fw s1 S) E).fw B g,(λm hm=>by
    obtain⟨p',l,e'⟩:=qaM.mp hm;rcases nB l with z|z
    ·exact h3 m (e' ▸ qdH (f:=(·.2)) z)
    ·rw[z]at e';cases e'),J,(λp' l=>by
    rcases nB l with z|z
    ·exact A p' z
    ·rw[z];exact na)⟩
   exact q σ _ Y ((y.trans S).trans f3) (((F.fw G y).fw s1 S).fw B f3) s3
end
section
variable {K:qae}{X:Cx}{pos:Pos}{a e:Expr}{fa:Ef}{W:Af}
def yz (o:Ef) (a:Af):Ef
 |env,st=>(o env st).bind λx=>(a env x.2).bind λr=>match x.1,r.1 with
 |.d (.lst ds),[.d (.int k)]=>(a8 ds).bind λns=>if ns.length<=1000 then (ns.idxOf? k).map λj=>(.d (.int (j:Nat)),r.2) else none
 |_,_=>none
def Go (X:Cx):V->List V->Hp->VK->Prop:=λx xs H Q=>∃ (p:Addr) (ns:List Int) (k:Int) (j:Nat),x=.ref p/\xs=[.int k]/\SqL X.K H p (ns.map V.int)/\ns.length<=1000/\ns.idxOf? k=some j/\Q (.int (j:Nat)) H
theorem CV:∀ {ns:List Int}{k:Int}{j:Nat},ns.idxOf? k=some j->j<ns.length/\ns[j]?=some k/\∀ i,i<j->ns[i]?≠some k:=by
 intro ns k j h;obtain⟨N,h3,h4⟩:=(qdk.mp h);refine⟨N,by rw[qal N,h3],λi hi z=>?_⟩;rw[qal (qdW hi N)]at z;exact h4 i hi (qaL z)
theorem Di:MtR X "list.index" (Go X):=by
 intro pins s σ H x xs v us Q I rx rv h;obtain⟨p,ns,k,j,rfl,rfl,F,hl,L,q⟩:=h;cases rx;obtain⟨u,rfl,ru⟩:=rv.one;obtain⟨t,rfl⟩:=ru;obtain⟨g,r,pl,hz⟩:=I.list F;obtain⟨j1,j2,j3⟩:=CV L;have A:g.length=ns.length:=by rw[<-r.length,qaf]
 have at_:∀ (i:Nat) (hi:i<g.length),∃ t,∃ hn:i<ns.length,g[i]=.int ns[i] t:=λi hi=>by
  obtain⟨h',q'⟩:=r.at i hi;have hn:i<ns.length:=by rw[<-A];exact hi
  rw[(qc4 ..)]at q';obtain⟨t,e'⟩:=q';exact⟨t,hn,e'⟩
 obtain⟨⟨c,dd,dt,sl⟩,T,hc,n,hd⟩:=pl.isList;subst hc hd;have C:j<g.length:=by rw[A];exact j1
 refine qco qda ⟨_,T,U⟩ qfL (qfG _ _) (qfa p g.toArray n dd sl _ _ j (by simpa using C) (by lia) ?_ (λm hm S=>?_)) ⟨T,λy hy=>(eq_isInt k t (iU r) y (by simpa using hy)).at _ _,?_⟩
 ·obtain⟨t',hn,e⟩:=at_ j C
  rw[qal hn]at j2
  have:g.toArray[j]'(by simpa using C)=.int k t':=by simpa [qaL j2] using e
  rw[this];simp[isInt]
 ·have R:=by simpa using hm
  obtain⟨t',hn,e⟩:=at_ m R
  have:g.toArray[m]'hm=.int ns[m] t':=by simpa using e
  rw[this]
  have:=j3 m S
  rw[qal hn]at this;have M:ns[m]≠k:=λz=>this (by rw[z]);simp[isInt,M]
 ·exact⟨.int _,H,I.kept λb o e=>e,⟨_,U⟩,q⟩
theorem pR {w:Pos} (ho:IE K X a fa) (ha:IA K X [e] W) (D:qct a "index" X.env (eval a X.env)=eval a X.env:=by rfl)
  (l:[e].all au=true:=by rfl) (E:(w.endLine==pos.line)=true:=by rfl) (hK:X.K=K:=by rfl) :
  IE K X (.Call (.Attribute a "index" w) [e] [] pos) (yz fa W):=by
 subst hK;have B:au e=true:=by rw[qbu,qaX]at l;exact l.1
 refine⟨λenv st r f=>?_⟩;simp only[yz,qab]at f;obtain⟨⟨x,s1⟩,hx,⟨ws,s2⟩,hw,f⟩:=f;dsimp only at f;split at f
 case h_2=>cases f
 rename_i ds k;simp only[qab]at f;obtain⟨ns,hns,f⟩:=f;split at f
 case isFalse=>cases f
 rename_i hl;obtain⟨j,L,rfl⟩:=qad.mp f;have G:=bL hns;subst G;refine (zc qd0 qda qfX Di (ho.run _ _ _ hx) (ha.run _ _ _ hw) D (nO l (by show 1<30;decide)) E (aL B) (a9 U)).imp ?_
 rintro σ H Q ⟨φ,hE,hS,q⟩
 refine⟨φ,hE,hS,λv H1 J f1 S1 w1=>?_⟩;obtain⟨p,vs,rfl,h0,F,P⟩:=w1;have ev:=Rls.ints P;subst ev;refine⟨.inl ⟨U,_,.inl F⟩,J,hE.fw hS f1,S1,λus H2 O Y S2 w2=>?_⟩;obtain⟨y,us',rfl,ry,rfl⟩:=w2;cases (show y=.int k from ry);exact⟨p,ns,k,j,U,U,.inl (F.fw Y h0),hl,L,q _ H2 O (f1.trans Y) S2 U⟩
end
section
variable {K:qae}{H:Hp}{φ ψ:List Addr}{x Cl L:Addr}{xs:List (Str×V)}{o:HO}
theorem Rl.chx (hx:H x=some (.ins Cl L xs)) (t:xs.length<=5) (j:∀ a∈ψ,a=x):∀ {d:D}{v:V},Rl K H φ d v->Rl K (upd H x o) (φ++ψ) d v:=by
 have ne:∀ {a:Addr}{u:HO},H a=some u->(∀ C d f,u≠.ins C d f)->a≠x:=λ{a u} h q z=>by
  subst z;rw[hx]at h;cases h;exact q _ _ _ U
 have nin:∀ {a:Addr},a≠x->a∉φ->a∉φ++ψ:=λ{a} n h z=>by
  rcases qaQ.mp z with z|z
  ·exact h z
  ·exact n (j a z)
 intro d v;refine (?_:∀ v,Rl K H φ d v->Rl K _ _ d v) v;refine D.rec (motive_2:=λds=>∀ g,Rls K H φ ds g->Rls K (upd H x o) (φ++ψ) ds g) ?_ ?_ ?_ ?_ ?_ ?_ ?_ ?_ ?_ ?_ ?_ ?_ d
 ·exact λv h=>h
 ·exact λb v h=>h
 ·exact λb v h=>h
 ·exact λb v h=>h
 ·exact λb v h=>h
 ·rintro v ⟨a,e,hn,h⟩
  rcases h with⟨d,h⟩|⟨d,h⟩
  ·have n:=ne h (by intros;simp)
   exact⟨a,e,nin n hn,.inl ⟨d,by rw[upd_ne n];exact h⟩⟩
  ·have n:=ne h (by intros;simp)
   exact⟨a,e,nin n hn,.inr ⟨d,by rw[upd_ne n];exact h⟩⟩
 ·rintro ns v ⟨a,e,h⟩
  rcases h with⟨ob,h⟩|h
  ·exact⟨a,e,.inl ⟨ob,by rw[upd_ne (ne h (by intros;simp))];exact h⟩⟩
  ·exact⟨a,e,.inr h⟩
 ·rintro ds A v ⟨a,g,rfl,p,s⟩
  exact⟨a,g,U,by rw[upd_ne (ne p (by intros;simp))];exact p,A g s⟩
 ·rintro ds A v ⟨a,g,rfl,E,p,s⟩
  rcases p with p|⟨ob,p⟩
  ·have n:=ne p (by intros;simp)
   exact⟨a,g,U,nin n E,.inl (by rw[upd_ne n];exact p),A g s⟩
  ·have n:=ne p (by intros;simp)
   exact⟨a,g,U,nin n E,.inr ⟨ob,by rw[upd_ne n];exact p⟩,A g s⟩
 ·rintro ns ds A v ⟨a,C',F,fs,g,rfl,E,p,s,O,P,R,N,M⟩
  have n:a≠x:=λz=>by
   subst z;rw[hx]at p;cases p;rw[s,List.length_zip]at t;lia
  exact⟨a,C',F,fs,g,U,nin n E,by rw[upd_ne n];exact p,s,O,P,R,N,A g M⟩
 ·exact λg h=>h
 ·rintro d ds I G g ⟨v,r,rfl,p,s⟩;exact⟨v,r,U,I v p,G r s⟩
variable (hx:H x=some (.ins Cl L xs)) (t:xs.length<=5) (j:∀ a∈ψ,a=x)
include hx t j
theorem Rls.chx:∀ {ds:List D}{g:List V},Rls K H φ ds g->Rls K (upd H x o) (φ++ψ) ds g
 |[],_,h=>h
 |d::ds,_,h=>by
  obtain⟨v,r,rfl,p,s⟩:=h;exact⟨v,r,U,Rl.chx hx t j p,Rls.chx s⟩
theorem Rw.chx {w:W}{v:V} (h:Rw K H φ w v):Rw K (upd H x o) (φ++ψ) w v:=by
 cases w with
 |d y=>exact Rl.chx hx t j h
 |h n=>
  obtain⟨a,e,rfl⟩:=h;exact⟨a,by rw[qaB (qap.mp e).1];exact e,U⟩
theorem Rws.chx:∀ {ds:List W}{g:List V},Rws K H φ ds g->Rws K (upd H x o) (φ++ψ) ds g
 |[],_,h=>h
 |d::ds,_,h=>by
  obtain⟨v,r,rfl,p,s⟩:=h;exact⟨v,r,U,Rw.chx hx t j p,Rws.chx s⟩
theorem Rkv.chx:∀ {ds:List (List Int×D)}{g:List (List Key×V)},Rkv K H φ ds g->Rkv K (upd H x o) (φ++ψ) ds g
 |[],_,h=>h
 |(k,d)::ds,_,h=>by
  obtain⟨v,r,rfl,p,s⟩:=h;exact⟨v,r,U,Rl.chx hx t j p,Rkv.chx s⟩
theorem Rkk.chx:∀ {ds:List (Int×D)}{g:List (Key×V)},Rkk K H φ ds g->Rkk K (upd H x o) (φ++ψ) ds g
 |[],_,h=>h
 |(k,d)::ds,_,h=>by
  obtain⟨v,r,rfl,p,s⟩:=h;exact⟨v,r,U,Rl.chx hx t j p,Rkk.chx s⟩
theorem Rfs.chx:∀ {ds:List (Str×W)}{g:List (Str×V)},Rfs K H φ ds g->Rfs K (upd H x o) (φ++ψ) ds g
 |[],_,h=>h
 |(k,d)::ds,_,h=>by
  obtain⟨v,r,rfl,p,s⟩:=h;exact⟨v,r,U,Rw.chx hx t j p,Rfs.chx s⟩
theorem Rc.chx {k:Nat}{a:Addr}{c:C} (B:a≠x) (h:Rc K H φ k a c):Rc K (upd H x o) (φ++ψ) k a c:=by
 cases c with
 |l ds=>obtain⟨g,q,r⟩:=h;exact⟨g,by rw[upd_ne B];exact q,Rls.chx hx t j r⟩
 |n ds=>obtain⟨g,q,r,b⟩:=h;exact⟨g,by rw[upd_ne B];exact q,Rws.chx hx t j r,b⟩
 |m ds=>obtain⟨g,q,r⟩:=h;exact⟨g,by rw[upd_ne B];exact q,Rkv.chx hx t j r⟩
 |k ds=>obtain⟨g,q,r⟩:=h;exact⟨g,by rw[upd_ne B];exact q,Rkk.chx hx t j r⟩
 |o ds=>obtain⟨C',Q,g,q,r,b⟩:=h;exact⟨C',Q,g,by rw[upd_ne B];exact q,Rfs.chx hx t j r,b⟩
theorem Er.chx {env:Ev}{J:St} (h:Er K H φ env J):Er K (upd H x o) (φ++ψ) env J:=
 ⟨h.len,λi w e=>let ⟨v,e1,r⟩:=h.at_ i w e;⟨v,e1,Rw.chx hx t j r⟩⟩
end
section
variable {K:qae}{H:Hp}{φ:List Addr}{x Cl f:Addr}{xs:List (Str×V)}{o:HO}{st:Sto}
theorem Sr.chx0 (S:Sr K H φ st) (hx:H x=some (.ins Cl f xs)) (d:xs.length<=5) (hn:x∉φ):Sr K (upd H x o) φ st:=by
 refine⟨S.nd,S.len,λn a c e1 e2=>?_⟩
 have:=Rc.chx (o:=o) (ψ:=[]) hx d (λa z=>nomatch z) (λz=>hn (z ▸ qbj e1)) (S.at_ n a c e1 e2)
 rw[(qbH _)]at this;exact this
theorem Sr.chx1 (S:Sr K H φ st) (hx:H x=some (.ins Cl f xs)) (d:xs.length<=5) (hn:x∉φ) {c:C} (k:Rc K (upd H x o) (φ++[x]) st.length x c):Sr K (upd H x o) (φ++[x]) (st++[c]):=by
 refine⟨qcx.mpr ⟨S.nd,qce.mpr ⟨qbv,qcX⟩,λa g b hb z=>by rw[qam.mp hb]at z;exact hn (z ▸ g)⟩,by rw[qaw,qaw,S.len];rfl,λn a j e1 e2=>?_⟩;by_cases h:n<φ.length
 ·rw[qaB h]at e1
  rw[qaB (by rw[<-S.len];exact h)]at e2;exact Rc.chx hx d (λa z=>qam.mp z) (λz=>hn (z ▸ qbj e1)) (S.at_ n a j e1 e2)
 ·have i:=(qap.mp e1).1
  rw[qaw,qb1]at i;have e:n=φ.length:=by lia
  subst e;rw[qaJ (qao _),qey]at e1;rw[S.len,qaJ (qao _),qey]at e2;cases e1;cases e2;rw[S.len];exact k
end
def qc:List (Str×Ef)->Ev->Sto->Option (List (Str×W)×Sto)
 |[],_,st=>some ([],st)
 |(f,g)::r,env,st=>(g env st).bind λx=>(qc r env x.2).map λy=>((f,x.1)::y.1,y.2)
structure FwX (x:Addr) (φ φ':List Addr) (H H':Hp):Prop where
 ext:∃ ψ,φ'=φ++ψ/\∀ a∈ψ,H a=none\/a=x
 keep:∀ b o,b∉φ->b≠x->H b=some o->H' b=some o
 there:∀ b o,H b=some o->∃ o',H' b=some o'
theorem FwX.pre {x:Addr}{φ a i:List Addr}{H H1 H2:Hp}{o l:HO} (hx:H x=some l) (hn:x∉a) (f:Fw φ a H H1) (g:FwX x a i (upd H1 x o) H2):FwX x φ i H H2:=by
 obtain⟨ψ,rfl,e1⟩:=f.ext;obtain⟨m,rfl,e2⟩:=g.ext;have k:∀ b u,H b=some u->∃ d,upd H1 x o b=some d:=λb u h=>by
  by_cases z:b=x
  ·exact⟨o,by rw[z,upd_same]⟩
  ·obtain⟨d,h'⟩:=f.there b u h
   exact⟨d,by rw[upd_ne z];exact h'⟩
 refine⟨⟨_,by rw[qbJ],λc j=>?_⟩,λc u j e h=>?_,λc u h=>?_⟩
 ·rcases qaQ.mp j with z|z
  ·exact .inl (e1 c z)
  ·rcases e2 c z with q|q
   ·left
    cases q':H c with
    |none=>rfl
    |some u=>
     obtain⟨d,h'⟩:=k c u q';rw[q]at h';cases h'
   ·exact .inr q
 ·refine g.keep c u (λz=>?_) e (by rw[upd_ne e];exact f.keep c u j h)
  rcases qaQ.mp z with z|z
  ·exact j z
  ·rw[e1 c z]at h;cases h
 ·obtain⟨d,h'⟩:=k c u h
  exact g.there c d h'
def GA (K:qae) (g:List (Str×Ef)) (env:Ev) (st:Sto) (y:List (Str×W)×Sto):TS:=λD b H=>∃ φ x Cl c xs fs,Er K H φ env b/\Sr K H φ st/\b[0]?=some (some (.ref x))/\x∉φ/\H x=some (.ins Cl c xs)/\Rfs K H φ fs xs/\
 Cls K Cl/\(∀ p∈fs,b8 K Cl p.1)/\(∀ p∈g,b8 K Cl p.1)/\fs.length+g.length=6/\(∀ p∈g,p.1∉fs.map (·.1))/\(g.map (·.1)).Nodup/\
 ∀ H' a,FwX x φ a H H'->Sr K H' a (y.2++[.o (fs++y.1)])->a[y.2.length]?=some x->D.nx b H'
structure INI (K:qae) (X:Cx) (ss:List Stmt) (g:List (Str×Ef)):Prop where
 run:∀ env st y,qc g env st=some y->PSs X ss (GA K g env st y)
section
variable {K:qae}{X:Cx}{e:Expr}{J:Ef}{f:Str}{ss:List Stmt}{g:List (Str×Ef)}{pos c p1:Pos}
theorem sF {env:Ev}{st:Sto}{w:W}{s1:Sto} (Q:X.N[0]?=some ("self" : Str)) (N:Vis X.env.scope "self") (M:IE K X e J) (hx:J env st=some (w,s1)) (O:X.K=K)
  (R:qcr e (some (.Attribute (.Name "self" p1) f c)) pos.line X.env=pure false) :
  PS X (.Assign [.Attribute (.Name "self" p1) f c] e pos) (λD G H=>∃ φ x Cl j xs,Er K H φ env G/\Sr K H φ st/\G[0]?=some (some (.ref x))/\x ∉ φ/\H x=some (.ins Cl j xs)/\Cls K Cl/\b8 K Cl f/\xs.length<=5/\f ∉ xs.map (·.1)/\
   ∀ v H1 d,Fw φ d H H1->Sr K H1 d s1->Rw K H1 d w v->x∉d->H1 x=some (.ins Cl j xs)->D.nx G (upd H1 x (.ins Cl j (xs++[(f,v)])))):=by
 subst O;refine (zv (i7 Q N) (M.run _ _ _ hx) R).imp ?_
 rintro D G H ⟨φ,x,Cl,j,xs,I,B,F,C,n,r,E,S,A,q⟩
 refine⟨φ,I,B,λv H1 d l k L=>⟨_,F,x,Cl,j,xs,U,l.keep _ _ C n,r,E,by lia,?_⟩⟩;rw[tM A];exact q v H1 d l k L (l.nin C n) (l.keep _ _ C n)
theorem AJ (Q:X.N[0]?=some ("self" : Str)) (N:Vis X.env.scope "self") (M:IE K X e J) (O:X.K=K:=by rfl)
  (R:qcr e (some (.Attribute (.Name "self" p1) f c)) pos.line X.env=pure false:=by rfl):INI K X [.Assign [.Attribute (.Name "self" p1) f c] e pos] [(f,J)]:=by
 refine⟨λenv st y s=>?_⟩;simp only[qc,qab,qan]at s;obtain⟨⟨w,s1⟩,hx,s⟩:=s;cases s;refine (wt (sF Q N M hx O R)).imp ?_
 rintro D G H ⟨φ,x,Cl,j,xs,fs,I,B,F,C,n,r,E,S,A,T,V,t,q⟩
 have hl:xs.length=5:=by rw[<-r.length];simpa using T
 have nf:f∉xs.map (·.1):=by rw[r.keys];exact V _ qag
 refine⟨φ,x,Cl,j,xs,I,B,F,C,n,E,A _ qag,by lia,nf,λv H1 d l k L hn i=>?_⟩;have r1:=r.fw B l;have w2:=Rw.chx (o:=.ins Cl j (xs++[(f,v)])) i (by lia) (λa z=>qam.mp z) L
 refine q _ _ ?_ (k.chx1 i (by lia) hn ⟨Cl,j,_,upd_same,Rfs.snoc w2 (Rfs.chx (o:=.ins Cl j (xs++[(f,v)])) (ψ:=[x]) i (by lia) (λa z=>qam.mp z) r1),λm hm=>by rw [<-k.len];exact (Rfs.snoc (f:=f) L r1).mem hm,E,λp u=>by
  rcases qaQ.mp u with z|z
  ·exact S p z
  ·rw[qam.mp z];exact A _ qag⟩) (by rw[<-k.len,qaJ (qao _),qey];rfl)
 refine FwX.pre n hn l ⟨⟨_,U,λa z=>.inr (qam.mp z)⟩,λb o _ _ h=>h,λb o h=>⟨o,h⟩⟩
theorem gj (Q:X.N[0]?=some ("self" : Str)) (N:Vis X.env.scope "self") (M:IE K X e J) (hr:INI K X ss g) (hg:g≠[]:=by intro z;cases z) (O:X.K=K:=by rfl)
  (R:qcr e (some (.Attribute (.Name "self" p1) f c)) pos.line X.env=pure false:=by rfl):INI K X (.Assign [.Attribute (.Name "self" p1) f c] e pos::ss) ((f,J)::g):=by
 refine⟨λenv st y s=>?_⟩;simp only[qc,qab]at s;obtain⟨⟨w,s1⟩,hx,s⟩:=s;obtain⟨y',hy',rfl⟩:=qad.mp s;refine (cS (sF Q N M hx O R) (hr.run _ _ _ hy')).imp ?_
 rintro D G H ⟨φ,x,Cl,j,xs,fs,I,B,F,C,n,r,E,S,A,T,V,t,q⟩
 have hg1:=List.length_pos_iff.mpr hg;have hl:xs.length<=4:=by rw[<-r.length];rw[qaq]at T;lia
 have nf:f∉xs.map (·.1):=by rw[r.keys];exact V _ qag
 refine⟨φ,x,Cl,j,xs,I,B,F,C,n,E,A _ qag,by lia,nf,λv H1 d l k L hn i=>?_⟩;have r2:=Rfs.chx (o:=.ins Cl j (xs++[(f,v)])) (ψ:=[]) i (by lia) (λa z=>nomatch z) (r.fw B l)
 have w2:=Rw.chx (o:=.ins Cl j (xs++[(f,v)])) (ψ:=[]) i (by lia) (λa z=>nomatch z) L
 have P:=Er.chx (o:=.ins Cl j (xs++[(f,v)])) (ψ:=[]) i (by lia) (λa z=>nomatch z) (I.fw B l)
 rw[(qbH _)]at r2 w2 P;rw[qau,qce]at t;refine⟨d,x,Cl,j,_,_,P,k.chx0 i (by lia) hn,F,hn,upd_same,Rfs.snoc w2 r2,E,λp u=>?_,λp u=>A p (qah _ u),by rw[qaw,qb1];rw[qaq]at T;lia,λp u z=>?_,t.2,λH' Y fx S' ex=>?_⟩
 ·rcases qaQ.mp u with z|z
  ·exact S p z
  ·rw[qam.mp z];exact A _ qag
 ·rw[qbw]at z
  rcases qaQ.mp z with z|z
  ·exact V p (qah _ u) z
  ·rw[qau,qdQ,qam]at z
   exact t.1 (z ▸ qdH u)
 ·rw[qbJ]at S'
  exact q H' Y (FwX.pre n hn l fx) S' ex
end
def BO (K:qae) (n:Nat) (ps:Nat) (g:List (Str×Ef)):Sp:=λd H Q _=>∃ φ st ws y x c Cl a H1,d=.ref x::a/\ws.length+1=ps/\qc g (none::(ws.map some++qaD (n - ps) none)) st=some y/\Rws K H1 φ ws a/\Sr K H1 φ st/\H1 x=none/\H1 c=none/\c≠x/\
 H=upd (upd H1 c (.own x)) x (.ins Cl c [])/\Cls K Cl/\(∀ p∈g,b8 K Cl p.1)/\g.length=6/\(g.map (·.1)).Nodup/\∀ H' b,Fw φ b H1 H'->Sr K H' b (y.2++[.o y.1])->b[y.2.length]?=some x->Q .non H'
theorem EC {P:qaO}{w:World}{K:qae}{mg:Str->Option Value}{base:Heap}{x c:Str}{st:Stmt}{f:Addr}{fd:qb0}{N ps:List Str}{k:Nat}{g:List (Str×Ef)} (F:Fun K x c st f fd) (S:b6 N ps (ak st)) (hN:ps.length<=N.length)
  (hb:∀ (j:Value) (A:qa0) (outer:List Env) (s:qak) (H:Hp) (E:XK),bh k (A.deeper (qen c (ak st) s.heap.objs.size f j))->INI K (eJ CX0 P w K mg base N c (ak st) f j A outer s H E).nox (aX st) g) :
  cZ P w K mg base CX0 (k+1) f fd ps (BO K N.length ps.length g):=by
 refine F.ok S (λV H Q E h=>?_) λj A outer s H V Q E M h=>?_
 ·obtain⟨φ,st,ws,y,x,n,Cl,l,H1,rfl,C,e,rw,_⟩:=h
  rw[qaq,<-rw.length,C]
 ·obtain⟨φ,T,ws,y,x,n,Cl,l,H1,rfl,C,e,rw,S',hx,hd,m,rfl,R,hA,L,t,q⟩:=h
  refine⟨_,(hb j A outer s _ E M).run _ _ _ e,φ,x,Cl,n,_,[],?_,?_,?_,?_,upd_same,U,R,λp J=>(nomatch J),hA,by simpa using L,λp _ z=>(nomatch z),t,λH' B u S2 ex=>?_⟩
  ·have r:aN H1 (upd (upd H1 n (.own x)) x (.ins Cl n [])):=(aN.new hd _).trans (aN.new (by rw[upd_ne (qbD m)];exact hx) _)
   have D:=mG (N:=N) (ws:=.d .non::ws) ⟨_,l,U,U,(rw.fw S' (Fw.same r))⟩ (by exact C);refine⟨?_,λi w G=>?_⟩
   ·have:=D.len
    unfold gJ at this ⊢
    simp at this ⊢
    lia
   ·cases i with
    |zero=>cases G
    |succ i=>
     obtain⟨v,I,O⟩:=D.at_ (i+1) w G;refine⟨v,?_,O⟩;unfold gJ at I ⊢;simpa using I
  ·exact S'.same ((aN.new hd _).trans (aN.new (by rw[upd_ne (qbD m)];exact hx) _))
  ·rfl
  ·exact S'.nin hx
  ·refine q H' B ?_ S2 ex
   obtain⟨ψ,rfl,e1⟩:=u.ext;have r:aN H1 (upd (upd H1 n (.own x)) x (.ins Cl n [])):=(aN.new hd _).trans (aN.new (by rw[upd_ne (qbD m)];exact hx) _);refine⟨⟨ψ,U,λa W=>?_⟩,λb o hb h=>?_,λb o h=>u.there b o (r b o h)⟩
   ·rcases e1 a W with z|z
    ·cases q':H1 a with
     |none=>rfl
     |some o=>rw[r a o q']at z;cases z
    ·rw[z];exact hx
   ·exact u.keep b o hb (λz=>by rw[z,hx]at h;cases h) (r b o h)
def oF (n ps:Nat) (g:List (Str×Ef)) (a:Af):Ef
 |env,st=>(a env st).bind λr=>if r.1.length+1=ps then (qc g (none::(r.1.map some++qaD (n - ps) none)) r.2).map λy=>(.h y.2.length,y.2++[.o y.1]) else none
theorem AI {K:qae}{X:Cx}{x:Str}{k j:Nat}{m Cl:Addr}{fd:qb0}{N ps:List Str}{g:List (Str×Ef)}{p pos:Pos}{e:Expr}{es:List Expr}{l:Af} (M:Mk X.K Cl m) (F:cZ X.prog X.w X.K X.mg X.base CX0 j m fd ps (BO K N.length ps.length g)) (b:j<=k) (u:bh (k+1) X.A) (hg:Gl X x) (hm:X.mg x=some (.ref Cl)) (hb:cN X.K fd ps [])
  (w:Cls K Cl) (hA:∀ p∈g,b8 K Cl p.1) (t:g.length=6) (a:(g.map (·.1)).Nodup)
  (G:IA K X (e::es) l) (i:(x==("__debug__" : Str))=false:=by decide) (A:au e=true:=by rfl) (n:es.all au=true:=by rfl) :
  IE K X (.Call (.Name x p) (e::es) [] pos) (oF N.length ps.length g l):=by
 refine⟨λenv st r h=>?_⟩;simp only[oF,qab]at h;obtain⟨y,I,h⟩:=h;split at h
 case isFalse=>cases h
 rename_i J;obtain⟨z,hz,rfl⟩:=qad.mp h;refine (Bl M (F.mono b) u hg hm hb .nil zb (G.run _ _ _ I) i (aL A) (a9 n)).imp ?_
 rintro L H Q ⟨φ,v,B,q⟩
 refine⟨φ,v,B,λC H1 c s s1 D=>λx E hx hd d=>?_⟩;rw[qbH];refine⟨c,_,_,z,x,E,Cl,C,H1,U,J,hz,D,s1,hx,hd,d,U,w,hA,t,a,λH' f o S2 ex=>⟨U,?_⟩⟩;exact q _ H' f (s.trans o) S2 ⟨x,ex,U⟩
def vwF (st:Sto):List (Str×W)->Option (List D)
 |[]=>some []
 |(_,.d x)::r=>(vwF st r).map λy=>x::y
 |(_,.h m)::r=>(lg st m).bind λds=>(vwF st r).map λy=>.lst ds::y
def vwW (st:Sto):W->Option W
 |.d x=>some (.d x)
 |.h n=>match st[n]? with
  |some (.o fs)=>if 5<fs.length then (vwF st fs).map λds=>.d (.ob (fs.map (·.1)) ds) else none
  |some (.l ds)=>some (.d (.lst ds))
  |_=>none
def vwA (st:Sto):List W->Option (List W)
 |[]=>some []
 |w::ws=>(vwW st w).bind λx=>(vwA st ws).map λy=>x::y
mutual
def okT:D->Bool
 |.non=>true
 |.bl _=>true
 |.int _=>true
 |.str _=>true
 |.tup ds=>uR ds
 |_=>false
def uR:List D->Bool
 |[]=>true
 |d::ds=>okT d&&uR ds
end
section
variable {K:qae}{H:Hp}{φ φ':List Addr}
mutual
theorem Rl.any:∀ {d:D}{v:V},okT d=true->Rl K H φ d v->Rl K H φ' d v
 |.non,_,_,h=>h
 |.bl _,_,_,h=>h
 |.int _,_,_,h=>h
 |.str _,_,_,h=>h
 |.tup ds,_,o,h=>by
  obtain⟨a,vs,rfl,h1,h2⟩:=h;exact⟨a,vs,U,h1,Rls.any (by rw[okT]at o;exact o) h2⟩
 |.ty _,_,o,_=>by rw[okT]at o<;>first|cases o|(intros;simp)
 |.dct,_,o,_=>by rw[okT]at o<;>first|cases o|(intros;simp)
 |.scr _,_,o,_=>by rw[okT]at o<;>first|cases o|(intros;simp)
 |.lst _,_,o,_=>by rw[okT]at o<;>first|cases o|(intros;simp)
 |.ob _ _,_,o,_=>by rw[okT]at o<;>first|cases o|(intros;simp)
theorem Rls.any:∀ {ds:List D}{vs:List V},uR ds=true->Rls K H φ ds vs->Rls K H φ' ds vs
 |[],_,_,h=>h
 |d::ds,_,o,h=>by
  rw[uR,qaX]at o;obtain⟨v,r,rfl,h1,h2⟩:=h;exact⟨v,r,U,Rl.any o.1 h1,Rls.any o.2 h2⟩
end
theorem Rl.bare {d:D}{v:V} (h:Rl K H φ d v):Rl K H [] d v:=Rl.less h
theorem Rls.bare {d:List D}{v:List V} (h:Rls K H φ d v):Rls K H [] d v:=Rls.less h
theorem oU:∀ {fs:List (Str×W)}{vs:List (Str×V)},Rfs K H φ fs vs->vs=(fs.map (·.1)).zip (vs.map (·.2))
 |[],vs,r=>by cases r;rfl
 |(n,x)::fs,vs,r=>by
  obtain⟨v,s,rfl,e,g⟩:=r;rw[qau,qau,qeZ,<-oU g]
theorem rm {st:Sto} (S:Sr K H φ st):∀ {fs:List (Str×W)}{vs:List (Str×V)}{ds:List D},Rfs K H φ fs vs->vwF st fs=some ds->Rls K H [] ds (vs.map (·.2))
 |[],vs,ds,r,h=>by cases r;cases h;rfl
 |(n,.d x)::fs,vs,ds,r,h=>by
  obtain⟨v,s,rfl,e,g⟩:=r;obtain⟨y,k,rfl⟩:=qad.mp h;exact⟨v,_,U,Rl.bare e,rm S g k⟩
 |(n,.h m)::fs,vs,ds,r,h=>by
  obtain⟨v,s,rfl,e,g⟩:=r;obtain⟨es,C,h⟩:=qab.mp h;obtain⟨y,k,rfl⟩:=qad.mp h;obtain⟨a,l,rfl⟩:=e;obtain⟨j,u,A⟩:=S.atl m a es l C;exact⟨_,_,U,⟨a,j,U,qbv,.inl u,Rls.bare A⟩,rm S g k⟩
theorem wJ {st:Sto} (S:Sr K H φ st):∀ {ws:List W}{vs:List V}{c:List W},Rws K H φ ws vs->vwA st ws=some c->Rws K H [] c vs
 |[],vs,c,r,h=>by cases h;exact r
 |w::ws,vs,c,r,h=>by
  obtain⟨v,s,rfl,e,g⟩:=r;obtain⟨x,hx,h⟩:=qab.mp h;obtain⟨y,k,rfl⟩:=qad.mp h;refine⟨v,s,U,?_,wJ S g k⟩;cases w with
  |d z=>cases hx;exact Rl.bare e
  |h n=>
   unfold vwW at hx;dsimp only at hx;split at hx
   ·rename_i fs B
    split at hx
    ·rename_i J
     obtain⟨ds,i,rfl⟩:=qad.mp hx;obtain⟨a,l,rfl⟩:=e;obtain⟨Cl,E,j,q,t,b,G,hA⟩:=S.at_ n a _ l B;refine⟨a,Cl,E,j,_,U,qbv,q,oU t,by rw[qaf,qaf,t.length],by rw[qaf];exact J,G,λf F=>?_,rm S t i⟩;obtain⟨p,I,rfl⟩:=qaM.mp F;exact hA p I
    ·cases hx
   ·rename_i ds i
    cases hx;obtain⟨a,l,rfl⟩:=e;obtain⟨j,u,A⟩:=S.at_ n a _ l i;exact⟨a,j,U,qbv,.inl u,Rls.bare A⟩
   ·cases hx
end
def cD (m:Fn) (a:Af):Ef
 |env,st=>(a env st).bind λr=>(vwA r.2 r.1).bind λws=>(m ws []).bind λy=>match y.1 with
 |.d x=>if okT x=true then some (.d x,r.2) else none
 |_=>none
theorem yD {K:qae}{X:Cx}{e:Expr}{es:List Expr}{pos:Pos}{t:Af}{x:Str}{k j:Nat}{i:Addr}{fd:qb0}{ps:List Str}{m:Fn}{p:Pos} (F:cZ X.prog X.w X.K X.mg X.base CX0 j i fd ps (spI K m)) (f:j<=k) (E:bh k X.A) (hg:Gl X x) (hm:X.mg x=some (.ref i)) (D:qcB X.K (.ref i)=true) (hb:cN X.K fd ps [])
  (O:IA K X (e::es) t) (l:(x==("__debug__" : Str))=false:=by decide) (L:au e=true:=by rfl) (A:es.all au=true:=by rfl) :
  IE K X (.Call (.Name x p) (e::es) [] pos) (cD m t):=by
 refine⟨λenv st r h=>?_⟩;simp only[cD,qab]at h;obtain⟨y,P,ws,s,⟨w,R⟩,hz,h⟩:=h;cases w with
 |h n=>cases h
 |d z=>
  dsimp only at h;split at h
  case isFalse=>cases h
  rename_i hok;cases h;refine (wk (F.mono f) E hg hm D hb .nil zb (O.run _ _ _ P) l (aL L) (a9 A)).imp ?_
  rintro S H Q ⟨φ,I,M,q⟩
  refine⟨φ,I,M,λT H1 g C s1 N=>?_⟩;show spI K m _ H1 Q E0;rw[qbH];refine⟨_,_,ws,_,hz,wJ s1 N s,⟨qcX,U,λn a c e1 _=>by cases e1⟩,λv H2 J B G w2=>?_⟩;have u:=λb o h=>B.keep b o qbv h;exact q v H2 g (C.trans (Fw.same u)) (s1.same u) (Rl.any hok w2)
theorem Rls.flat {K:qae}{H H':Hp}{φ c:List Addr}:∀ {ds:List D}{e:List V},ds.all bG=true->Rls K H φ ds e->Rls K H' c ds e
 |[],_,_,h=>h
 |d::ds,_,o,h=>by
  rw[qbu,qaX]at o;obtain⟨v,r,rfl,a,f⟩:=h;refine⟨v,r,U,?_,Rls.flat o.2 f⟩;cases d with
  |non=>exact a
  |bl b=>exact a
  |int b=>exact a
  |str b=>exact a
  |_=>exact absurd o.1 (by simp[bG])
def i3 (b h g f e:Nat) (fl:Lf):Sf
 |env,st=>(fl env st).bind λr=>match env.getD h none,env.getD g none,env.getD f none,env.getD e none with
 |some (.d (.int p)),some (.d (.int c)),some (.d (.lst ts)),some (.d a)=>(ixN r.1.length p).bind λj=>(ixN ts.length c).bind λi=>if ts.length<=1000000/\b<env.length/\ts.all bG=true then some (.nx (env.set b (some (.d (.lst (r.1.set j (.lst (ts.set i a))))))) r.2) else none
 |_,_,_,_=>none
theorem lw {env:Ev}{i:Nat}{w:W} (h:env.getD i none=some w):env[i]?=some (some w):=by
 rw[qfO]at h;cases q:env[i]? with
 |none=>rw[q]at h;cases h
 |some o=>rw[q]at h;rw[show o=some w from h]
theorem AL {α:Type}{xs:List α}{i:Int}{j:Nat}{v:α} (h:ixN xs.length i=some j) (a:xs[j]?=some v):atI xs i=some v:=by
 unfold atI;rw[h];exact a
theorem C7 {n:Nat}{i:Int}{j:Nat} (h:ixN n i=some j):j<n:=(lU h).2.1
structure ISL (K:qae) (X:Cx) (s:Stmt) (i0:Nat) (fl:Lf):Prop where
 run:∀ env st r,fl env st=some r->PS X s (λD σ H=>∃ φ,Er K H φ env σ/\Sr K H φ st/\∀ a vs H1 φ',Fw φ φ' H H1->Sr K H1 φ' r.2->H1 a=none->Rls K H1 φ' r.1 vs->D.nx (σ.set i0 (some (.ref a))) (upd H1 a (.lst vs)))
theorem C3 {K:qae}{X:Cx}{pos:Pos}{tg:Expr}{b:Scope}{Nc:List Str}{k:Nat}{js:List Nat}{h iter:Expr}{f:List Expr}{z:Lf}{g:Tg}{tt:Tf}{te:Ef}{y:Nat}{i:Str}{w e:Pos}
  (v:X.N.Nodup) (n:X.N[y]?=some i) (o:Loc X.env.scope i) (S:c8 X b Nc (eM k js)) (B:X.calm=true) (p:∀ j∈sE g,j<k) (hi:II K X tg iter z)
  (hg:∀ a s H C d,PG (lcX X b a Nc s H C d) tg (tG K g)) (J:∀ a s H C d,ITs K (lcX X b a Nc s H C d) f tt) (A:∀ a s H C d,IE K (lcX X b a Nc s H C d) h te)
  (hsw:qcr (.ListComp h [⟨tg,iter,f,0⟩] b pos) (some (.Name i w)) e.line X.env=pure true:=by rfl)
  (t:X.fn i=true\/X.env.scope.names.lookup i=some .local:=by first|exact .inl U|exact .inr U|assumption)
  (G:∀ x,qbL iter X.env x=pure x:=by intro _;rfl):ISL K X (.Assign [.Name i w] (.ListComp h [⟨tg,iter,f,0⟩] b pos) e) y (iLc k js z g tt te):=by
 refine⟨λenv st r m=>?_⟩;simp only[iLc,qab]at m;obtain⟨⟨ds,s1⟩,L,m⟩:=m;have c:=m;by_cases u:¬ ds.length<=1000000
 ·rw[iFN u]at c;cases c
 have l:ds.length<=1000000:=by lia
 rw[iFP l]at c;refine (Cj v n o S B (hi.run _ _ _ L) hg (λa s H C d=>(J a s H C d).run) (λa s H C d=>(A a s H C d).any) hsw t G).imp ?_
 rintro D E H ⟨φ,F,I,q⟩
 exact uF p l c E H _ ⟨φ,F,I,q⟩
section
variable {K:qae}{X:Cx}{s1':Stmt}{m s I F G:Str}{l T ic Y S:Nat}{comp:Expr}{fl:Lf}{ss:List Stmt}{gb:Sf}{p1 p2 p3 p4 p5 p6 p7 p8 p9 q1 q2 q3 q4 q5 q6 q7:Pos}
theorem gX (hN:X.N.Nodup) (nl:X.N[l]?=some m) (np:X.N[T]?=some s) (nc:X.N[ic]?=some I) (nt:X.N[Y]?=some F) (na:X.N[S]?=some G)
  (ll:Loc X.env.scope m) (vl:Vis X.env.scope m) (vp:Vis X.env.scope s) (vc:Vis X.env.scope I) (vt:Vis X.env.scope F) (va:Vis X.env.scope G) (d1:l≠T) (d2:l≠ic) (d3:l≠Y) (d4:l≠S)
  (bl:(m==("__debug__" : Str))=false) (bp:(s==("__debug__" : Str))=false) (bc:(I==("__debug__" : Str))=false) (bt:(F==("__debug__" : Str))=false) (ba:(G==("__debug__" : Str))=false)
  (el:(m==("__classdict__" : Str))=false) (ep:(s==("__classdict__" : Str))=false) (ec:(I==("__classdict__" : Str))=false) (et:(F==("__classdict__" : Str))=false) (ea:(G==("__classdict__" : Str))=false)
  (O:ISL K X s1' l fl) (hgL:Gl X "list") (hmL:X.mg "list" = none) (L:ISs K X ss gb)
  (hs2:qc0 [.Subscript (.Name m p3) (.Name s p4) p5] (.Call (.Name "list" p6) [.Name F p7] [] p8) p9.line X.env=pure false) (hw2:qc1 [.Subscript (.Name m p3) (.Name s p4) p5] (.Call (.Name "list" p6) [.Name F p7] [] p8) X.env=pure none)
  (hs3:qc0 [.Subscript (.Subscript (.Name m q1) (.Name s q2) q3) (.Name I q4) q5] (.Name G q6) q7.line X.env=pure false) (hw3:qc1 [.Subscript (.Subscript (.Name m q1) (.Name s q2) q3) (.Name I q4) q5] (.Name G q6) X.env=pure none) (hK:X.K=K) :
  ISs K X (s1'::.Assign [.Subscript (.Name m p3) (.Name s p4) p5] (.Call (.Name "list" p6) [.Name F p7] [] p8) p9::.Assign [.Subscript (.Subscript (.Name m q1) (.Name s q2) q3) (.Name I q4) q5] (.Name G q6) q7::ss) (ah (i3 l T ic Y S fl) gb):=by
 subst hK;refine⟨λenv st r hr=>?_⟩;simp only[ah,i3,qab]at hr;obtain⟨r1,⟨⟨ds,s1⟩,hfl,g⟩,hr⟩:=hr;split at g
 case h_2=>cases g
 rename_i p c ts a hp hc ht ha';simp only[qab]at g;obtain⟨j,hj,i,hi,g⟩:=g;split at g
 case isFalse=>cases g
 rename_i hz;cases g;have pl:∀ {q:Pos},PE X (.Name m q) (t4 l):=λ{q}=>i7 nl vl bl el;have pp:∀ {q:Pos},PE X (.Name s q) (t4 T):=λ{q}=>i7 np vp bp ep;have pc:∀ {q:Pos},PE X (.Name I q) (t4 ic):=λ{q}=>i7 nc vc bc ec;have pt:∀ {q:Pos},PE X (.Name F q) (t4 Y):=λ{q}=>i7 nt vt bt et;have pa:∀ {q:Pos},PE X (.Name G q) (t4 S):=λ{q}=>i7 na va ba ea
 refine (cS (O.run _ _ _ hfl) (cS (kq (cH ((gP (K:=X.K) U).run s1 [.d (.lst ts)] ts U) hgL hmL qaS (l6 pt qP) (by decide) (by decide)) (qQ pl pp jR (lm U)) hs2 hw2 (gO U))
  (cS (kq pa (qQ (ze qt pl pp (mW U)) pc jR (lm U)) hs3 hw3 (gO U)) (L.run _ _ _ hr)))).imp ?_
 rintro D σ H ⟨φ,hE,hS,q⟩
 refine⟨φ,hE,hS,λy R H1 t f1 S1 B rl=>?_⟩;have n:=hE.fw hS f1;obtain⟨vp',gp,rp⟩:=n.at_ T _ (lw hp);obtain⟨vc',gc,rc⟩:=n.at_ ic _ (lw hc);obtain⟨vt',gt,rt⟩:=n.at_ Y _ (lw ht);obtain⟨J,ga,ra⟩:=n.at_ S _ (lw ha');subst rp rc;have f:∀ {k:Nat}{u:V}{v:V},l≠k->σ[k]?=some _->(σ.set l (some v))[k]?=some (some u):=λ{k u v} h e=>by rw[qbz h];exact e
 -- the list's line
 refine⟨_,f d3 gt,t,S1.new B,⟨vt',_,U,?_,U⟩,λbl N H2 sm P ru=>?_⟩
 ·exact (Rl.fw S1 (Fw.new B) rt)
 have E:=sm _ _ upd_same;have C:=aH E P;have x:=rl.length.symm;have W:(σ.set l (some (.ref y)))[l]?=some (some (.ref y)):=by
  rw[qbn];rw[<-hE.len];exact hz.2.1
 refine⟨_,W,_,f d1 gp,y,R,p,j,U,U,by rw[upd_ne C];exact E,by rw[x];exact hj,?_⟩;have hjl:j<R.length:=by rw[x];exact C7 hj
 refine⟨_,f d4 ga,_,W,_,f d1 gp,.inl ⟨y,_,p,.ref bl,U,U,SqL.of upd_same,AL (j:=j) (by rw[qb2,x];exact hj) (by rw[qbn hjl]),?_⟩⟩;refine⟨_,f d2 gc,bl,N,c,i,U,U,by rw[upd_ne (qbD C),upd_same],by rw[ru.length.symm];exact hi,?_⟩;have M:aN H1 (upd (upd (upd H2 bl (.lst N)) y (.lst (R.set j (.ref bl)))) bl (.lst (N.set i J))):=λb o h=>by
  have e1:b≠y:=λz=>by rw[z,B]at h;cases h
  have Q:=sm b o (by rw[upd_ne e1];exact h);have e2:b≠bl:=λz=>by rw[z,P]at Q;cases Q
  rw[upd_ne e2,upd_ne e1,upd_ne e2];exact Q
 dsimp only;generalize hH:upd (upd (upd H2 bl (.lst N)) y (.lst (R.set j (.ref bl)))) bl (.lst (N.set i J))=H5 at M ⊢;have ha5:H5 y=some (.lst (R.set j (.ref bl))):=by rw[<-hH,upd_ne C,upd_same]
 have hb5:H5 bl=some (.lst (N.set i J)):=by rw[<-hH,upd_same]
 have A:Fw t t H1 H5:=Fw.same M;have ru5:Rls X.K H5 t ts N:=Rls.flat hz.2.2 ru;refine⟨t,(n.fw S1 A).set l (w:=.d (.lst (ds.set j (.lst (ts.set i a))))) ?_,S1.same M,?_⟩
 ·exact⟨y,_,U,(S1.nin B),.inl ha5,Rls.set j (rl.fw S1 A) ⟨bl,_,U,(λz=>by
  obtain⟨o,ho,_⟩:=S1.lst z
  have:bl≠y:=qbD C
  have Q:H2 bl=some o:=sm bl o (by rw[upd_ne this];exact ho)
  rw[P]at Q;cases Q),.inl hb5,Rls.set i ru5 (Rl.fw S1 A ra)⟩⟩
 ·exact q.fw (f1.trans A)
end
section
variable {K:qae}{X:Cx}
def Ej (_ j:Int):Prop:=0<j/\j.natAbs.log2<9000
theorem za:OpR X (qbE .FloorDiv) (rI Ej λi j=>.int (i / j)):=opI λi j _ _ _ _ _ B q=>by
 obtain⟨h0,h1⟩:=B;exact floordiv_int (by lia) (by rw[qdS i (by lia)];exact q) (.inl (PyProof.noPylong_of_log2 h1))
def pE (_:Sto):W->W->Option D
 |.d (.int i),.d (.int j)=>if 0<j/\j.natAbs.log2<9000 then some (.int (i / j)) else none
 |_,_=>none
theorem qF:OpD K X (qbE .FloorDiv) pE:=fT (λ_ _ _=>rfl) λi j d h=>by obtain⟨c,rfl⟩:=ifS h;exact⟨za.imp λ_ _ _ _ q=>⟨i,j,q.1,q.2.1,c,q.2.2⟩,U⟩
theorem yI:bb X (.type "range") (λxs H Q=>∃ i j:Int,xs=[.int i,.int j]/\∀ p,H p=none->Q (.ref p) (upd H p (.rng i j))):=by
 intro J s R H xs us Q I S h;obtain⟨i,j,rfl,q⟩:=h;cases S with
 |cons r F=>
  cases F with
  |cons r' F=>
   cases F;obtain⟨t,rfl⟩:=r;obtain⟨t',rfl⟩:=r';exact call_range_2 ⟨.ref _,_,I.laid (o:=.rng i j) (λ_ _ q=>qaj _ q) (qao _) ⟨_,_,_,qax _ U⟩,U,q _ I.fresh⟩
theorem yG {acc:Array Value}{lo:Int}{n:Nat} (h:ItemsOf (λi v=>∃ t,v=Value.int (lo+(i:Int)*1) t) acc n):aF ((qai n).map λk:Nat=>V.int (lo+k)) acc.toList:=by
 obtain⟨hz,hi⟩:=h;have M:∀ (l:List Value) (k:Nat),(∀ j v,l[j]?=some v->∃ t,v=Value.int (lo+((k+j:Nat))) t)->aF ((qeH k l.length).map λk:Nat=>V.int (lo+k)) l:=by
  intro l
  induction l with
  |nil=>intro k _;exact .nil
  |cons x l ih=>
   intro k h;obtain⟨t,e⟩:=h 0 x U;refine .cons ⟨t,e⟩ (ih _ λj v O=>?_);obtain⟨t,e⟩:=h (j+1) v (by simpa using O);exact⟨t,by rw[e,show k+_=k+1+j by lia]⟩
 have:=M acc.toList 0 λj v O=>by
  obtain⟨t,e⟩:=hi j v (by simpa using O);exact⟨t,by rw[e,qdc,qbh]⟩
 rw[qgO];rw[qc6,hz]at this;exact this
theorem vU (B:X.calm=true:=by rfl):bb X (.type "list") (λxs H Q=>∃ (p:Addr) (lo:Int) (n:Nat),xs=[.ref p]/\H p=some (.rng lo (lo+(n:Int)))/\n<=1000/\-1000000<=lo/\lo<=1000000/\∀ l,H l=none->Q (.ref l) (upd H l (.lst ((qai n).map λk:Nat=>V.int (lo+k))))):=by
 intro J s R H xs us Q I S h;obtain⟨p,lo,n,rfl,m,hn,l1,l2,q⟩:=h;cases S with
 |cons r F=>
  cases F;cases r;obtain⟨t,u,v,e⟩:=I.hok p _ m;refine call_list_range (I.ok.hd B) e ?_ (n:=n) ?_ (by lia) λh' tk acc c kp e' G=>?_
  ·have fl:∀ z ,-2000000<=z->z<=2000000->qeF z=true:=λz h1 h2=>by
    unfold qeF;simp only[qaX,decide_eq_true_eq];omega
   have hsz:qe8 lo (lo+(n)) 1=(n):=by rw[qg8];split<;>lia
   unfold qiI;rw[hsz];simp[fl lo (by lia) (by lia),fl (lo+(n)) (by lia) (by lia),fl 1 _ _,fl (n) _ (by lia)]
  ·rw[qg8];split<;>lia
  ·exact⟨.ref s.heap.objs.size,_,I.laid kp (qao _) (show bZ X.prog X.w _ h' _ (.lst _) from ⟨by rw[qaf,qas];exact ii hn,acc.toList,c,yG G,by simpa using e'⟩),U,q _ (I.hok.fresh (qao _))⟩
def xm (a:Af):Lf
 |env,st=>(a env st).bind λr=>match r.1 with
 |[.d (.int j)]=>if 0<=j/\j<=1000 then some (cU 0 j.toNat,r.2) else none
 |_=>none
def pO (a:Af):Lf
 |env,st=>(a env st).bind λr=>match r.1 with
 |[.d (.int i),.d (.int j)]=>if 0<=j - i/\j - i<=1000/\-1000000<=i/\i<=1000000 then some (cU i (j - i).toNat,r.2) else none
 |_=>none
theorem Rls.rng {H:Hp}{φ:List Addr} (lo:Int) (n:Nat):Rls K H φ (cU lo n) ((qai n).map λk:Nat=>V.int (lo+k)):=by
 have:cU lo n=((qai n).map λk:Nat=>lo+(k)).map D.int:=by rw[qaR];rfl
 rw[this,show ((qai n).map λk=>V.int _)=((qai n).map λk=>lo+_).map V.int by rw[qaR];rfl];exact Rls.of_ints _
variable {a b:Expr}{L:Af}{p1 p2 p3 p4:Pos}
theorem mP (C:Gl X "list") (A:X.mg "list" = none) (g:Gl X "range") (E:X.mg "range" = none) (ha:IA K X [a] L) (B:X.calm=true:=by rfl) (hs:au a=true:=by rfl) :
  IL K X (.Call (.Name "list" p1) [.Call (.Name "range" p2) [a] [] p3] [] p4) (xm L):=by
 refine⟨λenv st r f=>?_⟩;simp only[xm,qab]at f;obtain⟨⟨ws,s1⟩,hw,f⟩:=f;dsimp only at f;split at f
 case h_2=>cases f
 rename_i j;split at f
 case isFalse=>cases f
 rename_i hj;cases f;refine (cH (vU B) C A qaS (l6 (cH AO g E qfb (ha.run _ _ _ hw) (by decide) (by decide) (aL hs) (a9 U)) qP (aL U)) (by decide) (by decide) (aL U) (a9 U)).imp ?_
 rintro R H Q ⟨φ,T,hS,q⟩
 refine⟨φ,T,hS,λvs H1 w P y w1=>?_⟩;obtain⟨v,r,rfl,Y,rfl⟩:=w1;subst Y;refine⟨j,U,λp m=>⟨p,0,j.toNat,U,?_,by lia,by lia,by lia,λl hl=>?_⟩⟩
 ·rw[upd_same,qcj,Int.toNat_of_nonneg hj.1]
 ·exact q l _ _ w (P.trans (Fw.new m)) (y.new m) hl (Rls.rng 0 j.toNat)
theorem mQ (C:Gl X "list") (A:X.mg "list" = none) (g:Gl X "range") (E:X.mg "range" = none) (ha:IA K X [a,b] L) (B:X.calm=true:=by rfl) (hs:au a=true:=by rfl) (N:au b=true:=by rfl) :
  IL K X (.Call (.Name "list" p1) [.Call (.Name "range" p2) [a,b] [] p3] [] p4) (pO L):=by
 refine⟨λenv st r f=>?_⟩;simp only[pO,qab]at f;obtain⟨⟨ws,s1⟩,hw,f⟩:=f;dsimp only at f;split at f
 case h_2=>cases f
 rename_i i j;split at f
 case isFalse=>cases f
 cases f;refine (cH (vU B) C A qaS (l6 (cH yI g E qfb (ha.run _ _ _ hw) (by decide) (by decide) (aL hs) (a9 (by rw[qbu,N];rfl))) qP (aL U)) (by decide) (by decide) (aL U) (a9 U)).imp ?_
 rintro R H Q ⟨φ,T,hS,q⟩
 refine⟨φ,T,hS,λvs H1 w P y w1=>?_⟩;obtain⟨v,r,rfl,Y,u,r',rfl,r2,rfl⟩:=w1;subst Y r2;refine⟨i,j,U,λp m=>⟨p,i,(j - i).toNat,U,?_,by lia,by lia,by lia,λl hl=>?_⟩⟩
 ·rw[upd_same,show i+_=j by lia]
 ·exact q l _ _ w (P.trans (Fw.new m)) (y.new m) hl (Rls.rng i (j - i).toNat)
end
def CM (_:Sto):List W->Option D
 |[.d (.tup ds)]=>(a8 ds).map λns=>.bl (ns.any λn=>decide (n≠0))
 |_=>none
section
variable {K:qae}{X:Cx}
theorem wW:bb X (.builtin "any") (λxs H Q=>X.calm=true/\∃ (a:Addr) (ns:List Int),xs=[.ref a]/\H a=some (.tup (ns.map V.int))/\Q (.bl (ns.any λn=>decide (n≠0))) H):=by
 intro C s O H xs D Q I k h;obtain⟨m,a,bs,rfl,G,q⟩:=h;obtain⟨N,rfl,y⟩:=gL k;cases y;obtain⟨z,w,k,p⟩:=(I.hok a _ G);have pt:=p.tup;have f:=by have:=k.length;simpa using this.symm
 refine call_any_walk (qcT pt ?_);refine⟨s.heap.objs.size,_,_,_,_,_,λi=>decide ((bs[i]?).getD 0≠0),U,Walks.tuple (A:=X.A.in1) (I.ok.hd m) s.heap.objs.size a (qaF (let ⟨_,e,_⟩:=p;qaA e)) w.toArray,⟨⟨_,qax _ U,U,U⟩,pt.push _⟩,?_,λh' T F=>?_⟩
 ·intro i v s' Q' E' E l
  have c:=by simpa using E
  have hi:=(qap.mp c).1;obtain⟨b,hb⟩:∃ b,bs[i]?=some b:=⟨bs[i]'(by lia),by simp[show i<bs.length by lia]⟩
  have:(bs.map V.int)[i]?=some (.int b):=by rw[qav,hb];rfl
  obtain⟨u,B,M⟩:=k.get this;rw[c]at B;cases B;obtain⟨t,rfl⟩:=M;have j:Q' (decide _) s':=l;rw[hb]at j;refine qjo ?_;have e:(b != 0)=decide (b≠0):=by
   by_cases h:b=0
   ·subst h;rfl
   ·rw[decide_eq_true h];simpa using h
  rw[e];exact j
 ·refine⟨_,H,I.kept (λb o e=>F b o (λz=>absurd (qaA e) (by rw[qam.mp z];exact qa3 _)) (qaj _ e)),?_,q⟩
  congr 1
  have:∀ n,n=bs.length->((qai n).any λi=>decide ((bs[i]?).getD 0≠0))=bs.any λn=>decide (n≠0):=by
   intro n hn;subst hn;apply qfS.mpr;rw[qft,qft];constructor
   ·rintro⟨i,hi,h⟩
    have g:=qaI.mp hi;refine⟨_,qbR g,?_⟩;rw[qal g]at h;exact h
   ·rintro⟨x,hx,h⟩
    obtain⟨i,hi,rfl⟩:=List.getElem_of_mem hx;refine⟨i,qaI.mpr hi,?_⟩;rw[qal hi];exact h
  exact this _ (by simpa using f)
theorem pk (m:X.calm=true:=by rfl) (P:X.K=K:=by rfl):dJ K X (.builtin "any") CM:=by
 refine⟨λst ws d h=>?_⟩
 match ws,h with
 |[.d (.tup ds)],h=>
  obtain⟨ns,e,rfl⟩:=qad.mp h;cases bL e;refine bb.imp wW ?_
  rintro R H Q ⟨φ,S,⟨v,r,rfl,⟨a,D,rfl,J,L⟩,rfl⟩,q⟩
  cases L.ints;exact⟨m,a,ns,U,J,q _ H (aN.refl H) U⟩
end
section
variable {K:qae}{X:Cx}
end
structure Cal (P:qaO) (w:World) (K:qae) (mg:Str->Option Value) (base:Heap) (x:Str) (j:Nat) (m:Fn):Prop where
 ex:∃ ff fd ps,cZ P w K mg base CX0 j ff fd ps (spI K m)/\mg x=some (.ref ff)/\qcB K (.ref ff)=true/\cN K fd ps []
section
variable {P:qaO}{w:World}{K:qae}{mg:Str->Option Value}{base:Heap}{x a:Str}{st:Stmt}{f:Addr}{fd:qb0}{N ps:List Str}{k j:Nat}{b:Sf}{m:Fn}
theorem vB (F:Fun K x a st f fd) (S:b6 N ps (ak st))
  (hb:∀ (d:Value) (A:qa0) (outer:List Env) (s:qak) (H:Hp) (E:XK),bh k (A.deeper (qen a (ak st) s.heap.objs.size f d))->(eJ CX0 P w K mg base N a (ak st) f d A outer s H E).nox.N=N->(eJ CX0 P w K mg base N a (ak st) f d A outer s H E).nox.env.scope.names=(ak st).names->N.Nodup->ISs K (eJ CX0 P w K mg base N a (ak st) f d A outer s H E).nox (aX st) b) :
  cZ P w K mg base CX0 (k+1) f fd ps (spI K (dE N.length ps.length b)):=EF F S λc A o s H E r=>hb c A o s H E r U U S.nd
theorem Ex (F:Fun K x a st f fd) (S:b6 N ps (ak st)) (hm:mg x=some (.ref f)) (i:cN K fd ps [])
  (hb:∀ (d:Value) (A:qa0) (outer:List Env) (s:qak) (H:Hp) (E:XK),bh k (A.deeper (qen a (ak st) s.heap.objs.size f d))->(eJ CX0 P w K mg base N a (ak st) f d A outer s H E).nox.N=N->(eJ CX0 P w K mg base N a (ak st) f d A outer s H E).nox.env.scope.names=(ak st).names->N.Nodup->ISs K (eJ CX0 P w K mg base N a (ak st) f d A outer s H E).nox (aX st) b) :
  Cal P w K mg base x (k+1) (br N.length ps.length b):=⟨_,_,_,F7 F S λc A o s H E r=>hb c A o s H E r U U S.nd,hm,F.kp,i⟩
theorem Ey (F:Fun K x a st f fd) (S:b6 N ps (ak st)) (hm:mg x=some (.ref f)) (i:cN K fd ps [])
  (hb:∀ (d:Value) (A:qa0) (outer:List Env) (s:qak) (H:Hp) (E:XK),bh k (A.deeper (qen a (ak st) s.heap.objs.size f d))->(eJ CX0 P w K mg base N a (ak st) f d A outer s H E).nox.N=N->(eJ CX0 P w K mg base N a (ak st) f d A outer s H E).nox.env.scope.names=(ak st).names->N.Nodup->ISs K (eJ CX0 P w K mg base N a (ak st) f d A outer s H E).nox (aX st) b) :
  Cal P w K mg base x (k+1) (dE N.length ps.length b):=⟨_,_,_,EF F S λc A o s H E r=>hb c A o s H E r U U S.nd,hm,F.kp,i⟩
variable {X:Cx}{e:Expr}{es:List Expr}{pos p:Pos}{q:Af}
theorem jp (G:X.K=K) (C:Cal X.prog X.w X.K X.mg X.base x j m) (B:bh k X.A) (t:j<=k) (hg:Gl X x) (l:IA K X (e::es) q) (h:(x==("__debug__" : Str))=false) (n:au e=true) (i:es.all au=true) :
  IE K X (.Call (.Name x p) (e::es) [] pos) (ay m q):=by
 subst G;obtain⟨_,_,_,F,hm,I,hb⟩:=C.ex;exact AH F t B hg hm I hb l h n i
theorem gT (G:X.K=K) (C:Cal X.prog X.w X.K X.mg X.base x j m) (B:bh k X.A) (t:j<=k) (hg:Gl X x) (l:IA K X (e::es) q) (h:(x==("__debug__" : Str))=false) (n:au e=true) (i:es.all au=true) :
  IE K X (.Call (.Name x p) (e::es) [] pos) (cD m q):=by
 subst G;obtain⟨_,_,_,F,hm,I,hb⟩:=C.ex;exact yD F t B hg hm I hb l h n i
theorem vH {v:Value}{g:Sto->List W->Option D} (y:qb9 x=some v) (z:dJ K X v g) (hg:Gl X x) (hm:X.mg x=none) (l:IA K X (e::es) q)
  (hn:x≠"__name__") (h:(x==("__debug__" : Str))=false) (n:au e=true) (i:es.all au=true) (u:(match v with|.builtin _=>true|.type _=>true|_=>false)=true):IE K X (.Call (.Name x p) (e::es) [] pos) (iCB g q):=by
 cases v<;>first|exact oG z hg hm y l hn h n i|exact EL z hg hm y l hn h n i|cases u
theorem vN {v:Value}{g:Sto->List W->Option (List D)} (y:qb9 x=some v) (z:rq K X v g) (hg:Gl X x) (hm:X.mg x=none) (l:IA K X (e::es) q)
  (hn:x≠"__name__") (h:(x==("__debug__" : Str))=false) (n:au e=true) (i:es.all au=true) (u:(match v with|.builtin _=>true|.type _=>true|_=>false)=true):IL K X (.Call (.Name x p) (e::es) [] pos) (iCL g q):=by
 cases v<;>first|exact EM z hg hm y l hn h n i|exact B8 z hg hm y l hn h n i|cases u
end
def tgN:Expr->List Str
 |.Name x _=>[x]
 |.Tuple es _ _=>es.flatMap λe=>match e with
  |.Name x _=>[x]
  |.Tuple es _ _=>es.flatMap λe=>match e with
   |.Name x _=>[x]
   |_=>[]
  |_=>[]
 |_=>[]
def lcN (tg:Expr) (js:List Nat) (N:List Str):List Str:=tgN tg++js.map λj=>N.getD j ""
theorem qx {a:Scope}{ns:List (Str×qbZ)}{N Nc:List Str}{k:Nat}{js:List Nat} (h:uD a ns N Nc k js=true):Nc.Nodup:=by
 unfold uD at h;simp only[qaX,decide_eq_true_eq]at h;exact h.1.1.1.2
section
variable {K:qae}{X:Cx}{tg:Expr}{pos:Pos}{a:Scope}{k:Nat}{js:List Nat}{f iter:Expr}{e:List Expr}{n:Lf}{g:Tg}{tt:Tf}{te:Ef}{ns:List (Str×qbZ)}{N:List Str}
theorem pY (hns:X.env.scope.names=ns) (hN:X.N=N) (h:uD a ns N (lcN tg js N) k js=true) (r:a.kind=.function) (u:X.calm=true) (o:X.env.scope.kind=.function) (m:∀ j∈sE g,j<k) (hi:II K X tg iter n)
  (hg:∀ b s H C d,(lcX X a b (lcN tg js N) s H C d).N.Nodup->PG (lcX X a b (lcN tg js N) s H C d) tg (tG K g)) (A:∀ b s H C d,(lcX X a b (lcN tg js N) s H C d).env.scope.names=zL a.names ns->(lcX X a b (lcN tg js N) s H C d).N=lcN tg js N->ITs K (lcX X a b (lcN tg js N) s H C d) e tt)
  (p:∀ b s H C d,(lcX X a b (lcN tg js N) s H C d).env.scope.names=zL a.names ns->(lcX X a b (lcN tg js N) s H C d).N=lcN tg js N->IE K (lcX X a b (lcN tg js N) s H C d) f te) (y:∀ x,qbL iter X.env x=pure x) :
  IL K X (.ListComp f [⟨tg,iter,e,0⟩] a pos) (iLc k js n g tt te):=
 yE (sO ns N _ k js hns hN r h) u m hi (λc s H C d=>hg c s H C d (qx h)) (λc s H C d=>A c s H C d (l9 o hns) U) (λc s H C d=>p c s H C d (l9 o hns) U) y
variable {w:Nat}{l:Str}{v i:Pos}
theorem gk (hns:X.env.scope.names=ns) (hN:X.N=N) (h:uD a ns N (lcN tg js N) k js=true) (B:X.N.Nodup) (q:X.N[w]?=some l) (t:Loc X.env.scope l) (r:a.kind=.function) (u:X.calm=true) (o:X.env.scope.kind=.function) (m:∀ j∈sE g,j<k) (hi:II K X tg iter n)
  (hg:∀ b s H C d,(lcX X a b (lcN tg js N) s H C d).N.Nodup->PG (lcX X a b (lcN tg js N) s H C d) tg (tG K g)) (A:∀ b s H C d,(lcX X a b (lcN tg js N) s H C d).env.scope.names=zL a.names ns->(lcX X a b (lcN tg js N) s H C d).N=lcN tg js N->ITs K (lcX X a b (lcN tg js N) s H C d) e tt)
  (p:∀ b s H C d,(lcX X a b (lcN tg js N) s H C d).env.scope.names=zL a.names ns->(lcX X a b (lcN tg js N) s H C d).N=lcN tg js N->IE K (lcX X a b (lcN tg js N) s H C d) f te)
  (hsw:qcr (.ListComp f [⟨tg,iter,e,0⟩] a pos) (some (.Name l v)) i.line X.env=pure true) (z:X.fn l=true\/X.env.scope.names.lookup l=some .local) (y:∀ x,qbL iter X.env x=pure x) :
  IS K X (.Assign [.Name l v] (.ListComp f [⟨tg,iter,e,0⟩] a pos) i) (aD (.nm w) (av (iLc k js n g tt te)))/\
   IS K X (.Assign [.Name l v] (.ListComp f [⟨tg,iter,e,0⟩] a pos) i) (aD (.nm w) (bV (iLc k js n g tt te))):=
 EO B q t (sO ns N _ k js hns hN r h) u m hi (λc s H C d=>hg c s H C d (qx h)) (λc s H C d=>A c s H C d (l9 o hns) U) (λc s H C d=>p c s H C d (l9 o hns) U) hsw z y
end
theorem vS {K:qae}{X:Cx}{o:BoolOp}{es:List Expr}{pos:Pos}{a:Tf} (h:ITW K X (.BoolOp o es pos) a):IT K X (.BoolOp o es pos) a:=C6 h
theorem ad {a b:Prop} (h:a) (g:a->b):a/\b:=⟨h,g h⟩
theorem lO {K:qae}{X:Cx}{pos:Pos}{tg:Expr}{a:Scope}{k:Nat}{js:List Nat}{i iter:Expr}{f:List Expr}{u:Lf}{g:Tg}{tt:Tf}{te:Ef}{t:Nat}{l:Str}{r d:Pos}{ns:List (Str×qbZ)}{N:List Str}
  (hns:X.env.scope.names=ns) (hN:X.N=N) (h:uD a ns N (lcN tg js N) k js=true) (q:X.N.Nodup) (m:X.N[t]?=some l) (n:Loc X.env.scope l) (w:a.kind=.function) (y:X.calm=true) (o:∀ j∈sE g,j<k) (hi:II K X tg iter u)
  (hg:∀ b s H C e,(lcX X a b (lcN tg js N) s H C e).N.Nodup->PG (lcX X a b (lcN tg js N) s H C e) tg (tG K g)) (A:∀ b s H C e,ITs K (lcX X a b (lcN tg js N) s H C e) f tt) (v:∀ b s H C e,IE K (lcX X a b (lcN tg js N) s H C e) i te)
  (hsw:qcr (.ListComp i [⟨tg,iter,f,0⟩] a pos) (some (.Name l r)) d.line X.env=pure true) (p:X.fn l=true\/X.env.scope.names.lookup l=some .local) (z:∀ x,qbL iter X.env x=pure x) :
  ISL K X (.Assign [.Name l r] (.ListComp i [⟨tg,iter,f,0⟩] a pos) d) t (iLc k js u g tt te):=
 C3 q m n (sO ns N _ k js hns hN w h) y o hi (λc s H C e=>hg c s H C e (qx h)) A v hsw p z
theorem jq {K:qae}{X:Cx}{x:Str}{k j:Nat}{f Cl:Addr}{fd:qb0}{N ps:List Str}{g:List (Str×Ef)}{p pos:Pos}{e:Expr}{es:List Expr}{d:Af} (hm:X.mg x=some (.ref Cl)) (M:Mk X.K Cl f) (F:cZ X.prog X.w X.K X.mg X.base CX0 j f fd ps (BO K N.length ps.length g)) (l:bh (k+1) X.A) (c:j<=k) (hg:Gl X x) (hb:cN X.K fd ps [])
  (m:Cls K Cl) (hA:∀ p∈g,b8 K Cl p.1) (h:g.length=6) (b:(g.map (·.1)).Nodup)
  (i:IA K X (e::es) d) (a:(x==("__debug__" : Str))=false) (o:au e=true) (n:es.all au=true) :
  IE K X (.Call (.Name x p) (e::es) [] pos) (oF N.length ps.length g d):=AI M F c l hg hm hb m hA h b i a o n
end L2
namespace L2
open PySem PySem.Spec PyProof.Rows PySem.SeqAt PySem.W
def kz:List D->Option (List Str)
 |[]=>some []
 |.str x::ds=>(kz ds).map λr=>x::r
 |_=>none
theorem kT:∀ {ds:List D}{a:List Str},kz ds=some a->ds=a.map D.str
 |[],_,h=>by cases h;rfl
 |.str x::ds,_,h=>by
  simp only[kz,qad]at h;obtain⟨r,e,rfl⟩:=h;rw[kT e];rfl
 |.non::_,_,h=>by cases h
 |.bl _::_,_,h=>by cases h
 |.int _::_,_,h=>by cases h
 |.tup _::_,_,h=>by cases h
 |.ty _::_,_,h=>by cases h
 |.dct::_,_,h=>by cases h
 |.scr _::_,_,h=>by cases h
 |.lst _::_,_,h=>by cases h
 |.ob _ _::_,_,h=>by cases h
section
variable {K:qae}{X:Cx}{H:Hp}{φ:List Addr}
theorem Rls.strs:∀ {ns:List Str}{a:List V},Rls K H φ (ns.map D.str) a->a=ns.map V.str
 |[],_,h=>h
 |n::ns,_,h=>by
  obtain⟨v,r,rfl,b,c⟩:=h;rw[b,Rls.strs c];rfl
end
end L2
namespace L2
open PySem PySem.Spec PyProof.Rows
section
variable {K:qae}{X:Cx}{pos:Pos}{a e:Expr}{fa:Ef}{Y:Af}
def sA (o:Ef) (a:Af):Ef
 |env,st=>(o env st).bind λx=>(a env x.2).bind λr=>match x.1,r.1 with
 |.d (.lst ds),[.d (.str k)]=>(kz ds).bind λns=>if ns.length<=1000 then (ns.idxOf? k).map λj=>(.d (.int (j:Nat)),r.2) else none
 |_,_=>none
def Fq (X:Cx):V->List V->Hp->VK->Prop:=λx xs H Q=>∃ (p:Addr) (ns:List Str) (k:Str) (j:Nat),x=.ref p/\xs=[.str k]/\SqL X.K H p (ns.map V.str)/\ns.length<=1000/\ns.idxOf? k=some j/\Q (.int (j:Nat)) H
def C1 (k:Str):Value->Bool
 |.str s _=>s==k
 |_=>false
theorem AG:∀ {ns:List Str}{k:Str}{j:Nat},ns.idxOf? k=some j->j<ns.length/\ns[j]?=some k/\∀ i,i<j->ns[i]?≠some k:=by
 intro ns k j h;have h1:=qdk.mp h;obtain⟨N,h3,h4⟩:=h1;refine⟨N,by rw[qal N,h3],λi hi z=>?_⟩;have O:i<ns.length:=qdW hi N;rw[qal O]at z;exact h4 i hi (qaL z)
theorem AZ:MtR X "list.index" (Fq X):=by
 intro pins s σ H x xs v us Q I rx rv h;obtain⟨p,ns,k,j,rfl,rfl,F,hl,L,q⟩:=h;cases rx;obtain⟨u,rfl,ru⟩:=rv.one;obtain⟨t,rfl⟩:=ru;obtain⟨g,r,pl,hz⟩:=I.list F;obtain⟨j1,j2,j3⟩:=AG L;have A:g.length=ns.length:=by rw[<-r.length,qaf]
 have at_:∀ (i:Nat) (hi:i<g.length),∃ t,∃ hn:i<ns.length,g[i]=.str ns[i] t:=λi hi=>by
  obtain⟨h',q'⟩:=r.at i hi;have hn:i<ns.length:=by rw[<-A];exact hi
  have e:(ns.map V.str)[i]=V.str ns[i]:=qc4 ..;rw[e]at q';obtain⟨t,e'⟩:=q';exact⟨t,hn,e'⟩
 obtain⟨⟨c,dd,dt,sl⟩,W,hc,n,hd⟩:=pl.isList
 simp only at hc hd
 subst hc hd;have C:j<g.length:=by rw[A];exact j1
 refine qco qda ⟨_,W,U⟩ qfL (qfG _ _) (qfa p g.toArray n dd sl (.str k t) (C1 k) j (by simpa using C) (by lia) ?_ (λm hm T=>?_)) ⟨W,λy hy=>?_,?_⟩
 ·obtain⟨t',hn,e⟩:=at_ j C
  rw[qal hn]at j2
  have:g.toArray[j]'(by simpa using C)=.str k t':=by simpa [qaL j2] using e
  rw[this];exact beq_self_eq_true k
 ·have S:m<g.length:=by simpa using hm
  obtain⟨t',hn,e⟩:=at_ m S
  have:g.toArray[m]'hm=.str ns[m] t':=by simpa using e
  rw[this]
  have:=j3 m T
  rw[qal hn]at this;have M:ns[m]≠k:=λz=>this (by rw[z]);show (ns[m]==k)=false;rw[beq_eq_false_iff_ne];exact M
 ·obtain⟨m,hm,rfl⟩:=qcu.mp (by simpa using hy:y∈g)
  obtain⟨t',hn,e⟩:=at_ m hm;rw[e];exact qge _ _ _ _
 ·exact⟨.int (j:Nat),H,I.kept (t':=s.toks+1) λb o e=>e,⟨_,U⟩,q⟩
theorem lz {w:Pos} (ho:IE K X a fa) (ha:IA K X [e] Y) (D:qct a "index" X.env (eval a X.env)=eval a X.env:=by rfl)
  (l:[e].all au=true:=by rfl) (E:(w.endLine==pos.line)=true:=by rfl) (hK:X.K=K:=by rfl) :
  IE K X (.Call (.Attribute a "index" w) [e] [] pos) (sA fa Y):=by
 subst hK;have B:au e=true:=by rw[qbu,qaX]at l;exact l.1
 refine⟨λenv st r f=>?_⟩;simp only[sA,qab]at f;obtain⟨⟨x,s1⟩,hx,⟨ws,s2⟩,hw,f⟩:=f
 match x,ws,f with
 |.d (.lst ds),[.d (.str k)],f=>
  simp only[qab]at f;obtain⟨ns,hns,f⟩:=f;split at f
  case isFalse=>cases f
  rename_i hl;obtain⟨j,L,rfl⟩:=qad.mp f;have G:=kT hns;subst G;refine (zc qd0 qda qfX AZ (ho.run _ _ _ hx) (ha.run _ _ _ hw) D (nO l (by show 1<30;decide)) E (aL B) (a9 U)).imp ?_
  rintro σ H Q ⟨φ,hE,hS,q⟩
  refine⟨φ,hE,hS,λv H1 J f1 S1 w1=>?_⟩;obtain⟨p,vs,rfl,h0,F,R⟩:=w1;have ev:=Rls.strs R;subst ev;refine⟨.inl ⟨U,_,.inl F⟩,J,hE.fw hS f1,S1,λus H2 P f2 S2 w2=>?_⟩;obtain⟨y,us',rfl,ry,rfl⟩:=w2;cases (show y=.str k from ry);exact⟨p,ns,k,j,U,U,.inl (F.fw f2 h0),hl,L,q _ H2 P (f1.trans f2) S2 U⟩
end
end L2
namespace L2
open PySem PySem.SeqAt MeetsSeq MeetsSeq2 MeetsSeq3
open AutoSeq1 (wpAny_loadPart')
end L2
namespace L2
open PySem PySem.Spec PyProof.Rows
section
variable {K:qae}{X:Cx}{pos:Pos}{a e:Expr}{c:Ef}{b:Af}
end
section
variable {c:Type} [DecidableEq c]
def fY (a:List (c×V)) (k:c):Option V:=(a.find? λd=>decide (d.1=k)).map (·.2)
def ku (a:List (c×V)) (k:c) (v:V):List (c×V):=
 if (a.any λd=>decide (d.1=k))=true then a.map (λd=>if d.1=k then (d.1,v) else d) else a++[(k,v)]
theorem nX {p:c×V}{r:List (c×V)}{k:c} (e:p.1=k):fY (p::r) k=some p.2:=by simp[fY,qdl,e]
theorem nW {p:c×V}{r:List (c×V)}{k:c} (e:¬ p.1=k):fY (p::r) k=fY r k:=by simp[fY,qdl,e]
theorem t8 (k:c):∀ a:List (c×V),(a.any λd=>decide (d.1=k))=(fY a k).isSome
 |[]=>rfl
 |p::r=>by
  rw[qcc];by_cases e:p.1=k
  ·simp only[nX e,decide_eq_true e,Bool.true_or,Option.isSome_some]
  ·rw[nW e,decide_eq_false e];exact t8 k r
theorem kP (a:List (c×V)) (k:c) (v:V):(ku a k v).length<=a.length+1:=by
 unfold ku;split
 ·rw[qaf];lia
 ·rw[qaw,qaq,qdj];lia
theorem kY.isSome_eq {o:Option V}{u:Option Value} (r:kY o u):o.isSome=u.isSome:=by
 cases o with
 |none=>cases u with
  |none=>rfl
  |some _=>exact (r).elim
 |some _=>cases u with
  |none=>exact (r).elim
  |some _=>rfl
theorem KV.val {a:List (c×V)}{f:List (c×Value)} (r:KV a f) (k:c):kY (fY a k) (qg6 f k):=by
 induction r with
 |nil=>exact True.intro
 |@cons p q ps j h t i=>
  obtain⟨g,n⟩:=h;by_cases e:p.1=k
  ·have m:=g.symm.trans e
   have b:qg6 (q::j) k=some q.2:=by simp[qg6,qdl,m]
   rw[nX e,b];exact n
  ·have m:¬ q.1=k:=λz=>e (g.trans z)
   have b:qg6 (q::j) k=qg6 j k:=by simp[qg6,qdl,m]
   rw[nW e,b];exact i
theorem KV.any {a:List (c×V)}{f:List (c×Value)} (r:KV a f) (k:c):(a.any λd=>decide (d.1=k))=f.any λd=>decide (d.1=k):=by
 induction r with
 |nil=>rfl
 |cons h t i=>rw[qcc,qcc,i,h.1]
theorem KV.repl {a:List (c×V)}{f:List (c×Value)} (r:KV a f) (k:c) {y:V}{u:Value} (l:aK y u) :
  KV (a.map λd=>if d.1=k then (d.1,y) else d) (f.map λd=>if d.1=k then (d.1,u) else d):=by
 induction r with
 |nil=>exact .nil
 |@cons p q ps j h t i=>
  rw[qau,qau];refine .cons ?_ i;obtain⟨g,n⟩:=h;by_cases e:p.1=k
  ·rw[iFP e,iFP (g.symm.trans e)];exact⟨g,l⟩
  ·rw[iFN e,iFN (λz=>e (g.trans z))];exact⟨g,n⟩
theorem KV.put {a:List (c×V)}{f:List (c×Value)} (r:KV a f) (k:c) {y:V}{u:Value} (l:aK y u):KV (ku a k y) (stored f k u):=by
 unfold ku stored;rw[r.any k];by_cases e:(f.any λd=>decide (d.1=k))=true
 ·rw[iFP e,iFP e];exact r.repl k l
 ·rw[iFN e,iFN e];exact qid r ⟨U,l⟩
theorem KV.length {a:List (c×V)}{f:List (c×Value)} (r:KV a f):a.length=f.length:=qeG r
end
theorem yH {P:qaO}{w:World}{k:Key}{u:Value} (r:aK (kV k) u):(bR P w).is k u=true:=by
 cases k with
 |inl i=>obtain⟨t,e⟩:=(r);subst e;exact sW P w i t
 |inr x=>obtain⟨t,e⟩:=(r);subst e;exact sY P w x t
theorem oJ {P:qaO}{w:World}:∀ {a:List Key}{b:List Value},aF (a.map kV) b->ItemsAre (bR P w) a b
 |[],_,r=>by cases r;exact .nil
 |k::a,_,r=>by
  cases r with
  |cons h t=>exact .cons (yH h) (oJ t)
abbrev KT (H:Hp):List (List Key×V)->List (List Key×Addr×Value)->Prop:=qf8 λp q=>p.1=q.1/\H q.2.1=some (.tup (p.1.map kV))/\aK p.2 q.2.2
theorem KT.val {H:Hp}{a:List (List Key×V)}{xs:List (List Key×Addr×Value)} (r:KT H a xs) (k:List Key):kY (fY a k) ((atKey xs k).map (·.2)):=by
 induction r with
 |nil=>exact True.intro
 |@cons p q ps c h t g=>
  obtain⟨d,_,i⟩:=h;by_cases e:p.1=k
  ·have b:atKey (q::c) k=some q.2:=by simp[atKey,qdl,(d.symm.trans e)]
   rw[nX e,b];exact i
  ·have f:¬ q.1=k:=λz=>e (d.trans z)
   have b:atKey (q::c) k=atKey c k:=by simp[atKey,qdl,f]
   rw[nW e,b];exact g
theorem KT.repl {H:Hp}{a:List (List Key×V)}{xs:List (List Key×Addr×Value)} (r:KT H a xs) (k:List Key) {y:V}{u:Value} (f:aK y u) :
  KT H (a.map λc=>if c.1=k then (c.1,y) else c) (xs.map (putAt k u)):=by
 induction r with
 |nil=>exact .nil
 |@cons p q ps j h t g=>
  rw[qau];refine .cons ?_ g;obtain⟨b,d,i⟩:=h;unfold putAt;by_cases e:p.1=k
  ·rw[iFP e,iFP (b.symm.trans e)];exact⟨b,d,f⟩
  ·rw[iFN e,iFN (λz=>e (b.trans z))];exact⟨b,d,i⟩
theorem KT.put {H:Hp}{a:List (List Key×V)}{xs:List (List Key×Addr×Value)} (r:KT H a xs) (k:List Key) {b:Addr}{y:V}{u:Value} (hb:H b=some (.tup (k.map kV))) (c:aK y u) :
  KT H (ku a k y) (storedH xs k b u):=by
 have e:(a.any λd=>decide (d.1=k))=(atKey xs k).isSome:=by
  rw[t8,(r.val k).isSome_eq,Option.isSome_map]
 unfold ku storedH;rw[e];by_cases q:(atKey xs k).isSome=true
 ·rw[iFP q,iFP q];exact r.repl k c
 ·rw[iFN q,iFN q];exact qid r ⟨U,hb,c⟩
theorem KT.keeps {H H':Hp}{a:List (List Key×V)}{xs:List (List Key×Addr×Value)} (r:KT H a xs) (d:∀ b c,H b=some (.tup c)->H' b=some (.tup c)):KT H' a xs:=
 qf8.mapP r λ_ _ z=>⟨z.1,d _ _ z.2.1,z.2.2⟩
section
variable {P:qaO}{w:World}{H:Hp}{h:Heap}{a:Addr}
theorem Cs {u:HO} (ok:HOk P w H h) (e:Rd H a u):bZ P w H h a u:=e.ok ok
theorem ym {b:List (Key×V)} (ok:HOk P w H h) (e:Rd H a (.dK b)):b.length<=qaG/\(a==qcn)=false/\∃ c,KV b c/\h.DictOf (bR P w) a c:=
 Cs ok e
theorem EA {b:List (Key×V)} (ok:HOk P w H h) (e:H a=some (.dK b)):b.length<=qaG/\(a==qcn)=false/\∃ c,KV b c/\h.DictOf (bR P w) a c:=ym ok (.inl e)
theorem uB {j:List Key} (ok:HOk P w H h) (e:H a=some (.tup (j.map kV))):(qgo (bR P w)).is h j a:=by
 obtain⟨_,g,r,o,d,f,⟨n,i⟩,_⟩:=(ok a _ e);exact⟨o,g.toArray,n,d,f,i,by simpa using oJ r⟩
theorem yo {b:List (List Key×V)} (ok:HOk P w H h) (e:Rd H a (.dT b)):b.length<=qaG/\(a==qcn)=false/\
  ∃ xs,KT H b xs/\h.DictOfH (qgo (bR P w)) a xs:=by
 obtain⟨z,y,xs,r,o,es,s,d,f,i,v,B⟩:=(Cs ok e);refine⟨z,y,xs,r,o,es,s,d,f,i,v,λx hx=>?_,B⟩;have all:∀ {l:List _}{m:List _},KT H l m->∀ x∈m,(qgo (bR P w)).is h x.1 x.2.1:=by
  intro l m q
  induction q with
  |nil=>intro x hx;exact nomatch hx
  |@cons p q ps C k t A=>
   intro x hx;rcases qaz.mp hx with e|hx
   ·subst e
    exact uB ok (by rw[<-k.1];exact k.2.1)
   ·exact A x hx
 exact all r x hx
theorem B5 {b:List (List Key×V)} (ok:HOk P w H h) (e:H a=some (.dT b)):b.length<=qaG/\(a==qcn)=false/\
  ∃ xs,KT H b xs/\h.DictOfH (qgo (bR P w)) a xs:=yo ok (.inl e)
end
def wO (H:Hp) (a:Addr) (y:V) (r:Option V):Prop:=
 (∃ c k,Rd H a (.dK c)/\y=kV k/\r=fY c k)\/∃ c k b,Rd H a (.dT c)/\y=.ref b/\H b=some (.tup (k.map kV))/\r=fY c k
def x3 (H:Hp) (a:Addr) (y v:V) (H':Hp):Prop:=
 (∃ c k,H a=some (.dK c)/\y=kV k/\c.length<qaG/\H'=upd H a (.dK (ku c k v)))\/
 ∃ c k b,H a=some (.dT c)/\y=.ref b/\H b=some (.tup (k.map kV))/\c.length<qaG/\H'=upd H a (.dT (ku c k v))
theorem wO.t {H:Hp}{a b:Addr}{c:List (List Key×V)}{k:List Key} (e:H a=some (.dT c)) (d:H b=some (.tup (k.map kV))):wO H a (.ref b) (fY c k):=.inr ⟨c,k,b,.inl e,U,d,U⟩
theorem x3.t {H:Hp}{a b:Addr}{c:List (List Key×V)}{k:List Key}{v:V} (e:H a=some (.dT c)) (d:H b=some (.tup (k.map kV))) (f:c.length<qaG) :
  x3 H a (.ref b) v (upd H a (.dT (ku c k v))):=.inr ⟨c,k,b,e,U,d,f,U⟩
section
variable {X:Cx}{i:List (Addr×Obj)}{t:St}{H:Hp}{s:qak}{a:Addr}{y v:V}{u r:Value}{o:Option V}{A:qa0}{E:Value->qak->Prop}
theorem Inv.big (I:Inv X i t H s):qcn<s.heap.objs.size:=by
 exact qdW (by decide) ((I.mod.glob.keeps I.bk).lt)
theorem wZ {Q:Value->qak->Prop} (K:A.units+1<cLine) (I:Inv X i t H s) (g:wO H a y (some v)) (F:aK y u) (h:∀ C s',Inv X i t H s'->aK v C->Q C s') :
  wpAny (model X.prog X.w) A (qeQ (.ref a) u) Q E s:=by
 rcases g with⟨d,k,e,x,l⟩|⟨d,k,b,e,x,J,l⟩
 ·subst x
  obtain⟨z,hd,B,f,j⟩:=ym I.hok e;obtain⟨C,hw,n⟩:=kY.some_of (by rw[l];exact f.val k);exact wpAny_getItem_of (yH F) j.mapOf hw (h C _ (I.tok _) n)
 ·subst x
  cases (F);obtain⟨z,hd,xs,f,j⟩:=yo I.hok e;obtain⟨C,hw,n⟩:=kY.some_of (by rw[l];exact f.val k);obtain⟨p,T,M⟩:=qad.mp hw;refine wpAny_getItem_heap (qh5 K) (uB I.hok J) j T ?_;rw[M];exact h C _ (I.tok _) n
theorem vm {h':Heap}{t':Nat}{ob:HO} (I:Inv X i t H s) (mu:Mut (H a)) (D:qdd a s.heap h') (S:∃ q,h'.get? a=some q) (new:bZ X.prog X.w (upd H a ob) h' a ob) :
  Inv X i t (upd H a ob) { s with heap:=h',toks:=t' }:=
 I.write mu (.inl U) (λb q hb z=>(D.2 b hb).trans z) S new
theorem CN {P:qaO}{w:World}{H':Hp}{h':Heap}{d:List (Key×V)}{B:List (Key×Value)} (z:d.length<=qaG) (hd:(a==qcn)=false) (f:KV d B) (j:h'.DictOf (bR P w) a B) :
  bZ P w H' h' a (.dK d):=⟨z,hd,B,f,j⟩
theorem w6 {H':Hp}{Q:Unit->qak->Prop} (K:A.units+1<cLine) (I:Inv X i t H s) (g:x3 H a y v H') (F:aK y u) (R:aK v r) (h:∀ s',Inv X i t H' s'->Q () s') :
  wpAny (model X.prog X.w) A (qjz (.ref a) u r) Q E s:=by
 rcases g with⟨d,k,e,x,l,L⟩|⟨d,k,b,e,x,J,l,L⟩
 ·subst x L
  obtain⟨z,hd,B,f,j⟩:=EA I.hok e;have hz:B.length<=qaG:=by rw[<-f.length];exact z
  have N:(ku d k v).length<=qaG:=by have:=kP d k v;lia
  refine wpAny_setItem_pairs (yH F) j λh' m D=>h _ ?_;exact vm I (by rw[e];exact True.intro) D (let ⟨q,_,_,G,_⟩:=m;⟨q,G⟩) (CN N hd (f.put k R) m)
 ·subst x L
  cases (F);obtain⟨z,hd,xs,f,j⟩:=B5 I.hok e;have hz:xs.length<=qaG:=by rw[<-qeG f];exact z
  have N:(ku d k v).length<=qaG:=by have:=kP d k v;lia
  refine wpAny_setItem_heap (qh5 K) (uB I.hok J) j λh' m D=>h _ ?_;obtain⟨q,es,ep,G,W,Y,h4,_,h5⟩:=m;refine vm I (by rw[e];exact True.intro) D ⟨q,G⟩ ⟨N,hd,_,(f.put k J R).keeps λc ys O=>?_,q,es,ep,G,W,Y,h4,h5⟩;rw[upd_ne (E5 O e (λz=>nomatch z))]
  exact O
end
section
variable {X:Cx}{b:List (Addr×Obj)}{d:St}{H:Hp}{s:qak}{a:Addr}{c:List (Key×V)}{k:Key}{u:Value}{A:qa0}{E:Value->qak->Prop}
end
def CA (i:Expr):Prop:=∀ a iv,qgp i false a iv=operate [a,iv] (qeQ a iv)
theorem BQ {prog:qaO}{w:World}{A:qa0}{E:Value->qak->Prop}{s:qak}{env:Env}{b a:Expr}{pos:Pos}{T id:String}{Q:Value->qak->Prop}
  (k:typeLookup (.type T) "__getitem__" = pure (some (.builtin id))) (m:CA a)
  (h:wpAny (model prog w) A (eval b env) (λo f=>wpAny (model prog w) A (eval a env) (λi c=>c.TypeIs o T/\wpAny (model prog w) A (qeQ o i) Q E c) E f) E s) :
  wpAny (model prog w) A (eval (.Subscript b a pos) env) Q E s:=by
 refine qiw (qcm h (λo f j=>qcm j (λi c d=>?_) λ_ _ x=>x) λ_ _ x=>x);obtain⟨l,d⟩:=d;refine qac ?_;refine qac (wpAny_specialOf l k ?_);have fin:wpAny (model prog w) A (qgp a false o i) (λr e=>wpAny (model prog w) A (letTemporaryGo b o r >>= λ_=>pure r) Q E e) E c:=by
  rw[m o i];exact wpAny_operating (qcm d (λr e g=>qac (wpAny_letTemporaryGo (qar g))) λ_ _ x=>x)
 first
  |exact qar (qac fin)
  |exact qac _
  |exact qac fin
theorem rY {X:Cx}{c:List (Addr×Obj)}{h:St}{H:Hp}{s:qak}{a:Addr}{y:V}{o:Option V} (I:Inv X c h H s) (g:wO H a y o):s.TypeIs (.ref a) "dict":=by
 rcases g with⟨f,k,e,_,_⟩|⟨f,k,b,e,_,_,_⟩
 ·obtain⟨_,_,i,_,d⟩:=ym I.hok e
  exact d.typeIs
 ·obtain⟨_,_,xs,_,d⟩:=yo I.hok e
  exact d.typeIs
def FJ (c ty:TE):TE:=λb H Q=>c b H λx H1=>ty b H1 λy H2=>∃ a v,x=.ref a/\wO H2 a y (some v)/\Q v H2
def Fz (c ty d:TE):TS:=λD b H=>d b H λv H1=>c b H1 λx H2=>ty b H2 λy H3=>∃ a H4,x=.ref a/\x3 H3 a y v H4/\D.nx b H4
section
variable {X:Cx}{o i e c:Expr}{pos d z:Pos}{j ty B:TE}
theorem Bk (n:X.A.units+1<cLine) (q:PE X o j) (hi:PE X i ty) (t:CA i):PE X (.Subscript o i pos) (FJ j ty):=by
 intro b s f H Q I h;refine BQ PySem.F.slot_dict_getitem.lookup t (thn (q b s f H _ I h) λu s1 ⟨x,H1,I1,m,p⟩=>thn (hi b s1 f H1 _ I1 p) λiv A ⟨y,H2,I2,w,a,v,ex,g,k⟩=>?_);subst ex;obtain rfl:u=Value.ref a:=m;exact⟨rY I2 g,wZ n I2 g w λK F I3 l=>⟨v,H2,I3,l,k⟩⟩
theorem Bq (n:X.A.units+1<cLine) (q:PE X o j) (hi:PE X i ty) (E:PE X c B) (t:qcr c (some (.Subscript o i d)) pos.line X.env=pure false) :
  PS X (.Assign [.Subscript o i d] c pos) (Fz j ty B):=by
 intro b s f H D I h;refine wpAny_Assign_Subscript (thn (E b s f H _ I h) λr s1 ⟨v,H1,I1,G,p⟩=>thn (q b s1 f H1 _ I1 p) λu A ⟨x,H2,I2,m,k⟩=>thn (hi b A f H2 _ I2 k) λiv F ⟨y,H3,I3,w,a,H4,ex,g,C⟩=>?_) t;subst ex;obtain rfl:u=Value.ref a:=m;exact w6 n I3 g w G λJ I4=>⟨f,H4,I4,C⟩
end
theorem yn {P:qaO}{w:World}{H:Hp} (h:Heap) (hb:qcn<h.objs.size):bZ P w H (h.push { cls:=.type "dict",data:=.dict #[] }) h.objs.size (.dT []):=
 ⟨qbA _,beq_eq_false_iff_ne.mpr (qbD (qaF hb)),_,.nil,_,_,0,qax _ U,⟨U,U,U⟩,U,U,qcX⟩
def D6:TE:=λ_ H Q=>∀ p,H p=none->Q (.ref p) (upd H p (.dT []))
section
variable {X:Cx}{pos:Pos}
theorem zd:PE X (.Dict [] [] pos) D6:=λa s b H Q I h=>
 wpAny_Dict_empty ⟨.ref s.heap.objs.size,_,I.laid (λ_ _ q=>qaj _ q) (qao _) (yn s.heap I.big),U,h _ (I.hok.fresh (qao _))⟩
end
section
variable {X:Cx}{b:List (Addr×Obj)}{c:St}{H:Hp}{s:qak}{a:Addr}{y d:V}{u r:Value}{o:Option V}{A:qa0}{E:Value->qak->Prop}
end
section
variable {X:Cx}{o e f:Expr}{b a:Pos}{d ty c:TE}
end
section
variable {X:Cx}{b:List (Addr×Obj)}{d:St}{H:Hp}{s:qak}{a:Addr}{c:List (Key×V)}{A:qa0}{E:Value->qak->Prop}
end
section
variable {X:Cx}{b:List (Addr×Obj)}{c:St}{H:Hp}{s:qak}{a:Addr}{y:V}{u:Value}{A:qa0}{E:Value->qak->Prop}
end
section
variable {prog:qaO}{w:World}{A:qa0}{E:Value->qak->Prop}{s:qak}{b:Type} [DecidableEq b] {c:KeyKind prog w b}{a:Addr}{d:List (b×Value)}
end
section
variable {X:Cx}{b:List (Addr×Obj)}{d:St}{H:Hp}{s:qak}{a:Addr}{c:List (Key×V)}{k:Key}{u r:Value}{A:qa0}{E:Value->qak->Prop}{z:V}
end
section
variable {K:qae}{X:Cx}{pos:Pos}{e a b o f:Expr}{c d i g h:Ef}
end
section
variable {K:qae}{X:Cx}
end
section
variable {b:Bool}{t:SetTable}{m d k:Nat}
end
section
variable {prog:qaO}{w:World}{A:qa0}{E:Value->qak->Prop}{s:qak}{a:Addr}{m d k:Nat}
end
section
variable {prog:qaO}{w:World}{A:qa0}{E:Value->qak->Prop}{s:qak}{a c:Addr}{m d b i:Nat}{f:Nat->Tok}
end
section
variable {prog:qaO}{w:World}{A:qa0}{E:Value->qak->Prop}{s:qak}{a c:Addr}{m d b i:Nat}{f:Nat->Tok}
end
section
variable {prog:qaO}{w:World}{A:qa0}{E:Value->qak->Prop}{s:qak}
end
section
variable {prog:qaO}{w:World}{A:qa0}{R:qjJ->qak->Prop}{I:Addr}{a b:List Addr}{G:Array qih->Array qih->Prop}{P:Nat->Value->Prop}{St:Nat->qak->Prop}
end
section
variable {prog:qaO}{w:World}{A:qa0}{E:Value->qak->Prop}{s:qak}
end
section
variable {prog:qaO}{w:World}{A:qa0}{E:Value->qak->Prop}{s:qak}{a r o:Addr}{m c m2 d k b:Nat}{f:Nat->Tok}
end
section
variable {prog:qaO}{w:World}{A:qa0}{E:Value->qak->Prop}{s:qak}{a b r o:Addr}{m e m2 d k c:Nat}{f:Nat->Tok}
end
section
variable {prog:qaO}{w:World}{A:qa0}{E:Value->qak->Prop}{s:qak}{a b r o:Addr}{m e m2 d k c:Nat}{f:Nat->Tok}
end
section
variable {prog:qaO}{w:World}{A:qa0}{E:Value->qak->Prop}{s:qak}{a:Addr}{m d b:Nat}{f:Nat->Tok}
end
section
variable {K:qae}{X:Cx}{pos p:Pos}{e a b:Expr}{c:Ef}{d f:Xf}
end
def ja (h:Heap) (d:Addr) (es:Array qd4) (a:Nat):Prop:=∃ o,h.get? d=some o/\o.ExactDict/\o.data=.dict es a
theorem ja.at' {h h':Heap}{d:Addr}{es:Array qd4}{a:Nat} (x:ja h d es a) (e:∀ o,h.get? d=some o->h'.get? d=some o):ja h' d es a:=let ⟨o,ho,r⟩:=x;⟨o,e o ho,r⟩
theorem ja.type {s:qak}{d:Addr}{es:Array qd4}{a:Nat} (x:ja s.heap d es a):s.TypeIs (.ref d) "dict":=let ⟨o,ho,hc,_⟩:=x;⟨o,ho,hc.1⟩
theorem ja.lt {h:Heap}{d:Addr}{es:Array qd4}{a:Nat} (x:ja h d es a):d<h.objs.size:=let ⟨o,ho,_⟩:=x;qaA ho
section
variable {prog:qaO}{w:World}{A:qa0}{E:Value->qak->Prop}{s:qak}{d n:Addr}{es:Array qd4}{i g:Nat}
theorem zH {Q:Value->qak->Prop} (hd:(d==qcn)=false) (hm:ja s.heap d es g)
  (l:Q (.ref s.heap.objs.size) { s with heap:=s.heap.push { cls:=.type "dict_keyiterator",data:=.fields #[.ref d,.int 0 0,.int es.size 0,.int g 0] } }) :
  wpAny (model prog w) A (qjB (.ref d)) Q E s:=by
 have z:=hm.type;obtain⟨o,p,C,r⟩:=id hm;refine wpAny_pyIter_slot z qf6 (qbU qf6 z PySem.F.entry_dict_iter ?_ (PySem.F.args_dict_iter_1 _));refine qac ?_;refine qac (wpAny_notOrdered_dict z ?_);refine qar ?_;show wpAny _ _ (qfy d >>= _) _ _ s;unfold qfy;rw[iFN (by rw[hd];exact qaU)];refine qac (qar ?_);refine qac (qfV p r ?_);refine qac (qgn p r ?_);refine qac (qcE (qar ⟨_,U,"dict_keyiterator",_,⟨_,qax _ U,U⟩,qbT.lookup,?_⟩))
 simpa [qgq] using l
theorem zI {Q:Option Value->qak->Prop} (c:s.heap.IsKeyIter n d i es.size g) (hm:ja s.heap d es g) (u:i<es.size)
  (l:∀ h',h'.IsKeyIter n d (i+1) es.size g->qdd n s.heap h'->Q (some es[i].key) { s with heap:=h' }) :
  wpAny (model prog w) A (qgU (.ref n)) Q E s:=by
 obtain⟨o,p,C,hd⟩:=id c;obtain⟨G,j,B,k⟩:=id hm
 refine qac (qev (qbK c.typeIs qbT
  (qbU qbT c.typeIs qew ?_ (qeq _))))
 refine qac (qar ?_);refine qac ?_;refine qac ?_
 first|refine qac (qcO c.typeIs (qar ?_))|refine qac _
 refine qac (qjR p hd ?_);refine qac (qar ?_);refine qac (qfV j k ?_);rw[iFN (by simp)];refine qac (qar ?_);refine qac (qgn j k ?_);rw[iFN (by simp)];refine qar ?_;simp only[show ¬ (_<0) from by lia,if_false,qa7,qbQ u];refine qac ?_
 first|refine qac (qcO c.typeIs (qar ?_))|refine qac _
 refine qac (qhx c.typeIs ?_);show wpAny _ _ (setField _ 1 _ >>= _) _ _ s;refine qac (qe9 p hd (by simp) ?_);have f:(s.heap.update n (Obj.mapFields (·.setIfInBounds 1 (qgq ((i)+1))))).IsKeyIter n d (i+1) es.size g:=
  ⟨_,qes _ p (qgJ (qdV hd _)),(qhE ..).trans C,by rw[qdV hd];simp[qgq]⟩
 refine qac (qcq ?_);refine qac (qhx f.typeIs ?_);exact qar (qar ⟨_,U,qar (l _ f (qdw ..))⟩)
theorem BB {Q:Option Value->qak->Prop} (t:A.handled=none) (c:s.heap.IsKeyIter n d es.size es.size g) (hm:ja s.heap d es g)
  (l:∀ h',qg3 n s.heap h'->Q none { s with heap:=h' }):wpAny (model prog w) A (qgU (.ref n)) Q E s:=by
 obtain⟨o,p,C,hd⟩:=id c;obtain⟨G,j,B,k⟩:=id hm
 refine qac (qev (qbK c.typeIs qbT
  (qbU qbT c.typeIs qew ?_ (qeq _))))
 refine qac (qar ?_);refine qac ?_;refine qac ?_
 first|refine qac (qcO c.typeIs (qar ?_))|refine qac _
 refine qac (qjR p hd ?_);refine qac (qar ?_);refine qac (qfV j k ?_);rw[iFN (by simp)];refine qac (qar ?_);refine qac (qgn j k ?_);rw[iFN (by simp)];refine qar ?_;simp only[show ¬ (_<0) from by lia,if_false,qa7,qdp (qao _)];refine qac ?_
 first|refine qac (qcO c.typeIs (qar ?_))|refine qac _
 show wpAny _ _ (setField _ 0 .none >>= _) _ _ s;refine qac (qe9 p hd (by simp) ?_);refine qac ?_;refine qac (m:=qjZ _ _) (wpAny_of_eq (a:=Value.none) (by first|rfl|(rfl)) ?_)
 refine qcE ?_ (by size_fits);refine qac (wpAny_handled ?_);rw[t];refine qac (qar (wpAny_throw ?_));refine qac (qiK ⟨_,qax _ U,U⟩ qjX ?_);exact qar (l _ (((qdw ..).extBut.push _).push _))
theorem xX (t:A.handled=none) (I d:Addr) (D:d≠I) (es:Array qd4) (g:Nat) :
  Walks prog w A I [I,d] [I] es.size (λi v=>∃ e,es[i]?=some e/\v=e.key) (λi h=>h.IsKeyIter I d i es.size g/\ja h d es g) where
 sub:=λb hb=>by simp at hb;simp[hb]
 frame:=λ_ _ _ st y=>⟨st.1.at λo e=>y I (by simp) o e,st.2.at' λo e=>y d (by simp) o e⟩
 item:=λi s Q E hi st l=>by
  refine zI st.1 st.2 hi λh' f x=>?_;exact l _ h' s.toks ⟨_,by simp[hi],U⟩ ⟨f,st.2.at' λo q=>x.extBut d o D q⟩ λb o hb q=>x.extBut b o (λh=>hb (by simp[h])) q
 done:=λs Q E st l=>BB t st.1 st.2 λh' F=>l h' s.toks λb o hb e=>F b o (λh=>hb (by simp[h])) e
 self:=λ_ _ _ _ st l=>wpAny_pyIter_keyiter st.1 l
theorem BP (prog:qaO) (w:World) (d:Addr) (es:Array qd4) (g:Nat) (lo:(d==qcn)=false):PySem.W.KdlSrc prog w "dict" d d es.size (λi v=>∃ e,es[i]?=some e/\v=e.key) (λh=>ja h d es g) where
 type:=λs S=>S.type
 there:=λh S=>⟨S.lt,S.lt⟩
 keep:=λh h' S y=>S.at' λo e=>y d (.inl U) o e
 notList:=by decide
 notTuple:=by decide
 hint:=λA E s Q S h=>PySem.W.kdl_hint_dict S.type h
 iter:=λA s t S=>⟨_,_,λE Q h=>zH lo S h,xX t s.heap.objs.size d (qaF S.lt) es g,
  ⟨⟨_,qax _ U,U,U⟩,S.at' λo e=>qaj _ e⟩⟩
end
section
variable {prog:qaO}{w:World}{A:qa0}{E:Value->qak->Prop}{s:qak}{d:Addr}{es:Array qd4}{D:Nat}
theorem rV {Q:List Value->qak->Prop} (lo:(d==qcn)=false) (S:ja s.heap d es D) (H:A.handled=none) (hn:es.size<=qaG)
  (h:∀ h' j,(∀ b o,s.heap.get? b=some o->h'.get? b=some o)->s.heap.objs.size<h'.objs.size->Q (es.toList.map (·.key)) { s with heap:=h',toks:=j }) :
  wpAny (model prog w) A (collect (.ref d)) Q E s:=by
 have k:=S.lt;refine qac (wpAny_runValue (qjI entry_proto_collect' ?_));refine qac (qfA (qar ⟨Code.quiet_builtin _ (by decide +kernel),qjI entry_list_iadd' ?_⟩))
 refine PySem.W.kdl_extend (R:=λr s'=>match r with
   | .ok (.ret v)=>wpAny _ A (match v with
     |.ref a=>do
      let o <-load a
      match o.data with
      |.seq xs _=>pure xs.toList
      |_=>unsupported "internal:collect"
     |_=>unsupported "internal:collect") Q E s'
   |.ok _=>False
   |.error e=>E e s') (BP prog w d es D lo) H (S.at' λo e=>qaj _ e) s.heap.objs.size (qcd k) (qcd k) _ 0 (qax _ U) (λh' j acc c B T V=>?_) hn
 refine qac (wpAny_load T ?_);show wpAny _ _ (pure acc.toList) Q E _;have e:acc.toList=es.toList.map (·.key):=by
  apply qbo;intro i;rw[qav,qeo,qeo];by_cases hi:i<acc.size
  ·obtain⟨e,I,z⟩:=V.2 i acc[i] (qbQ hi)
   rw[I,qbQ hi,z];rfl
  ·rw[qdp (by lia),qdp (by rw[<-V.1];lia)];rfl
 rw[e];refine qar (h h' j (λb o q=>?_) (qaA T));exact B b o (qaF (qaA q)) (qaj _ q)
theorem u4 {Q:Value->qak->Prop}{C:List Value} (lo:(d==qcn)=false) (S:ja s.heap d es D) (H:A.in1.handled=none) (F:es.toList.map (·.key)=C) (J:C.length<64) (hu:A.in1.in1.units<cLine)
  (t:∀ v∈C,∃ l,TuI s.heap v l)
  (h:∀ (h':Heap) (j:Nat) (p:Addr) (D:Nat) (g:List Value),(∀ b o,s.heap.get? b=some o->h'.get? b=some o)->s.heap.objs.size<=p->h'.get? p=some (qfB "list" g.toArray D)->g.Perm C->g.Pairwise (λx y=>OI.kle (tuI s.heap x) (tuI s.heap y))->Q (.ref p) { s with heap:=h',toks:=j }) :
  wpAny (model prog w) A (call (.builtin "sorted") [.ref d]) Q E s:=by
 refine qf3 kind_sorted plain_sorted entry_sorted (args_sorted1 _) ?_;refine qac (qar ?_);have L:es.size<=qaG:=by
  have:=congrArg qgZ F
  rw[qaf,qc6]at this;rw[qcJ];lia
 refine qac (rV lo S H L λG j B k=>?_);rw[F];refine qac (qfA ?_ (by rw[qcJ];lia));have n:(G.push _).get? G.objs.size=some (qfB "list" C.toArray 0):=qax _ U
 refine qac (qcq (qbU qjT ⟨_,n,U⟩ qjH (oO (O:=OI) (rk:=λp=>tuI s.heap p.1) (S:=λp=>∃ l,TuI s.heap p.1 l) (s:={ s with heap:=G.push _,toks:=j }) n J (λh' N=>?_) (λv z=>t v z) λg W a2=>⟨_,U,?_⟩) (qj1 _)))
 ·have f:=λb o q=>N b o (qaF (qaA (B b o q))) (qaj _ (B b o q))
  obtain⟨κ,X,k2⟩:=sN (s:={ s with heap:=h',toks:=j }) (λv z=>let ⟨l,tl⟩:=t v z;⟨l,tl.fit f⟩) hu;refine⟨κ,X,λx y ⟨l,hx⟩ ⟨m,M⟩ Q E Y=>k2 x y ⟨l,hx.fit f⟩ ⟨m,M.fit f⟩ Q E ?_⟩;have u:Q (bq (tuI s.heap x.1) (tuI s.heap y.1)) { s with heap:=h',toks:=j }:=Y;show Q (bq (tuI h' x.1) (tuI h' y.1)) { s with heap:=h',toks:=j };rw[(hx.fit f).is,(M.fit f).is];rw[hx.is,M.is]at u;exact u
 ·refine qar ⟨_,U,?_⟩
  obtain⟨K,I⟩:=sortedHeap_at n;refine h _ j G.objs.size K g (λb o q=>?_) (qez k) I W (a2.imp λ{x y} q=>q);have P:=B b o q;have hb:=qaA P;rw[sortedHeap_old (qaF hb) (by rw[qir];exact qba hb),qdv _ _ _ (qaF hb)];exact P
end
def mgt (st:Sto) (n:Nat):Option (List (List Int×D)):=match st[n]? with
 |some (.m a)=>some a
 |_=>none
def vM (a:List (List Int×D)) (k:List Int):Option D:=(a.find? λp=>decide (p.1=k)).map (·.2)
def zA (a:List (List Int×D)) (k:List Int) (d:D):List (List Int×D):=if (a.any λp=>decide (p.1=k))=true then a.map λp=>if p.1=k then (p.1,d) else p else a++[(k,d)]
def B7:Ef
 |_,st=>some (.h st.length,st++[.m []])
def xn (o k:Ef):Ef
 |env,st=>(o env st).bind λx=>(k env x.2).bind λy=>match x.1,y.1 with
 |.h n,.d (.tup ds)=>(mgt y.2 n).bind λa=>(a8 ds).bind λl=>(vM a l).map λd=>(.d d,y.2)
 |_,_=>none
def vF (o k v:Ef):Sf
 |env,st=>(v env st).bind λz=>(o env z.2).bind λx=>(k env x.2).bind λy=>match x.1,y.1,z.1 with
 |.h n,.d (.tup ds),.d d=>(mgt y.2 n).bind λa=>(a8 ds).bind λl=>if a.length<1000 then some (.nx env (y.2.set n (.m (zA a l d)))) else none
 |_,_,_=>none
def j7 (a:Ef):Lf
 |env,st=>(a env st).bind λx=>match x.1 with
 |.h n=>(mgt x.2 n).bind λb=>if b.length<64 then some ((aE (b.map (·.1))).map ag,x.2) else none
 |_=>none
section
variable {K:qae}{X:Cx}{pos:Pos}{e a b o f:Expr}{fe fa fb fo ff:Ef}
theorem yV {st:Sto}{n:Nat}{j:List (List Int×D)} (h:mgt st n=some j):st[n]?=some (.m j):=by
 unfold mgt at h;split at h
 ·rename_i q;cases h;exact q
 ·cases h
theorem Sr.atm {H:Hp}{φ:List Addr}{st:Sto} (S:Sr K H φ st) {n:Nat}{p:Addr}{j:List (List Int×D)} (e1:φ[n]?=some p) (e2:mgt st n=some j):∃ w,H p=some (.dT w)/\Rkv K H φ j w:=S.at_ n p _ e1 (yV e2)
theorem Rkv.length {H:Hp}{φ:List Addr}:∀ {ds:List (List Int×D)}{w:List (List Key×V)},Rkv K H φ ds w->ds.length=w.length
 |[],_,h=>by cases h;rfl
 |(k,d)::ds,_,h=>by
  obtain⟨v,r,rfl,C,A⟩:=h;rw[qaq,qaq,Rkv.length A]
theorem jA:∀ {a b:List Int},fW a=fW b->a=b
 |[],[],_=>rfl
 |[],_::_,h=>by cases h
 |_::_,[],h=>by cases h
 |x::a,y::b,h=>by
  injection h with C A;injection C with C;rw[C,jA A]
theorem vV (l:List Int):(fW l).map kV=l.map V.int:=by
 unfold fW;rw[qaR];rfl
theorem Rkv.val {H:Hp}{φ:List Addr}{i:List Int}:∀ {ds:List (List Int×D)}{w:List (List Key×V)},Rkv K H φ ds w->(∀ d,vM ds i=some d->∃ v,fY w (fW i)=some v/\Rl K H φ d v)/\(vM ds i=none->fY w (fW i)=none)
 |[],_,h=>by cases h;exact⟨(λd e=>nomatch e),λ_=>rfl⟩
 |(k,d)::ds,_,h=>by
  obtain⟨v,r,rfl,C,A⟩:=h;by_cases e:k=i
  ·subst e
   have e1:vM ((k,d)::ds) k=some d:=by unfold vM;rw[qei (by simp)];rfl
   have e2:fY ((fW k,v)::r) (fW k)=some v:=by unfold fY;rw[qei (by simp)];rfl
   rw[e1,e2];exact⟨λd' q=>⟨v,U,by cases q;exact C⟩,λq=>nomatch q⟩
  ·have e1:vM ((k,d)::ds) i=vM ds i:=by unfold vM;rw[qej (by simpa using e)]
   have e2:fY ((fW k,v)::r) (fW i)=fY r (fW i):=by unfold fY;rw[qej (by simpa using λz=>e (jA z))]
   rw[e1,e2];exact (Rkv.val A)
theorem Rkv.any {H:Hp}{φ:List Addr}{i:List Int}:∀ {ds:List (List Int×D)}{w:List (List Key×V)},Rkv K H φ ds w->(w.any λp=>decide (p.1=fW i))=ds.any λp=>decide (p.1=i)
 |[],_,h=>by cases h;rfl
 |(k,d)::ds,_,h=>by
  obtain⟨v,r,rfl,C,A⟩:=h;rw[qcc,Rkv.any A]
  congr 1
  exact decide_eq_decide.mpr ⟨λz=>jA z,λz=>congrArg fW z⟩
theorem Rkv.repl {H:Hp}{φ:List Addr}{i:List Int}{x:D}{y:V} (hx:Rl K H φ x y):∀ {ds:List (List Int×D)}{w:List (List Key×V)},Rkv K H φ ds w->Rkv K H φ (ds.map λp=>if p.1=i then (p.1,x) else p) (w.map λp=>if p.1=fW i then (p.1,y) else p)
 |[],_,h=>by cases h;exact U
 |(k,d)::ds,_,h=>by
  obtain⟨v,r,rfl,C,A⟩:=h;rw[qau,qau];by_cases e:k=i
  ·rw[iFP e,iFP (by rw[e])]
   exact⟨y,_,U,hx,Rkv.repl hx A⟩
  ·rw[iFN e,iFN (λz=>e (jA z))]
   exact⟨v,_,U,C,Rkv.repl hx A⟩
theorem Rkv.snoc {H:Hp}{φ:List Addr}:∀ {ds:List (List Int×D)}{w:List (List Key×V)}{k:List Int}{d:D}{v:V},Rkv K H φ ds w->Rl K H φ d v->Rkv K H φ (ds++[(k,d)]) (w++[(fW k,v)])
 |[],_,_,_,_,h,hd=>by cases h;exact⟨_,_,U,hd,U⟩
 |(k,d)::ds,_,_,_,_,h,hd=>by
  obtain⟨v,r,rfl,C,A⟩:=h;exact⟨v,_,U,C,Rkv.snoc A hd⟩
theorem Rkv.put {H:Hp}{φ:List Addr}{ds:List (List Int×D)}{w:List (List Key×V)}{k:List Int}{d:D}{v:V} (h:Rkv K H φ ds w) (hd:Rl K H φ d v):Rkv K H φ (zA ds k d) (ku w (fW k) v):=by
 unfold zA ku;rw[h.any];split
 ·exact h.repl hd
 ·exact h.snoc hd
theorem wG {H:Hp}{φ:List Addr}{ds:List D}{l:List Int}{v:V} (hl:a8 ds=some l) (r:Rl K H φ (.tup ds) v):∃ p,v=.ref p/\H p=some (.tup ((fW l).map kV)):=by
 obtain⟨p,w,rfl,C,A⟩:=r;cases bL hl;cases A.ints;rw[vV];exact⟨p,U,C⟩
theorem lA:IE K X (.Dict [] [] pos) B7:=by
 refine⟨λenv st r g=>?_⟩;cases g;refine zd.imp ?_
 rintro σ H Q ⟨φ,L,F,q⟩
 exact λp hp=>q _ _ _ (Fw.moreO hp) (F.moreC hp ⟨_,upd_same,U⟩) ⟨p,by rw[<-F.len];simp,U⟩
theorem pT {k:Nat} (G:bh k X.A) (ha:IE K X a fa) (hb:IE K X b fb) (hs:CA b):IE K X (.Subscript a b pos) (xn fa fb):=by
 refine⟨λenv st r g=>?_⟩;simp only[xn,qab]at g;obtain⟨⟨x,s1⟩,hx,⟨y,s2⟩,hy,g⟩:=g;dsimp only at g;split at g
 next n ds=>
  simp only[qab,qad]at g;obtain⟨j,hk,l,hl,d,hd,rfl⟩:=g;refine (Bk (B6 G) (ha.run _ _ _ hx) (hb.run _ _ _ hy) hs).imp ?_
  rintro σ H Q ⟨φ,L,F,q⟩
  refine⟨φ,L,F,λv H1 E M S1 w1=>⟨E,L.fw F M,S1,λu H2 R W S2 w2=>?_⟩⟩;obtain⟨p,ep,rfl⟩:=w1.fw S1 W;obtain⟨w,P,rl⟩:=S2.atm ep hk;obtain⟨v2,e2,r2⟩:=rl.val.1 d hd;obtain⟨b',rfl,T⟩:=wG hl w2;refine⟨p,v2,U,?_,q _ H2 R (M.trans W) S2 r2⟩;rw[<-e2];exact wO.t P T
 ·cases g
theorem lM {k:Nat}{N:Pos} (G:bh k X.A) (ho:IE K X a fa) (hi:IE K X b fb) (P:IE K X e fe) (hs:qcr e (some (.Subscript a b N)) pos.line X.env=pure false:=by rfl) :
  IS K X (.Assign [.Subscript a b N] e pos) (vF fa fb fe):=by
 refine⟨λenv st r g=>?_⟩;simp only[vF,qab]at g;obtain⟨⟨z,s1⟩,hz,⟨x,s2⟩,hx,⟨y,s3⟩,hy,g⟩:=g;dsimp only at g;split at g
 next n ds d=>
  simp only[qab]at g;obtain⟨j,hk,l,hl,g⟩:=g;split at g
  ·rename_i J
   cases g;refine (Bq (B6 G) (ho.run _ _ _ hx) (hi.run _ _ _ hy) (P.run _ _ _ hz) hs).imp ?_
   rintro D σ H ⟨φ,L,F,q⟩
   refine⟨φ,L,F,λv H1 E M S1 w1=>⟨E,L.fw F M,S1,λu H2 R W S2 w2=>⟨R,(L.fw F M).fw S1 W,S2,λt H3 φ3 f3 S3 w3=>?_⟩⟩⟩;obtain⟨p,ep,rfl⟩:=w2.fw S2 f3;obtain⟨w,hp,rl⟩:=S3.atm ep hk;obtain⟨b',rfl,T⟩:=wG hl w3;obtain⟨f4,S4⟩:=S3.putC (c:=.m _) ep λf=>⟨_,upd_same,(rl.put (Rl.fw S2 f3 (Rl.fw S1 W w1))).fw S3 f⟩;refine⟨p,_,U,x3.t hp T (by rw[<-rl.length];exact qaN J (by decide)),?_⟩;exact q _ _ φ3 (((M.trans W).trans f3).trans f4) (((((L.fw F M).fw S1 W).fw S2 f3)).fw S3 f4) S4
  ·cases g
 ·cases g
theorem vW {H:Hp}{φ:List Addr}:∀ {j:List (List Int×D)}{w:List (List Key×V)}{xs:List (List Key×Addr×Value)},Rkv K H φ j w->KT H w xs->
  Rls K H φ ((j.map (·.1)).map ag) (xs.map λx=>V.ref x.2.1)/\aF (xs.map λx=>V.ref x.2.1) (xs.map λx=>Value.ref x.2.1)
 |[],_,_,h,t=>by cases h;cases t;exact⟨U,.nil⟩
 |(k,d)::j,_,_,h,t=>by
  obtain⟨v,r,rfl,C,A⟩:=h;cases t with
  |cons q t=>
   rename_i x xs;obtain⟨i1,i2⟩:=vW A t;have e:H x.2.1=some (.tup (k.map V.int)):=by rw[<-vV];exact q.2.1
   exact⟨⟨_,_,U,⟨_,_,U,e,Rls.of_ints k⟩,i1⟩,.cons U i2⟩
theorem ju {k:Nat}{p:Pos} (G:bh k X.A) (hg:Gl X "sorted") (hm:X.mg "sorted" = none) (ha:IE K X a fa) (hc:X.calm=true:=by rfl) (hs:au a=true:=by rfl) (hK:X.K=K:=by rfl):IL K X (.Call (.Name "sorted" p) [a] [] pos) (j7 fa):=by
 subst hK;refine⟨λenv st r g=>?_⟩;simp only[j7,qab]at g;obtain⟨⟨x,s1⟩,hx,g⟩:=g;dsimp only at g;split at g
 case h_2=>cases g
 rename_i n;simp only[qab]at g;obtain⟨j,hk,g⟩:=g;split at g
 ·rename_i hl
  cases g;have hA:=(bm (K:=X.K) (X:=X) ha bW hs).run env st ([.h n],s1) (by simp only[aa,ac,hx,qaa,qan]);have hC:bb X (.builtin "sorted") (λxs H Q=>∃ φ q,Sr X.K H φ s1/\φ[n]?=some q/\xs=[.ref q]/\∀ l us,H l=none->Rls X.K H φ ((aE (j.map (·.1))).map ag) us->Q (.ref l) (upd H l (.lst us))):=by
   intro pins s σ H xs us Q I rv q;obtain⟨φ,ad,S,O,rfl,q⟩:=q;obtain⟨u,rfl,ru⟩:=gL rv;cases ru;obtain⟨w,P,rl⟩:=S.atm O hk;obtain⟨z',hd,xs,rel,o,es,ep,g1,g2,g3,g4,g5,g6⟩:=B5 I.hok P;obtain⟨b1,b2⟩:=vW rl rel;have J:xs.length<64:=by
    have e1:=rel.length;have e2:=rl.length;lia
   have hkeys:es.toList.map (·.key)=xs.map λx=>Value.ref x.2.1:=by rw[g4,qaR];rfl
   obtain⟨m1,m2⟩:=nF I b1 b2;have hun:X.A.in1.in1.units<cLine:=by
    have:=G.un
    show X.A.units+1+1<cLine;lia
   refine u4 hd ⟨o,g1,g2,g3⟩ (I.ok.hd hc) hkeys (by rw[qaf];exact J) hun (λv P=>⟨_,(m2 v P).1⟩) λh' tk p ep' B Y hp he a1 a2=>?_;have hn:H p=none:=I.hok.fresh hp;have ho:=λu hu=>m2 u (a1.mem_iff.mp hu);obtain⟨c1,c2⟩:=nD (K:=X.K) (H:=H) (φ:=φ) ho;have hpm:(B.map (tuI s.heap)).Perm (j.map (·.1)):=by
    have:=a1.map (tuI s.heap)
    rw[m1]at this;exact this
   have hsrt:(B.map (tuI s.heap)).Pairwise leL:=by
    rw[qd6];exact a2.imp λ{x y} q=>q
   have e:B.map (tuI s.heap)=aE (j.map (·.1)):=jS (hpm.trans (aI _).symm) hsrt (cL _);have e2:(B.map λu=>ag (tuI s.heap u))=(aE (j.map (·.1))).map ag:=by rw[<-e,qaR];rfl
   rw[e2]at c1;have hlay:Inv X pins σ (upd H p (.lst (B.map toV))) { s with heap:=h',toks:=tk }:=by
    refine I.laid (t':=tk) (a:=p) (o:=.lst (B.map toV)) Y hp ⟨?_,B,ep',c2,by simpa [qfB] using he⟩;rw[qaf,a1.length_eq,qaf];exact ii (by lia)
   exact⟨.ref p,_,hlay,U,q p _ hn c1⟩
  refine (nw hC hg hm qaZ hA (by decide) (by decide) (aL hs) (a9 (es:=[]) U)).imp ?_
  rintro σ H Q ⟨φ,L,F,q⟩
  refine⟨φ,L,F,λw H1 E M S1 w1=>?_⟩;obtain⟨v,r,rfl,⟨ad,O,rfl⟩,rfl⟩:=w1;exact⟨E,ad,S1,O,U,λl us hl' hr'=>q l _ H1 E M S1 hl' hr'⟩
 ·cases g
end
section
variable {K:qae}{X:Cx}{pos:Pos}{a e:Expr}{c:Ef}{b:Af}
end
end L2
namespace L2
open PySem PySem.Spec PyProof.Rows
open AutoSeq1 (wpAny_loadPart')
section
variable {K:qae}{X:Cx}{pos:Pos}{a e:Expr}{es:List Expr}{c:Ef}{b:Af}
end
theorem qA (l:Addr) (items:Array Value) (n:Nat) (b:Addr) (a:Array Value) (m:Nat) (j:Option Addr) (k:Array (Option Value)) (o:¬(!items.isEmpty&&qcR (items.size+a.size))=true) (e:items.size<=qaG) (c:items.size+a.size<=qaG+1) :
  Meets (qfo.«list.extend» ⟨[.ref l,.ref b],[]⟩) (λ_ R s=>s.heap.get? l=some { cls:=.type "list",dict:=none,data:=.seq items n,slots:=#[] }/\s.heap.get? b=some { cls:=.type "list",dict:=j,data:=.seq a m,slots:=k }/\R (.ok (.ret Value.none)) { s with heap:=s.heap.update l (qcy λx=>x++a),toks:=s.toks }):=
 .of_wp λprog w A R s h=>by
  obtain⟨r,g,d,t,os⟩:=s;obtain⟨i,hb,h⟩:=h;have v:=AutoSeq1.idx_int;have u:=qfJ;have y:=AutoSeq1.sub_list_list;have q:=AutoSeq1.sub_tuple_list;have p:=AutoSeq1.sub_list_tuple;have f:(items++a).size<=qaG+1:=by rw[Array.size_append];exact c
  wp_walk using (wpAny_updateSeq i U (hz:=e) (_hz':=f)),wpAny_loadPart' i,wpAny_loadPart' hb
  exact⟨_,U,h⟩
section
variable {K:qae}{X:Cx}{pos:Pos}{a e:Expr}{es:List Expr}{L:Ef}{J:Af}
def Fp (X:Cx):V->List V->Hp->VK->Prop:=λx A H Q=>∃ l b xs p,x=.ref l/\A=[.ref b]/\H l=some (.lst xs)/\Rd H b (.lst p)/\b≠l/\xs.length+p.length<=qaG/\Q .non (upd H l (.lst (xs++p)))
theorem AY:MtR X "list.extend" (Fp X):=by
 intro R s σ H x A v T Q I rx rv h;obtain⟨l,b,xs,p,rfl,rfl,M,hB,hne,hz,q⟩:=h;cases rx;obtain⟨u,rfl,ru⟩:=rv.one;cases ru;obtain⟨z,g,n,r,P,e⟩:=I.lstM M;obtain⟨f,G,⟨⟨c,dd,dt,sl⟩,O,e2,B,hdd,hd⟩,hz2⟩:=I.list (.inl hB);replace B:c=.type "list":=B
 replace hd:dt=.seq f.toArray O:=hd;subst B hd;have hl2:=G.length;have E:g.toArray.size+f.toArray.size<=qaG:=by rw[qaC,qaC];lia
 have o:¬ (!g.toArray.isEmpty&&qcR (g.toArray.size+f.toArray.size))=true:=by
  rw[tm E,qh3];exact qaU
 refine qco F.slot_list_extend ⟨_,e,U⟩ F.entry_list_extend (F.args_list_extend_2 _ _)
  (qA l g.toArray n b f.toArray O dd sl o (by rw[qaC];lia) (by lia)) ⟨e,e2,?_⟩
 refine⟨.non,_,I.lset (its':=g++f) M e (by simp) (r.append G) ?_,U,q⟩;rw[qaw];lia
def nj (ds:List D):List W->Option (D×List D)
 |[.d (.lst xs)]=>if ds.length+xs.length<=1000000 then some (.non,ds++xs) else none
 |_=>none
theorem ly {i:Pos} (ho:IE K X a L) (ha:IA K X (e::es) J) (j:qct a "extend" X.env (eval a X.env)=eval a X.env:=by rfl)
  (w:(e::es).all au=true:=by rfl) (k:(e::es).length<30:=by decide) (m:(i.endLine==pos.line)=true:=by rfl) (hK:X.K=K:=by rfl) :
  IE K X (.Call (.Attribute a "extend" i) (e::es) [] pos) (cR nj L J):=by
 subst hK;refine uw PySem.F.slot_list_extend PySem.F.type_list_extend AY (λH φ st n ad ds A ws T y Q S ea Y hv N rw t q=>?_) (λds ws y h=>?_) ho ha j w k m U
 ·match ws,t with
  |[.d (.lst xs)],t=>
   simp only[nj]at t;split at t
   ·rename_i P
    cases t;obtain⟨v,r,rfl,⟨b,p,rfl,C,hq,hz⟩,rfl⟩:=rw;exact⟨ad,b,A,p,U,U,hv,hq,(λe=>C (by rw[e];exact qbj ea)),by rw[<-N.length,<-hz.length];exact qaH P mil,q _ _ U (N.append hz) (λb z=>nomatch z)⟩
   ·cases t
 ·match ws,h with
  |[.d (.lst xs)],h=>
   simp only[nj]at h;split at h
   ·cases h;rfl
   ·cases h
end
end L2
namespace L2
open PySem PySem.Spec PyProof.Rows
open Classical in
def lcH (n:Nat) (all:List D) (g:Tg) (tt:Tf) (te:Ef) (env:Ev):List D->Sto->Option (List D×Sto)
 |[],st=>if lg st n=some all then some ([],st) else none
 | d::ds,st=>if lg st n=some all then ((cw g (.d d) env).bind λe=>(tt e st).bind λb=>if b.1=true then (te e b.2).bind λx=>(og [x.1]).bind λa=>(lcH n all g tt te env ds x.2).map λr=>(a++r.1,r.2)
   else lcH n all g tt te env ds b.2) else none
section
variable {K:qae}{X:Cx}{pos:Pos}{tg:Expr}
def YlH (K:qae) (m:List Addr) (H0:Hp) (J:It) (n:Nat) (ds:List D):Prop:=∀ (H:Hp) (φ:List Addr) (st:Sto) (i:Nat),Fw m φ H0 H->Sr K H φ st->lg st n=some ds->
 (∀ d,ds[i]?=some d->J.go i H/\∀ x H',J.yld i H x H'->aN H H'/\Rl K H' φ d x)/\(ds.length=i->J.stop i H)
def Gy (K:qae) (env:Ev) (st:Sto) (n:Nat) (ds:List D) (s1:Sto):TI:=λs H R=>∃ φ,Er K H φ env s/\Sr K H φ st/\∀ J H' c,Fw φ c H H'->Sr K H' c s1->YlH K c H' J n ds->R J H'
theorem Bm {e:Expr}{f:Ef}{env:Ev}{st s1:Sto}{n:Nat}{ds:List D} (h:IE K X e f) (C:X.K=K) (I:f env st=some (.h n,s1)) (hn:lg s1 n=some ds):PI X tg e (Gy K env st n ds s1):=by
 subst C;refine (wm (h.run _ _ _ I)).imp ?_
 rintro s H R ⟨φ,B,F,q⟩
 refine⟨φ,B,F,λv H1 k w S1 t=>?_⟩;obtain⟨a,G,rfl,z,M⟩:=ni S1 t (show lsD s1 (.h n)=some ds from hn);refine⟨a,U,⟨G,.inl z⟩,q _ H1 k w S1 λH2 E p i u S2 o=>?_⟩;obtain⟨a2,b,L,l,j⟩:=ni S2 (Rw.fw S1 u t) (show lsD p (.h n)=some ds from o);cases L;have g:SqL X.K H2 a b:=.inl l;refine⟨λd hd=>?_,λhi=>⟨b,g,by rw[<-j.length];exact qdf hi⟩⟩;obtain⟨v,r,A⟩:=j.get hd;refine⟨⟨b,v,g,r⟩,λx H' y=>?_⟩;obtain⟨rfl,y⟩:=y
 have:=y b g
 rw[r]at this;cases this;exact⟨aN.refl _,A⟩
end
open Classical in
def oh (n:Nat) (all:List D) (g:Tg) (body:Sf):List D->Ev->Sto->Option Fl
 |[],env,st=>if lg st n=some all then some (.nx env st) else none
 | d::ds,env,st=>if lg st n=some all then ((cw g (.d d) env).bind λe=>(body e st).bind λr=>match r with
  |.nx e s=>oh n all g body ds e s
  |.ct e s=>oh n all g body ds e s
  |.bk e s=>some (.nx e s)
  |.rt w s=>some (.rt w s)) else none
def kJ (a:Ef) (g:Tg) (body:Sf):Sf
 |env,st=>(a env st).bind λr=>match r.1 with
  |.h n=>(lg r.2 n).bind λds=>oh n ds g body ds env r.2
  |.d (.tup ds)=>b4 g body ds env r.2
  |.d (.lst ds)=>b4 g body ds env r.2
  |_=>none
section
variable {K:qae}{X:Cx}{pos:Pos}{tg:Expr}
theorem lI {iter:Expr}{body:List Stmt}{N:Ef}{g:Tg}{I:Sf} (he:IE K X iter N) (Q:II K X tg iter (aA N)) (hg:PG X tg (tG K g)) (hb:ISs K X body I) (S:qgw (model X.prog X.w) X.A X.env X.xe) (T:X.calm=true:=by rfl)
  (hs:∀ x,qbL iter X.env x=pure x:=by intro _;rfl) (hK:X.K=K:=by rfl):IS K X (.For tg iter body [] pos) (kJ N g I):=by
 refine⟨λenv st r l=>?_⟩;simp only[kJ,qab]at l;obtain⟨⟨x,s1⟩,hx,l⟩:=l;cases x with
 |d x=>
  refine (mV Q hg hb S T hs).run env st r ?_;cases x with
  |tup ds=>simp only[cV,aA,hx,qaa];exact l
  |lst ds=>simp only[cV,aA,hx,qaa];exact l
  |_=>cases l
 |h n=>
  simp only[qab]at l;obtain⟨ds,L,l⟩:=l;refine (zw S T (Bm he hK hx L) hg hb.any hs).imp ?_
  rintro D E H ⟨φ,hE,hS,q⟩
  refine⟨φ,hE,hS,λJ H1 s C S1 yl=>?_⟩;refine⟨λi m E H=>m=ds.length - i/\i<=ds.length/\∃ env st a,Fw s a H1 H/\Er K H a env E/\Sr K H a st/\oh n ds g I (ds.drop i) env st=some r,⟨ds.length,by simp,qbA _,env,s1,s,Fw.refl _ _,hE.fw hS C,S1,l⟩,?_⟩
  rintro i m E H2 ⟨rfl,hi,A,f,a,B,e2,S2,j⟩
  by_cases o:i<ds.length
  ·rw[qck o]at j
   rw[oh]at j;by_cases e:lg f n=some ds
   ·rw[iFP e]at j
    obtain⟨Y,V⟩:=yl H2 a f i B S2 e;obtain⟨go,yld⟩:=Y ds[i] (qal o);simp only[qab]at j;obtain⟨e3,R,W,P,G⟩:=j;refine .inr ⟨go,λu H'=>i+1<=ds.length/\∃ env st a,Fw s a H1 H'/\Er K H' a env u/\Sr K H' a st/\oh n ds g I (ds.drop (i+1)) env st=some r,λu H' ⟨hn,p'⟩=>⟨ds.length - (i+1),by lia,U,hn,p'⟩,λx H' y=>?_⟩;obtain⟨O,rx⟩:=yld x H' y;have S3:=S2.same O;have F:=B.trans (Fw.same (φ:=a) O);refine⟨a,f,A,.d ds[i],e3,e2.fw S2 (Fw.same O),S3,rx,R,λu e' _=>?_⟩;refine⟨e3,f,W,P,a,e',S3,?_⟩;cases W with
    |nx e4 z=>exact λt H4 c p k b=>⟨o,e4,z,c,F.trans p,k,b,G⟩
    |ct e4 z=>exact λt H4 c p k b=>⟨o,e4,z,c,F.trans p,k,b,G⟩
    |bk e4 z=>
     cases G;exact λt H4 c p k b=>q t H4 c (C.trans (F.trans p)) k b
    |rt w z=>
     cases G;exact λv H4 c p b w4=>q v H4 c (C.trans (F.trans p)) b w4
   ·rw[iFN e]at j;cases j
  ·have M:i=ds.length:=by lia
   subst M;rw[qfs,oh]at j;by_cases e:lg f n=some ds
   ·rw[iFP e]at j
    cases j;obtain⟨Y,V⟩:=yl H2 a f ds.length B S2 e;exact .inl ⟨V U,q E H2 a (C.trans B) e2 S2⟩
   ·rw[iFN e]at j;cases j
end
theorem mH {n:Nat}{all:List D}{g:Tg}{body:Sf}:∀ {ds:List D} (Pv:Nat->Ev->Sto->Prop) {env:Ev}{st:Sto},Pv 0 env st->(∀ i env st,Pv i env st->lg st n=some all)->
  (∀ i d env st,ds[i]?=some d->Pv i env st->∃ e1 e2 e,cw g (.d d) env=some e1/\(body e1 st=some (.nx e2 e)\/body e1 st=some (.ct e2 e))/\Pv (i+1) e2 e)->
  ∃ a b,oh n all g body ds env st=some (.nx a b)/\Pv ds.length a b
 |[],Pv,env,st,c,h,_=>⟨env,st,by rw[oh,iFP (h _ _ _ c)],c⟩
 |d::ds,Pv,env,st,c,h,j=>by
  obtain⟨e1,e2,e,l,f,r⟩:=j 0 d env st U c;obtain⟨m,s',k,q⟩:=mH (g:=g) (body:=body) (ds:=ds) (λi=>Pv (i+1)) r (λi=>h (i+1)) λi o a b hd p=>j (i+1) o a b (by simpa using hd) p;refine⟨m,s',?_,q⟩;rw[oh,iFP (h _ _ _ c),l,qaa];rcases f with f|f<;>(rw[f,qaa];exact k)
mutual
def toP:D->PyData
 |.non=>.none
 |.bl b=>.bool b
 |.int i=>.int i
 |.str x=>.str x
 |.tup ds=>.tuple (ir ds)
 |.lst ds=>.list (ir ds)
 |_=>.none
def ir:List D->List PyData
 |[]=>[]
 |d::ds=>toP d::ir ds
end
mutual
def rpD:D->Bool
 |.non=>true
 |.bl _=>true
 |.int i=>decide (i.natAbs.log2<1920)
 |.str _=>true
 |.tup ds=>nG ds
 |.lst ds=>nG ds
 |_=>false
def nG:List D->Bool
 |[]=>true
 |d::ds=>rpD d&&nG ds
end
mutual
def wtD:D->Nat
 |.non=>10
 |.bl _=>10
 |.int _=>2000
 |.str x=>(reprText x).length
 |.tup ds=>t9 ds+5
 |.lst ds=>t9 ds+5
 |_=>0
def t9:List D->Nat
 |[]=>0
 |d::ds=>wtD d+2+t9 ds
end
mutual
def dpD:D->Nat
 |.tup ds=>rZ ds+1
 |.lst ds=>rZ ds+1
 |_=>1
def rZ:List D->Nat
 |[]=>0
 |d::ds=>max (dpD d) (rZ ds)
end
def pG (st:Sto):List W->Option D
 |[w]=>match w with
  |.d d=>if rpD d=true/\wtD d<=16000000/\dpD d<=50 then some (.str (toP d).shown) else none
  |.h _=>none
 |_=>none
theorem kU:∀ (ts:List Str) (k:Nat) (acc:Str),(textFrom k acc ts).length<=acc.length+piled ts
 |[],k,acc=>by show acc.length<=_;lia
 |t::r,k,acc=>by
  have h:=kU r (k+1) (acc++(if k > 0 then ", " else "" : String)++t)
  have e:(acc++(if k > 0 then ", " else "" : String)++t).length<=acc.length+2+t.length:=by
   rw[qdx,qdx]
   have:((if k > 0 then ", " else "" : String):Str).length<=2:=by split<;>decide
   lia
  rw[qis];show (textFrom (k+1) _ r).length<=_;lia
theorem z7 (ts:List Str):(qhy ts).length<=piled ts+3:=by
 have hz:(Str.join ", " ts).length<=piled ts:=by
  cases ts with
  |nil=>exact qbA _
  |cons x r=>
   have:=qjE (x::r) (by simp)
   lia
 unfold qhy;rw[qdx,qdx];have b:((if ts.length==1 then ",)" else ")" : String):Str).length<=2:=by split<;>decide
 have a:((("(" : String):Str)).length=1:=rfl
 lia
theorem AS (ts:List Str):(listText ts).length<=piled ts+2:=by
 have h:=kU ts 0 "["
 unfold listText;rw[qdx];have a:((("[" : String):Str)).length=1:=rfl
 have b:((("]" : String):Str)).length=1:=rfl
 lia
mutual
theorem tU:∀ d:D,rpD d=true->(toP d).shown.length<=wtD d
 |.non,_=>by rw[toP,wtD];decide
 |.bl b,_=>by rw[toP,wtD];cases b<;>decide
 |.int i,h=>by
  rw[rpD,decide_eq_true_eq]at h;rw[toP,wtD,qe5]
  have:=int_text_length_le (k:=1920) (by decide) h
  rw[qgu];lia
 |.str x,_=>by rw[toP,wtD,qe5];exact qao _
 |.tup ds,h=>by
  rw[rpD]at h;rw[toP,wtD,qe5]
  have:=ky ds h
  have:=z7 (qbN (ir ds))
  lia
 |.lst ds,h=>by
  rw[rpD]at h;rw[toP,wtD,qe5]
  have:=ky ds h
  have:=AS (qbN (ir ds))
  lia
 |.ty _,h=>by simp[rpD]at h
 |.dct,h=>by simp[rpD]at h
 |.scr _,h=>by simp[rpD]at h
theorem ky:∀ ds:List D,nG ds=true->piled (qbN (ir ds))<=t9 ds
 |[],_=>by rw[ir,t9,qbN];exact qao _
 |d::ds,h=>by
  rw[nG,qaX]at h;rw[ir,t9,qbN,qis]
  have:=tU d h.1
  have:=ky ds h.2
  lia
end
mutual
theorem vg:∀ d:D,rpD d=true->(toP d).showable=true/\(toP d).hasDict=false/\(toP d).depth<=dpD d
 |.non,_=>⟨U,U,by decide⟩
 |.bl b,_=>⟨U,U,by rw[toP,qdt];exact qbA _⟩
 |.int i,h=>by
  rw[rpD]at h;rw[toP];exact⟨h,U,by rw[qdt];exact qbA _⟩
 |.str x,_=>⟨U,U,by rw[toP,qdt];exact qbA _⟩
 |.tup ds,h=>by
  rw[rpD]at h;rw[toP,dpD,qho,qhD,qdt];obtain⟨a,b,c⟩:=me ds h;exact⟨a,b,by lia⟩
 |.lst ds,h=>by
  rw[rpD]at h;rw[toP,dpD,qho,qhD,qdt];obtain⟨a,b,c⟩:=me ds h;exact⟨a,b,by lia⟩
 |.ty _,h=>by simp[rpD]at h
 |.dct,h=>by simp[rpD]at h
 |.scr _,h=>by simp[rpD]at h
theorem me:∀ ds:List D,nG ds=true->qdJ (ir ds)=true/\qdU (ir ds)=false/\qde (ir ds)<=rZ ds
 |[],_=>by rw[ir,rZ];exact⟨U,U,by simp[qde]⟩
 |d::ds,h=>by
  rw[nG,qaX]at h;obtain⟨a,b,c⟩:=vg d h.1;obtain⟨f,e,g⟩:=me ds h.2;rw[ir,rZ,qdJ,qdU,qde,a,b,f,e];exact⟨U,U,by lia⟩
end
section
variable {K:qae}{X:Cx}{pins:List (Addr×Obj)}{σ:St}{H:Hp}{s:qak}{φ:List Addr}
mutual
theorem tP (I:Inv X pins σ H s):∀ (d:D) (v:V) (u:Value),rpD d=true->Rl X.K H φ d v->aK v u->∃ as,Reads s.heap u (toP d) as
 |.non,v,u,_,r,q=>by cases (show v=.non from r);cases q;exact⟨_,by rw[toP];exact .none⟩
 |.bl b,v,u,_,r,q=>by cases (show v=.bl b from r);cases q;exact⟨_,by rw[toP];exact .bool b⟩
 |.int i,v,u,_,r,q=>by cases (show v=.int i from r);obtain⟨t,rfl⟩:=q;exact⟨_,by rw[toP];exact .int i t⟩
 |.str x,v,u,_,r,q=>by cases (show v=.str x from r);obtain⟨t,rfl⟩:=q;exact⟨_,by rw[toP];exact .str x t⟩
 |.tup ds,v,u,h,r,q=>by
  rw[rpD]at h;obtain⟨a,vs,rfl,h1,h2⟩:=r;cases q;obtain⟨its,rv,⟨o,ho,hc,n,hd⟩,_⟩:=I.tuple (SqT.of h1);obtain⟨as,ra⟩:=kx I ds vs its h h2 rv;exact⟨as,by rw[toP];exact .tuple ho hc hd (by simpa using ra)⟩
 |.lst ds,v,u,h,r,q=>by
  rw[rpD]at h;obtain⟨a,vs,rfl,_,h1,h2⟩:=r;cases q;obtain⟨its,rv,⟨o,n,ho,hc,hdd,hd⟩,_⟩:=I.list (.inl h1);obtain⟨as,ra⟩:=kx I ds vs its h h2 rv;exact⟨a::as,by rw[toP];exact .list ho hc hd (by simpa using ra)⟩
 |.ty _,_,_,h,_,_=>by simp[rpD]at h
 |.dct,_,_,h,_,_=>by simp[rpD]at h
 |.scr _,_,_,h,_,_=>by simp[rpD]at h
theorem kx (I:Inv X pins σ H s):∀ (ds:List D) (vs:List V) (us:List Value),nG ds=true->Rls X.K H φ ds vs->aF vs us->∃ as,ReadsAll s.heap us (ir ds) as
 |[],vs,us,_,r,q=>by cases r;cases q;exact⟨[],by rw[ir];exact .nil⟩
 |d::ds,vs,us,h,r,q=>by
  rw[nG,qaX]at h;obtain⟨v,r',rfl,h1,h2⟩:=r;cases q with
  |cons q1 q2=>
   obtain⟨as,a1⟩:=tP I d v _ h.1 h1 q1;obtain⟨bs,a2⟩:=kx I ds r' _ h.2 h2 q2;exact⟨as++bs,by rw[ir];exact .cons a1 a2⟩
end
end
def yk (st:Sto):List W->Option D
 |[.d (.tup ds)]=>pG st [.d (.tup ds)]
 |[.d (.lst ds)]=>pG st [.d (.lst ds)]
 |_=>none
theorem yj {K:qae}{X:Cx}{k:Nat} (f:bh k X.A) (p:X.K=K:=by rfl):dJ K X (.builtin "repr") yk:=by
 subst p;refine⟨λst ws d h=>?_⟩;have b:∀ x:D,(∀ (H:Hp) (φ:List Addr) v,Rl X.K H φ x v->∃ a,v=.ref a)->pG st [.d x]=some d->bb X (.builtin "repr") (rCD X.K st [.d x] d):=by
  intro x hx h;simp only[pG]at h;split at h
  ·rename_i c
   cases h;intro j s B H xs A Q I m q;obtain⟨φ,S,⟨v,r,rfl,g,rfl⟩,q⟩:=q;obtain⟨u,rfl,i⟩:=gL m;obtain⟨as,w⟩:=tP I x v u c.1 g i;obtain⟨a,rfl⟩:=hx H φ v g;cases i;obtain⟨z,n,C⟩:=vg x c.1;have E:=tU x c.1;have o:=f.units;refine qjV w z (qgX n) f.gd (by lia) (λ_ _ e=>e) (λh' u y l=>⟨.str _,H,I.kept (t':=y) l,⟨u,U⟩,q _ H (aN.refl H) U⟩) ?_;rw[qcJ];lia
  ·cases h
 match ws,h with
 |[.d (.tup ds)],h=>exact b (.tup ds) (λH φ v ⟨a,t,e,_⟩=>⟨a,e⟩) h
 |[.d (.lst ds)],h=>exact b (.lst ds) (λH φ v ⟨a,t,e,_⟩=>⟨a,e⟩) h
def cB (st:Sto) (ws:List W):Option D:=match ws with
 |[.d (.int i)]=>vk st [.d (.int i)]
 |ws=>yk st ws
theorem jj {K:qae}{X:Cx}{k:Nat} (a:bh k X.A) (b:X.K=K:=by rfl):dJ K X (.builtin "repr") cB:=by
 refine⟨λst ws d h=>?_⟩;unfold cB at h;split at h
 ·exact (As a b).run _ _ _ h
 ·exact (yj a b).run _ _ _ h
end L2
@[reducible]def Z(x:L2.D):Option L2.W:=some (.d x)
namespace Own
open PySem L2
noncomputable section
def eS:Sf:=(aD (.nm 1) (iOp aU (iV 1) (iC (.int 2))))
def mn:Sf:=(ah (aD (.nm 1) (iC (.int 1))) (ah (cV (ca (aa (iV 0) ac)) (.nm 2) eS) (aO (iV 1))))
def cq:Fn:=br 3 1 mn
def Aq:Sf:=(aO (iOp f9 (iOp iy (iV 0) (ay cq (aa (iV 1) ac))) (iC (.int 2))))
def qB:Fn:=br 2 2 Aq
def dF:Tf:=(aG dNe (iV 3) (iC (.int 0)))
def d7:Sf:=(ah (aD (.nm 4) (iOp f9 (iV 1) (iV 3))) (ah (aD (.nm 1) (iV 3)) (aD (.nm 3) (iV 4))))
def dS:Sf:=(ah (aD (.nm 3) (iCB wY (aa (iV 2) ac))) (pP (2^8000) dF d7))
def k8:Sf:=(ah (aD (.nm 1) (iC (.int 0))) (ah (cV (aA (iV 0)) (.nm 2) dS) (aO (iV 1))))
def bg:Fn:=br 5 1 k8
def sh:Ef:=(iOp pE (iV 0) (iV 1))
def wR:Sf:=(ah (aD (.nm 1) (ay bg (aa (iV 0) ac))) (ah (bi (aG dEq (iV 1) (iC (.int 0))) (aO (iCB dH (aa (iV 0) ac))) aW) (aO (iCB dH (aa (av (iLc 1 [1] (aA (iV 0)) (.nm 0) aP sh)) ac)))))
def cG:Fn:=br 2 1 wR
def eA:Ef:=(iV 0)
def eE:Tf:=(aG rW (iV 1) (iC .non))
def kD:Sf:=(aO (iCB dH (aa (av (iLc 2 [] (bK (aa (iV 0) ac)) (.tp [0,1]) eE eA)) ac)))
def bN:Fn:=br 1 1 kD
def jV:Sf:=(aO (eO (aG dEq (iOp dIx (iV 0) (iV 1)) (iC (.int 1))) (iC (.int 1)) (iUn im (iC (.int 1)))))
def eU:Fn:=br 2 2 jV
def gf:Ef:=(iOp aV (av (iCL vX (aa (iV 0) ac))) (av (bj (aa (iV 1) ac))))
def gg:Ef:=(iUn im (iV 0))
def bO:List (Str×Ef):=[("amounts",(iCB aT (aa (iV 3) ac))),("lines",(av (iLc 2 [] (cY (aa (iV 1) (aa (iV 2) ac))) (.tp [0,1]) aP gf))),("goal",(iOp aV (av (iLc 1 [] (aA (iV 3)) (.nm 0) aP gg)) (av (bj (aa (iC (.int 0)) ac))))),("part",(iC (.int 1))),("free",(bV (xm (aa (iCB aT (aa (iV 3) ac)) ac)))),("kept",(bV (pO (aa (iCB aT (aa (iV 3) ac)) (aa (iOp aV (iCB aT (aa (iV 3) ac)) (iCB aT (aa (iV 1) ac))) ac)))))]
def aQ:Sf:=(ah (bi (cm cJ (iV 3)) (ah (aD (.nm 5) (iOp aU (iOp dIx (iV 1) (iV 4)) (iOp dIx (iV 2) (iOp dIx (iV 3) (iC (.int 0)))))) (ah (aD (.nm 6) (iOp aU (iOp dIx (iV 1) (iOp dIx (iV 3) (iC (.int 0)))) (iOp dIx (iV 2) (iV 4)))) (ah (bi (aG dGt (iV 5) (iV 6)) oE aW) (bi (aG dLt (iV 5) (iV 6)) (aD (.nm 3) (bV (bj ac))) aW)))) aW) (cy (cR de (iV 3) (aa (iV 4) ac))))
def iu:Sf:=(ah (aD (.nm 3) (bV (bj ac))) (ah (cV (aA (iV 0)) (.nm 4) aQ) (aO (iV 3))))
def eD:Fn:=dE 7 3 iu
def wT:Sf:=(aO (iOp aV (av (bj (aa (iC .non) ac))) (av (pO (aa (ax "amounts" (iV 0)) (aa (iOp aV (ax "amounts" (iV 0)) (iCB aT (aa (ax "lines" (iV 0)) ac))) ac))))))
def di:Fn:=br 1 1 wT
def mz:Ef:=(eO (aG dEq (iV 0) (iV 1)) (ax "part" (iV 2)) (iC (.int 0)))
def mB:Ef:=(iOp dIx (iV 0) (iV 1))
def mC:Ef:=(iOp dIx (iV 0) (iUn im (iC (.int 1))))
def ft:Sf:=(ah (bi (aG jl (iV 1) (iC .non)) (aO (av (iLc 1 [] (aA (ax "lines" (iV 0))) (.nm 0) aP mC))) aW) (ah (bi (aG dIn (iV 1) (ax "free" (iV 0))) (ah (aD (.nm 2) (yz (ax "free" (iV 0)) (aa (iV 1) ac))) (aO (av (iLc 1 [2] (aA (ax "lines" (iV 0))) (.nm 0) aP mB)))) aW) (aO (av (iLc 1 [1,0] (aA (ax "kept" (iV 0))) (.nm 0) aP mz)))))
def cp:Fn:=br 3 2 ft
def dU:Sf:=(ah (bi (aG dLt (iCB aT (aa (iV 3) ac)) (iC (.int 2))) uv aW) (aD (.nm 3) (ay eD (aa (iV 3) (aa (ay cp (aa (iV 0) (aa (iV 4) ac))) (aa (iV 2) ac))))))
def r8:Ef:=(iV 0)
def t5:Tf:=(aG dGt (iV 1) (iC (.int 0)))
def se:Ef:=(iOp dIx (iV 0) (iV 1))
def on:Sf:=(ah (aD (.nm 2) (av (iLc 1 [1] (aA (ax "lines" (iV 0))) (.nm 0) aP se))) (ah (aD (.nm 3) (av (iLc 2 [] (bK (aa (iV 2) ac)) (.tp [0,1]) t5 r8))) (ah (cV (aA (ay di (aa (iV 0) ac))) (.nm 4) dU) (aO (eO (cm cJ (iV 3)) (iOp dIx (iV 3) (iC (.int 0))) (iC .non))))))
def gZ:Fn:=br 5 2 on
def bM:Sf:=(ah (aD (.nm 6) (ay cp (aa (iV 0) (aa (iV 5) ac)))) (ah (aD (.nm 7) (iOp jY (iOp aU (iV 4) (iOp dIx (iV 6) (iOp dIx (iV 2) (iC (.int 1))))) (iOp aU (iV 3) (iOp dIx (iV 6) (iOp dIx (iV 1) (iC (.int 1))))))) (bi (aG dNe (iV 7) (iC (.int 0))) (aO (iOp dGt (iV 7) (iC (.int 0)))) aW)))
def o8:Sf:=(ah (aD (.nm 3) (iOp aU (iOp dIx (ax "goal" (iV 0)) (iOp dIx (iV 1) (iC (.int 0)))) (iOp dIx (iOp dIx (ax "lines" (iV 0)) (iOp dIx (iV 2) (iC (.int 1)))) (iOp dIx (iV 2) (iC (.int 0)))))) (ah (aD (.nm 4) (iOp aU (iOp dIx (ax "goal" (iV 0)) (iOp dIx (iV 2) (iC (.int 0)))) (iOp dIx (iOp dIx (ax "lines" (iV 0)) (iOp dIx (iV 1) (iC (.int 1)))) (iOp dIx (iV 1) (iC (.int 0)))))) (ah (cV (aA (ay di (aa (iV 0) ac))) (.nm 5) bM) (aO (iC (.bl false))))))
def bQ:Fn:=br 8 3 o8
def bI:Sf:=(ah (bi (aG dGe (iOp dIx (ax "goal" (iV 0)) (iV 2)) (iC (.int 0))) oE aW) (ah (aD (.nm 3) (aY (aa (iV 2) (aa (ay gZ (aa (iV 0) (aa (iV 2) ac))) ac)))) (ah (bi (aG jl (iOp dIx (iV 3) (iC (.int 1))) (iC .non)) (aO (iV 3)) aW) (bi (dI (aG jl (iV 1) (iC .non)) (cm cJ (ay bQ (aa (iV 0) (aa (iV 3) (aa (iV 1) ac)))))) (aD (.nm 1) (iV 3)) aW))))
def rJ:Sf:=(ah (aD (.nm 1) (iC .non)) (ah (cV (ca (aa (iCB aT (aa (ax "free" (iV 0)) ac)) ac)) (.nm 2) bI) (aO (iV 1))))
def bD:Fn:=br 4 1 rJ
def jZ:Ef:=(iOp pE (iOp jY (iOp aU (iV 2) (iV 0)) (iOp aU (iV 3) (iV 1))) (iV 4))
def vh:Sf:=(ah (aD (.nm 4) (iOp dIx (iV 1) (iV 2))) (ah (aD (.nm 5) (iOp dIx (iV 0) (iV 2))) (ah (aD (.nm 6) (bV (iLc 2 [4,5,3] (cY (aa (iV 0) (aa (iV 1) ac))) (.tp [0,1]) aP jZ))) (ah (bo (iV 6) (iV 2) (iUn im (iV 5))) (aO (iV 6))))))
def jH:Fn:=dE 7 4 vh
def c9:Ef:=(ay jH (aa (iV 0) (aa (iV 1) (aa (iV 2) (aa (iV 3) ac)))))
def iP:Sf:=(ah (aD (.nm 3) (iOp dIx (ax "lines" (iV 0)) (iV 1))) (ah (aD (.nm 4) (ax "part" (iV 0))) (ah (i3 5 1 2 3 4 (iLc 1 [3,2,4] (aA (ax "lines" (iV 0))) (.nm 0) aP c9)) (ah (kK "goal" (iV 0) (ay jH (aa (ax "goal" (iV 0)) (aa (iV 3) (aa (iV 2) (aa (iV 4) ac)))))) (ah (kK "lines" (iV 0) (iV 5)) (ah (kK "part" (iV 0) (iOp dIx (iV 3) (iV 2))) (ah (aD (.nm 6) (iOp dIx (ax "free" (iV 0)) (iV 2))) (ah (bo (ax "free" (iV 0)) (iV 2) (iOp dIx (ax "kept" (iV 0)) (iV 1))) (bo (ax "kept" (iV 0)) (iV 1) (iV 6))))))))))
def dC:Fn:=dE 7 3 iP
def m7:Sf:=(bi (aG dLt (iV 4) (ax "amounts" (iV 0))) (bo (iV 2) (iV 4) (iUn im (iOp dIx (iOp dIx (ax "lines" (iV 0)) (iV 3)) (iV 1)))) aW)
def rP:Sf:=(ah (aD (.nm 2) (bV (sB m6 (av (bj (aa (iC (.int 0)) ac))) (ax "amounts" (iV 0))))) (ah (cV (bK (aa (ax "kept" (iV 0)) ac)) (.tp [3,4]) m7) (ah (bi (aG dLt (iOp dIx (ax "free" (iV 0)) (iV 1)) (ax "amounts" (iV 0))) (bo (iV 2) (iOp dIx (ax "free" (iV 0)) (iV 1)) (ax "part" (iV 0))) aW) (aO (cD cG (aa (iV 2) ac))))))
def jI:Fn:=dE 5 2 rP
def gn:Sf:=(bi (aG dLt (iV 3) (ax "amounts" (iV 0))) (bo (iV 1) (iV 3) (iOp dIx (iOp dIx (ax "lines" (iV 0)) (iV 2)) (iUn im (iC (.int 1))))) aW)
def jg:Sf:=(ah (aD (.nm 1) (bV (sB m6 (av (bj (aa (iC (.int 0)) ac))) (ax "amounts" (iV 0))))) (ah (cV (bK (aa (ax "kept" (iV 0)) ac)) (.tp [2,3]) gn) (aO (iV 1))))
def fG:Fn:=dE 4 1 jg
def iH:Sf:=(bi (aG dGe (iV 3) (ax "amounts" (iV 0))) (bo (iV 1) (iOp jY (iV 3) (ax "amounts" (iV 0))) (iOp dIx (ax "goal" (iV 0)) (iV 2))) aW)
def kC:Sf:=(ah (aD (.nm 1) (bV (sB m6 (av (bj (aa (iC (.int 0)) ac))) (iCB aT (aa (ax "lines" (iV 0)) ac))))) (ah (cV (bK (aa (ax "free" (iV 0)) ac)) (.tp [2,3]) iH) (aO (iV 1))))
def gy:Fn:=dE 4 1 kC
def dm:Ef:=(iOp pE (iV 0) (iV 1))
def dn:Ef:=(iOp pE (iV 0) (iV 1))
def jh:Sf:=(ah (aD (.nm 1) (ay fG (aa (iV 0) ac))) (ah (aD (.nm 2) (ay gy (aa (iV 0) ac))) (ah (aD (.nm 3) (ay bg (aa (iOp aV (iOp aV (av (bj (aa (ax "part" (iV 0)) ac))) (iV 1)) (iV 2)) ac))) (aO (aY (aa (iC (.str "most")) (aa (iOp pE (ax "part" (iV 0)) (iV 3)) (aa (iCB dH (aa (av (iLc 1 [3] (aA (iV 1)) (.nm 0) aP dn)) ac)) (aa (iCB dH (aa (av (iLc 1 [3] (aA (iV 2)) (.nm 0) aP dm)) ac)) ac)))))))))
def fH:Fn:=br 4 1 jh
def fM:Tf:=(aG rW (iV 4) (iC .non))
def d8:Sf:=(ah (bi (aG jl (iOp dIx (iV 4) (iC (.int 1))) (iC .non)) (aO (aY (aa (iC (.str "beyond")) (aa (cD jI (aa (iV 3) (aa (iOp dIx (iV 4) (iC (.int 0))) ac))) ac)))) aW) (ah (cy (ay dC (aa (iV 3) (aa (iOp dIx (iV 4) (iC (.int 1))) (aa (iOp dIx (iV 4) (iC (.int 0))) ac))))) (aD (.nm 4) (cD bD (aa (iV 3) ac)))))
def wS:Sf:=(ah (aD (.nm 3) (oF 4 4 bO (aa (iV 0) (aa (iV 1) (aa (iV 2) ac))))) (ah (aD (.nm 4) (cD bD (aa (iV 3) ac))) (ah (pP (2^8000) fM d8) (aO (cD fH (aa (iV 3) ac))))))
def g9:Fn:=br 5 3 wS
def db:Ef:=(ay qB (aa (iV 1) (aa (iV 0) ac)))
def uh:Sf:=(ah (aD (.nm 3) (iCB pH (aa (av (iLc 1 [2] (aA (iV 1)) (.nm 0) aP db)) ac))) (ah (bi (aG dEq (iV 0) (iC (.str "both"))) (aO (eO (aG dEq (iV 3) (iCB aT (aa (iV 1) ac))) (iC (.int 1)) (iC (.int 0)))) aW) (aO (eO (aG dEq (iOp f9 (iV 3) (iC (.int 2))) (iC (.int 1))) (iUn im (iC (.int 1))) (iC (.int 1))))))
def i5:Fn:=br 4 3 uh
def iE:Ef:=(aY (aa (iV 0) (aa (xn (iV 1) (iV 0)) ac)))
def iM:Tf:=(aG dNe (xn (iV 1) (iV 0)) (iC (.int 0)))
def rO:Sf:=(aO (aY (aa (iV 0) (aa (iCB dH (aa (av (iLc 1 [1] (aA (av (j7 (iV 1)))) (.nm 0) iM iE)) ac)) ac))))
def gx:Fn:=br 2 2 rO
def mD:Ef:=(aY (aa (iV 0) (aa (iOp pE (iV 1) (iV 2)) ac)))
def yc:Sf:=(aO (aY (aa (iOp dIx (iV 0) (iC (.int 0))) (aa (iCB dH (aa (av (iLc 2 [1] (aA (iOp dIx (iV 0) (iC (.int 1)))) (.tp [0,1]) aP mD)) ac)) ac))))
def nq:Fn:=br 2 2 yc
def mE:Ef:=(iV 1)
def yd:Sf:=(aO (ay nq (aa (iV 0) (aa (ay bg (aa (av (iLc 2 [] (aA (iOp dIx (iV 0) (iC (.int 1)))) (.tp [0,1]) aP mE)) ac)) ac))))
def nr:Fn:=br 1 1 yd
def fZ:Sf:=(aO (iOp aU (ay eU (aa (iV 0) (aa (iV 3) ac))) (ay i5 (aa (iV 1) (aa (iV 2) (aa (iV 3) ac))))))
def cr:Fn:=br 4 4 fZ
def dM:Ef:=(ay cr (aa (iV 1) (aa (iV 2) (aa (iV 0) (aa (iV 3) ac)))))
def dN:Ef:=(av (iLc 1 [2,3,0] (aA (iV 1)) (.nm 0) aP dM))
def k9:Sf:=(aO (av (iLc 1 [2,0,1] (aA (ay bN (aa (iV 0) ac))) (.nm 0) aP dN)))
def cW:Fn:=br 3 3 k9
def um:Ef:=(eO (aG dEq (iV 0) (iV 1)) (iC (.int 1)) (iC (.int 0)))
def yb:Sf:=(aO (av (iLc 1 [0] (ca (aa (iV 1) ac)) (.nm 0) aP um)))
def jG:Fn:=br 2 2 yb
def iD:Ef:=(iUn im (iV 0))
def rK:Sf:=(aO (iOp aV (av (iCL vX (aa (iV 0) ac))) (av (iLc 1 [] (aA (iV 0)) (.nm 0) aP iD))))
def gw:Fn:=br 1 1 rK
def dW:Sf:=(vF (iV 3) (iV 5) (iOp jY (iOp dIx (iV 2) (iV 4)) (iOp dIx (iV 2) (iOp aV (iCB aT (aa (iV 1) ac)) (iV 4)))))
def oo:Sf:=(ah (aD (.nm 3) B7) (ah (cV (bK (aa (iV 1) ac)) (.tp [4,5]) dW) (aO (ay nr (aa (ay gx (aa (iV 0) (aa (iV 3) ac))) ac)))))
def hJ:Fn:=dE 6 3 oo
def gq:Sf:=(bo (iV 2) (iV 3) (iV 4))
def ji:Sf:=(ah (aD (.nm 2) (bV (sB m6 (av (bj (aa (iC (.int 0)) ac))) (iCB aT (aa (iV 0) ac))))) (ah (cV (cY (aa (ay bN (aa (iV 0) ac)) (aa (iV 1) ac))) (.tp [3,4]) gq) (aO (iCB dH (aa (iV 2) ac)))))
def df:Fn:=dE 5 2 ji
def fA:Ef:=(iCB dH (aa (iV 0) ac))
def fB:Ef:=(iOp aV (iOp aU (av (bj (aa (iC (.int 0)) ac))) (iOp aU (iC (.int 2)) (iCB aT (aa (iV 1) ac)))) (ay jG (aa (iV 0) (aa (iV 2) ac))))
def qU:Sf:=(ah (aD (.nm 6) (av (iLc 1 [2,4] (ca (aa (iV 4) ac)) (.nm 0) aP fB))) (ah (aD (.nm 7) (ay g9 (aa (iCB dH (aa (av (iLc 1 [] (aA (iOp aV (iV 5) (iV 6))) (.nm 0) aP fA)) ac)) (aa (iOp aV (iOp aU (aY (aa (iC (.int 0)) ac)) (iV 4)) (iOp aU (aY (aa (iC (.int 1)) ac)) (iV 4))) (aa (iOp aV (iOp aU (aY (aa (iC (.int 0)) ac)) (iOp aU (iC (.int 2)) (iCB aT (aa (iV 2) ac)))) (iOp aU (aY (aa (iC (.int 1)) ac)) (iV 4))) ac))))) (aO (aY (aa (ay hJ (aa (iV 1) (aa (iV 2) (aa (iOp dIx (iV 7) (iC (.int 2))) ac)))) (aa (ay cG (aa (ay df (aa (iV 0) (aa (iSl (iOp dIx (iV 7) (iC (.int 3))) iPn (iPs (iV 4))) ac))) ac)) ac))))))
def pL:Ef:=(iUn im (iV 0))
def jn:Ef:=(iOp aV (ay gw (aa (av (iLc 1 [] (aA (iV 1)) (.nm 0) aP pL)) ac)) (ay jG (aa (iV 0) (aa (iV 2) ac))))
def iQ:Sf:=(ah (aD (.nm 3) (ay cW (aa (iV 0) (aa (iV 1) (aa (iV 2) ac))))) (ah (aD (.nm 4) (iCB aT (aa (iV 3) ac))) (ah (bi (aG dEq (iV 4) (iC (.int 0))) (aO (aY (aa (aY (aa (iV 1) (aa (aY ac) ac))) (aa (ay df (aa (iV 0) (aa (aY ac) ac))) ac)))) aW) (ah (aD (.nm 5) (av (iLc 2 [4] (bK (aa (iV 3) ac)) (.tp [0,1]) aP jn))) qU))))
def i4:Fn:=br 8 3 iQ
def ye:Sf:=(ah (aD (.nm 3) (ay i4 (aa (iV 0) (aa (iV 1) (aa (iV 2) ac))))) (ah (bi (cm cJ (iCB CM (aa (iOp dIx (iV 3) (iC (.int 1))) ac))) (aO (aY (aa (iC (.str "bar")) (aa (iOp dIx (iV 3) (iC (.int 1))) ac)))) aW) (aO (aY (aa (iC (.str "poly")) (aa (iOp dIx (iV 3) (iC (.int 0))) ac))))))
def eV:Fn:=br 4 3 ye
def iO:Sf:=(aO (iOp dEq (iOp dIx (ay eV (aa (iOp aV (iV 0) (iOp aU (aY (aa (iC .non) ac)) (iOp jY (iV 1) (iCB aT (aa (iV 0) ac))))) (aa (iV 2) (aa (iV 3) ac)))) (iC (.int 0))) (iC (.str "poly"))))
def cf:Fn:=br 4 4 iO
def iT:Ef:=(iV 0)
def i9:Tf:=(cm cJ (ay cf (aa (iV 0) (aa (iV 1) (aa (iV 2) (aa (iV 3) ac))))))
def cc:Sf:=(ah (aD (.nm 8) (aY (aa (iOp aV (iV 7) (aY (aa (iC (.int 0)) ac))) (aa (iOp aV (iV 7) (aY (aa (iC (.int 1)) ac))) ac)))) (cy (cR nj (iV 6) (aa (av (iLc 1 [3,1,2] (aA (iV 8)) (.nm 0) i9 iT)) ac))))
def iX:Sf:=(ah (aD (.nm 6) (bV (bj ac))) (ah (kJ (iV 4) (.nm 7) cc) (aD (.nm 4) (iV 6))))
def rM:Sf:=(ah (aD (.nm 3) (ay cq (aa (iV 0) ac))) (ah (aD (.nm 4) (av (bj (aa (aY ac) ac)))) (ah (cV (ca (aa (iV 3) ac)) (.nm 5) iX) (aO (iCB dH (aa (iV 4) ac))))))
def jF:Fn:=dE 9 3 rM
def ug:Sf:=(aO (iCB aT (aa (ay jF (aa (iV 0) (aa (iV 1) (aa (iV 2) ac)))) ac)))
def nk:Fn:=br 3 3 ug
def jB:Sf:=(ah (aD (.nm 1) (iOp f9 (iOp aV (iOp aU (iV 1) (iC (.int 69621))) (iV 3)) (iC (.int 2305843009213693951)))) (bi (aG dGe (iCB wY (aa (iV 3) ac)) (iOp Ay (iC (.int 10)) (iC (.int 18)))) (cy (cR de (iV 2) (aa (iCB wY (aa (iV 3) ac)) ac))) aW))
def uf:Sf:=(ah (sC 1 2 (aa (iOp aV (iOp aU (iC (.int 7)) (iCB aT (aa (iV 0) ac))) (iC (.int 5))) (aa (bV (bj ac)) ac))) (ah (cV (aA (iSl (iV 0) iPn (iPs (iC (.int 63))))) (.nm 3) jB) (aO (yA (aa (iV 2) (aa (iV 1) (aa (iC (.int 0)) ac)))))))
def iZ:Fn:=br 4 1 uf
def gM:Tf:=(kI (aG dNe (cE (iV 0) (iC (.int 0))) (av (bj ac))) (aG dEq (iOp dIx (cE (iV 0) (iC (.int 0))) (iC (.int 0))) (iC (.int 0))))
def iN:Sf:=(cy (cR uN (cE (iV 0) (iC (.int 0))) (aa (iC (.int 0)) ac)))
def rF:Sf:=(ah (pP (2^8000) gM iN) (ah (bi (aG dNe (cE (iV 0) (iC (.int 0))) (av (bj ac))) (ah (aD (.nm 2) (iOp f9 (iOp dIx (cE (iV 0) (iC (.int 0))) (iC (.int 0))) (iV 1))) (ah (bo (cE (iV 0) (iC (.int 0))) (iC (.int 0)) (iOp iy (iOp dIx (cE (iV 0) (iC (.int 0))) (iC (.int 0))) (iV 1))) (aO (iV 2)))) aW) (ah (jo (iV 0) (iC (.int 2)) (iOp aV (cE (iV 0) (iC (.int 2))) (iC (.int 1)))) (ah (aD (.nm 3) (iOp f9 (iOp aU (iOp aV (cE (iV 0) (iC (.int 1))) (iOp aU (iOp aU (iC (.int 611953)) (cE (iV 0) (iC (.int 2)))) (cE (iV 0) (iC (.int 2))))) (iC (.int 48271))) (iC (.int 2305843009213693951)))) (ah (aD (.nm 4) (iOp aV (iOp aV (iOp iy (iV 3) (iC (.int 1009))) (iOp aU (iC (.int 40692)) (cE (iV 0) (iC (.int 2))))) (iC (.int 3)))) (aO (iOp f9 (iOp iy (iOp f9 (iOp aU (iOp aV (iV 3) (cE (iV 0) (iC (.int 2)))) (iV 4)) (iC (.int 2305843009213693921))) (iC (.int 4099))) (iV 1))))))))
def aJ:Fn:=br 5 2 rF
def iB:Ef:=(iV 0)
def iL:Tf:=(aG dEq (iOp CL (iOp AA (iV 1) (iV 0)) (iC (.int 1))) (iC (.int 1)))
def rH:Sf:=(ah (aD (.nm 3) (iCB aT (aa (av (iLc 1 [2] (aA (iV 1)) (.nm 0) iL iB)) ac))) (aO (eO (aG dEq (iV 0) (iC (.str "both"))) (iCB Ez (aa (iOp dEq (iV 3) (iCB aT (aa (iV 1) ac))) ac)) (iOp jY (iC (.int 1)) (iOp aU (iC (.int 2)) (iOp f9 (iV 3) (iC (.int 2))))))))
def dX:Fn:=br 4 3 rH
def mw:Ef:=(iV 0)
def nP:Tf:=(aG dEq (iOp CL (iOp AA (iV 1) (iV 0)) (iC (.int 1))) (iC (.int 1)))
def mx:Ef:=(iCB dH (aa (av (iLc 1 [0] (ca (aa (iV 1) ac)) (.nm 0) nP mw)) ac))
def oZ:Sf:=(aO (av (iCL uC (aa (av (iLc 1 [0] (ca (aa (iOp Az (iC (.int 1)) (iV 0)) ac)) (.nm 0) aP mx)) ac))))
def cn:Fn:=br 1 1 oZ
def my:Ef:=(iOp aU (iV 1) (ay dX (aa (iOp dIx (iV 2) (iC (.int 0))) (aa (iV 0) (aa (iV 3) ac)))))
def o0:Sf:=(aO (iCB pH (aa (av (iLc 2 [0,1] (aA (iOp dIx (iV 0) (iC (.int 1)))) (.tp [0,1]) aP my)) ac)))
def fF:Fn:=br 2 2 o0
def cC:Ef:=(iOp dLt (iV 0) (iV 1))
def eK:Ef:=(sA (iV 1) (aa (iCB cB (aa (iOp dIx (iV 0) (iC (.int 0))) ac)) ac))
def eR:Sf:=(ah (bi (dI (dP (cm cJ (iCB lb (aa (iV 4) (aa (iC (.ty "tuple")) ac))))) (dI (aG dNe (iCB aT (aa (iV 4) ac)) (iC (.int 2))) (aG pF (iCB cB (aa (iOp dIx (iV 4) (iC (.int 0))) ac)) (iV 3)))) (aO (iC (.bl false))) aW) (bi (dI (dP (cm cJ (iCB lb (aa (iOp dIx (iV 4) (iC (.int 1))) (aa (iC (.ty "int")) ac))))) (dI (cm cJ (iCB lb (aa (iOp dIx (iV 4) (iC (.int 1))) (aa (iC (.ty "bool")) ac)))) (aG dEq (iOp dIx (iV 4) (iC (.int 1))) (iC (.int 0))))) (aO (iC (.bl false))) aW))
def eL:Ef:=(iCB cB (aa (iV 0) ac))
def mm:Sf:=(ah (bi (dI (dP (cm cJ (iCB lb (aa (iV 0) (aa (iC (.ty "tuple")) ac))))) (dI (aG dNe (iCB aT (aa (iV 0) ac)) (iC (.int 2))) (dI (dP (cm cJ (iCB lb (aa (iOp dIx (iV 0) (iC (.int 0))) (aa (iC (.ty "str")) ac))))) (aG dNe (iOp dIx (iV 0) (iC (.int 0))) (iV 1))))) (aO (iC (.bl false))) aW) (ah (bi (dP (cm cJ (iCB lb (aa (iOp dIx (iV 0) (iC (.int 1))) (aa (iC (.ty "tuple")) ac))))) (aO (iC (.bl false))) aW) (ah (aD (.nm 3) (av (iLc 1 [] (aA (iV 2)) (.nm 0) aP eL))) (ah (cV (aA (iOp dIx (iV 0) (iC (.int 1)))) (.nm 4) eR) (ah (aD (.nm 5) (av (iLc 1 [3] (aA (iOp dIx (iV 0) (iC (.int 1)))) (.nm 0) aP eK))) (aO (iCB Ax (aa (av (iLc 2 [] (cY (aa (iV 5) (aa (iSl (iV 5) (iPs (iC (.int 1))) iPn) ac))) (.tp [0,1]) aP cC)) ac))))))))
def dB:Fn:=br 6 3 mm
def cj:Ef:=(iOp dGt (iOp aU (ay fF (aa (iV 1) (aa (iV 0) ac))) (iOp jY (iOp aU (iC (.int 2)) (iOp dIx (iV 2) (iV 0))) (iC (.int 1)))) (iC (.int 0)))
def ck:Ef:=(iV 0)
def cx:Tf:=(aG rW (iV 1) (iC .non))
def k7:Sf:=(ah (aD (.nm 2) (av (iLc 2 [] (bK (aa (iV 1) ac)) (.tp [0,1]) cx ck))) (aO (iCB Ax (aa (av (iLc 1 [0,1] (aA (iV 2)) (.nm 0) aP cj)) ac))))
def b7:Fn:=br 3 2 k7
def lc:Ef:=(iOp aU (iOp aU (iOp dIx (iV 1) (iV 0)) (iOp jY (iOp aU (iC (.int 2)) (iOp dIx (iV 2) (iV 0))) (iC (.int 1)))) (ay dX (aa (iV 3) (aa (iV 4) (aa (iV 0) ac)))))
def fP:Sf:=(bi (aG dNe (iCB pH (aa (av (iLc 1 [3,0,1,7] (aA (iV 6)) (.nm 0) aP lc)) ac)) (iC (.int 0))) (aO (iC (.bl false))) aW)
def fO:Ef:=(iV 0)
def fV:Tf:=(aG dGt (iV 1) (iC (.int 0)))
def fQ:Sf:=(bi (dI (dP (cm cJ (iCB lb (aa (iV 5) (aa (iC (.ty "int")) ac))))) (dI (cm cJ (iCB lb (aa (iV 5) (aa (iC (.ty "bool")) ac)))) (dI (aG dLt (iV 5) (iC (.int 0))) (kI (aG jl (iV 4) (iC .non)) (aG dNe (iV 5) (iC (.int 0))))))) (aO (iC (.bl false))) aW)
def n6:Sf:=(ah (bi (dI (dP (cm cJ (iCB lb (aa (iV 3) (aa (iC (.ty "tuple")) ac))))) (aG dNe (iCB aT (aa (iV 3) ac)) (iCB aT (aa (iV 0) ac)))) (aO (iC (.bl false))) aW) (ah (cV (cY (aa (iV 0) (aa (iV 3) ac))) (.tp [4,5]) fQ) (ah (aD (.nm 6) (av (iLc 2 [] (bK (aa (iV 3) ac)) (.tp [0,1]) fV fO))) (ah (cV (aA (iV 2)) (.nm 7) fP) (aO (iOp dNe (iV 6) (av (bj ac))))))))
def cM:Fn:=br 8 4 n6
def iz:Ef:=(iV 0)
def iJ:Tf:=(aG dGt (ay aJ (aa (iV 1) (aa (iOp aV (iC (.int 2)) (iOp f9 (iV 2) (iC (.int 2)))) ac))) (iC (.int 0)))
def iA:Ef:=(iV 0)
def iK:Tf:=(aG dLe (iCB aT (aa (iV 0) ac)) (iV 1))
def rG:Sf:=(ah (sD 2 3 4 (aa (ay cn (aa (iV 1) ac)) (aa (ay aJ (aa (iV 0) (aa (iC (.int 4)) ac))) (aa (ay aJ (aa (iV 0) (aa (iOp aV (iV 1) (iC (.int 1))) ac))) ac)))) (ah (bi (aG dEq (iV 3) (iC (.int 0))) (aO (iCB dH (aa (av (iLc 1 [4] (aA (iV 2)) (.nm 0) iK iA)) ac))) aW) (ah (bi (aG dEq (iV 3) (iC (.int 1))) (aO (iCB dH (aa (iSl (iV 2) (iPs (iV 4)) (iPs (iOp aV (iV 4) (ay aJ (aa (iV 0) (aa (iC (.int 2)) ac)))))) ac))) aW) (aO (iCB dH (aa (av (iLc 1 [0,3] (aA (iV 2)) (.nm 0) iJ iz)) ac))))))
def gv:Fn:=br 5 2 rG
def a6:Sf:=(cy (cR nj (iV 3) (aa (av (bj (aa (iOp aV (iV 4) (aY (aa (iC (.int 0)) ac))) (aa (iOp aV (iV 4) (aY (aa (iC (.int 1)) ac))) ac)))) ac)))
def cb:Sf:=(ah (aD (.nm 3) (bV (bj ac))) (ah (kJ (iV 1) (.nm 4) a6) (aD (.nm 1) (iV 3))))
def cz:Sf:=(ah (aD (.nm 1) (av (bj (aa (aY ac) ac)))) (ah (cV (ca (aa (iOp Az (iC (.int 1)) (iV 0)) ac)) (.nm 2) cb) (aO (iV 1))))
def cF:Fn:=dE 5 1 cz
def qu:Sf:=(bi (dI (aG dNe (iCB cB (aa (ay jF (aa (iV 2) (aa (iV 3) (aa (iV 4) ac)))) ac)) (iCB cB (aa (iCB dH (aa (iV 5) ac)) ac))) (aG dNe (iCB cB (aa (ay nk (aa (iV 2) (aa (iV 3) (aa (iV 4) ac)))) ac)) (iCB cB (aa (iCB aT (aa (iV 5) ac)) ac)))) (aO (iC (.bl false))) aW)
def qv:Sf:=(ah (aD (.tp [7,8]) (ay eV (aa (iV 6) (aa (iV 3) (aa (iV 4) ac))))) (bi (aG dEq (iV 7) (iC (.str "poly"))) (ah (cy (cR de (iV 5) (aa (iV 6) ac))) (bi (dI (dP (cm cJ (ay dB (aa (iV 8) (aa (iV 3) (aa (iV 4) ac)))))) (dP (cm cJ (ay b7 (aa (iV 8) (aa (iV 6) ac)))))) (aO (iC (.bl false))) aW)) (bi (dP (cm cJ (ay cM (aa (iV 6) (aa (iV 3) (aa (iV 4) (aa (iV 8) ac))))))) (aO (iC (.bl false))) aW)))
def BA:Sf:=(ah (cV (aA (ay cF (aa (iV 2) ac))) (.nm 6) qv) (ah (cV (ca (aa (iC (.int 2)) ac)) (.nm 9) qu) (aO (iC (.bl true)))))
def B3:Sf:=(ah (aD (.nm 1) (ay iZ (aa (iV 0) ac))) (ah (sC 2 3 (aa (iOp dIx (av (bj (aa (iC (.int 2)) (aa (iC (.int 2)) (aa (iC (.int 1)) (aa (iC (.int 2)) (aa (iC (.int 0)) ac))))))) (ay aJ (aa (iV 1) (aa (iC (.int 5)) ac)))) (aa (iOp dIx (av (bj (aa (iC (.str "both")) (aa (iC (.str "odd")) ac)))) (ay aJ (aa (iV 1) (aa (iC (.int 2)) ac)))) ac))) (ah (aD (.nm 4) (ay gv (aa (iV 1) (aa (iV 2) ac)))) (ah (aD (.nm 5) (bV (bj ac))) BA))))
def sU:Fn:=dE 10 1 B3
end
end Own
section
set_option maxHeartbeats 0
namespace Own
open PySem L2
def top (i:Nat):Stmt:=PySem.Challenge.pw_signpoly_k70_listed_by_papers.main.body.getD i (.Pass ⟨0,0,0,0⟩)
def Av (s:Stmt):List Stmt:=match s with
 |.ClassDef _ _ _ b _ _ _ _ _ _ _=>b
 |_=>[]
abbrev bS:Stmt:=(Av (top 9)).getD 0 (.Pass ⟨0,0,0,0⟩)
theorem oj:b6 ["self","rows","bounds","gains"] ["self","rows","bounds","gains"] (ak bS):=⟨U,U,U,by decide +kernel,U,by decide +kernel,by decide +kernel⟩
abbrev rT (x:Str) (i:Nat) (N:List Str) (k:Nat):Str×Nat×List Str×Nat:=(x,i,N,k)
def tbl:List (Str×Nat×List Str×Nat):=[rT "power_of_two" 1 ["k","power","step"] 1,rT "on_in" 2 ["row","k"] 2,rT "greatest_part" 3 ["numbers","found","number","rest","over"] 1,rT "lowered" 4 ["numbers","shared"] 1,rT "told_rows" 6 ["f"] 1,rT "sign_at" 7 ["f","row"] 2,rT "least_ratio" 10 ["places","tops","bottoms","least","place","mine","best"] 3,rT "weighed" 11 ["table"] 1,rT "numbers_by" 12 ["table","name","column"] 2,rT "leaving" 13 ["table","column","entries","places","name"] 2,rT "gains_more" 14 ["table","one","other","mine","best","name","numbers","more"] 3,rT "best_step" 15 ["table","best","column","step"] 1,rT "swept" 16 ["line","turning","column","part","pivot","entry","told"] 4,rT "exchange" 17 ["table","place","column","turning","part","lines","name"] 3,rT "way_of" 18 ["table","column","way","place","name"] 2,rT "amounts_of" 19 ["table","amounts","place","name"] 1,rT "prices_of" 20 ["table","prices","column","name"] 1,rT "found_most" 21 ["table","amounts","prices","shared"] 1,rT "most_of" 22 ["rows","bounds","gains","table","step"] 3,rT "value_of" 24 ["kind","term","row","many"] 3,rT "poly_from" 26 ["kind","numbers"] 2,rT "parted" 28 ["poly","number"] 2,rT "shrunk" 29 ["poly"] 1,rT "signed_value" 31 ["f","kind","term","row"] 4,rT "signed_values" 32 ["f","kind","terms"] 3,rT "one_at" 34 ["place","many"] 2,rT "both_ways" 35 ["numbers"] 1,rT "poly_by" 36 ["kind","terms","amounts","numbers","place","term"] 3,rT "weights_by" 37 ["f","numbers","weights","row","number"] 2,rT "split_of" 38 ["f","kind","terms","values","many","earned","limits","most"] 3,rT "solved" 39 ["f","kind","terms","split"] 3,rT "are_first_values" 41 ["values","rows","kind","terms"] 4,rT "listed" 42 ["n","kind","terms","rows","found","row","longer","values","both"] 3,rT "how_many" 43 ["n","kind","terms"] 3,rT "_law_pot" 45 ["_law_script","_law_seed","_law_great","_law_cell"] 1,rT "_law_draw" 46 ["_law_pot_here","_law_many","_law_digit","_law_once","_law_by"] 2,rT "_law_term" 47 ["_law_kind","_law_term_here","_law_row","_law_on"] 3,rT "_law_terms" 48 ["_law_n"] 1,rT "_law_value" 49 ["_law_poly","_law_row"] 2,rT "_law_is_poly" 50 ["_law_thing","_law_kind","_law_terms_here","_law_every","_law_part","_law_places"] 3,rT "_law_right_at" 51 ["_law_poly","_law_f","_law_rows"] 2,rT "_law_is_bar" 52 ["_law_f","_law_kind","_law_terms_here","_law_thing","_law_value_here","_law_weight","_law_rows","_law_term_here"] 4,rT "_law_some" 53 ["_law_pot_here","_law_n","_law_terms_here","_law_way","_law_size"] 2,rT "_law_functions" 54 ["_law_n","_law_found","_law_row","_law_more","_law_some_here"] 1,rT "law" 55 ["_law_script","_law_pot_here","_law_n","_law_kind","_law_terms_here","_law_due","_law_f","_law_word","_law_thing","_law_again"] 1]
def tR (i:Nat):Str×Nat×List Str×Nat:=tbl.getD i ("",0,[],0)
def tN (i:Nat):Str:=(tR i).1
def tS (i:Nat):Stmt:=top (tR i).2.1
def tV (i:Nat):List Str:=(tR i).2.2.1
def tK (i:Nat):Nat:=(tR i).2.2.2
theorem scs:∀ p∈tbl,b6 p.2.2.1 (p.2.2.1.take p.2.2.2) (ak (top p.2.1)):=by
 iterate 45 refine qcU.2 ⟨⟨U,U,U,by decide +kernel,U,by decide +kernel,by decide +kernel⟩,?_⟩
 exact λ_ h=>nomatch h
structure Txt (K:qae) (mg:Str->Option Value):Prop where
 F:∀ p∈tbl,∃ f g,Fun K p.1 p.1 (top p.2.1) f g/\mg p.1=some (.ref f)/\cN K g (p.2.2.1.take p.2.2.2) []
 z:∀ x∈(["abs","all","any","bool","enumerate","int","isinstance","len","list","range","repr","sorted","str","sum","tuple","zip"]:List Str),mg x=none
 c:∃ a f g,mg "Table" = some (.ref a)/\Fun K "__init__" "Table.__init__" bS f g/\cN K g ["self","rows","bounds","gains"] []/\Mk K a f/\Cls K a/\∀ p∈bO,b8 K a p.1
section
variable {P:qaO}{w:World}{K:qae}{mg:Str->Option Value}{base:Heap}
theorem BV {i:Nat} (h:i<45):tR i∈tbl:=by
 unfold tR;rw[qat,qal (show i<tbl.length from h)];exact qbR _
abbrev Bd (P:qaO) (w:World) (K:qae) (mg:Str->Option Value) (base:Heap) (k i:Nat) (b:Sf):Prop:=∀ (f:Addr) (d:Value) (A:qa0) (outer:List Env) (s:qak) (H:Hp) (E:XK),bh k (A.deeper (qjp (tN i) (ak (tS i)) s.heap.objs.size f d))->(eJ CX0 P w K mg base (tV i) (tN i) (ak (tS i)) f d A outer s H E).nox.N=tV i->(eJ CX0 P w K mg base (tV i) (tN i) (ak (tS i)) f d A outer s H E).nox.env.scope.names=(ak (tS i)).names->(tV i).Nodup->ISs K (eJ CX0 P w K mg base (tV i) (tN i) (ak (tS i)) f d A outer s H E).nox (aX (tS i)) b
abbrev Ck (P:qaO) (w:World) (K:qae) (mg:Str->Option Value) (base:Heap) (i j:Nat) (m:Fn):Prop:=Cal P w K mg base (tN i) j m
theorem At {i k:Nat}{b:Sf} (T:Txt K mg) (hi:i<45) (hb:Bd P w K mg base k i b):Ck P w K mg base i (k+1) (br (tV i).length ((tV i).take (tK i)).length b):=by
 obtain⟨f,g,F,m,B⟩:=T.F (tR i) (BV hi);exact Ex F (scs _ (BV hi)) m B (hb f)
theorem Au {i k:Nat}{b:Sf} (T:Txt K mg) (hi:i<45) (hb:Bd P w K mg base k i b):Ck P w K mg base i (k+1) (dE (tV i).length ((tV i).take (tK i)).length b):=by
 obtain⟨f,g,F,m,B⟩:=T.F (tR i) (BV hi);exact Ey F (scs _ (BV hi)) m B (hb f)
theorem l5 {f:Addr}{g:qb0} (T:Txt K mg) (F:Fun K "__init__" "Table.__init__" bS f g):cZ P w K mg base CX0 1 f g ["self","rows","bounds","gains"] (BO K ["self","rows","bounds","gains"].length ["self","rows","bounds","gains"].length bO):=
 EC (N:=["self","rows","bounds","gains"]) (ps:=["self","rows","bounds","gains"]) (k:=0) (g:=bO) F oj (by decide) (λ_ _ _ _ _ _ hr=>(gj U (by first|exact Or.inl U|exact Or.inr (Or.inl U)|exact Or.inr (Or.inr U)) (oG (fz U) U (T.z _ (by decide)) qbl (bm (iv 3) bW U) (by decide) (by decide) U U) (gj U (by first|exact Or.inl U|exact Or.inr (Or.inl U)|exact Or.inr (Or.inr U)) (dc (yE (sO (ak bS).names ["self","rows","bounds","gains"] ["row","bound"] 2 [] U U U (by decide +kernel)) U (by decide) (mO U (T.z _ (by decide)) (bm (iv 1) (bm (iv 2) bW U) U) U U U) (λ_ _ _ _ _=>(mM (eP (fK (i:=0) (show qhs (α:=Str) ["row","bound"] by decide +kernel) U (by first|exact Or.inl U|exact Or.inr U)) (eP (fK (i:=1) (show qhs (α:=Str) ["row","bound"] by decide +kernel) U (by first|exact Or.inl U|exact Or.inr U)) jt)) U U U U U)) (λ_ _ _ _ _=>gY) (λ_ _ _ _ _=>(mL (i6 U) (dc (B8 (gP U) U (T.z _ (by decide)) qaS (bm (iv 0) bW U) (by decide) (by decide) U U)) (dc (j9 (bm (iv 1) bW U))))) (λ_=>rfl))) (gj U (by first|exact Or.inl U|exact Or.inr (Or.inl U)|exact Or.inr (Or.inr U)) (mL (i6 U) (dc (yE (sO (ak bS).names ["self","rows","bounds","gains"] ["gain"] 1 [] U U U (by decide +kernel)) U (by decide) (mN (iv 3) U) (λ_ _ _ _ _=>(jr (fK (i:=0) (show qhs (α:=Str) ["gain"] by decide +kernel) U (by first|exact Or.inl U|exact Or.inr U)))) (λ_ _ _ _ _=>gY) (λ_ _ _ _ _=>(mK (iv 0))) (λ_=>rfl))) (dc (j9 (bm j8 bW U)))) (gj U (by first|exact Or.inl U|exact Or.inr (Or.inl U)|exact Or.inr (Or.inr U)) j8 (gj U (by first|exact Or.inl U|exact Or.inr (Or.inl U)|exact Or.inr (Or.inr U)) (kc (mP U (T.z _ (by decide)) U (T.z _ (by decide)) (bm (oG (fz U) U (T.z _ (by decide)) qbl (bm (iv 3) bW U) (by decide) (by decide) U U) bW U) U U)) (AJ U (by first|exact Or.inl U|exact Or.inr (Or.inl U)|exact Or.inr (Or.inr U)) (kc (mQ U (T.z _ (by decide)) U (T.z _ (by decide)) (bm (oG (fz U) U (T.z _ (by decide)) qbl (bm (iv 3) bW U) (by decide) (by decide) U U) (bm (mL (i6 U) (oG (fz U) U (T.z _ (by decide)) qbl (bm (iv 3) bW U) (by decide) (by decide) U U) (oG (fz U) U (T.z _ (by decide)) qbl (bm (iv 1) bW U) (by decide) (by decide) U U)) bW U) U) U U U)) U U) (by intro z;cases z) U U) (by intro z;cases z) U U) (by intro z;cases z) U U) (by intro z;cases z) U U) (by intro z;cases z) U U))
theorem scL:b6 ["_law_script","_law_pot_here","_law_n","_law_kind","_law_terms_here","_law_due","_law_f","_law_word","_law_thing","_law_again"] ["_law_script"] (ak (top 55)):=scs (rT "law" 55 ["_law_script","_law_pot_here","_law_n","_law_kind","_law_terms_here","_law_due","_law_f","_law_word","_law_thing","_law_again"] 1) (by decide +kernel)
theorem Dl (T:Txt K mg):Ck P w K mg base 0 1 cq/\Ck P w K mg base 1 2 qB/\Ck P w K mg base 2 1 bg/\Ck P w K mg base 3 2 cG/\Ck P w K mg base 4 1 bN/\Ck P w K mg base 5 1 eU/\Ck P w K mg base 6 1 eD/\Ck P w K mg base 7 1 di/\Ck P w K mg base 8 1 cp/\Ck P w K mg base 9 2 gZ/\Ck P w K mg base 10 2 bQ/\Ck P w K mg base 11 3 bD/\Ck P w K mg base 12 1 jH:=by
 obtain⟨a,C,M,c1,c2,c3,I,u,G⟩:=T.c;have S:=l5 (P:=P) (w:=w) (base:=base) T c2
 repeat' first
  |assumption
  |exact rfl
  |decide
  |exact Or.inl rfl
  |exact Or.inr rfl
  |exact Or.inr (Or.inl rfl)
  |exact Or.inr (Or.inr rfl)
  |apply lP
  |apply lQ
  |apply gX
  |apply jy
  |apply mP
  |apply mQ
  |apply bW
  |apply bm
  |apply j8
  |apply iv
  |apply mL
  |apply qi
  |(apply qhv;apply gk;(case hsw=>exact U);(case hns=>assumption);(case hN=>assumption);(case h=>decide +kernel))
  |(apply qgR;apply gk;(case hsw=>exact U);(case hns=>assumption);(case hN=>assumption);(case h=>decide +kernel))
  |apply qj
  |apply vK
  |apply vJ
  |apply lx
  |apply qo
  |apply vR
  |apply pX
  |(apply pY;(case hns=>assumption);(case hN=>assumption);(case h=>decide +kernel))
  |apply lD
  |apply lC
  |apply mO
  |apply mN
  |apply pU
  |apply vG
  |apply pW
  |apply gY
  |apply lR
  |apply mV
  |apply jw
  |apply vS
  |apply lT
  |apply qr
  |apply jz
  |apply lS
  |apply qp
  |apply mK
  |apply vI
  |apply pQ
  |apply j9
  |apply vO
  |apply lN
  |apply jx
  |apply lH
  |apply lG
  |apply jv
  |apply lF
  |apply lE
  |(apply lO;(case hns=>assumption);(case hN=>assumption);(case h=>decide +kernel))
  |apply jq (N:=["self","rows","bounds","gains"]) (ps:=["self","rows","bounds","gains"])
  |refine jp rfl (by assumption) (by assumption) ?_ ?_ ?_ ?_ ?_ ?_
  |refine gT rfl (by assumption) (by assumption) ?_ ?_ ?_ ?_ ?_ ?_
  |refine vH (by with_reducible first|exact qbg|exact qbf|exact qbe|exact qa9|exact qbd|exact qaV|exact qaS|exact qa8|exact qaZ|exact qbc|exact qbb|exact qa5|exact qbl) ?_ ?_ ?_ ?_ ?_ ?_ ?_ ?_ ?_
  |refine vN (by with_reducible first|exact qbg|exact qbf|exact qbe|exact qa9|exact qbd|exact qaV|exact qaS|exact qa8|exact qaZ|exact qbc|exact qbb|exact qa5|exact qbl) ?_ ?_ ?_ ?_ ?_ ?_ ?_ ?_ ?_
  |apply gR
  |apply ly
  |apply pR
  |apply lz
  |apply pS
  |apply pT
  |apply lA
  |apply lB
  |apply pV
  |refine vL ?_ ?_ (by with_reducible first|exact qbg|exact qbf|exact qbe|exact qa9|exact qbd|exact qaV|exact qaS|exact qa8|exact qaZ|exact qbc|exact qbb|exact qa5|exact qbl) ?_ ?_
  |apply ju
  |apply qh
  |apply lI
  |refine lJ (λ_ h=>qS U (by assumption) U U (by decide) U U h U) ?_
  |apply lK
  |apply lM
  |apply gW
  |apply dc
  |apply kc
  |apply qq
  |exact T.z _ (by decide)
  |exact qd9
  |exact nomark _
  |exact λ_=>rfl
  |with_reducible first|apply i6|apply qE|apply wa|apply lY|apply qF|apply wb|apply wc|apply wd|apply qG|apply we|apply wf|apply qH|apply qI|apply wg|apply jN|apply lZ|apply qJ|apply qK|apply qL|apply qM|apply qN|apply pi|apply pj|apply pk|apply pq|apply pv|apply fz|apply jj|apply pw|apply pB|apply gP|apply jk
  |apply fK
  |apply jt
  |apply eP
  |apply jr
  |apply mM
  |apply ad
  |(apply At T;(case hi=>decide);unfold Bd;(conv in (occs:=*) tV _=>whnf);(conv in (occs:=*) ak _=>whnf);(conv in aX _=>whnf);intros)
  |(apply Au T;(case hi=>decide);unfold Bd;(conv in (occs:=*) tV _=>whnf);(conv in (occs:=*) ak _=>whnf);(conv in aX _=>whnf);intros)
  |(refine vB (by assumption) scL ?_;(conv in aX _=>whnf);intros)
  |intro
theorem E7 (T:Txt K mg):Ck P w K mg base 13 2 dC/\Ck P w K mg base 14 3 jI/\Ck P w K mg base 15 1 fG/\Ck P w K mg base 16 1 gy/\Ck P w K mg base 17 2 fH/\Ck P w K mg base 18 4 g9/\Ck P w K mg base 19 3 i5/\Ck P w K mg base 20 1 gx/\Ck P w K mg base 21 1 nq/\Ck P w K mg base 22 2 nr/\Ck P w K mg base 23 4 cr/\Ck P w K mg base 24 5 cW/\Ck P w K mg base 25 1 jG:=by
 obtain⟨h0,Y,h2,h3,h4,h5,W,h7,X,h9,n,e,l⟩:=Dl (P:=P) (w:=w) (base:=base) T;obtain⟨a,C,M,c1,c2,c3,I,u,G⟩:=T.c;have S:=l5 (P:=P) (w:=w) (base:=base) T c2
 repeat' first
  |assumption
  |exact rfl
  |decide
  |exact Or.inl rfl
  |exact Or.inr rfl
  |exact Or.inr (Or.inl rfl)
  |exact Or.inr (Or.inr rfl)
  |apply lP
  |apply lQ
  |apply gX
  |apply jy
  |apply mP
  |apply mQ
  |apply bW
  |apply bm
  |apply j8
  |apply iv
  |apply mL
  |apply qi
  |(apply qhv;apply gk;(case hsw=>exact U);(case hns=>assumption);(case hN=>assumption);(case h=>decide +kernel))
  |(apply qgR;apply gk;(case hsw=>exact U);(case hns=>assumption);(case hN=>assumption);(case h=>decide +kernel))
  |apply qj
  |apply vK
  |apply vJ
  |apply lx
  |apply qo
  |apply vR
  |apply pX
  |(apply pY;(case hns=>assumption);(case hN=>assumption);(case h=>decide +kernel))
  |apply lD
  |apply lC
  |apply mO
  |apply mN
  |apply pU
  |apply vG
  |apply pW
  |apply gY
  |apply lR
  |apply mV
  |apply jw
  |apply vS
  |apply lT
  |apply qr
  |apply jz
  |apply lS
  |apply qp
  |apply mK
  |apply vI
  |apply pQ
  |apply j9
  |apply vO
  |apply lN
  |apply jx
  |apply lH
  |apply lG
  |apply jv
  |apply lF
  |apply lE
  |(apply lO;(case hns=>assumption);(case hN=>assumption);(case h=>decide +kernel))
  |apply jq (N:=["self","rows","bounds","gains"]) (ps:=["self","rows","bounds","gains"])
  |refine jp rfl (by assumption) (by assumption) ?_ ?_ ?_ ?_ ?_ ?_
  |refine gT rfl (by assumption) (by assumption) ?_ ?_ ?_ ?_ ?_ ?_
  |refine vH (by with_reducible first|exact qbg|exact qbf|exact qbe|exact qa9|exact qbd|exact qaV|exact qaS|exact qa8|exact qaZ|exact qbc|exact qbb|exact qa5|exact qbl) ?_ ?_ ?_ ?_ ?_ ?_ ?_ ?_ ?_
  |refine vN (by with_reducible first|exact qbg|exact qbf|exact qbe|exact qa9|exact qbd|exact qaV|exact qaS|exact qa8|exact qaZ|exact qbc|exact qbb|exact qa5|exact qbl) ?_ ?_ ?_ ?_ ?_ ?_ ?_ ?_ ?_
  |apply gR
  |apply ly
  |apply pR
  |apply lz
  |apply pS
  |apply pT
  |apply lA
  |apply lB
  |apply pV
  |refine vL ?_ ?_ (by with_reducible first|exact qbg|exact qbf|exact qbe|exact qa9|exact qbd|exact qaV|exact qaS|exact qa8|exact qaZ|exact qbc|exact qbb|exact qa5|exact qbl) ?_ ?_
  |apply ju
  |apply qh
  |apply lI
  |refine lJ (λ_ h=>qS U (by assumption) U U (by decide) U U h U) ?_
  |apply lK
  |apply lM
  |apply gW
  |apply dc
  |apply kc
  |apply qq
  |exact T.z _ (by decide)
  |exact qd9
  |exact nomark _
  |exact λ_=>rfl
  |with_reducible first|apply i6|apply qE|apply wa|apply lY|apply qF|apply wb|apply wc|apply wd|apply qG|apply we|apply wf|apply qH|apply qI|apply wg|apply jN|apply lZ|apply qJ|apply qK|apply qL|apply qM|apply qN|apply pi|apply pj|apply pk|apply pq|apply pv|apply fz|apply jj|apply pw|apply pB|apply gP|apply jk
  |apply fK
  |apply jt
  |apply eP
  |apply jr
  |apply mM
  |apply ad
  |(apply At T;(case hi=>decide);unfold Bd;(conv in (occs:=*) tV _=>whnf);(conv in (occs:=*) ak _=>whnf);(conv in aX _=>whnf);intros)
  |(apply Au T;(case hi=>decide);unfold Bd;(conv in (occs:=*) tV _=>whnf);(conv in (occs:=*) ak _=>whnf);(conv in aX _=>whnf);intros)
  |(refine vB (by assumption) scL ?_;(conv in aX _=>whnf);intros)
  |intro
theorem Gj (T:Txt K mg):Ck P w K mg base 26 1 gw/\Ck P w K mg base 27 3 hJ/\Ck P w K mg base 28 2 df/\Ck P w K mg base 29 6 i4/\Ck P w K mg base 30 7 eV/\Ck P w K mg base 31 8 cf/\Ck P w K mg base 32 9 jF/\Ck P w K mg base 33 10 nk/\Ck P w K mg base 34 1 iZ/\Ck P w K mg base 35 1 aJ/\Ck P w K mg base 36 1 dX/\Ck P w K mg base 37 1 cn/\Ck P w K mg base 38 2 fF:=by
 obtain⟨h0,Y,h2,h3,h4,h5,W,h7,X,h9,n,e,l⟩:=Dl (P:=P) (w:=w) (base:=base) T;obtain⟨o,q,Q,D,t,O,r,J,L,R,v,V,y⟩:=E7 (P:=P) (w:=w) (base:=base) T;obtain⟨a,C,M,c1,c2,c3,I,u,G⟩:=T.c;have S:=l5 (P:=P) (w:=w) (base:=base) T c2
 repeat' first
  |assumption
  |exact rfl
  |decide
  |exact Or.inl rfl
  |exact Or.inr rfl
  |exact Or.inr (Or.inl rfl)
  |exact Or.inr (Or.inr rfl)
  |apply lP
  |apply lQ
  |apply gX
  |apply jy
  |apply mP
  |apply mQ
  |apply bW
  |apply bm
  |apply j8
  |apply iv
  |apply mL
  |apply qi
  |(apply qhv;apply gk;(case hsw=>exact U);(case hns=>assumption);(case hN=>assumption);(case h=>decide +kernel))
  |(apply qgR;apply gk;(case hsw=>exact U);(case hns=>assumption);(case hN=>assumption);(case h=>decide +kernel))
  |apply qj
  |apply vK
  |apply vJ
  |apply lx
  |apply qo
  |apply vR
  |apply pX
  |(apply pY;(case hns=>assumption);(case hN=>assumption);(case h=>decide +kernel))
  |apply lD
  |apply lC
  |apply mO
  |apply mN
  |apply pU
  |apply vG
  |apply pW
  |apply gY
  |apply lR
  |apply mV
  |apply jw
  |apply vS
  |apply lT
  |apply qr
  |apply jz
  |apply lS
  |apply qp
  |apply mK
  |apply vI
  |apply pQ
  |apply j9
  |apply vO
  |apply lN
  |apply jx
  |apply lH
  |apply lG
  |apply jv
  |apply lF
  |apply lE
  |(apply lO;(case hns=>assumption);(case hN=>assumption);(case h=>decide +kernel))
  |apply jq (N:=["self","rows","bounds","gains"]) (ps:=["self","rows","bounds","gains"])
  |refine jp rfl (by assumption) (by assumption) ?_ ?_ ?_ ?_ ?_ ?_
  |refine gT rfl (by assumption) (by assumption) ?_ ?_ ?_ ?_ ?_ ?_
  |refine vH (by with_reducible first|exact qbg|exact qbf|exact qbe|exact qa9|exact qbd|exact qaV|exact qaS|exact qa8|exact qaZ|exact qbc|exact qbb|exact qa5|exact qbl) ?_ ?_ ?_ ?_ ?_ ?_ ?_ ?_ ?_
  |refine vN (by with_reducible first|exact qbg|exact qbf|exact qbe|exact qa9|exact qbd|exact qaV|exact qaS|exact qa8|exact qaZ|exact qbc|exact qbb|exact qa5|exact qbl) ?_ ?_ ?_ ?_ ?_ ?_ ?_ ?_ ?_
  |apply gR
  |apply ly
  |apply pR
  |apply lz
  |apply pS
  |apply pT
  |apply lA
  |apply lB
  |apply pV
  |refine vL ?_ ?_ (by with_reducible first|exact qbg|exact qbf|exact qbe|exact qa9|exact qbd|exact qaV|exact qaS|exact qa8|exact qaZ|exact qbc|exact qbb|exact qa5|exact qbl) ?_ ?_
  |apply ju
  |apply qh
  |apply lI
  |refine lJ (λ_ h=>qS U (by assumption) U U (by decide) U U h U) ?_
  |apply lK
  |apply lM
  |apply gW
  |apply dc
  |apply kc
  |apply qq
  |exact T.z _ (by decide)
  |exact qd9
  |exact nomark _
  |exact λ_=>rfl
  |with_reducible first|apply i6|apply qE|apply wa|apply lY|apply qF|apply wb|apply wc|apply wd|apply qG|apply we|apply wf|apply qH|apply qI|apply wg|apply jN|apply lZ|apply qJ|apply qK|apply qL|apply qM|apply qN|apply pi|apply pj|apply pk|apply pq|apply pv|apply fz|apply jj|apply pw|apply pB|apply gP|apply jk
  |apply fK
  |apply jt
  |apply eP
  |apply jr
  |apply mM
  |apply ad
  |(apply At T;(case hi=>decide);unfold Bd;(conv in (occs:=*) tV _=>whnf);(conv in (occs:=*) ak _=>whnf);(conv in aX _=>whnf);intros)
  |(apply Au T;(case hi=>decide);unfold Bd;(conv in (occs:=*) tV _=>whnf);(conv in (occs:=*) ak _=>whnf);(conv in aX _=>whnf);intros)
  |(refine vB (by assumption) scL ?_;(conv in aX _=>whnf);intros)
  |intro
theorem Gk (T:Txt K mg):Ck P w K mg base 39 1 dB/\Ck P w K mg base 40 3 b7/\Ck P w K mg base 41 2 cM/\Ck P w K mg base 42 2 gv/\Ck P w K mg base 43 1 cF/\∀ f g,Fun K "law" "law" (top 55) f g->cZ P w K mg base CX0 11 f g ["_law_script"] (spI K sU):=by
 obtain⟨h0,Y,h2,h3,h4,h5,W,h7,X,h9,n,e,l⟩:=Dl (P:=P) (w:=w) (base:=base) T;obtain⟨o,q,Q,D,t,O,r,J,L,R,v,V,y⟩:=E7 (P:=P) (w:=w) (base:=base) T;obtain⟨h26,h27,h28,h29,h30,h31,h32,h33,h34,h35,h36,h37,h38⟩:=Gj (P:=P) (w:=w) (base:=base) T;obtain⟨a,C,M,c1,c2,c3,I,u,G⟩:=T.c;have S:=l5 (P:=P) (w:=w) (base:=base) T c2
 repeat' first
  |assumption
  |exact rfl
  |decide
  |exact Or.inl rfl
  |exact Or.inr rfl
  |exact Or.inr (Or.inl rfl)
  |exact Or.inr (Or.inr rfl)
  |apply lP
  |apply lQ
  |apply gX
  |apply jy
  |apply mP
  |apply mQ
  |apply bW
  |apply bm
  |apply j8
  |apply iv
  |apply mL
  |apply qi
  |(apply qhv;apply gk;(case hsw=>exact U);(case hns=>assumption);(case hN=>assumption);(case h=>decide +kernel))
  |(apply qgR;apply gk;(case hsw=>exact U);(case hns=>assumption);(case hN=>assumption);(case h=>decide +kernel))
  |apply qj
  |apply vK
  |apply vJ
  |apply lx
  |apply qo
  |apply vR
  |apply pX
  |(apply pY;(case hns=>assumption);(case hN=>assumption);(case h=>decide +kernel))
  |apply lD
  |apply lC
  |apply mO
  |apply mN
  |apply pU
  |apply vG
  |apply pW
  |apply gY
  |apply lR
  |apply mV
  |apply jw
  |apply vS
  |apply lT
  |apply qr
  |apply jz
  |apply lS
  |apply qp
  |apply mK
  |apply vI
  |apply pQ
  |apply j9
  |apply vO
  |apply lN
  |apply jx
  |apply lH
  |apply lG
  |apply jv
  |apply lF
  |apply lE
  |(apply lO;(case hns=>assumption);(case hN=>assumption);(case h=>decide +kernel))
  |apply jq (N:=["self","rows","bounds","gains"]) (ps:=["self","rows","bounds","gains"])
  |refine jp rfl (by assumption) (by assumption) ?_ ?_ ?_ ?_ ?_ ?_
  |refine gT rfl (by assumption) (by assumption) ?_ ?_ ?_ ?_ ?_ ?_
  |refine vH (by with_reducible first|exact qbg|exact qbf|exact qbe|exact qa9|exact qbd|exact qaV|exact qaS|exact qa8|exact qaZ|exact qbc|exact qbb|exact qa5|exact qbl) ?_ ?_ ?_ ?_ ?_ ?_ ?_ ?_ ?_
  |refine vN (by with_reducible first|exact qbg|exact qbf|exact qbe|exact qa9|exact qbd|exact qaV|exact qaS|exact qa8|exact qaZ|exact qbc|exact qbb|exact qa5|exact qbl) ?_ ?_ ?_ ?_ ?_ ?_ ?_ ?_ ?_
  |apply gR
  |apply ly
  |apply pR
  |apply lz
  |apply pS
  |apply pT
  |apply lA
  |apply lB
  |apply pV
  |refine vL ?_ ?_ (by with_reducible first|exact qbg|exact qbf|exact qbe|exact qa9|exact qbd|exact qaV|exact qaS|exact qa8|exact qaZ|exact qbc|exact qbb|exact qa5|exact qbl) ?_ ?_
  |apply ju
  |apply qh
  |apply lI
  |refine lJ (λ_ h=>qS U (by assumption) U U (by decide) U U h U) ?_
  |apply lK
  |apply lM
  |apply gW
  |apply dc
  |apply kc
  |apply qq
  |exact T.z _ (by decide)
  |exact qd9
  |exact nomark _
  |exact λ_=>rfl
  |with_reducible first|apply i6|apply qE|apply wa|apply lY|apply qF|apply wb|apply wc|apply wd|apply qG|apply we|apply wf|apply qH|apply qI|apply wg|apply jN|apply lZ|apply qJ|apply qK|apply qL|apply qM|apply qN|apply pi|apply pj|apply pk|apply pq|apply pv|apply fz|apply jj|apply pw|apply pB|apply gP|apply jk
  |apply fK
  |apply jt
  |apply eP
  |apply jr
  |apply mM
  |apply ad
  |(apply At T;(case hi=>decide);unfold Bd;(conv in (occs:=*) tV _=>whnf);(conv in (occs:=*) ak _=>whnf);(conv in aX _=>whnf);intros)
  |(apply Au T;(case hi=>decide);unfold Bd;(conv in (occs:=*) tV _=>whnf);(conv in (occs:=*) ak _=>whnf);(conv in aX _=>whnf);intros)
  |(refine vB (by assumption) scL ?_;(conv in aX _=>whnf);intros)
  |intro
end
end Own
end
namespace L2
open PySem
def lh:Nat->List (List Int)
 |0=>[[]]
 |n+1=>lh n++(lh n).map λt=>t++[(n:Int)]
def bU (n:Nat):List (List Int):=aE (lh n)
theorem sv:∀ n,(lh n).length=2^n
 |0=>rfl
 |n+1=>by rw[lh,qaw,qaf,sv n];lia
theorem rE (n:Nat):(bU n).length=2^n:=by rw[bU,(aI _).length_eq,sv]
def Trm (n:Nat) (t:List Int):Prop:=t.Pairwise (·<·)/\∀ k∈t,0<=k/\k<n
theorem Trm.mono {n m:Nat}{t:List Int} (h:Trm n t) (hn:n<=m):Trm m t:=⟨h.1,λk a=>⟨(h.2 k a).1,by have:=(h.2 k a).2;lia⟩⟩
theorem gh:∀ (n:Nat) {t:List Int},t∈lh n->Trm n t
 |0,t,h=>by
  rw[lh,qam]at h;subst h;exact⟨List.Pairwise.nil,λk c=>by cases c⟩
 |n+1,t,h=>by
  rcases qaQ.mp h with h|h
  ·exact (gh n h).mono (qcF n)
  ·obtain⟨u,d,rfl⟩:=qaM.mp h
   have:=gh n d
   refine⟨List.pairwise_append.mpr ⟨this.1,qgk _ _,λa e b hb=>?_⟩,λk c=>?_⟩
   ·rw[qam.mp hb];exact (this.2 a e).2
   ·rcases qaQ.mp c with c|c
    ·exact⟨(this.2 k c).1,by have:=(this.2 k c).2;lia⟩
    ·rw[qam.mp c];lia
theorem wF {n:Nat}{t:List Int} (h:Trm n t):t.length<=n:=by
 have b:∀ (t:List Int) (a:Int),t.Pairwise (·<·)->(∀ k∈t,a<=k/\k<n)->(t.length)<=max 0 ((n) - a):=by
  intro t
  induction t with
  |nil=>intro a _ _;simp;lia
  |cons x t e=>
   intro a c hm;have f:=hm x qag
   have:=e _ (qa4.mp c).2 λk d=>⟨(qa4.mp c).1 k d,(hm k (qah _ d)).2⟩
   rw[qaq];lia
 have:=b t 0 h.1 h.2
 lia
def onI (row k:Int):Int:=row / 2^k.toNat%2
def ek (row:Int):List Int->Int
 |[]=>0
 |k::t=>onI row k+ek row t
theorem Cd (row k:Int):onI row k=0\/onI row k=1:=by unfold onI;lia
theorem rR (row:Int):∀ t:List Int,(t.map (onI row)).sum=ek row t
 |[]=>rfl
 |k::t=>by rw[qau,qcb,rR row t];rfl
theorem Aw (row:Int):∀ t:List Int,0<=ek row t/\ek row t<=t.length
 |[]=>by simp[ek]
 |k::t=>by
  have a:=Aw row t;rcases Cd row k with e|e<;>(simp only[ek,e,qaq];lia)
def rA (u:D):Prop:=u=.non\/u=.int 0\/u=.int 1
def bA:Nat->List D->List Int
 |_,[]=>[]
 |i,.non::r=>bA (i+1) r
 |i,_::r=>(i:Int)::bA (i+1) r
def sgD:D->Int
 |.int v=>if v=1 then 1 else -1
 |_=>1
theorem kA:∀ (r:List D) (i:Nat) {j:Int},j∈bA i r->∃ m:Nat,j=((i+m:Nat):Int)/\m<r.length/\r[m]?≠some .non
 |[],i,j,h=>by cases h
 |d::r,i,j,h=>by
  have up:j∈bA _ r->∃ m:Nat,j=((i+m))/\m<(d::r).length/\(d::r)[m]?≠some .non:=λh=>by
   obtain⟨m,e,hm,hn⟩:=kA r (i+1) h;exact⟨m+1,by lia,by simpa using hm,by simpa using hn⟩
  cases d with
  |non=>exact up h
  |_=>
   rcases qaz.mp h with rfl|h
   ·exact⟨0,by simp,by simp,by simp⟩
   ·exact up h
def BF:D->Bool
 |.tup [_,v]=>!dQ v
 |_=>false
def DT:D->D
 |.tup [j,_]=>j
 |d=>d
theorem nU:∀ (r:List D) (i:Nat),((bF i r).filter BF).map DT=(bA i r).map D.int
 |[],i=>rfl
 |d::r,i=>by
  have a:=nU r (i+1);have e0:bF i (d::r)=.tup [.int _,d]::bF _ r:=rfl;rw[e0,qbI];cases d<;>first
   |(exact a)
   |(rw[iFP (show BF _=true from rfl),qau,a];rfl)
theorem oR:∀ (r:List D) (i:Nat),(bA i r).length<=r.length
 |[],i=>qao _
 |d::r,i=>by
  have a:=oR r (i+1);cases d<;>first
   |(show (bA _ r).length<=r.length+1;lia)
   |(show (bA _ r).length+1<=r.length+1;lia)
abbrev Prt:=List Int×Int
def cu (p:Prt):D:=.tup [ag p.1,.int p.2]
def bT (kd:Str) (ps:List Prt):D:=.tup [.str kd,.tup (ps.map cu)]
def cP:Nat->List Int->Nat
 |g,[]=>g
 |g,n::ns=>cP (qf0 g n.natAbs) ns
theorem su (n:Int):∀ (g:Nat) (ns:List Int),cP g (ns++[n])=qf0 (cP g ns) n.natAbs
 |g,[]=>rfl
 |g,m::ns=>su n _ ns
theorem cQ:∀ (g:Nat) (ns:List Int),cP g ns∣g/\∀ n∈ns,cP g ns∣n.natAbs
 |g,[]=>⟨Nat.dvd_refl _,λ_ h=>by cases h⟩
 |g,m::ns=>by
  have a:=cQ (qf0 g m.natAbs) ns;refine⟨qiz a.1 (Nat.gcd_dvd_left _ _),λn hn=>?_⟩;rcases qaz.mp hn with rfl|hn
  ·exact qiz a.1 (Nat.gcd_dvd_right _ _)
  ·exact a.2 n hn
theorem yw {ns:List Int}{n:Int} (hn:n∈ns) (b:n≠0):0<cP 0 ns/\cP 0 ns<=n.natAbs:=by
 have h:=(cQ 0 ns).2 n hn;have a:0<n.natAbs:=by lia
 exact⟨Nat.pos_of_dvd_of_pos h a,Nat.le_of_dvd a h⟩
theorem ae {g:Sto->W->W->Option D}{a b:Ef}{env:Ev}{st s1 c:Sto}{x y:W}{d:D} (e:a env st=some (x,s1)) (hb:b env s1=some (y,c)) (hg:g c x y=some d):iOp g a b env st=some (.d d,c):=by
 simp only[iOp,e,hb,hg,qaa,qan]
theorem ap {g:Sto->W->W->Option D}{a b:Ef}{env:Ev}{st s1 c:Sto}{x y:W}{k:Bool} (d:a env st=some (x,s1)) (hb:b env s1=some (y,c)) (hg:g c x y=some (.bl k)):aG g a b env st=some (k,c):=by
 simp only[aG,d,hb,hg,qaa,wU,qan]
theorem l8 {a b:Sf}{env e:Ev}{st s:Sto}{r:Fl} (c:a env st=some (.nx e s)) (hb:b e s=some r):ah a b env st=some r:=by
 simp only[ah,c,hb,qaa]
theorem wv {a b:Sf}{env:Ev}{st s:Sto}{w:W} (c:a env st=some (.rt w s)):ah a b env st=some (.rt w s):=by
 simp only[ah,c,qaa]
theorem ao {i:Nat}{f:Ef}{env:Ev}{st s:Sto}{w:W} (h:f env st=some (w,s)):aD (.nm i) f env st=some (.nx (env.set i (some w)) s):=by
 simp only[aD,h,qaa,cw,qan]
theorem aj {m:Fn}{a:Af}{env:Ev}{st s:Sto}{ws:List W}{r:W×Sto} (b:a env st=some (ws,s)) (hm:m ws s=some r):ay m a env st=some r:=by
 simp only[ay,b,hm,qaa]
theorem az {g:Sto->List W->Option D}{a:Af}{env:Ev}{st s:Sto}{ws:List W}{d:D} (b:a env st=some (ws,s)) (hm:g s ws=some d):iCB g a env st=some (.d d,s):=by
 simp only[iCB,b,hm,qaa,qan]
theorem ab {a:Ef}{b:Af}{env:Ev}{st s1 c:Sto}{x:W}{y:List W} (d:a env st=some (x,s1)) (hb:b env s1=some (y,c)):aa a b env st=some (x::y,c):=by
 simp only[aa,d,hb,qaa,qan]
theorem a7 {a:Lf}{g:Tg}{b:Sf}{env:Ev}{st s:Sto}{ds:List D}{r:Fl} (h:a env st=some (ds,s)) (c:b4 g b ds env s=some r):cV a g b env st=some r:=by
 simp only[cV,h,c,qaa]
theorem aC {f:Ef}{env:Ev}{st s:Sto}{w:W} (h:f env st=some (w,s)):aO f env st=some (.rt w s):=by
 simp only[aO,h,qan]
theorem Cp {c:Tf}{a b:Sf}{env:Ev}{st s:Sto}{r:Option Fl} (h:c env st=some (true,s)) (d:a env s=r):bi c a b env st=r:=by
 simp only[bi,h,qaa,if_true,d]
theorem Co {c:Tf}{a b:Sf}{env:Ev}{st s:Sto}{r:Option Fl} (h:c env st=some (false,s)) (hb:b env s=r):bi c a b env st=r:=by
 simp only[bi,h,qaa,qbq,if_false,hb]
theorem aM {k:Nat}{js:List Nat}{b:Lf}{g:Tg}{tt:Tf}{te:Ef}{env:Ev}{st s a:Sto}{ds c:List D} (h:b env st=some (ds,s)) (d:ds.length<=1000000) (e:lcI g tt te (uo k js env) ds s=some (c,a)):iLc k js b g tt te env st=some (c,a):=by
 simp only[iLc,h,e,d,qaa,if_true]
theorem aq {a:Lf}{env:Ev}{st s:Sto}{ds:List D} (h:a env st=some (ds,s)):av a env st=some (.d (.lst ds),s):=by
 simp only[av,h,qan]
theorem ar {n k:Nat}{b:Sf}{ws:List W}{st s:Sto}{w:W} (a:ws.length=k) (h:b (ws.map some++qaD (n - k) none) st=some (.rt w s)):br n k b ws st=some (w,s):=by
 simp only[br,a,if_true,h,qaa]
theorem gC {n k:Nat}{b:Sf}{ws:List W}{st s:Sto}{x:D} (a:ws.length=k) (h:b (ws.map some++qaD (n - k) none) st=some (.rt (.d x) s)):dE n k b ws st=some (.d x,s.take st.length):=by
 simp only[dE,a,if_true,h,qaa,xg]
structure Spo where
 xs:List Int
 s:Int
 c:Int
def spo (p:Spo) (a:Sto):Sto:=.l (p.xs.map D.int)::.n [.h 0,.d (.int p.s),.d (.int p.c)]::a
def okP (p:Spo) (Zq:Int):Prop:=(∀ x∈p.xs,0<=x)/\p.xs.length<=63/\0<=p.c/\p.c<=Zq
theorem okP.mono {p:Spo}{Zq Z':Int} (h:okP p Zq) (hz:Zq<=Z'):okP p Z':=⟨h.1,h.2.1,h.2.2.1,qeA h.2.2.2 hz⟩
theorem B9 (n:Nat):ixN (n+1) 0=some 0:=Gf n
end L2
namespace Sx
abbrev Vec:=Nat->Int
def sumN:Nat->(Nat->Int)->Int
 |0,_=>0
 |n+1,f=>sumN n f+f n
theorem sumN_congr {n:Nat}{f g:Nat->Int} (h:∀ k,k<n->f k=g k):sumN n f=sumN n g:=by
 induction n with
 |zero=>rfl
 |succ n F=>rw[sumN,sumN,F λk H=>h k (by omega),h n (by omega)]
theorem sumN_add (n:Nat) (f g:Nat->Int):sumN n (λk=>f k+g k)=sumN n f+sumN n g:=by
 induction n with
 |zero=>rfl
 |succ n F=>rw[sumN,sumN,sumN];omega
theorem sumN_mul (n:Nat) (c:Int) (f:Nat->Int):sumN n (λk=>c*f k)=c*sumN n f:=by
 induction n with
 |zero=>simp[sumN]
 |succ n F=>rw[sumN,sumN,F,qcl]
theorem sumN_zero (n:Nat):sumN n (λ_=>0)=0:=by
 induction n with
 |zero=>rfl
 |succ n F=>rw[sumN,F];rfl
theorem sumN_single {n i:Nat} (hi:i<n) {f:Nat->Int} (h:∀ k,k<n->k≠i->f k=0):sumN n f=f i:=by
 induction n with
 |zero=>omega
 |succ n F=>
  rw[sumN];by_cases e:i=n
  ·subst e
   rw[sumN_congr λk H=>h k (by omega) (by omega),sumN_zero];omega
  ·rw[F (by omega) λk H s=>h k (by omega) s,h n (by omega) (by omega)];omega
theorem sumN_pair {n i j:Nat} (hi:i<n) (O:j<n) (hij:i≠j) {f:Nat->Int} (h:∀ k,k<n->k≠i->k≠j->f k=0):sumN n f=f i+f j:=by
 have e:sumN n f=sumN n (λk=>(if k=i then f i else 0)+(if k=j then f j else 0)):=by
  refine sumN_congr λk H=>?_;by_cases J:k=i
  ·subst J;omega
  ·by_cases L:k=j
   ·subst L;omega
   ·rw[iFN J,iFN L,h k H J L];rfl
 rw[e,sumN_add,sumN_single hi λk _ s=>iFN s,sumN_single O λk _ s=>iFN s,iFP U,iFP U]
def skip (k j:Nat):Nat:=if j<k then j else j+1
def sg (k:Nat):Int:=if k%2=0 then 1 else -1
theorem sg_succ (k:Nat):sg (k+1)=- sg k:=by
 unfold sg;by_cases h:k%2=0
 ·rw[iFP h,iFN (by omega)]
 ·rw[iFN h,iFP (by omega)];rfl
def det:Nat->(Nat->Vec)->Int
 |0,_=>1
 |m+1,C=>sumN (m+1) λk=>sg k*C k 0*det m (λj t=>C (skip k j) (t+1))
theorem det_congr:∀ (m:Nat) {C E:Nat->Vec},(∀ k t,k<m->t<m->C k t=E k t)->det m C=det m E:=by
 intro m
 induction m with
 |zero=>intros;rfl
 |succ m F=>
  intro C E h;refine sumN_congr λk H=>?_;rw[h k 0 H (by omega),F λj t O ht=>h _ _ (by unfold skip;split<;>omega) (by omega)]
def upd (C:Nat->Vec) (i:Nat) (v:Vec):Nat->Vec:=λj=>if j=i then v else C j
theorem upd_same (C:Nat->Vec) (i:Nat) (v:Vec):upd C i v i=v:=iFP U
theorem upd_ne {C:Nat->Vec}{i j:Nat}{v:Vec} (h:j≠i):upd C i v j=C j:=iFN h
theorem upd_self (C:Nat->Vec) (i:Nat):upd C i (C i)=C:=by
 funext j
 by_cases h:j=i
 ·rw[h,upd_same]
 ·rw[upd_ne h]
theorem upd_upd (C:Nat->Vec) (i:Nat) (u v:Vec):upd (upd C i u) i v=upd C i v:=by
 funext j
 by_cases h:j=i
 ·rw[h,upd_same,upd_same]
 ·rw[upd_ne h,upd_ne h,upd_ne h]
theorem upd_comm {C:Nat->Vec}{i j:Nat}{u v:Vec} (h:i≠j):upd (upd C i u) j v=upd (upd C j v) i u:=by
 funext k
 by_cases J:k=i
 ·subst J;rw[upd_ne h,upd_same,upd_same]
 ·by_cases L:k=j
  ·subst L;rw[upd_same,upd_ne J,upd_same]
  ·rw[upd_ne L,upd_ne J,upd_ne J,upd_ne L]
def unskip (k i:Nat):Nat:=if i<k then i else i - 1
theorem skip_upd {C:Nat->Vec}{k i:Nat}{v:Vec} (h:k≠i):(λj t=>upd C i v (skip k j) (t+1))=upd (λj t=>C (skip k j) (t+1)) (unskip k i) (λt=>v (t+1)):=by
 funext j t
 unfold upd skip unskip;by_cases J:j<k<;>by_cases L:i<k<;>simp only[J,L,if_true,if_false]
 ·by_cases e:j=i
  ·rw[iFP e,iFP e]
  ·rw[iFN e,iFN e]
 ·rw[iFN (by omega),iFN (by omega)]
 ·rw[iFN (by omega),iFN (by omega)]
 ·by_cases e:j+1=i
  ·rw[iFP e,iFP (by omega)]
  ·rw[iFN e,iFN (by omega)]
theorem skip_self {C:Nat->Vec}{i:Nat}{v:Vec}:(λj t=>upd C i v (skip i j) (t+1))=λj t=>C (skip i j) (t+1):=by
 funext j t
 rw[upd_ne];unfold skip;split<;>omega
theorem det_add:∀ (m:Nat) (C:Nat->Vec) (i:Nat) (u v:Vec),i<m->det m (upd C i λt=>u t+v t)=det m (upd C i u)+det m (upd C i v):=by
 intro m
 induction m with
 |zero=>omega
 |succ m F=>
  intro C i u v hi;rw[det,det,det,<-sumN_add];refine sumN_congr λk H=>?_;by_cases e:k=i
  ·subst e
   rw[skip_self,skip_self,skip_self,upd_same,upd_same,upd_same,qcl,qeg]
  ·rw[skip_upd e,skip_upd e,skip_upd e,upd_ne e,upd_ne e,upd_ne e,F _ _ _ _ (by unfold unskip;split<;>omega),qcl]
theorem det_mul:∀ (m:Nat) (C:Nat->Vec) (i:Nat) (c:Int) (u:Vec),i<m->det m (upd C i λt=>c*u t)=c*det m (upd C i u):=by
 intro m
 induction m with
 |zero=>omega
 |succ m F=>
  intro C i c u hi;rw[det,det,<-sumN_mul];refine sumN_congr λk H=>?_;by_cases e:k=i
  ·subst e
   rw[skip_self,skip_self,upd_same,upd_same];rw[show sg k*_=c*_ by rw[qaP],qbi]
  ·rw[skip_upd e,skip_upd e,upd_ne e,upd_ne e,F _ _ c _ (by unfold unskip;split<;>omega),qaP]
theorem det_adj:∀ (m:Nat) (C:Nat->Vec) (i:Nat),i+1<m->C i=C (i+1)->det m C=0:=by
 intro m
 induction m with
 |zero=>omega
 |succ m F=>
  intro C i hi h;rw[det,sumN_pair (i:=i) (by omega) (by omega) (by omega) λk H J L=>?_]
  ·have e:(λj t=>C (skip i j) (t+1))=λj t=>C (skip (i+1) j) (t+1):=by
    funext j t
    by_cases e:j=i
    ·subst e
     have W:skip j j=j+1:=by unfold skip;rw[iFN (by omega)]
     have a2:skip (j+1) j=j:=by unfold skip;rw[iFP (by omega)]
     rw[W,a2,h]
    ·have:skip i j=skip (i+1) j:=by
      unfold skip;by_cases J:j<i
      ·rw[iFP J,iFP (by omega)]
      ·rw[iFN J,iFN (by omega)]
     rw[this]
   rw[e,h,sg_succ];rw[<-qeg,<-qeg];rw[show sg i+-sg i=0 by omega]
   simp
  ·have hz:det m (λj t=>C (skip k j) (t+1))=0:=by
    by_cases l:k<i
    ·refine F _ (i - 1) (by omega) ?_
     funext t
     have W:skip k (i - 1)=i:=by unfold skip;rw[iFN (by omega)];omega
     have a2:skip k (i - 1+1)=i+1:=by unfold skip;rw[iFN (by omega)];omega
     rw[W,a2,h]
    ·refine F _ i (by omega) ?_
     funext t
     have W:skip k i=i:=by unfold skip;rw[iFP (by omega)]
     have a2:skip k (i+1)=i+1:=by unfold skip;rw[iFP (by omega)]
     rw[W,a2,h]
   rw[hz,qa2]
theorem det_swap {m:Nat} (C:Nat->Vec) {i:Nat} (hi:i+1<m):det m (upd (upd C i (C (i+1))) (i+1) (C i))=- det m C:=by
 have N:∀ u v ,det m (upd (upd C i u) (i+1) v)+det m (upd (upd C i v) (i+1) u)=0:=λu v=>by
  have h0:det m (upd (upd C i λt=>u t+v t) (i+1) λt=>u t+v t)=0:=det_adj m _ i hi (by rw[upd_ne (by omega),upd_same,upd_same]);have hv:det m (upd (upd C i v) (i+1) v)=0:=det_adj m _ i hi (by rw[upd_ne (by omega),upd_same,upd_same]);rw[det_add m _ _ u v hi,upd_comm (by omega),upd_comm (v:=v) (by omega),det_add m _ i u v (by omega),det_add m _ i u v (by omega)]at h0;rw[<-upd_comm (by omega),<-upd_comm (u:=v) (by omega),<-upd_comm (i:=i) (by omega),<-upd_comm (u:=v) (v:=v) (by omega),(det_adj m _ i hi (by rw[upd_ne (by omega),upd_same,upd_same]))]at h0;omega
 have:=N (C i) (C (i+1))
 have e:upd (upd C i (C i)) (i+1) (C (i+1))=C:=by rw[upd_self,upd_self]
 rw[e]at this;omega
theorem det_same {m:Nat}:∀ (d:Nat) (C:Nat->Vec) (i j:Nat),j=i+d+1->j<m->C i=C j->det m C=0:=by
 intro d
 induction d with
 |zero=>intro C i j O hm h;subst O;exact det_adj m C i hm h
 |succ d F=>
  intro C i j O hm h;have hs:=det_swap (m:=m) C (i:=j - 1) (by omega);have e1:j - 1+1=j:=by omega
  rw[e1]at hs
  have:=F (upd (upd C (j - 1) _) j (C (j - 1))) i (j - 1) (by omega) (by omega) (by rw[upd_ne (by omega),upd_ne (by omega),upd_ne (by omega),upd_same,h])
  omega
theorem det_eq0 {m:Nat} (C:Nat->Vec) {i j:Nat} (hi:i<m) (O:j<m) (hij:i≠j) (h:C i=C j):det m C=0:=by
 rcases Nat.lt_or_gt_of_ne hij with J|J
 ·exact det_same (j - i - 1) C i j (by omega) O h
 ·exact det_same (i - j - 1) C j i (by omega) hi h.symm
theorem det_zero {m:Nat} (C:Nat->Vec) {i:Nat} (hi:i<m):det m (upd C i λ_=>0)=0:=by
 simpa using (det_mul m C i 0 (λ_=>0) hi)
theorem det_sum {m:Nat} (C:Nat->Vec) {i:Nat} (hi:i<m) (x:Nat->Int) (V:Nat->Vec):∀ n,det m (upd C i λt=>sumN n λk=>x k*V k t)=sumN n λk=>x k*det m (upd C i (V k)):=by
 intro n
 induction n with
 |zero=>exact det_zero C hi
 |succ n F=>
  have e:(λt=>sumN (n+1) λk=>x k*V k t)=λt=>_+x n*V n t:=rfl;rw[e,det_add m C i _ _ hi,F,det_mul m C i _ _ hi];rfl
theorem cramer {m:Nat} (B:Nat->Vec) (a:Vec) (p:Int) (x:Nat->Int) (h:∀ t,p*a t=sumN m λk=>x k*B k t) {i:Nat} (hi:i<m):p*det m (upd B i a)=x i*det m B:=by
 rw[<-det_mul m B i p a hi];rw[(funext h),det_sum B hi x B m,sumN_single hi λk H s=>?_,upd_self];rw[det_eq0 _ hi H (qbD s) (by rw[upd_same,upd_ne s]),qa2]
theorem cramer2 {m:Nat} (B:Nat->Vec) (a b:Vec) (p:Int) (X:p=det m B) (hp0:p≠0) (x y:Nat->Int) (hx:∀ t,p*a t=sumN m λk=>x k*B k t) (hy:∀ t,p*b t=sumN m λk=>y k*B k t) {i r:Nat} (hi:i<m) (q:r<m) (o:i≠r) :
  p*det m (upd (upd B r a) i b)=x r*y i - x i*y r:=by
 have J:p*det m (upd (upd B r a) i b)=sumN m λk=>y k*det m (upd (upd B r a) i (B k)):=by
  rw[<-det_mul m _ i p b hi];rw[(funext hy),det_sum _ hi y B m]
 rw[J,sumN_pair hi q o λk H L h3=>?_]
 ·have e1:upd (upd B r a) i (B i)=upd B r a:=by
   have:(upd B r a) i=B i:=upd_ne o
   rw[<-this,upd_self]
  have e2:p*det m (upd B r a)=x r*p:=by rw[cramer B a p x hx q,<-X]
  have e3:p*det m (upd (upd B r a) i (B r))=- (x i*p):=by
   rw[(upd_comm (qbD o)),<-det_mul m _ r p a q];rw[(funext hx),det_sum _ q x B m,sumN_single hi λk H s=>?_]
   ·-- columns i and r exchanged
    have hsw:det m (upd (upd B i (B r)) r (B i))=- det m B:=by
     have:=(λu v=>by
      have z:∀ w ,det m (upd (upd B i w) r w)=0:=λw=>det_eq0 _ hi q o (by rw[upd_ne o,upd_same,upd_same]);have h0:=z λt=>u t+v t;rw[det_add m _ r u v q,upd_comm o,upd_comm o,det_add m _ i u v hi,det_add m _ i u v hi]at h0;rw[<-upd_comm o,<-upd_comm o,<-upd_comm o,<-upd_comm o,z u,z v]at h0
      omega) (B i) (B r)
     rw[show upd _ r (B r)=B by rw[upd_self,upd_self]]at this;omega
    rw[hsw,<-X,qf2]
   ·by_cases Q:k=r
    ·subst Q
     rw[det_eq0 _ hi q o (by rw[upd_ne o,upd_same,upd_same]),qa2]
    ·rw[det_eq0 _ q H (qbD Q) (by rw[upd_same,upd_ne Q,upd_ne s]),qa2]
  rw[e1]
  have:p*(y i*det m (upd B r a)+y r*det m (upd (upd B r a) i (B r)))=p*(x r*y i - x i*y r):=by
   rw[qcl,qaP,e2,qaP p _,e3,qcG,qf2];rw[show y i*_=p*_ by rw[qaT _,qbk,qaT]];rw[show y r*_=p*(x i*y r) by rw[qaT _,qbi,qaT p _,<-qbi,qaT _ p]];omega
  exact qd3 hp0 this
 ·rw[det_eq0 _ hi H (qbD L) (by rw[upd_same,upd_ne L,upd_ne h3]),qa2]
def unit (k:Nat):Vec:=λt=>if t=k then 1 else 0
theorem det_unit:∀ m,det m unit=1:=by
 intro m
 induction m with
 |zero=>rfl
 |succ m F=>
  rw[det,sumN_single (i:=0) (by omega) λk H s=>by rw[show unit k 0=0 by unfold unit;rw[iFN (by omega)]];simp];have e:(λj t=>unit (skip 0 j) (t+1))=unit:=by
   funext j t
   unfold unit skip;rw[iFN (by omega:¬ j<0)];by_cases h:t=j
   ·rw[iFP (by omega),iFP h]
   ·rw[iFN (by omega),iFN h]
  rw[e,F];rfl
structure Pb where
 m:Nat
 n:Nat
 A:Nat->Vec
 b:Vec
 g:Nat->Int
structure Tb where
 p:Int
 kept:Nat->Nat
 free:Nat->Nat
 T:Nat->Nat->Int
 G:Nat->Int
variable (P:Pb)
def colV (S:Tb) (c:Nat):Vec:=if c<P.n then P.A (S.free c) else P.b
def gainC (S:Tb) (c:Nat):Int:=if c<P.n then P.g (S.free c) else 0
def basis (S:Tb):Nat->Vec:=λi=>P.A (S.kept i)
structure Good (S:Tb):Prop where
 pos:0<S.p
 dt:S.p=det P.m (basis P S)
 eq:∀ c,c<=P.n->∀ t,S.p*colV P S c t=sumN P.m λi=>S.T i c*P.A (S.kept i) t
 goal:∀ c,c<=P.n->S.G c=(sumN P.m λi=>P.g (S.kept i)*S.T i c) - S.p*gainC P S c
def piv (S:Tb) (r e:Nat):Tb where
 p:=S.T r e
 kept:=λi=>if i=r then S.free e else S.kept i
 free:=λc=>if c=e then S.kept r else S.free c
 T:=λi c=>if i=r then (if c=e then S.p else S.T r c) else (if c=e then - S.T i e else (S.T r e*S.T i c - S.T i e*S.T r c) / S.p)
 G:=λc=>if c=e then - S.G e else (S.T r e*S.G c - S.G e*S.T r c) / S.p
variable {P}
theorem Good.entry {S:Tb} (h:Good P S) {c i:Nat} (M:c<=P.n) (hi:i<P.m):S.T i c=det P.m (upd (basis P S) i (colV P S c)):=by
 have:=cramer (basis P S) _ S.p _ (λt=>h.eq c M t) hi
 rw[<-h.dt,qaT]at this;exact (qgb (by have:=h.pos;omega) this).symm
theorem Good.whole {S:Tb} (h:Good P S) {r e c i:Nat} (K:e<=P.n) (M:c<=P.n) (hi:i<P.m) (q:r<P.m) (o:i≠r):∃ d,S.T r e*S.T i c - S.T i e*S.T r c=S.p*d:=
 ⟨_,(cramer2 _ _ _ S.p h.dt (by have:=h.pos;omega) _ _ (λt=>h.eq e K t) (λt=>h.eq c M t) hi q o).symm⟩
theorem ediv_of {p a d:Int} (X:0<p) (h:a=p*d):p*(a / p)=a:=by
 rw[h,qgl _ (by omega)]
theorem piv_T {S:Tb} (h:Good P S) {r e c i:Nat} (K:e<=P.n) (M:c<=P.n) (hi:i<P.m) (q:r<P.m) (o:i≠r) (D:c≠e):S.p*(piv S r e).T i c=S.T r e*S.T i c - S.T i e*S.T r c:=by
 obtain⟨d,hd⟩:=h.whole K M hi q o;show S.p*(if i=r then _ else _)=_;rw[iFN o,iFN D];exact ediv_of h.pos hd
theorem sumN_split {n r:Nat} (q:r<n) (f:Nat->Int):sumN n f=f r+sumN n (λk=>if k=r then 0 else f k):=by
 have e:sumN n f=sumN n (λk=>(if k=r then f r else 0)+(if k=r then 0 else f k)):=by
  refine sumN_congr λk H=>?_;by_cases h:k=r
  ·rw[h];omega
  ·omega
 rw[e,sumN_add,sumN_single q λk _ s=>iFN s,iFP U]
theorem sumN_sub (n:Nat) (f g:Nat->Int):sumN n (λk=>f k - g k)=sumN n f - sumN n g:=by
 induction n with
 |zero=>rfl
 |succ n F=>rw[sumN,sumN,sumN];omega
theorem piv_eq {S:Tb} (h:Good P S) {r e:Nat} (K:e<P.n) (q:r<P.m):∀ c,c<=P.n->∀ t,(piv S r e).p*colV P (piv S r e) c t=sumN P.m λi=>(piv S r e).T i c*P.A ((piv S r e).kept i) t:=by
 intro c M t;have X:=h.pos;have R:=h.eq e (by omega) t;have hcE:colV P S e=P.A _:=iFP K;rw[hcE,sumN_split q]at R;have kr:(piv S r e).kept r=S.free e:=iFP U;have kn:∀ i,i≠r->(piv S r e).kept i=S.kept i:=λi hi=>iFN hi;rw[sumN_split q,kr];by_cases D:c=e
 ·subst D
  have c1:colV P (piv S r c) c=P.A (S.kept r):=by
   unfold colV;rw[iFP K];show P.A (if c=c then _ else _)=_;rw[iFP U]
  have t1:(piv S r c).T r c=S.p:=by show (if r=r then _ else _)=_;rw[iFP U,iFP U]
  have t2:(sumN P.m λk=>if k=r then 0 else (piv S r c).T k c*P.A ((piv S r c).kept k) t)=- sumN P.m λk=>if k=r then 0 else S.T k c*P.A (S.kept k) t:=by
   have:(sumN P.m λk=>if k=r then 0 else (piv S r c).T k c*P.A ((piv S r c).kept k) t)=sumN P.m λk=>(-1)*(if k=r then 0 else S.T k c*P.A (S.kept k) t):=by
    refine sumN_congr λk H=>?_;by_cases l:k=r
    ·rw[iFP l,iFP l];rfl
    ·rw[iFN l,iFN l,kn k l]
     show (if k=r then _ else _)*_=_;rw[iFN l,iFP U,qdz,qdz,qdb]
   rw[this,sumN_mul];omega
  rw[c1,t1];show S.T r c*P.A _ t=_;omega
 ·have c1:colV P (piv S r e) c=colV P S c:=by
   unfold colV;by_cases I:c<P.n
   ·rw[iFP I,iFP I];show P.A (if c=e then _ else _)=_;rw[iFN D]
   ·rw[iFN I,iFN I]
  have t1:(piv S r e).T r c=S.T r c:=by show (if r=r then _ else _)=_;rw[iFP U,iFN D]
  have hC:=h.eq c M t;rw[sumN_split q]at hC;rw[c1,t1];refine qd3 (a:=S.p) (by omega) ?_;have t2:S.p*(sumN P.m λk=>if k=r then 0 else (piv S r e).T k c*P.A ((piv S r e).kept k) t)=(sumN P.m λk=>S.T r e*(if k=r then 0 else S.T k c*P.A (S.kept k) t)) - sumN P.m λk=>S.T r c*(if k=r then 0 else S.T k e*P.A (S.kept k) t):=by
   rw[<-sumN_mul,<-sumN_sub];refine sumN_congr λk H=>?_;by_cases l:k=r
   ·rw[iFP l,iFP l,iFP l];simp
   ·rw[iFN l,iFN l,iFN l,kn k l,<-qbi,piv_T h (by omega) M H q l D,qf1]
    rw[qbi,qaT (S.T k e),qbi]
  rw[qcl,t2,sumN_mul,sumN_mul];show S.p*(S.T r e*colV P S c t)=_;rw[qaP,hC,<-qbi S.p,qaT S.p _,qbi,R,qcl,qcl];rw[show S.T r e*_=S.T r c*_ by rw[qaP]];omega
theorem piv_goal {S:Tb} (h:Good P S) {r e:Nat} (K:e<P.n) (q:r<P.m):∀ c,c<=P.n->(piv S r e).G c=(sumN P.m λi=>P.g ((piv S r e).kept i)*(piv S r e).T i c) - (piv S r e).p*gainC P (piv S r e) c:=by
 intro c M;have X:=h.pos;have R:=h.goal e (by omega);have gE:gainC P S e=P.g _:=iFP K;rw[gE,sumN_split q]at R;have kr:(piv S r e).kept r=S.free e:=iFP U;have kn:∀ i,i≠r->(piv S r e).kept i=S.kept i:=λi hi=>iFN hi;rw[sumN_split q,kr];by_cases D:c=e
 ·subst D
  have c1:gainC P (piv S r c) c=P.g (S.kept r):=by
   unfold gainC;rw[iFP K];show P.g (if c=c then _ else _)=_;rw[iFP U]
  have t1:(piv S r c).T r c=S.p:=by show (if r=r then _ else _)=_;rw[iFP U,iFP U]
  have t2:(sumN P.m λk=>if k=r then 0 else P.g ((piv S r c).kept k)*(piv S r c).T k c)=- sumN P.m λk=>if k=r then 0 else P.g (S.kept k)*S.T k c:=by
   have:(sumN P.m λk=>if k=r then 0 else P.g ((piv S r c).kept k)*(piv S r c).T k c)=sumN P.m λk=>(-1)*(if k=r then 0 else P.g (S.kept k)*S.T k c):=by
    refine sumN_congr λk H=>?_;by_cases l:k=r
    ·rw[iFP l,iFP l];rfl
    ·rw[iFN l,iFN l,kn k l]
     show _*(if k=r then _ else _)=_;rw[iFN l,iFP U,qf2,qdz,qdb]
   rw[this,sumN_mul];omega
  rw[c1,t1];show (if c=c then - S.G c else _)=_ - S.T r c*_;rw[iFP U,R,qaT _,qaT S.p];omega
 ·have c1:gainC P (piv S r e) c=gainC P S c:=by
   unfold gainC;by_cases I:c<P.n
   ·rw[iFP I,iFP I];show P.g (if c=e then _ else _)=_;rw[iFN D]
   ·rw[iFN I,iFN I]
  have t1:(piv S r e).T r c=S.T r c:=by show (if r=r then _ else _)=_;rw[iFP U,iFN D]
  have hC:=h.goal c M;rw[sumN_split q]at hC;rw[c1,t1];have t2:S.p*(sumN P.m λk=>if k=r then 0 else P.g ((piv S r e).kept k)*(piv S r e).T k c)=(sumN P.m λk=>S.T r e*(if k=r then 0 else P.g (S.kept k)*S.T k c)) - sumN P.m λk=>S.T r c*(if k=r then 0 else P.g (S.kept k)*S.T k e):=by
   rw[<-sumN_mul,<-sumN_sub];refine sumN_congr λk H=>?_;by_cases l:k=r
   ·rw[iFP l,iFP l,iFP l];simp
   ·rw[iFN l,iFN l,iFN l,kn k l,qaP,piv_T h (by omega) M H q l D,qcG]
    rw[qaP,qaT (S.T k e),qaP (S.T r c)]
  rw[sumN_mul,sumN_mul]at t2;have N:S.T r e*S.G c - S.G e*S.T r c=S.p*(P.g (S.free e)*S.T r c+(sumN P.m λk=>if k=r then 0 else P.g ((piv S r e).kept k)*(piv S r e).T k c) - S.T r e*gainC P S c):=by
   rw[qcG,qcl,t2,hC,R];generalize (sumN P.m λk=>if k=r then 0 else P.g _*S.T k e)=Y;rw[qcG,qcl,qf1,qeg];rw[show S.T r e*_=P.g _*S.T r e*S.T r c by rw[qaP,qbi]];rw[show S.T r e*(S.p*gainC P S c)=S.p*_ by rw[qaP]];rw[show S.p*(P.g _*S.T r c)=S.p*P.g _*S.T r c by rw[qbi]];rw[qaT Y];omega
  show (if c=e then _ else _ / S.p)=_;rw[iFN D,N,qgl _ (by omega)];rfl
theorem Good.piv {S:Tb} (h:Good P S) {r e:Nat} (K:e<P.n) (q:r<P.m) (hq:0<S.T r e):Good P (piv S r e):=by
 refine⟨hq,?_,piv_eq h K q,piv_goal h K q⟩;show S.T r e=_;rw[h.entry (by omega) q];refine congrArg _ ?_
 funext i
 unfold basis;by_cases hi:i=r
 ·rw[hi,upd_same]
  show colV P S e=P.A (if r=r then _ else _);rw[iFP U];exact iFP K
 ·rw[upd_ne hi]
  show _=P.A (if i=r then _ else _);rw[iFN hi]
def lexP (M:Nat) (v:Nat->Int):Prop:=∃ j,j<M/\0<v j/\∀ l,l<j->v l=0
theorem lexP_congr {M:Nat}{v w:Nat->Int} (h:∀ s,s<M->v s=w s) (E:lexP M v):lexP M w:=by
 obtain⟨j,q,z,u⟩:=E;exact⟨j,q,by rw[<-h j q];exact z,λl A=>by rw[<-h l (by omega)];exact u l A⟩
theorem lexP_mul {M:Nat}{v:Nat->Int}{c:Int} (B:0<c) (E:lexP M v):lexP M λs=>c*v s:=by
 obtain⟨j,q,z,u⟩:=E;exact⟨j,q,qjP B z,λl A=>by show c*v l=0;rw[u l A,qa2]⟩
theorem lexP_unmul {M:Nat}{v:Nat->Int}{c:Int} (B:0<c) (E:lexP M λs=>c*v s):lexP M v:=by
 obtain⟨j,q,z,u⟩:=E;have h2':0<v j*c:=by rw[qaT];exact z
 refine⟨j,q,Int.pos_of_mul_pos_left h2' B,λl A=>?_⟩
 have:=u l A
 rcases qcA.mp this with h|h
 ·omega
 ·exact h
theorem lexP_add {M:Nat}{v w:Nat->Int} (E:lexP M v) (hw:lexP M w):lexP M λs=>v s+w s:=by
 obtain⟨j,q,z,u⟩:=E;obtain⟨k,T,k2,V⟩:=hw;rcases Nat.lt_trichotomy j k with h|h|h
 ·exact⟨j,q,by show 0<v j+w j;rw[V j h];omega,λl A=>by show v l+w l=0;rw[u l A,V l (by omega)];rfl⟩
 ·subst h
  exact⟨j,q,by show 0<v j+w j;omega,λl A=>by show v l+w l=0;rw[u l A,V l A];rfl⟩
 ·exact⟨k,T,by show 0<v k+w k;rw[u k h];omega,λl A=>by show v l+w l=0;rw[u l (by omega),V l A];rfl⟩
theorem lexP_addn {M:Nat}{v w:Nat->Int}{c:Int} (B:0<=c) (E:lexP M v) (hw:lexP M w):lexP M λs=>v s+c*w s:=by
 rcases qdX B with h|h
 ·exact lexP_add E (lexP_mul h hw)
 ·subst h
  exact lexP_congr (λs _=>by rw[qbs,qfx]) E
theorem lexP_not0 {M:Nat}{v:Nat->Int} (h:∀ s,s<M->v s=0):¬ lexP M v:=λ⟨j,q,z,_⟩=>by rw[h j q]at z;omega
theorem lexP_first {M:Nat}{v:Nat->Int} (hM:0<M) (h:lexP M v):0<=v 0:=by
 obtain⟨j,q,z,u⟩:=h;rcases Nat.eq_zero_or_pos j with e|e
 ·subst e;omega
 ·rw[u 0 e];exact qcf _
variable (P:Pb)
def XV (s:Nat):Vec:=if s=0 then P.b else unit (s - 1)
def LV (S:Tb) (i s:Nat):Int:=det P.m (upd (basis P S) i (XV P s))
def ZV (S:Tb) (s:Nat):Int:=sumN P.m λi=>P.g (S.kept i)*LV P S i s
structure Named (S:Tb):Prop where
 one:∀ r,r<P.m->P.A (P.n+r)=unit r
 all:∀ k,k<P.n+P.m->(∃ c,c<P.n/\S.free c=k)\/∃ i,i<P.m/\S.kept i=k
 bound:(∀ c,c<P.n->S.free c<P.n+P.m)/\∀ i,i<P.m->S.kept i<P.n+P.m
def Fe (S:Tb):Prop:=∀ i,i<P.m->lexP (P.m+1) (LV P S i)
variable {P}
theorem Good.rep_free {S:Tb} (h:Good P S) {c:Nat} (B:c<=P.n) (t:Nat):S.p*colV P S c t=sumN P.m λi=>det P.m (upd (basis P S) i (colV P S c))*P.A (S.kept i) t:=by
 rw[h.eq c B t];exact sumN_congr λi hi=>by rw[h.entry B hi]
theorem det_kept {S:Tb} (h:Good P S) {i j:Nat} (hi:i<P.m) (G:j<P.m):det P.m (upd (basis P S) i (basis P S j))=if i=j then S.p else 0:=by
 by_cases e:i=j
 ·subst e;rw[upd_self,iFP U,h.dt]
 ·rw[iFN e]
  exact det_eq0 _ hi G e (by rw[upd_same,upd_ne (qbD e)])
theorem Good.rep_kept {S:Tb} (h:Good P S) {j:Nat} (G:j<P.m) (t:Nat):S.p*P.A (S.kept j) t=sumN P.m λi=>det P.m (upd (basis P S) i (P.A (S.kept j)))*P.A (S.kept i) t:=by
 rw[sumN_single G λi hi H=>?_]
 ·have:=det_kept h G G
  rw[iFP U]at this;have e:det P.m (upd _ j (P.A _))=S.p:=this;rw[e]
 ·have:=det_kept h hi G
  rw[iFN H]at this;have e:det P.m (upd _ i (P.A _))=0:=this;rw[e,qbs]
theorem Good.rep {S:Tb} (h:Good P S) (hn:Named P S) {s:Nat} (F:s<P.m+1) (t:Nat):S.p*XV P s t=sumN P.m λi=>LV P S i s*P.A (S.kept i) t:=by
 unfold LV;by_cases h0:s=0
 ·subst h0
  have e:XV P 0=colV P S P.n:=by unfold XV colV;rw[iFP U,iFN (qa3 _)]
  rw[e];exact h.rep_free (qao _) t
 ·have e:XV P s=P.A (P.n+(s - 1)):=by unfold XV;rw[iFN h0,hn.one _ (by omega)]
  rw[e];rcases hn.all (P.n+(s - 1)) (by omega) with⟨c,B,D⟩|⟨j,G,D⟩
  ·have e2:P.A (P.n+(s - 1))=colV P S c:=by unfold colV;rw[iFP B,D]
   rw[e2];exact h.rep_free (by omega) t
  ·rw[<-D]
   exact h.rep_kept G t
theorem piv_basis {S:Tb}{r e:Nat} (o:e<P.n):basis P (piv S r e)=upd (basis P S) r (colV P S e):=by
 funext i
 unfold basis;by_cases hi:i=r
 ·rw[hi,upd_same]
  show P.A (if r=r then _ else _)=colV P S e;rw[iFP U];exact (iFP o).symm
 ·rw[upd_ne hi]
  show P.A (if i=r then _ else _)=_;rw[iFN hi]
theorem LV_r {S:Tb}{r e s:Nat} (o:e<P.n):LV P (piv S r e) r s=LV P S r s:=by
 unfold LV;rw[piv_basis o,upd_upd]
theorem LV_i {S:Tb} (h:Good P S) (hn:Named P S) {r e s i:Nat} (o:e<P.n) (F:s<P.m+1) (hi:i<P.m) (n:r<P.m) (d:i≠r):S.p*LV P (piv S r e) i s=S.T r e*LV P S i s - S.T i e*LV P S r s:=by
 unfold LV;rw[piv_basis o];exact cramer2 _ _ _ S.p h.dt (by have:=h.pos;omega) _ _ (λt=>h.eq e (by omega) t) (λt=>h.rep hn F t) hi n d
theorem ZV_piv {S:Tb} (h:Good P S) (hn:Named P S) {r e s:Nat} (o:e<P.n) (F:s<P.m+1) (n:r<P.m):S.p*ZV P (piv S r e) s=S.T r e*ZV P S s - S.G e*LV P S r s:=by
 have hE:=h.goal e (by omega);have gE:gainC P S e=P.g _:=iFP o;rw[gE,sumN_split n]at hE;unfold ZV;have kr:(piv S r e).kept r=S.free e:=iFP U;have kn:∀ i,i≠r->(piv S r e).kept i=S.kept i:=λi hi=>iFN hi;rw[sumN_split n,kr,LV_r o,qcl];have t2:S.p*(sumN P.m λk=>if k=r then 0 else P.g ((piv S r e).kept k)*LV P (piv S r e) k s)=(sumN P.m λk=>S.T r e*(if k=r then 0 else P.g (S.kept k)*LV P S k s)) - sumN P.m λk=>LV P S r s*(if k=r then 0 else P.g (S.kept k)*S.T k e):=by
  rw[<-sumN_mul,<-sumN_sub];refine sumN_congr λk D=>?_;by_cases p:k=r
  ·rw[iFP p,iFP p,iFP p];simp
  ·rw[iFN p,iFN p,iFN p,kn k p,qaP,LV_i h hn o F D n p,qcG]
   rw[qaP,qaT (S.T k e),qaP (LV P S r s)]
 rw[t2,sumN_mul,sumN_mul,sumN_split n (λi=>P.g _*LV P S i s),hE];generalize (sumN P.m λk=>if k=r then 0 else P.g _*S.T k e)=Y;generalize LV P S r s=L;rw[qf1,qeg,qcl];rw[show S.T r e*(P.g _*L)=P.g _*S.T r e*L by rw[qaP,qbi]];rw[show S.p*_=S.p*P.g _*L by rw[qbi]];rw[qaT Y];omega
def less (P:Pb) (S S':Tb):Prop:=lexP (P.m+1) λs=>S.p*ZV P S' s - S'.p*ZV P S s
theorem less_trans {S1 S2 S3:Tb} (q:0<S1.p) (z:0<S2.p) (u:0<S3.p) (a:less P S1 S2) (b:less P S2 S3):less P S1 S3:=by
 refine lexP_unmul z (lexP_congr (λs _=>?_) (lexP_add (lexP_mul q b) (lexP_mul u a)));generalize ZV P S1 s=x;generalize ZV P S2 s=y;rw[qcG,qcG,qcG];rw[show S1.p*(S3.p*y)=S3.p*_ by rw[qaP],show S1.p*_=S2.p*_ by rw[qaP],show S3.p*(S2.p*x)=S2.p*_ by rw[qaP]];omega
theorem same_kept {S S':Tb} (h:Good P S) (h':Good P S') (e:∀ i,i<P.m->S.kept i=S'.kept i):S.p=S'.p/\∀ s,ZV P S s=ZV P S' s:=by
 have hb:∀ i,i<P.m->basis P S i=basis P S' i:=λi hi=>by unfold basis;rw[e i hi]
 have hL:∀ i s,i<P.m->LV P S i s=LV P S' i s:=λi s hi=>by
  refine det_congr P.m λk t D _=>?_;by_cases J:k=i
  ·rw[J,upd_same,upd_same]
  ·rw[upd_ne J,upd_ne J,hb k D]
 refine⟨?_,λs=>?_⟩
 ·rw[h.dt,h'.dt]
  exact det_congr P.m λk t D _=>by rw[hb k D]
 ·exact sumN_congr λi hi=>by rw[e i hi,hL i s hi]
theorem less_kept {S S':Tb} (h:Good P S) (h':Good P S') (l:less P S S'):¬ ∀ i,i<P.m->S.kept i=S'.kept i:=λe=>by
 obtain⟨e1,e2⟩:=same_kept h h' e;refine lexP_not0 (λs _=>?_) l;rw[e1,e2 s];omega
theorem lines_unlike {S:Tb} (h:Good P S) (hA:∀ i,i<P.m->∀ t,P.m<=t->P.A (S.kept i) t=0) {i r:Nat} (hi:i<P.m) (n:r<P.m) (d:i≠r) {a b:Int} (ha:0<a) (F:∀ s,s<P.m+1->a*LV P S i s=b*LV P S r s):False:=by
 have K:∀ k,k<P.m->det P.m _=sumN P.m λs=>basis P S i s*LV P S k (s+1):=λk D=>by
  have e:basis P S i=λt=>sumN P.m λs=>basis P S i s*unit s t:=by
   funext t
   by_cases X:t<P.m
   ·rw[sumN_single X λs _ H=>by unfold unit;rw[iFN (qbD H),qa2]]
    unfold unit;rw[iFP U,qdc]
   ·rw[sumN_congr λs O=>by unfold unit;rw[iFN (by omega),qa2],sumN_zero]
    exact hA i hi t (by omega)
  have e2:=det_sum (basis P S) D (λs=>basis P S i s) unit P.m;rw[<-e]at e2;rw[e2];refine sumN_congr λs O=>?_;unfold LV XV;rw[iFN (by omega),qcL]
 have T:=K i hi;have k2:=K r n;rw[det_kept h hi hi,iFP U]at T;rw[det_kept h n hi,iFN (qbD d)]at k2
 have:a*S.p=b*0:=by
  rw[T,k2,<-sumN_mul,<-sumN_mul];refine sumN_congr λs O=>?_;rw[qaP,F _ (by omega),qaP]
 have:=qjP ha h.pos
 omega
theorem Named.piv {S:Tb} (hn:Named P S) {r e:Nat} (o:e<P.n) (n:r<P.m):Named P (piv S r e):=by
 refine⟨hn.one,λk D=>?_,λc B=>?_,λi hi=>?_⟩
 ·rcases hn.all k D with⟨c,B,e1⟩|⟨i,hi,e1⟩
  ·by_cases Q:c=e
   ·subst Q;exact .inr ⟨r,n,by show (if r=r then _ else _)=_;rw[iFP U];exact e1⟩
   ·exact .inl ⟨c,B,by show (if c=e then _ else _)=_;rw[iFN Q];exact e1⟩
  ·by_cases d:i=r
   ·subst d;exact .inl ⟨e,o,by show (if e=e then _ else _)=_;rw[iFP U];exact e1⟩
   ·exact .inr ⟨i,hi,by show (if i=r then _ else _)=_;rw[iFN d];exact e1⟩
 ·show (if c=e then _ else _)<_
  split
  ·exact hn.bound.2 r n
  ·exact hn.bound.1 c B
 ·show (if i=r then _ else _)<_
  split
  ·exact hn.bound.1 e o
  ·exact hn.bound.2 i hi
theorem step {S:Tb} (h:Good P S) (hn:Named P S) (I:Fe P S) {r e:Nat} (o:e<P.n) (n:r<P.m) (hq:0<S.T r e) (hg:S.G e<0)
  (R:∀ i,i<P.m->i≠r->0<S.T i e->lexP (P.m+1) λs=>S.T r e*LV P S i s - S.T i e*LV P S r s) :
  Good P (piv S r e)/\Named P (piv S r e)/\Fe P (piv S r e)/\less P S (piv S r e):=by
 refine⟨h.piv o n hq,hn.piv o n,λi hi=>?_,?_⟩
 ·by_cases d:i=r
  ·subst d
   exact lexP_congr (λs _=>(LV_r o).symm) (I i hi)
  ·refine lexP_unmul h.pos (lexP_congr (λs F=>(LV_i h hn o F hi n d).symm) ?_)
   by_cases X:0<S.T i e
   ·exact R i hi d X
   ·refine lexP_congr (λs _=>?_) (lexP_addn (c:=- S.T i e) (by omega) (lexP_mul hq (I i hi)) (I r n))
    rw[qdz];omega
 ·refine lexP_congr (λs F=>?_) (lexP_mul (c:=- S.G e) (by omega) (I r n))
  show - S.G e*LV P S r s=S.p*ZV P _ s - S.T r e*ZV P S s;rw[ZV_piv h hn o F n,qdz];omega
theorem filt_len (N:Nat):∀ l:List Nat,(l.filter λx=>decide (x=N)).length+(l.filter λx=>decide (x≠N)).length=l.length
 |[]=>rfl
 |x::l=>by
  have ih:=filt_len N l;by_cases h:x=N
  ·rw[qec (by simpa using h),qed (by simpa using h),qaq,qaq];omega
  ·rw[qed (by simpa using h),qec (by simpa using h),qaq,qaq];omega
theorem nodup_le:∀ (N:Nat) (l:List Nat),l.Nodup->(∀ x∈l,x<N)->l.length<=N:=by
 intro N
 induction N with
 |zero=>
  intro l _ h;cases l with
  |nil=>exact qao _
  |cons x l=>exact absurd (h x qag) (by omega)
 |succ N ih=>
  intro l A h;have q:=ih (l.filter λx=>decide (x≠N)) (A.filter _) λx hx=>by
   have:=qbF.mp hx
   have z:=h x this.1;have u:=by simpa using this.2
   omega
  have z:(l.filter λx=>decide (x=N)).length<=1:=by
   have hn:=A.filter λx=>decide (x=N);have C:∀ x∈l.filter (λx=>decide (x=N)),x=N:=λx hx=>by simpa using (qbF.mp hx).2
   match l.filter _,hn,C with
   |[],_,_=>exact qbA _
   |[x],_,_=>exact qao _
   |x::y::r,hn,C=>
    exact absurd ((C x qag).trans (C y (qah _ qag)).symm) ((qa4.mp hn).1 y qag)
  have u:=filt_len N l;omega
def code (b:Nat) (f:Nat->Nat):Nat->Nat
 |0=>0
 |m+1=>code b f m*b+f m
theorem code_lt {b:Nat}{f:Nat->Nat}:∀ {m:Nat},(∀ i,i<m->f i<b)->code b f m<b^m
 |0,_=>Nat.one_pos
 |m+1,h=>by
  have q:=h m (by omega)
  calc code b f m*b+f m<code b f m*b+b:=by omega
   _=(code b f m+1)*b:=by rw[qjN,qjL]
   _<=b^m*b:=qcw b (code_lt λi hi=>h i (by omega))
theorem code_inj {b:Nat}{f g:Nat->Nat}:∀ {m:Nat},(∀ i,i<m->f i<b)->(∀ i,i<m->g i<b)->code b f m=code b g m->∀ i,i<m->f i=g i
 |0,_,_,_,i,hi=>absurd hi (by omega)
 |m+1,I,hg,e,i,hi=>by
  rw[code,code]at e;have z:=hg m (by omega);have e1:=by
   have:=congrArg (·%b) e
   simp only[Nat.mul_add_mod_self_right]at this;rw[qhM (I m (by omega)),qhM z]at this;exact this
  have e2:code b f m=code b g m:=by
   exact Nat.eq_of_mul_eq_mul_right (by omega:0<b) (by omega)
  by_cases W:i=m
  ·rw[W];exact e1
  ·exact code_inj (λi hi=>I i (by omega)) (λi hi=>hg i (by omega)) e2 i (by omega)
def leastR (tops bots:Nat->Int):List Nat->List Nat->List Nat
 |[],least=>least
 |p::ps,[]=>leastR tops bots ps [p]
 |p::ps,g::r=>if tops p*bots g > tops g*bots p then leastR tops bots ps (g::r) else if tops p*bots g<tops g*bots p then leastR tops bots ps [p] else leastR tops bots ps ((g::r)++[p])
structure Least (tops bots:Nat->Int) (ps out:List Nat):Prop where
 ne:ps≠[]->out≠[]
 sub:∀ x∈out,x∈ps
 nd:ps.Nodup->out.Nodup
 eq:∀ x∈out,∀ y∈out,tops x*bots y=tops y*bots x
 lt:∀ x∈out,∀ y∈ps,y∉out->tops x*bots y<tops y*bots x
theorem ratio_lt {a b c p q r:Int} (Q:0<p) (hq:0<q) (K:0<r) (w:a*q<b*p) (A:b*r<=c*q):a*r<c*p:=by
 have e1:=qdK w K;have e2:b*r*p<=c*q*p:=qfw A (by omega);rw[qbk b p r]at e1;have e3:a*r*q<c*p*q:=by rw[qbk a r q,qbk c p q];omega
 exact qdR e3 (by omega)
theorem leastR_ok {tops bots:Nat->Int}:∀ (ps done least:List Nat),(∀ x∈done++ps,0<bots x)->(done++ps).Nodup->Least tops bots done least->Least tops bots (done++ps) (leastR tops bots ps least):=by
 intro ps
 induction ps with
 |nil=>intro done least _ _ h;rw[qbH];cases least<;>exact h
 |cons p ps z=>
  intro done least hb m h;have Q:=hb p (qay _ qag);have O:=λhm=>by
   rw[qcx]at m;exact m.2.2 p hm p qag U
  have e:done++p::ps=(done++[p])++ps:=by simp
  have J:=(qcx.mp m).1;rw[e]at hb m ⊢;cases least with
  |nil=>
   have hd:done=[]:=by
    cases done with
    |nil=>rfl
    |cons x d=>exact absurd U (h.ne (by simp))
   subst hd;refine z _ _ hb m ⟨λ_=>by simp,λx hx=>by simpa using hx,λ_=>by simp,λx hx y f=>?_,λx hx y f hn=>absurd (by simpa using f) (by simpa using hn)⟩;rw[qam.mp hx,qam.mp f]
  |cons g r=>
   have o:g∈g::r:=qag;have R:=hb g (qa1 _ (qa1 _ (h.sub g o)));have B:=λy f=>hb y (qa1 _ (qa1 _ f));rw[leastR];by_cases c1:tops p*bots g > tops g*bots p
   ·rw[iFP c1]
    refine z _ _ hb m ⟨λ_=>by simp,λx hx=>qa1 _ (h.sub x hx),λ_=>h.nd J,h.eq,λx hx y f hn=>?_⟩;rcases qaQ.mp f with f|f
    ·exact h.lt x hx y f hn
    ·rw[qam.mp f]
     exact Int.lt_of_lt_of_le (by
      have e1:tops x*bots g*bots p=tops g*bots p*bots x:=by rw[<-(h.eq g o x hx),qbk]
      have e3:tops x*bots p*bots g<tops p*bots x*bots g:=by rw[qbk,e1,qbk (tops p)];exact (qdK c1 (B x (h.sub x hx)))
      exact qdR e3 (by omega)) (qcf _)
   ·rw[iFN c1]
    by_cases c2:tops p*bots g<tops g*bots p
    ·rw[iFP c2]
     refine z _ _ hb m ⟨λ_=>by simp,λx hx=>by rw[qam.mp hx];simp,λ_=>by simp,λx hx y f=>by rw[qam.mp hx,qam.mp f],λx hx y f hn=>?_⟩;rw[qam.mp hx];rcases qaQ.mp f with f|f
     ·have X:tops g*bots y<=tops y*bots g:=by
       by_cases hm:y∈g::r
       ·exact Int.le_of_eq (h.eq g o y hm)
       ·exact qgQ (h.lt g o y f hm)
      exact ratio_lt Q R (B y f) c2 X
     ·exact absurd (by simpa using f) (by simpa using hn)
    ·rw[iFN c2]
     have I:tops p*bots g=tops g*bots p:=by omega
     have E:=λx hx=>by
      have e1:tops p*bots x*bots g=tops x*bots p*bots g:=by
       rw[qbk,I,qbk,(h.eq g o x hx),qbk]
      exact qgb (by omega) e1
     refine z _ _ hb m ⟨λ_=>by simp,λx hx=>?_,λ_=>?_,λx hx y f=>?_,λx hx y f hn=>?_⟩
     ·rcases qaQ.mp hx with hx|hx
      ·exact qa1 _ (h.sub x hx)
      ·exact qay _ hx
     ·rw[qcx]
      refine⟨h.nd J,by simp,λx hx y f e=>?_⟩;rw[qam.mp f]at e;rw[e]at hx;exact O (h.sub p hx)
     ·rcases qaQ.mp hx with hx|hx<;>rcases qaQ.mp f with f|f
      ·exact h.eq x hx y f
      ·rw[qam.mp f];exact (E x hx).symm
      ·rw[qam.mp hx];exact E y f
      ·rw[qam.mp hx,qam.mp f]
     ·have H:y∈done:=by
       rcases qaQ.mp f with f|f
       ·exact f
       ·exact absurd (qay _ f) hn
      have G:=λhm=>hn (qa1 _ hm);rcases qaQ.mp hx with hx|hx
      ·exact h.lt x hx y H G
      ·rw[qam.mp hx]
       have e1:tops p*bots y*bots g<tops y*bots p*bots g:=by
        rw[qbk,I,qbk _,qbk (tops y)];exact qdK (h.lt g o y H G) Q
       exact qdR e1 (by omega)
theorem least_of {tops bots:Nat->Int}{ps:List Nat} (hb:∀ x∈ps,0<bots x) (m:ps.Nodup):Least tops bots ps (leastR tops bots ps []):=by
 simpa using (leastR_ok ps [] [] (by simpa using hb) (by simpa using m) ⟨λh=>absurd U h,λx hx=>(nomatch hx),λ_=>qcX,λx hx=>(nomatch hx),λx hx=>(nomatch hx)⟩)
def leaveL (W:Nat->Nat->Int) (bots:Nat->Int):List Nat->List Nat->List Nat
 |[],ps=>ps
 |s::ss,ps=>if ps.length<2 then ps else leaveL W bots ss (leastR (W s) bots ps [])
structure Lv (W:Nat->Nat->Int) (bots:Nat->Int) (C:List Nat) (s:Nat) (ps:List Nat):Prop where
 ne:ps≠[]
 nd:ps.Nodup
 sub:∀ x∈ps,x∈C
 eq:∀ x∈ps,∀ y∈ps,∀ l,l<s->bots x*W l y - bots y*W l x=0
 lt:∀ x∈ps,∀ y∈C,y∉ps->lexP s λl=>bots x*W l y - bots y*W l x
theorem lexP_mono {M N:Nat}{v:Nat->Int} (h:M<=N) (hv:lexP M v):lexP N v:=let ⟨j,w,A,n⟩:=hv;⟨j,by omega,A,n⟩
theorem Lv.step {W:Nat->Nat->Int}{bots:Nat->Int}{C ps:List Nat}{s:Nat} (hb:∀ x∈C,0<bots x) (h:Lv W bots C s ps):Lv W bots C (s+1) (leastR (W s) bots ps []):=by
 have L:=least_of (tops:=W s) (λx hx=>hb x (h.sub x hx)) h.nd;refine⟨L.ne h.ne,L.nd h.nd,λx hx=>h.sub x (L.sub x hx),λx hx y f l u=>?_,λx hx y f hn=>?_⟩
 ·rcases qfq l s with w|w
  ·exact h.eq x (L.sub x hx) y (L.sub y f) l w
  ·have:l=s:=by omega
   subst this
   have:=L.eq y f x hx
   rw[qaT _,qaT (bots y)];omega
 ·by_cases hm:y∈ps
  ·have u:=L.lt x hx y hm hn
   refine⟨s,by omega,?_,λl V=>h.eq x (L.sub x hx) y hm l V⟩;show 0<bots x*W s y - bots y*W s x;rw[qaT _,qaT (bots y)];omega
  ·exact lexP_mono (by omega) (h.lt x (L.sub x hx) y f hm)
theorem leaveL_ok {W:Nat->Nat->Int}{bots:Nat->Int}{C:List Nat} (hb:∀ x∈C,0<bots x):∀ (k s:Nat) (ps:List Nat),Lv W bots C s ps->∃ s',s<=s'/\s'<=s+k/\Lv W bots C s' (leaveL W bots ((qai k).map λj=>s+j) ps)/\(s'<s+k->(leaveL W bots ((qai k).map λj=>s+j) ps).length<2):=by
 intro k
 induction k with
 |zero=>intro s ps h;exact⟨s,qao _,qao _,h,λh=>absurd h (by omega)⟩
 |succ k z=>
  intro s ps h;have e:(qai (k+1)).map (λj=>s+j)=s::(qai k).map λj=>(s+1)+j:=by
   rw[qdr,qau,qaR]
   congr 1
   refine qc8 λj _=>?_;show s+_=_;omega
  rw[e,leaveL];by_cases u:ps.length<2
  ·rw[iFP u]
   exact⟨s,qao _,by omega,h,λ_=>u⟩
  ·rw[iFN u]
   obtain⟨s',w,A,n,h4⟩:=z _ _ (h.step hb);exact⟨s',by omega,by omega,n,λh=>h4 (by omega)⟩
variable {P:Pb}
theorem leaving_ok {S:Tb} (h:Good P S) (hA:∀ i,i<P.m->∀ t,P.m<=t->P.A (S.kept i) t=0) {e:Nat}{C:List Nat} (F:∀ i,i∈C↔i<P.m/\0<S.T i e) (hn:C.Nodup) (T:C≠[]) :
  ∃ r,leaveL (λs i=>LV P S i s) (λi=>S.T i e) ((qai (P.m+1)).map λj=>0+j) C=[r]/\r<P.m/\0<S.T r e/\∀ i,i<P.m->i≠r->0<S.T i e->lexP (P.m+1) λs=>S.T r e*LV P S i s - S.T i e*LV P S r s:=by
 obtain⟨s',w,A,n,h4⟩:=leaveL_ok (λx hx=>((F x).mp hx).2) _ 0 C ⟨T,hn,λx hx=>hx,λx _ y _ l u=>absurd u (by omega),λx _ y f hm=>absurd f hm⟩;generalize leaveL _ _ _ C=out at n h4;have D:out.length<2:=by
  rcases qfq out.length 2 with u|u
  ·exact u
  ·exfalso
   match out,u,n with
   |x::y::r,_,n=>
    have hx:=(F x).mp (n.sub x qag)
    refine lines_unlike h hA ((F y).mp (n.sub y (qah _ qag))).1 hx.1 (qbD (λe=>by
     have:=(qa4.mp n.nd).1 y qag
     exact this e)) (b:=S.T y e) hx.2 λs hs'=>?_
    have:=n.eq x qag y (qah _ qag) s (by omega)
    omega
 match out,D,n with
 |[],_,n=>exact absurd U n.ne
 |[r],_,n=>
  have K:=(F r).mp (n.sub r qag);refine⟨r,U,K.1,K.2,λi hi Y hT=>?_⟩;exact lexP_mono (by omega) (n.lt r qag i ((F i).mpr ⟨hi,hT⟩) (by simpa using Y))
variable {P:Pb}
theorem sumN_swap (n m:Nat) (f:Nat->Nat->Int):(sumN n λi=>sumN m λk=>f i k)=sumN m λk=>sumN n λi=>f i k:=by
 induction n with
 |zero=>exact (sumN_zero m).symm
 |succ n H=>
  rw[sumN,H];rw[<-sumN_add];rfl
theorem sumN_nonneg {n:Nat}{f:Nat->Int} (h:∀ k,k<n->0<=f k):0<=sumN n f:=by
 induction n with
 |zero=>exact qcf _
 |succ n H=>rw[sumN];have:=H λk o=>h k (by omega);have:=h n (by omega);omega
theorem sumN_append (a b:Nat) (f:Nat->Int):sumN (a+b) f=sumN a f+sumN b λk=>f (a+k):=by
 induction b with
 |zero=>rw[sumN];simp
 |succ b H=>rw[<-Nat.add_assoc,sumN,sumN];omega
theorem sumN_right (n:Nat) (c:Int) (f:Nat->Int):sumN n (λk=>f k*c)=sumN n f*c:=by
 rw[qaT,<-sumN_mul];exact sumN_congr λk _=>qaT _ _
def byName (P:Pb) (S:Tb) (y:Nat->Int) (k:Nat):Int:=sumN P.m λi=>if S.kept i=k then y i else 0
theorem byName_sum (S:Tb) (y:Nat->Int) {N:Nat} (hN:∀ i,i<P.m->S.kept i<N) (f:Nat->Int):(sumN N λk=>byName P S y k*f k)=sumN P.m λi=>y i*f (S.kept i):=by
 have e:(sumN N λk=>byName P S y k*f k)=sumN N λk=>sumN P.m λi=>_*f k:=sumN_congr λk _=>(sumN_right _ _ _).symm;rw[e,sumN_swap];refine sumN_congr λi hi=>?_;rw[sumN_single (hN i hi) λk _ d=>by rw[iFN (qbD d),qbs],iFP U]
theorem byName_nonneg {S:Tb}{y:Nat->Int} (h:∀ i,i<P.m->0<=y i) (k:Nat):0<=byName P S y k:=sumN_nonneg λi hi=>by split;exact h i hi;exact qcf _
theorem byName_at {S:Tb}{y:Nat->Int} (D:∀ i j,i<P.m->j<P.m->S.kept i=S.kept j->i=j) {i:Nat} (hi:i<P.m):byName P S y (S.kept i)=y i:=by
 unfold byName;rw[sumN_single hi λj C d=>iFN λe=>d (D j i C hi e),iFP U]
theorem byName_not {S:Tb}{y:Nat->Int}{k:Nat} (h:∀ i,i<P.m->S.kept i≠k):byName P S y k=0:=by
 unfold byName;rw[sumN_congr λi hi=>iFN (h i hi),sumN_zero]
theorem unit_sum {m:Nat}{v:Vec}{r:Nat} (q:r<m):(sumN m λk=>v k*unit k r)=v r:=by
 rw[sumN_single q λk _ d=>by unfold unit;rw[iFN (qbD d),qa2]];unfold unit;rw[iFP U,qdc]
theorem amounts_ok {S:Tb} (h:Good P S) (hn:Named P S) (L:∀ i,i<P.m->0<=S.T i P.n) {r:Nat} (q:r<P.m):(sumN P.n λj=>byName P S (λi=>S.T i P.n) j*P.A j r)<=S.p*P.b r:=by
 have e1:=h.eq P.n (qao _) r;have c1:colV P S P.n=P.b:=by unfold colV;rw[iFN (qa3 _)]
 rw[c1]at e1;have e2:=byName_sum S (λi=>S.T i P.n) hn.bound.2 λk=>P.A k r;rw[sumN_append]at e2;have e3:(sumN P.m λk=>byName P S (λi=>S.T i P.n) (P.n+k)*P.A (P.n+k) r)=byName P S (λi=>S.T i P.n) (P.n+r):=by
  rw[sumN_congr λk o=>by rw[hn.one k o]];exact unit_sum q
 have e4:=byName_nonneg (S:=S) L (P.n+r);omega
theorem gains_amounts {S:Tb} (h:Good P S) (hn:Named P S) (hg:∀ r,r<P.m->P.g (P.n+r)=0):(sumN P.n λj=>byName P S (λi=>S.T i P.n) j*P.g j)=S.G P.n:=by
 have e2:=byName_sum S (λi=>S.T i P.n) hn.bound.2 P.g;rw[sumN_append,sumN_congr (n:=P.m) λk o=>by rw[hg k o,qa2],sumN_zero,qfx]at e2;rw[e2,h.goal P.n (qao _)]
 have:gainC P S P.n=0:=by unfold gainC;rw[iFN (qa3 _)]
 rw[this,qa2,qgP];exact sumN_congr λi _=>qaT _ _
theorem det_by_units {S:Tb}{v:Vec} (M:∀ t,P.m<=t->v t=0) {i:Nat} (hi:i<P.m):det P.m (upd (basis P S) i v)=sumN P.m λs=>v s*LV P S i (s+1):=by
 have e:=by
  funext t
  by_cases w:t<P.m
  ·exact (unit_sum (v:=v) w).symm
  ·rw[sumN_congr λs J=>by unfold unit;rw[iFN (by omega),qa2],sumN_zero]
   exact M t (by omega)
 have e2:=det_sum (basis P S) hi (λs=>v s) unit P.m;rw[<-e]at e2;rw[e2];refine sumN_congr λs J=>?_;unfold LV XV;rw[iFN (by omega),qcL]
theorem prices_col {S:Tb}{v:Vec} (M:∀ t,P.m<=t->v t=0):(sumN P.m λr=>v r*ZV P S (r+1))=sumN P.m λi=>P.g (S.kept i)*det P.m (upd (basis P S) i v):=by
 have e:(sumN P.m λr=>v r*ZV P S (r+1))=sumN P.m λr=>sumN P.m λi=>P.g _*_:=sumN_congr λr _=>by
  unfold ZV;rw[<-sumN_mul];exact sumN_congr λi _=>by rw[qaP]
 rw[e,sumN_swap];refine sumN_congr λi hi=>?_;rw[sumN_mul,det_by_units M hi]
theorem prices_ok {S:Tb} (h:Good P S) (hn:Named P S) (hA:∀ k,k<P.n+P.m->∀ t,P.m<=t->P.A k t=0) (I:∀ c,c<P.n->0<=S.G c) {j:Nat} (C:j<P.n):S.p*P.g j<=sumN P.m λr=>P.A j r*ZV P S (r+1):=by
 rw[prices_col (hA j (by omega))];rcases hn.all j (by omega) with⟨c,u,e⟩|⟨i,hi,e⟩
 ·have e1:=h.goal c (by omega)
  have E:gainC P S c=P.g j:=by unfold gainC;rw[iFP u,e]
  have c1:colV P S c=P.A j:=by unfold colV;rw[iFP u,e]
  rw[E]at e1;rw[(sumN_congr λi hi=>by rw[<-c1,<-h.entry (by omega) hi])]
  have:=I c u
  omega
 ·rw[sumN_single hi λk o d=>?_]
  ·have:=det_kept h hi hi
   rw[iFP U]at this;have e2:det P.m (upd (basis P S) i (P.A j))=S.p:=by rw[<-e];exact this
   rw[e2,e,qaT];exact qcf _
  ·have:=det_kept h o hi
   rw[iFN d]at this;have e2:det P.m (upd (basis P S) k (P.A j))=0:=by rw[<-e];exact this
   rw[e2,qa2]
theorem bounds_prices {S:Tb} (h:Good P S) (hb:∀ t,P.m<=t->P.b t=0):(sumN P.m λr=>P.b r*ZV P S (r+1))=S.G P.n:=by
 have c1:colV P S P.n=P.b:=by unfold colV;rw[iFN (qa3 _)]
 have:gainC P S P.n=0:=by unfold gainC;rw[iFN (qa3 _)]
 rw[prices_col hb,h.goal P.n (qao _),this,qa2,qgP];exact sumN_congr λi hi=>by rw[h.entry (qao _) hi,c1]
theorem price_free {S:Tb} (h:Good P S) (hn:Named P S) (hg:∀ r,r<P.m->P.g (P.n+r)=0) {r c:Nat} (q:r<P.m) (u:c<P.n) (e:S.free c=P.n+r):ZV P S (r+1)=S.G c:=by
 have E:gainC P S c=0:=by unfold gainC;rw[iFP u,e,hg r q]
 have c1:colV P S c=unit r:=by unfold colV;rw[iFP u,e,hn.one r q]
 rw[h.goal c (by omega),E,qa2,qgP];refine sumN_congr λi hi=>?_;rw[h.entry (by omega) hi,c1];unfold LV XV;rw[iFN (by omega),qcL]
theorem price_kept {S:Tb} (h:Good P S) (hn:Named P S) (hg:∀ r,r<P.m->P.g (P.n+r)=0) {r j:Nat} (q:r<P.m) (C:j<P.m) (e:S.kept j=P.n+r):ZV P S (r+1)=0:=by
 unfold ZV;rw[sumN_single C λk o d=>?_]
 ·rw[e,hg r q,qbs]
 ·have:=det_kept h o C
  rw[iFN d]at this;have e2:LV P S k (r+1)=0:=by
   unfold LV XV;rw[qcL,<-hn.one r q,<-e];exact this
  rw[e2,qa2]
def wayN (P:Pb) (S:Tb) (e k:Nat):Int:=byName P S (λi=>- S.T i e) k+if S.free e=k then S.p else 0
theorem way_sum {S:Tb} (hn:Named P S) {e:Nat} (z:e<P.n) (f:Nat->Int):(sumN (P.n+P.m) λk=>wayN P S e k*f k)=S.p*f (S.free e) - sumN P.m λi=>S.T i e*f (S.kept i):=by
 have e2:(sumN (P.n+P.m) λk=>(if S.free e=k then S.p else 0)*f k)=S.p*f (S.free e):=by
  rw[sumN_single (hn.bound.1 e z) λk _ d=>by rw[iFN (qbD d),qbs],iFP U]
 rw[(sumN_congr λk _=>by unfold wayN;rw[qeg]),sumN_add,(byName_sum S _ hn.bound.2 f)];have e4:(sumN P.m λi=>- S.T i e*f (S.kept i))=- sumN P.m λi=>S.T i e*f (S.kept i):=by
  have:(sumN P.m λi=>- S.T i e*f (S.kept i))=sumN P.m λi=>(-1)*_:=sumN_congr λi _=>by rw[qdz,qdz,qdb]
  rw[this,sumN_mul];omega
 omega
theorem way_nonneg {S:Tb} (h:Good P S) {e:Nat} (w:∀ i,i<P.m->S.T i e<=0) (k:Nat):0<=wayN P S e k:=by
 unfold wayN
 have:=byName_nonneg (S:=S) (λi hi=>by have:=w i hi;show 0<=- S.T i e;omega) k
 have:=h.pos
 split<;>omega
theorem way_rows {S:Tb} (h:Good P S) (hn:Named P S) {e:Nat} (z:e<P.n) (w:∀ i,i<P.m->S.T i e<=0) {r:Nat} (q:r<P.m):(sumN P.n λk=>wayN P S e k*P.A k r)<=0:=by
 have e1:=way_sum hn z λk=>P.A k r;have e2:=h.eq e (by omega) r;have c1:colV P S e=P.A (S.free e):=by unfold colV;rw[iFP z]
 rw[c1]at e2;rw[sumN_append]at e1;have e3:(sumN P.m λk=>wayN P S e (P.n+k)*P.A (P.n+k) r)=wayN P S e (P.n+r):=by
  rw[sumN_congr λk o=>by rw[hn.one k o]];exact unit_sum q
 have:=way_nonneg h w (P.n+r)
 omega
theorem way_gains {S:Tb} (h:Good P S) (hn:Named P S) (hg:∀ r,r<P.m->P.g (P.n+r)=0) {e:Nat} (z:e<P.n) (I:S.G e<0):0<sumN P.n λk=>wayN P S e k*P.g k:=by
 have e1:=way_sum hn z P.g;rw[sumN_append,sumN_congr (n:=P.m) λk o=>by rw[hg k o,qa2],sumN_zero,qfx]at e1;have e2:=h.goal e (by omega);have E:gainC P S e=P.g (S.free e):=by unfold gainC;rw[iFP z]
 rw[E]at e2;rw[e1,(sumN_congr λi _=>qaT _ _)];omega
def tb0 (P:Pb) (T:Nat->Nat->Int) (G:Nat->Int):Tb:=⟨1,λi=>P.n+i,λc=>c,T,G⟩
theorem good0 {T:Nat->Nat->Int}{G:Nat->Int} (O:∀ r,r<P.m->P.A (P.n+r)=unit r) (hA:∀ k,k<P.n->∀ t,P.m<=t->P.A k t=0) (hb:∀ t,P.m<=t->P.b t=0) (hg:∀ r,r<P.m->P.g (P.n+r)=0)
  (L:∀ i c,i<P.m->c<P.n->T i c=P.A c i) (X:∀ i,i<P.m->T i P.n=P.b i) (I:∀ c,c<P.n->G c=- P.g c) (Q:G P.n=0):Good P (tb0 P T G)/\Named P (tb0 P T G)/\((∀ t,t<P.m->0<=P.b t)->Fe P (tb0 P T G)):=by
 have x:∀ i,i<P.m->basis P (tb0 P T G) i=unit i:=λi hi=>O i hi;have F:det P.m (basis P (tb0 P T G))=1:=by
  rw[det_congr P.m λk t o _=>by rw[x k o],det_unit]
 have W:∀ c,c<=P.n->∀ t,_*colV P (tb0 P T G) c t=sumN P.m λi=>T i c*P.A _ t:=λc u t=>by
  rw[qdb,sumN_congr λi hi=>by rw[O i hi]];have A:∀ t',P.m<=t'->colV P (tb0 P T G) c t'=0:=λt' B=>by
   unfold colV;by_cases g:c<P.n
   ·rw[iFP g];exact hA c g t' B
   ·rw[iFN g];exact hb t' B
  by_cases w:t<P.m
  ·rw[unit_sum w]
   unfold colV;by_cases g:c<P.n
   ·rw[iFP g,L t c w g];rfl
   ·have:c=P.n:=by omega
    subst this;rw[iFN g,X t w]
  ·rw[A t (by omega),sumN_congr λi hi=>by unfold unit;rw[iFN (by omega),qa2],sumN_zero]
 have p:Good P (tb0 P T G):=by
  refine⟨by show _<1;decide,F.symm,W,λc u=>?_⟩;show G c=(sumN P.m λi=>P.g (P.n+i)*T i c) - 1*gainC P _ c;rw[sumN_congr λi hi=>by rw[hg i hi,qbs],sumN_zero];unfold gainC;by_cases g:c<P.n
  ·rw[iFP g,I c g]
   show - P.g c=0 - 1*P.g c;omega
  ·have:c=P.n:=by omega
   subst this;rw[iFN g,Q];rfl
 refine⟨p,⟨O,λk o=>?_,λc u=>by show c<_;omega,λi hi=>by show P.n+i<_;omega⟩,λR i hi=>?_⟩
 ·by_cases V:k<P.n
  ·exact .inl ⟨k,V,U⟩
  ·exact .inr ⟨k - P.n,by omega,by show P.n+_=k;omega⟩
 ·have Y:LV P (tb0 P T G) i 0=P.b i:=by
   have e:=p.entry (qao _) hi;have c1:colV P (tb0 P T G) P.n=P.b:=by unfold colV;rw[iFN (qa3 _)]
   rw[c1]at e;unfold LV XV;rw[iFP U,<-e];exact X i hi
  have ls:∀ s,s<P.m->LV P _ i _=if i=s then 1 else 0:=λs hs=>by
   have:=det_kept p hi hs
   unfold LV XV;rw[qcL,<-x s hs];exact this
  rcases qdX (R i hi) with K|K
  ·exact⟨0,by omega,by rw[Y];exact K,λl hl=>absurd hl (by omega)⟩
  ·refine⟨i+1,by omega,by rw[ls i hi,iFP U];decide,λl hl=>?_⟩
   cases l with
   |zero=>rw[Y,<-K]
   |succ l=>rw[ls l (by omega),iFN (by omega)]
end Sx
set_option maxHeartbeats 1000000
namespace Own
open PySem L2
open Sx (Pb Tb Good Named Fe LV ZV piv lexP leastR leaveL sumN unit colV basis)
theorem i8 {e:Ef}{z:Int}{m:Nat}{env:Ev}{st s:Sto} (c:e env st=some (.d (.int z),s)) (f:0<=z) (a:z<=1000) (hm:z.toNat=m):ca (aa e ac) env st=some (cU 0 m,s):=by
 have hb:-(2^62)<=z/\z<2^62:=⟨qeA (by decide) f,Int.lt_of_le_of_lt a (by decide)⟩;simp only[ca,(ab (b:=ac) c U),qaa,hb,and_self,if_true,hm]
theorem aR {f:Ef}{env:Ev}{st s:Sto}{ds:List D} (h:f env st=some (.d (.lst ds),s)):aA f env st=some (ds,s):=by
 simp only[aA,h,qaa,fX,qan]
theorem be {f:Ef}{env:Ev}{st s:Sto}{ds:List D} (h:f env st=some (.d (.tup ds),s)):aA f env st=some (ds,s):=by
 simp only[aA,h,qaa,fX,qan]
theorem nC {c:Tf}{a b:Ef}{env:Ev}{st s:Sto}{r:Option (W×Sto)} (h:c env st=some (true,s)) (d:a env s=r):eO c a b env st=r:=by
 simp only[eO,h,qaa,if_true,d]
theorem qT {c:Tf}{a b:Ef}{env:Ev}{st s:Sto}{r:Option (W×Sto)} (h:c env st=some (false,s)) (hb:b env s=r):eO c a b env st=r:=by
 simp only[eO,h,qaa,qbq,if_false,hb]
theorem FE (s:Sto) (ns:List Int):pH s [.d (.lst (ns.map D.int))]=some (.int ns.sum):=by
 show (a8 _).map _=_;rw[bx];rfl
theorem FC (s:Sto) {a b:Int} (h:0<=b):AA s (.d (.int a)) (.d (.int b))=some (.int (a / 2^b.toNat)):=iFP h
theorem du (s:Sto) (a b:Int):dEq s (.d (.int a)) (.d (.int b))=some (.bl (a==b)):=by
 rfl
theorem vz (s:Sto) (a b:Str):dEq s (.d (.str a)) (.d (.str b))=some (.bl (a==b)):=by
 rfl
theorem fq (s:Sto) {a b:List D} (h:a.length+b.length<=1000000):aV s (.d (.lst a)) (.d (.lst b))=some (.lst (a++b)):=iFP h
theorem mh (s:Sto) {a b:List D} (h:a.length+b.length<=1000000):aV s (.d (.tup a)) (.d (.tup b))=some (.tup (a++b)):=iFP h
def mpI (n:Nat) (f:Nat->Int):List D:=(qai n).map λk=>D.int (f k)
def lnD (n:Nat) (T:Nat->Nat->Int) (i:Nat):D:=.lst (mpI (n+1) (T i))
def aS (m n:Nat) (T:Nat->Nat->Int):List D:=(qai m).map (lnD n T)
def nI (f:Nat->Nat):Nat->Int:=λk=>((f k:Nat):Int)
abbrev obN:List Str:=["amounts","lines","goal","part","free","kept"]
def obD (P:Pb) (S:Tb):D:=.ob obN [.int (P.n:Int),.lst (aS P.m P.n S.T),.lst (mpI (P.n+1) S.G),.int S.p,.lst (mpI P.n (nI S.free)),.lst (mpI P.m (nI S.kept))]
theorem aB (n:Nat) (f:Nat->Int):(mpI n f).length=n:=by unfold mpI;rw[qaf,qas]
theorem ce (m n:Nat) (T:Nat->Nat->Int):(aS m n T).length=m:=by unfold aS;rw[qaf,qas]
theorem bf {n:Nat}{f:Nat->Int}{k:Nat} (h:k<n):(mpI n f)[k]?=some (.int (f k)):=by
 unfold mpI;rw[qav,qa6 h];rfl
theorem nh {m n:Nat}{T:Nat->Nat->Int}{k:Nat} (h:k<m):(aS m n T)[k]?=some (lnD n T k):=by
 unfold aS;rw[qav,qa6 h];rfl
theorem bu {n:Nat}{f g:Nat->Int} (h:∀ k,k<n->f k=g k):mpI n f=mpI n g:=by
 refine qc8 λk a=>?_;rw[h k (qaI.mp a)]
theorem nu (n:Nat) (f:Nat->Int):mpI (n+1) f=mpI n f++[.int (f n)]:=by
 unfold mpI;rw[qdG,qbw];rfl
theorem bH (n:Nat) (f:Nat->Int):mpI n f=((qai n).map f).map D.int:=by rw[qaR];rfl
theorem sZ (n:Nat) (f:Nat->Int):(mpI n f).all bG=true:=by
 rw[qaW];intro d hd;obtain⟨k,_,rfl⟩:=qaM.mp hd;rfl
theorem fI {n:Nat}{f:Nat->Int}{k:Nat}{x:Int}:(mpI n f).set k (.int x)=mpI n λj=>if j=k then x else f j:=by
 apply qbo;intro j;by_cases a:j<n
 ·rw[bf a]
  by_cases e:j=k
  ·subst e;rw[iFP U,qbn (by rw[aB];exact a)]
  ·rw[iFN e,qbz (qbD e),bf a]
 ·rw[qaE (by rw[qb2,aB];lia),qaE (by rw[aB];lia)]
theorem dz (st:Sto) {n:Nat}{f:Nat->Int}{k:Nat} (h:k<n):dIx st (.d (.lst (mpI n f))) (.d (.int (k:Int)))=some (.int (f k)):=cK (bf h)
theorem sM (st:Sto) {m n:Nat}{T:Nat->Nat->Int}{k:Nat} (h:k<m):dIx st (.d (.lst (aS m n T))) (.d (.int (k:Int)))=some (lnD n T k):=cK (nh h)
theorem sK (st:Sto) {n:Nat}{T:Nat->Nat->Int}{i c:Nat} (h:c<=n):dIx st (.d (lnD n T i)) (.d (.int (c:Int)))=some (.int (T i c)):=dz st (by lia)
theorem vT (st:Sto) {n:Nat}{T:Nat->Nat->Int}{i:Nat}:dIx st (.d (lnD n T i)) (.d (.int (-1)))=some (.int (T i n)):=by
 show atI _ _=_;rw[nu];exact ya _ _
section
variable {P:Pb}{S:Tb}{a:Ef}{env:Ev}{st s:Sto}
theorem bJ (h:a env st=some (.d (obD P S),s)):ax "amounts" a env st=some (.d (.int (P.n:Int)),s):=by simp only[ax,h,qaa,obD];rfl
theorem ci (h:a env st=some (.d (obD P S),s)):ax "lines" a env st=some (.d (.lst (aS P.m P.n S.T)),s):=by simp only[ax,h,qaa,obD];rfl
theorem lq (h:a env st=some (.d (obD P S),s)):ax "goal" a env st=some (.d (.lst (mpI (P.n+1) S.G)),s):=by simp only[ax,h,qaa,obD];rfl
theorem lu (h:a env st=some (.d (obD P S),s)):ax "part" a env st=some (.d (.int S.p),s):=by simp only[ax,h,qaa,obD];rfl
theorem lp (h:a env st=some (.d (obD P S),s)):ax "free" a env st=some (.d (.lst (mpI P.n (nI S.free))),s):=by simp only[ax,h,qaa,obD];rfl
theorem oY (h:a env st=some (.d (obD P S),s)):ax "kept" a env st=some (.d (.lst (mpI P.m (nI S.kept))),s):=by simp only[ax,h,qaa,obD];rfl
end
theorem fR {te:Ef}{l:Ev}{st:Sto}{g:Nat->D} (F:Nat->D):∀ {a:List Nat},(∀ k∈a,te (Z (g k)::l) st=some (.d (F k),st))->lcI (.nm 0) aP te (none::l) (a.map g) st=some (a.map F,st)
 |[],_=>rfl
 |k::a,h=>by
  rw[qau];unfold lcI;rw[show cw _ _ _=some (some _::l) from U,qaa,show aP _ st=some (true,st) from U,qaa,(h k qag),qaa,(fR F λx hx=>h x (qah _ hx))];rfl
def Sm (z:Int):Prop:=z.natAbs<2^4000
theorem mulOk {a b:Int} (x y:Nat) (c:a.natAbs<2^x) (hb:b.natAbs<2^y) (h:x+y<=134217728):qbP a b:=
 qic (qgC.mpr c) (qgC.mpr hb) h
theorem Dj {a b:Int}{x y:Nat} (c:a.natAbs<2^x) (hb:b.natAbs<2^y):(a*b).natAbs<2^(x+y):=by
 rw[qc5,qhf];exact Nat.mul_lt_mul'' c hb
theorem Sm.mulOk {a b:Int} (c:Sm a) (hb:Sm b):qbP a b:=Own.mulOk 4000 4000 c hb (by decide)
theorem bn (st:Sto) {a b:Int} (h:qbP a b):aU st (.d (.int a)) (.d (.int b))=some (.int (a*b)):=iFP h
theorem Sm.log {a:Int} (h:Sm a):a.natAbs.log2<9000:=by
 by_cases b:a.natAbs=0
 ·rw[b];decide
 ·have:=(qjM b).mpr h
  lia
theorem pJ (st:Sto) {a b:Int} (c:0<b) (h:Sm b):pE st (.d (.int a)) (.d (.int b))=some (.int (a / b)):=iFP ⟨c,h.log⟩
end Own
set_option maxHeartbeats 1000000
namespace Own
open PySem L2
open Sx (Pb Tb Good Named Fe LV ZV piv lexP leastR leaveL sumN unit colV basis)
theorem fj {a b:Sf}{env:Ev}{st s:Sto}{w:W} (h:a env st=some (.rt w s)):ah a b env st=some (.rt w s):=by simp only[ah,h,qaa]
theorem ai {a b:Sf}{env e:Ev}{st s:Sto}{r:Option Fl} (h:a env st=some (.nx e s)) (hb:b e s=r):ah a b env st=r:=by simp only[ah,h,qaa,hb]
theorem cT {c:Tf}{a b:Sf}{env:Ev}{st s:Sto}{r:Option Fl} (h:c env st=some (true,s)) (d:a env s=r):bi c a b env st=r:=by simp only[bi,h,qaa,if_true,d]
theorem bC {c:Tf}{a b:Sf}{env:Ev}{st s:Sto}{r:Option Fl} (h:c env st=some (false,s)) (hb:b env s=r):bi c a b env st=r:=by simp only[bi,h,qaa,qbq,if_false,hb]
theorem DM {o a:Ef}{env:Ev}{st s1 c:Sto}{n:Nat}{d:D}{e ds:List D} (f:o env st=some (.h n,s1)) (g:a env s1=some (.d d,c)) (i:lg s1 n=some e) (hg:lg c n=some ds) (hz:ds.length<1000000):cy (cR de o (aa a ac)) env st=some (.nx env (c.set n (.l (ds++[d])))):=by
 simp only[cy,cR,f,(ab (b:=ac) g U),i,hg,de,hz,if_true,qaa,qan]
theorem nJ (st:Sto) (a b:C):(st++[a]).set st.length b=st++[b]:=by
 simp
structure Okt (P:Pb) (S:Tb):Prop where
 good:Good P S
 named:Named P S
 m64:P.m<=100
 n64:P.n<=100
 sT:∀ i c,i<P.m->c<=P.n->Sm (S.T i c)
 sL:∀ i s,i<P.m->s<=P.m->Sm (LV P S i s)
 sG:∀ c,c<=P.n->Sm (S.G c)
 sp:Sm S.p
def psD (ps:List Nat):List D:=ps.map λk=>D.int ((k:Nat):Int)
theorem wq (ps:List Nat):(psD ps).length=ps.length:=by unfold psD;rw[qaf]
theorem l7 {n k:Nat}{b:Sf}{ws:List W}{st s:Sto}{h:Nat}{ds:List D} (c:ws.length=k) (hb:b (ws.map some++qaD (n - k) none) st=some (.rt (.h h) s)) (a:st.length<=h) (hd:lg s h=some ds):dE n k b ws st=some (.d (.lst ds),s.take st.length):=by
 simp only[dE,c,if_true,hb,qaa,xg,iFN (qhG.mpr a),hd,qan]
theorem ww {st u:Sto}{h:Nat}{c:C} (a:st.length<=h):(st++u).set h c=st++u.set (h - st.length) c:=by
 rw[List.set_append_right _ _ a]
theorem Dg {s:Sto}{h:Nat}{ds es:List D} (hg:lg s h=some ds):lg (s.set h (.l es)) h=some es:=by
 have:=(qap.mp (qz hg)).1
 unfold lg;rw[qbn this]
theorem gu (s:Sto) (ds:List D):lg (s++[.l ds]) s.length=some ds:=by unfold lg;simp
theorem Cw (s:Sto) {h:Nat}{ds:List D} (hg:lg s h=some ds):cJ s (.h h)=some (!ds.isEmpty):=by
 show (lg s h).map _=_;rw[hg];rfl
theorem ER (s:Sto) {h:Nat}{d:D}{ds:List D} (hg:lg s h=some (d::ds)):dIx s (.h h) (.d (.int 0))=some d:=by
 show (lg s h).bind _=_;rw[hg,qaa,CH]
theorem yT (s:Sto) (a b:Int):dLt s (.d (.int a)) (.d (.int b))=some (.bl (decide (a<b))):=rfl
theorem CS (s:Sto) (a b:Int):dGt s (.d (.int a)) (.d (.int b))=some (.bl (decide (a > b))):=rfl
theorem EH (s:Sto) (a b:Int):dGe s (.d (.int a)) (.d (.int b))=some (.bl (decide (a>=b))):=rfl
section
variable {tops bots:Nat->Int}{m:Nat}{st:Sto}{g:Option W}
theorem jE (G:∀ i,i<m->Sm (tops i)) (hb:∀ i,i<m->Sm (bots i)):∀ (ps least:List Nat) (u:Sto) (h:Nat) (L f c:Option W),(∀ x∈ps,x<m)->(∀ x∈least,x<m)->lg (st++u) h=some (psD least)->st.length<=h->least.length+ps.length<=1000->
  ∃ w h' k q j,b4 (.nm 4) aQ (psD ps) [g,Z (.lst (mpI m tops)),Z (.lst (mpI m bots)),some (.h h),L,f,c] (st++u)=some (.nx [g,Z (.lst (mpI m tops)),Z (.lst (mpI m bots)),some (.h h'),k,q,j] (st++w))/\
   lg (st++w) h'=some (psD (leastR tops bots ps least))/\st.length<=h'
 |[],least,u,h,L,f,c,_,_,hg,y,_=>⟨u,h,L,f,c,U,by rw[leastR];exact hg,y⟩
 |p::ps,least,u,h,L,f,c,O,Q,hg,y,hz=>by
  have t:p<m:=O p qag;have A:∀ x∈ps,x<m:=λx hx=>O x (qah _ hx);rw[qaq]at hz;have P:∀ f c K,cw (.nm 4) (.d (.int ((p:Nat):Int))) [g,Z (.lst (mpI m tops)),Z (.lst (mpI m bots)),some (.h K),L,f,c]=some [g,Z (.lst (mpI m tops)),Z (.lst (mpI m bots)),some (.h K),Z (.int ((p:Nat):Int)),f,c]:=λ_ _ _=>rfl;have H:∀ (u:Sto) (h:Nat) (ls:List Nat) (f c:Option W),lg (st++u) h=some (psD ls)->st.length<=h->ls.length<1000->cy (cR de (iV 3) (aa (iV 4) ac)) [g,Z (.lst (mpI m tops)),Z (.lst (mpI m bots)),some (.h h),Z (.int ((p:Nat):Int)),f,c] (st++u)=some _/\lg (st++u.set (h - st.length) (.l (psD (ls++[p])))) h=some (psD (ls++[p])):=λu h ls f c hg y Q=>by
   have e:=DM (o:=iV 3) (a:=iV 4) (env:=[g,Z (.lst (mpI m tops)),Z (.lst (mpI m bots)),some (.h h),Z (.int ((p:Nat):Int)),f,c]) (st:=st++u) (n:=h) (d:=.int ((p:Nat):Int)) U U hg hg (by rw[wq];lia);have e2:psD ls++[.int ((p:Nat):Int)]=psD (ls++[p]):=by unfold psD;rw[qbw];rfl
   rw[e2,ww y]at e;refine⟨e,?_⟩;rw[<-ww y];exact Dg hg
  cases least with
  |nil=>
   have N:cm cJ (iV 3) [g,Z (.lst (mpI m tops)),Z (.lst (mpI m bots)),some (.h h),Z (.int ((p:Nat):Int)),f,c] (st++u)=some (false,st++u):=by
    have:=Cw (st++u) hg
    simp only[cm,show iV 3 [g,Z (.lst (mpI m tops)),Z (.lst (mpI m bots)),some (.h h),Z (.int ((p:Nat):Int)),f,c] (st++u)=some (.h h,st++u) from U,qaa,this];rfl
   obtain⟨J,a2⟩:=H u h [] f c hg y (by decide);obtain⟨w,h',k,q,j,C,D,i3⟩:=jE G hb ps [p] _ h (Z (.int ((p:Nat):Int))) f c A (λx hx=>by rw[qam.mp hx];exact t) a2 y (by simp at hz ⊢;lia);refine⟨w,h',k,q,j,?_,by rw[leastR];exact D,i3⟩;have s:aQ [g,Z (.lst (mpI m tops)),Z (.lst (mpI m bots)),some (.h h),Z (.int ((p:Nat):Int)),f,c] (st++u)=_:=ai (bC N U) J;show b4 (.nm 4) aQ (.int ((p:Nat):Int)::psD ps) _ _=_;simp only[b4,P,qaa,s];exact C
  |cons v r=>
   have E:v<m:=Q v qag;have N:cm cJ (iV 3) [g,Z (.lst (mpI m tops)),Z (.lst (mpI m bots)),some (.h h),Z (.int ((p:Nat):Int)),f,c] (st++u)=some (true,st++u):=by
    have:=Cw (st++u) hg
    simp only[cm,show iV 3 [g,Z (.lst (mpI m tops)),Z (.lst (mpI m bots)),some (.h h),Z (.int ((p:Nat):Int)),f,c] (st++u)=some (.h h,st++u) from U,qaa,this];rfl
   have X:∀ f c,iOp dIx (iV 3) (iC (.int 0)) [g,Z (.lst (mpI m tops)),Z (.lst (mpI m bots)),some (.h h),Z (.int ((p:Nat):Int)),f,c] (st++u)=some (.d (.int ((v:Nat):Int)),st++u):=λ_ _=>ae U U (ER (st++u) hg);have S:aD (.nm 5) (iOp aU (iOp dIx (iV 1) (iV 4)) (iOp dIx (iV 2) (iOp dIx (iV 3) (iC (.int 0))))) [g,Z (.lst (mpI m tops)),Z (.lst (mpI m bots)),some (.h h),Z (.int ((p:Nat):Int)),f,c] (st++u)=some _:=
    ao (ae (ae U U (dz _ t)) (ae U (X _ _) (dz _ E)) (bn _ (Sm.mulOk (G p t) (hb v E))))
   have V:aD (.nm 6) (iOp aU (iOp dIx (iV 1) (iOp dIx (iV 3) (iC (.int 0)))) (iOp dIx (iV 2) (iV 4))) [g,Z (.lst (mpI m tops)),Z (.lst (mpI m bots)),some (.h h),Z (.int ((p:Nat):Int)),Z (.int (tops p*bots v)),c] (st++u)=some (.nx [g,Z (.lst (mpI m tops)),Z (.lst (mpI m bots)),some (.h h),Z (.int ((p:Nat):Int)),Z (.int (tops p*bots v)),Z (.int (tops v*bots p))] (st++u)):=
    ao (ae (ae U (X _ _) (dz _ E)) (ae U U (dz _ t)) (bn _ (Sm.mulOk (G v E) (hb p t))))
   generalize R:tops p*bots v=M at *;generalize T:tops v*bots p=B at *;have tg:aG dGt (iV 5) (iV 6) [g,Z (.lst (mpI m tops)),Z (.lst (mpI m bots)),some (.h h),Z (.int ((p:Nat):Int)),Z (.int M),Z (.int B)] (st++u)=some (decide (M > B),st++u):=ap U U (CS _ _ _);have tl:aG dLt (iV 5) (iV 6) [g,Z (.lst (mpI m tops)),Z (.lst (mpI m bots)),some (.h h),Z (.int ((p:Nat):Int)),Z (.int M),Z (.int B)] (st++u)=some (decide (M<B),st++u):=ap U U (yT _ _ _);by_cases c1:M > B
   ·rw[decide_eq_true c1]at tg
    obtain⟨w,h',k,q,j,C,D,i3⟩:=jE G hb ps (v::r) u h (Z (.int ((p:Nat):Int))) (Z (.int M)) (Z (.int B)) A Q hg y (by lia);refine⟨w,h',k,q,j,?_,by rw[leastR,R,T,iFP c1];exact D,i3⟩;have s:aQ [g,Z (.lst (mpI m tops)),Z (.lst (mpI m bots)),some (.h h),Z (.int ((p:Nat):Int)),f,c] (st++u)=some (.ct [g,Z (.lst (mpI m tops)),Z (.lst (mpI m bots)),some (.h h),Z (.int ((p:Nat):Int)),Z (.int M),Z (.int B)] (st++u)):=by
     have I:bi (cm cJ (iV 3)) (ah (aD (.nm 5) (iOp aU (iOp dIx (iV 1) (iV 4)) (iOp dIx (iV 2) (iOp dIx (iV 3) (iC (.int 0)))))) (ah (aD (.nm 6) (iOp aU (iOp dIx (iV 1) (iOp dIx (iV 3) (iC (.int 0)))) (iOp dIx (iV 2) (iV 4)))) (ah (bi (aG dGt (iV 5) (iV 6)) oE aW) (bi (aG dLt (iV 5) (iV 6)) (aD (.nm 3) (bV (bj ac))) aW)))) aW [g,Z (.lst (mpI m tops)),Z (.lst (mpI m bots)),some (.h h),Z (.int ((p:Nat):Int)),f,c] (st++u)=some (.ct [g,Z (.lst (mpI m tops)),Z (.lst (mpI m bots)),some (.h h),Z (.int ((p:Nat):Int)),Z (.int M),Z (.int B)] (st++u)):=by
      refine cT N (ai S (ai V ?_))
      have:=cT (a:=oE) (b:=aW) tg U
      simp only[ah,this];rfl
     show ah _ _ _ _=_;simp only[ah,I];rfl
    show b4 (.nm 4) aQ (.int ((p:Nat):Int)::psD ps) _ _=_;simp only[b4,P,qaa,s];exact C
   ·rw[decide_eq_false c1]at tg
    by_cases c2:M<B
    ·rw[decide_eq_true c2]at tl
     have hn:lg (st++(u++[.l []])) (st++u).length=some (psD []):=by rw[<-qbJ];exact gu _ _
     have F:st.length<=(st++u).length:=by rw[qaw];lia
     obtain⟨J,a2⟩:=H (u++[.l []]) (st++u).length [] (Z (.int M)) (Z (.int B)) hn F (by decide);obtain⟨w,h',k,q,j,C,D,i3⟩:=jE G hb ps [p] _ (st++u).length (Z (.int ((p:Nat):Int))) (Z (.int M)) (Z (.int B)) A (λx hx=>by rw[qam.mp hx];exact t) a2 F (by simp at hz ⊢;lia);refine⟨w,h',k,q,j,?_,by rw[leastR,R,T,iFN c1,iFP c2];exact D,i3⟩;have Y:aD (.nm 3) (bV (bj ac)) [g,Z (.lst (mpI m tops)),Z (.lst (mpI m bots)),some (.h h),Z (.int ((p:Nat):Int)),Z (.int M),Z (.int B)] (st++u)=some (.nx [g,Z (.lst (mpI m tops)),Z (.lst (mpI m bots)),some (.h (st++u).length),Z (.int ((p:Nat):Int)),Z (.int M),Z (.int B)] (st++(u++[.l []]))):=by rw[<-qbJ];rfl
     have s:aQ [g,Z (.lst (mpI m tops)),Z (.lst (mpI m bots)),some (.h h),Z (.int ((p:Nat):Int)),f,c] (st++u)=_:=ai (cT N (ai S (ai V (ai (bC tg U) (cT tl Y))))) J;show b4 (.nm 4) aQ (.int ((p:Nat):Int)::psD ps) _ _=_;simp only[b4,P,qaa,s];exact C
    ·rw[decide_eq_false c2]at tl
     obtain⟨J,a2⟩:=H u h (v::r) (Z (.int M)) (Z (.int B)) hg y (by rw[qaq]at hz ⊢;lia)
     obtain⟨w,h',k,q,j,C,D,i3⟩:=jE G hb ps ((v::r)++[p]) _ h (Z (.int ((p:Nat):Int))) (Z (.int M)) (Z (.int B)) A (λx hx=>by
      rcases qaQ.mp hx with z|z
      ·exact Q x z
      ·rw[qam.mp z];exact t) a2 y (by rw[qaw,qb1];lia)
     refine⟨w,h',k,q,j,?_,by rw[leastR,R,T,iFN c1,iFN c2];exact D,i3⟩;have s:aQ [g,Z (.lst (mpI m tops)),Z (.lst (mpI m bots)),some (.h h),Z (.int ((p:Nat):Int)),f,c] (st++u)=_:=ai (cT N (ai S (ai V (ai (bC tg U) (bC tl U))))) J;show b4 (.nm 4) aQ (.int ((p:Nat):Int)::psD ps) _ _=_;simp only[b4,P,qaa,s];exact C
theorem EZ (G:∀ i,i<m->Sm (tops i)) (hb:∀ i,i<m->Sm (bots i)) {ps:List Nat} (O:∀ x∈ps,x<m) (hz:ps.length<=1000):eD [.d (.lst (psD ps)),.d (.lst (mpI m tops)),.d (.lst (mpI m bots))] st=some (.d (.lst (psD (leastR tops bots ps []))),st):=by
 obtain⟨w,h',k,q,j,C,D,i3⟩:=jE G hb ps [] [.l []] st.length none none none O (λx hx=>nomatch hx) (gu st []) (qao _) (by simpa using hz)
 have:=l7 (n:=7) (b:=iu) (ws:=[.d (.lst _),.d _,.d _]) U (ai U (ai (a7 U C) U)) i3 D
 rw[qcI]at this;exact this
end
end Own
set_option maxHeartbeats 1000000
namespace Own
open PySem L2
open Sx (Pb Tb Good Named Fe LV ZV piv lexP leastR leaveL sumN unit colV basis)
theorem vQ (s:Sto) (i:Int):jl s (.d (.int i)) (.d .non)=some (.bl false):=rfl
theorem qg (s:Sto):jl s (.d .non) (.d .non)=some (.bl true):=rfl
theorem AK (s:Sto) (l:List D):jl s (.d (.tup l)) (.d .non)=some (.bl false):=rfl
def dD (n:Nat):Nat->D
 |0=>.non
 |r+1=>.int (((n+r:Nat)):Int)
theorem xM (n m:Nat):D.non::cU (n:Int) m=(qai (m+1)).map (dD n):=by
 rw[qdr,qau,qaR]
 congr 1
theorem jm (st:Sto) (ds:List D):aT st [.d (.lst ds)]=some (.int (ds.length:Nat)):=rfl
theorem nY {P:Pb}{S:Tb}{st:Sto} (h:Okt P S):di [.d (obD P S)] st=some (.d (.lst ((qai (P.m+1)).map (dD P.n))),st):=by
 have hm:=h.m64;have hn:=h.n64;have a:iV 0 [some _] st=some (.d (obD P S),st):=rfl;have b:=bJ a;refine ar U (aC (ae (x:=.d (.lst [.non])) (y:=.d (.lst (cU (P.n) P.m))) (s1:=st) U (aq ?_) ?_))
 ·show pO _ [some _] st=_
  have e:aa (ax "amounts" (iV 0)) (aa (iOp aV (ax "amounts" (iV 0)) (iCB aT (aa (ax "lines" (iV 0)) ac))) ac) [Z (obD P S)] st=some ([.d (.int (P.n)),.d (.int ((P.n)+(P.m)))],st):=by
   refine ab b (ab (ae b (az (ab (ci a) U) (jm _ _)) ?_) U);rw[ce];rfl
  simp only[pO,e,qaa];rw[iFP (by lia),show (_+_ - (P.n:Int)).toNat=P.m by lia]
 ·rw[<-xM]
  exact fq st (by rw[gF];simp;lia)
theorem C0 {n k:Nat}{f:Nat->Nat}:inD (.int (k:Int)) (mpI n (nI f))=decide (∃ c,c<n/\f c=k):=by
 rw[qfS];unfold inD mpI;rw[List.any_map,qft,decide_eq_true_eq];constructor
 ·rintro⟨c,a,e⟩
  refine⟨c,qaI.mp a,?_⟩;have e:(((f c):Int)==_)=true:=e;lia
 ·rintro⟨c,a,e⟩
  refine⟨c,qaI.mpr a,?_⟩;show (((f c):Int)==_)=true;rw[e];exact beq_self_eq_true _
theorem CW {n k:Nat}{f:Nat->Nat} (h:∃ c,c<n/\f c=k):∃ c,c<n/\f c=k/\((qai n).map (nI f)).idxOf? (k:Int)=some c:=by
 obtain⟨c,d,e⟩:=h;cases q:((qai n).map (nI f)).idxOf? _ with
 |none=>
  have:=List.idxOf?_eq_none_iff.mp q
  exact absurd (qaM.mpr ⟨c,qaI.mpr d,by unfold nI;rw[e]⟩) this
 |some j=>
  obtain⟨b,a,_⟩:=qdk.mp q;rw[qaf,qas]at b;refine⟨j,b,?_,U⟩;rw[qc4,qe1]at a;have a:((f j):Int)=_:=a;lia
theorem gm {P:Pb}{S:Tb} (h:Good P S) {i j:Nat} (hi:i<P.m) (b:j<P.m) (e:S.kept i=S.kept j):i=j:=by
 rcases Nat.decEq i j with a|c
 ·have:=h.pos
  rw[h.dt,(Sx.det_eq0 _ hi b a (by unfold basis;rw[e]))]at this;exact absurd this (by decide)
 ·exact c
theorem Ca {P:Pb}{S:Tb}{st:Sto} (h:Okt P S) {s:Nat} (E:s<=P.m):cp [.d (obD P S),.d (dD P.n s)] st=some (.d (.lst (mpI P.m λi=>LV P S i s)),st):=by
 have hg:=h.good;have hm:=h.m64;have hn:=h.n64;cases s with
 |zero=>
  have e:mpI P.m (λi=>LV P S i 0)=mpI P.m λi=>S.T i P.n:=bu λi hi=>by
   have e:=hg.entry (qao _) hi;have c1:colV P S P.n=P.b:=by unfold Sx.colV;rw[iFN (qa3 _)]
   rw[c1]at e;unfold LV Sx.XV;rw[iFP U,<-e]
  rw[e];refine ar (n:=3) (k:=2) (b:=ft) U (fj (cT (s:=st) (ap (x:=.d .non) U U (qg st)) (aC (aq (aM (aR (ci (P:=P) (S:=S) (st:=st) (a:=iV 0) U)) (by rw[ce];lia) ?_)))));exact fR _ λi _=>ae U U (vT st)
 |succ r=>
  have u:r<P.m:=by lia
  have q:∀ o,iV 0 [some _,Z (.int ((P.n+r:Nat))),o] st=some (.d (obD P S),st):=λ_=>rfl;have v:=lp (q none);have l:Sx.XV P (r+1)=unit r:=by unfold Sx.XV;rw[iFN (by lia),qcL]
  have tI:aG dIn (iV 1) (ax "free" (iV 0)) [Z (obD P S),Z (.int ((P.n+r:Nat))),none] st=some (decide (∃ c,c<P.n/\S.free c=P.n+r),st):=by
   refine ap U v ?_;simp only[dIn,fX,bG,sZ,qaa,and_self,if_true,C0]
  refine ar (n:=3) (k:=2) (b:=ft) U (ai (bC (ap U U (vQ st _)) U) ?_);by_cases m:∃ c,c<P.n/\S.free c=P.n+r
  ·rw[decide_eq_true m]at tI
   obtain⟨c,C,A,g⟩:=CW m;have e:mpI P.m (λi=>LV P S i _)=mpI P.m λi=>S.T i c:=bu λi hi=>by
    have e:=hg.entry (c:=c) (by lia) hi;have c1:colV P S c=unit r:=by unfold Sx.colV;rw[iFP C,A,h.named.one r u]
    rw[c1]at e;unfold LV;rw[l,<-e]
   rw[e];have y:aD (.nm 2) (yz (ax "free" (iV 0)) (aa (iV 1) ac)) [Z (obD P S),Z (.int ((P.n+r:Nat))),none] st=some (.nx [Z (obD P S),Z (.int ((P.n+r:Nat))),Z (.int (c))] st):=by
    refine ao ?_;have B:a8 (mpI P.n (nI S.free))=some ((qai P.n).map (nI S.free)):=by rw[bH];exact bx _
    simp only[yz,v,qaa,show aa (iV 1) ac [some _,some _,none] st=some ([.d _],st) from U,B];rw[iFP (by rw[qaf,qas];lia),g];rfl
   refine fj (cT tI (ai y (aC (aq (aM (aR (ci (P:=P) (S:=S) (q _))) (by rw[ce];lia) ?_)))));exact fR _ λi _=>ae U U (sK st (by lia))
  ·rw[decide_eq_false m]at tI
   obtain⟨j,w,t⟩:∃ j,j<P.m/\S.kept j=P.n+r:=(h.named.all _ (by lia)).elim (λz=>absurd z m) id;have e:mpI P.m (λi=>LV P S i _)=mpI P.m λi=>if S.kept i=P.n+r then S.p else 0:=bu λi hi=>by
    have e:=Sx.det_kept hg hi w;have c1:basis P S j=unit r:=by unfold Sx.basis;rw[t,h.named.one r u]
    rw[c1]at e;unfold LV;rw[l,e];by_cases f:i=j
    ·rw[iFP f,iFP (by rw[f];exact t)]
    ·rw[iFN f,iFN λz=>f (gm hg hi w (z.trans t.symm))]
   rw[e];refine ai (bC tI U) (aC (aq (aM (aR (oY (P:=P) (S:=S) (q none))) (by rw[aB];lia) ?_)));refine fR (λi=>D.int _) λi _=>?_;have te:aG dEq (iV 0) (iV 1) [Z (.int (nI S.kept i)),Z (.int ((P.n+r:Nat):Int)),Z (obD P S)] st=some (decide (S.kept i=P.n+r),st):=by
    refine ap U U ?_;rw[du]
    congr 2
    unfold nI;lia
   by_cases p:S.kept i=P.n+r
   ·rw[decide_eq_true p]at te
    rw[iFP p];exact nC te (lu (P:=P) (S:=S) (st:=st) (a:=iV 2) U)
   ·rw[decide_eq_false p]at te
    rw[iFN p];exact qT te U
theorem vo (m:Nat) (f:Nat->Int):bF 0 (mpI m f)=(qai m).map λi=>D.tup [.int ((i:Nat):Int),.int (f i)]:=by
 apply qbo;intro i;rw[dh,qav];by_cases hi:i<m
 ·rw[bf hi,qa6 hi,qbh];rfl
 ·rw[qaE (by rw[aB];lia),qaE (by rw[qas];lia)];rfl
theorem uE {tt:Tf}{te:Ef}{l:Ev}{st:Sto}{g:Nat->D×D} (p:Nat->Bool) (F:Nat->D):∀ {a:List Nat},(∀ k∈a,tt (Z (g k).1::some (.d (g k).2)::l) st=some (p k,st)/\(p k=true->te (Z (g k).1::some (.d (g k).2)::l) st=some (.d (F k),st)))->
  lcI (.tp [0,1]) tt te (none::none::l) (a.map λk=>D.tup [(g k).1,(g k).2]) st=some ((a.filter p).map F,st)
 |[],_=>rfl
 |k::a,h=>by
  have b:=uE p F λx hx=>h x (qah _ hx);obtain⟨c,e⟩:=h k qag;rw[qau];unfold lcI;rw[show cw _ _ _=some (some _::some _::l) from U,qaa,c,qaa];cases hp:p k with
  |true=>rw[e hp,qaa,b,qec hp];rfl
  |false=>rw[iFN (show ¬ (false=true) by decide),b,qed (by rw[hp];decide)]
def iw (P:Pb) (S:Tb) (c:Nat):List Nat:=(qai P.m).filter λi=>decide (S.T i c > 0)
def fE (P:Pb) (S:Tb) (c:Nat):List Nat:=leaveL (λs i=>LV P S i s) (λi=>S.T i c) (qai (P.m+1)) (iw P S c)
theorem dA {tops bots:Nat->Int}{m:Nat}:∀ {ps least:List Nat},(∀ x∈ps,x<m)->(∀ x∈least,x<m)->(∀ x∈leastR tops bots ps least,x<m)/\(leastR tops bots ps least).length<=ps.length+least.length
 |[],least,_,h=>by rw[leastR];exact⟨h,by simp⟩
 |p::ps,[],c,_=>by
  rw[leastR]
  have:=dA (tops:=tops) (bots:=bots) (λx hx=>c x (qah _ hx)) λx hx=>by rw[qam.mp hx];exact c p qag
  exact⟨this.1,by simp at this ⊢;lia⟩
 |p::ps,e::r,c,d=>by
  have a:=λx hx=>c x (qah _ hx);have b:=c p qag;rw[leastR];split
  ·have:=dA (tops:=tops) (bots:=bots) a d
   exact⟨this.1,by simp at this ⊢;lia⟩
  ·split
   ·have:=dA (tops:=tops) (bots:=bots) a λx hx=>by rw[qam.mp hx];exact b
    exact⟨this.1,by simp at this ⊢;lia⟩
   ·have:=dA (tops:=tops) (bots:=bots) a λx hx=>by
     rcases qaQ.mp hx with z|z
     ·exact d x z
     ·rw[qam.mp z];exact b
    exact⟨this.1,by simp at this ⊢;lia⟩
section
variable {P:Pb}{S:Tb}{st:Sto}{c:Nat}
theorem vZ (h:Okt P S) (w:c<=P.n):∀ (u ps:List Nat) (o:Option W),(∀ s∈u,s<=P.m)->(∀ x∈ps,x<P.m)->ps.length<=1000->
  ∃ p,b4 (.nm 4) dU (u.map (dD P.n)) [Z (obD P S),Z (.int (c:Int)),Z (.lst (mpI P.m λi=>S.T i c)),Z (.lst (psD ps)),o] st=some (.nx [Z (obD P S),Z (.int (c:Int)),Z (.lst (mpI P.m λi=>S.T i c)),Z (.lst (psD (leaveL (λs i=>LV P S i s) (λi=>S.T i c) u ps))),p] st)
 |[],ps,o,_,_,_=>⟨o,U⟩
 |s::u,ps,o,v,G,hz=>by
  have m:cw (.nm 4) _ [some _,some _,some _,some _,o]=some [Z (obD P S),Z (.int (c)),Z (.lst (mpI P.m λi=>S.T i c)),Z (.lst (psD ps)),Z (dD P.n s)]:=rfl;have y:aG dLt (iCB aT (aa (iV 3) ac)) (iC (.int 2)) [Z (obD P S),Z (.int (c)),Z (.lst (mpI P.m λi=>S.T i c)),Z (.lst (psD ps)),Z (dD P.n s)] st=some (decide (ps.length<2),st):=by
   refine ap (az U (jm _ _)) U ?_;rw[wq,yT]
   congr 2
   lia
  rw[qau,leaveL];by_cases q:ps.length<2
  ·rw[decide_eq_true q]at y
   rw[iFP q];refine⟨some (.d (dD P.n s)),?_⟩;have hb:dU [Z (obD P S),Z (.int (c)),Z (.lst (mpI P.m λi=>S.T i c)),Z (.lst (psD ps)),Z (dD P.n s)] st=some (.bk [Z (obD P S),Z (.int (c)),Z (.lst (mpI P.m λi=>S.T i c)),Z (.lst (psD ps)),Z (dD P.n s)] st):=by
    have:=cT (a:=uv) (b:=aW) y U
    show ah _ _ _ _=_;simp only[ah,this];rfl
   simp only[b4,m,qaa,hb]
  ·rw[decide_eq_false q]at y
   rw[iFN q];have f:=dA (tops:=λi=>LV P S i s) (bots:=λi=>S.T i c) (least:=[]) G (λx hx=>nomatch hx)
   obtain⟨p,J⟩:=vZ h w u _ _ (λx hx=>v x (qah _ hx)) f.1 (by have:=f.2;simp at this;lia);refine⟨p,?_⟩;have hb:dU [some _,some _,some _,some _,some _] st=some _:=
    ai (bC y U) (ao (aj (ab U (ab (aj U (Ca h (v s qag))) (ab U U))) (EZ (λi hi=>h.sL i s hi (v s qag)) (λi hi=>h.sT i c hi w) G hz)))
   simp only[b4,m,qaa,hb];exact J
def yP (l:List Nat):D:=match l with
 |[]=>.non
 |r::_=>.int ((r:Nat):Int)
theorem uL (h:Okt P S) (w:c<=P.n):gZ [.d (obD P S),.d (.int (c:Int))] st=some (.d (yP (fE P S c)),st):=by
 have hm:=h.m64;have A:bK (aa (iV 2) ac) [Z (obD P S),Z (.int (c)),Z (.lst (mpI P.m λi=>S.T i c)),none,none] st=some ((qai P.m).map λi=>D.tup [.int ((i:Nat)),.int (S.T i c)],st):=by
  rw[<-vo];rfl
 have B:∀ x∈iw P S c,x<P.m:=λx hx=>qaI.mp (qbF.mp hx).1;have E:(iw P S c).length<=1000:=by
  have:(iw P S c).length<=(qai P.m).length:=qbG ..
  rw[qas]at this;lia
 obtain⟨o,I⟩:=vZ (st:=st) h w (qai (P.m+1)) (iw P S c) none (λs v=>by have:=qaI.mp v;lia) B E;have hw:=nY (st:=st) h;have C:aA (ay di (aa (iV 0) ac)) [Z (obD P S),Z (.int (c:Int)),Z (.lst (mpI P.m λi=>S.T i c)),Z (.lst (psD (iw P S c))),none] st=some ((qai (P.m+1)).map (dD P.n),st):=aR (aj (ws:=[.d (obD P S)]) U hw);refine ar (n:=5) (k:=2) (b:=on) U (ai (ao (aq (aM (aR (ci (P:=P) (S:=S) (env:=[some _,Z (.int (c)),none,none,none]) (st:=st) (a:=iV 0) U)) (by rw[ce];lia) (fR _ λi _=>ae U U (sK st w))))) (ai (ao (aq (aM A (by rw[qaf,qas];lia) (uE (g:=λi=>(D.int ((i:Nat):Int),.int (S.T i c))) (λi=>decide (S.T i c > 0)) (λi=>D.int ((i:Nat):Int)) λi _=>⟨ap U U (CS _ _ _),λ_=>rfl⟩)))) (ai (a7 C I) (aC ?_))));show eO _ _ _ [some _,some _,some _,Z (.lst (psD (fE P S c))),o] st=_;cases fE P S c with
 |nil=>rfl
 |cons r l=>exact nC U (ae U U (CH _ _))
theorem uJ (hz:∀ i,i<P.m->S.T i c<=0):fE P S c=[]:=by
 have:iw P S c=[]:=by
  unfold iw;rw[qek];intro i hi
  have:=hz i (qaI.mp hi)
  lia
 unfold fE;rw[this,qdr,leaveL,iFP (by decide)]
theorem uK (h:Okt P S) (hA:∀ i,i<P.m->∀ t,P.m<=t->P.A (S.kept i) t=0) (hz:¬ ∀ i,i<P.m->S.T i c<=0) :
  ∃ r,fE P S c=[r]/\r<P.m/\0<S.T r c/\∀ i,i<P.m->i≠r->0<S.T i c->lexP (P.m+1) λs=>S.T r c*LV P S i s - S.T i c*LV P S r s:=by
 have F:∀ i,i∈iw P S c↔i<P.m/\0<S.T i c:=λi=>by
  unfold iw;rw[qbF,qaI,decide_eq_true_eq]
 obtain⟨r,H,q⟩:=Sx.leaving_ok h.good hA F (qfl qeI List.nodup_range) (λe=>hz λi hi=>by
  have:¬ _:=λz=>by
   have:=(F i).mpr z
   rw[e]at this;exact absurd this qbv
  lia)
 refine⟨r,?_,q⟩;rw[<-H];unfold fE;rw[show (λj=>0+j)=id by funext j;simp,qgY]
end
end Own
set_option maxHeartbeats 1000000
namespace Own
open PySem L2
open Sx (Pb Tb Good Named Fe LV ZV piv lexP leastR leaveL sumN unit colV basis)
theorem uA (s:Sto) (a b:D):dIx s (.d (.tup [a,b])) (.d (.int 0))=some a:=rfl
theorem mX (s:Sto) (a b:D):dIx s (.d (.tup [a,b])) (.d (.int 1))=some b:=rfl
theorem DP {a:Af}{env:Ev}{st s:Sto}{ws:List W}{ds:List D} (c:a env st=some (ws,s)) (h:og ws=some ds) (b:ds.length<=1000):aY a env st=some (.d (.tup ds),s):=by
 simp only[aY,c,qaa,h,qan,b,if_true]
section
variable {P:Pb}{S:Tb}{st:Sto}
theorem Cc (s:Sto) (a:Int):dNe s (.d (.int a)) (.d (.int 0))=some (.bl (!(a==0))):=rfl
theorem Sm.two {a b:Int} (ha:Sm a) (hb:Sm b):(a*b).natAbs<2^8000:=Dj (y:=4000) ha hb
theorem vD (h:Okt P S) {c1 o c2 g:Nat}{M B:Int} (m:o<P.m) (n:g<P.m) (Y:M.natAbs<2^8000) (hB:B.natAbs<2^8000):∀ (I:List Nat) (w q p:Option W),(∀ s∈I,s<=P.m)->
  (∃ b,b4 (.nm 5) bM (I.map (dD P.n)) [Z (obD P S),Z (.tup [.int (c1:Int),.int (o:Int)]),Z (.tup [.int (c2:Int),.int (g:Int)]),Z (.int M),Z (.int B),w,q,p] st=some (.rt (.d (.bl b)) st))\/
  ∃ e,b4 (.nm 5) bM (I.map (dD P.n)) [Z (obD P S),Z (.tup [.int (c1:Int),.int (o:Int)]),Z (.tup [.int (c2:Int),.int (g:Int)]),Z (.int M),Z (.int B),w,q,p] st=some (.nx e st)
 |[],w,q,p,_=>.inr ⟨_,U⟩
 |s::I,w,q,p,K=>by
  have E:=K s qag;have f:cw (.nm 5) _ [some _,some _,some _,some _,some _,w,q,p]=some [Z (obD P S),Z (.tup [.int (c1),.int (o)]),Z (.tup [.int (c2),.int (g)]),Z (.int M),Z (.int B),Z (dD P.n s),q,p]:=rfl;have s6:aD (.nm 6) (ay cp (aa (iV 0) (aa (iV 5) ac))) [some _,Z (.tup [.int (c1),.int (o)]),Z (.tup [.int (c2),.int (g)]),Z (.int M),Z (.int B),some _,q,p] st=some _:=ao (aj U (Ca h E));have R:aD (.nm 7) (iOp jY (iOp aU (iV 4) (iOp dIx (iV 6) (iOp dIx (iV 2) (iC _)))) (iOp aU (iV 3) (iOp dIx (iV 6) (iOp dIx (iV 1) (iC _))))) [Z (obD P S),Z (.tup [.int (c1),.int _]),Z (.tup [.int (c2),.int _]),some _,some _,Z (dD P.n s),Z (.lst (mpI P.m λi=>LV P S i s)),p] st=some _:=
   ao (ae (ae U (ae U (ae U U (mX st _ _)) (dz st n)) (bn st (mulOk 8000 4000 hB (h.sL g s n E) (by decide)))) (ae U (ae U (ae U U (mX st _ _)) (dz st m)) (bn st (mulOk 8000 4000 Y (h.sL o s m E) (by decide)))) U)
  generalize B*LV P S g s - M*LV P S o s=Zq at R;have L:aG dNe (iV 7) (iC _) [Z (obD P S),Z (.tup [.int (c1),.int (o)]),Z (.tup [.int (c2),.int (g)]),Z (.int M),Z (.int B),Z (dD P.n s),Z (.lst (mpI P.m λi=>LV P S i s)),some _] st=some (!_,st):=ap U U (Cc st Zq);rw[qau];cases hz:(Zq==0) with
  |false=>
   rw[hz]at L
   left
   refine⟨decide (Zq > 0),?_⟩;have hb:bM [some _,some _,some _,some _,some _,some _,q,p] st=some _:=ai s6 (ai R (cT L (aC (ae U U (CS st _ _)))));simp only[b4,f,qaa,hb]
  |true=>
   rw[hz]at L;have hb:bM [some _,some _,some _,some _,some _,some _,q,p] st=some _:=ai s6 (ai R (bC L U));simp only[b4,f,qaa,hb];exact (vD h m n Y hB I _ _ _ λx hx=>K x (qah _ hx))
theorem EI (h:Okt P S) {c1 o c2 g:Nat} (hc1:c1<P.n) (m:o<P.m) (hc2:c2<P.n) (n:g<P.m):∃ b,bQ [.d (obD P S),.d (.tup [.int (c1:Int),.int (o:Int)]),.d (.tup [.int (c2:Int),.int (g:Int)])] st=some (.d (.bl b),st):=by
 have G:∀ l o4 w q p,iV 0 [some _,Z (.tup [.int (c1),.int (o)]),Z (.tup [.int (c2),.int (g)]),l,o4,w,q,p] st=some (.d (obD P S),st):=λ_ _ _ _ _=>rfl;have u:aD (.nm 3) (iOp aU (iOp dIx _ (iOp dIx (iV 1) (iC _))) (iOp dIx (iOp dIx _ (iOp dIx (iV 2) (iC _))) (iOp dIx (iV 2) (iC _)))) [some _,some _,some _,none,none,none,none,none] st=some _:=
  ao (ae (ae (lq (G _ _ _ _ _)) (ae U U (uA st _ _)) (dz st (by lia))) (ae (ae (ci (G _ _ _ _ _)) (ae U U (mX st _ _)) (sM st n)) (ae U U (uA st _ _)) (sK st (by lia))) (bn st (Sm.mulOk (h.sG c1 (by lia)) (h.sT g c2 n (by lia)))))
 have s4:aD (.nm 4) (iOp aU (iOp dIx _ (iOp dIx (iV 2) (iC _))) (iOp dIx (iOp dIx _ (iOp dIx (iV 1) (iC _))) (iOp dIx (iV 1) (iC _)))) [some _,some _,some _,Z (.int (S.G c1*S.T g c2)),none,none,none,none] st=some _:=
  ao (ae (ae (lq (G _ _ _ _ _)) (ae U U (uA st _ _)) (dz st (by lia))) (ae (ae (ci (G _ _ _ _ _)) (ae U U (mX st _ _)) (sM st m)) (ae U U (uA st _ _)) (sK st (by lia))) (bn st (Sm.mulOk (h.sG c2 (by lia)) (h.sT o c1 m (by lia)))))
 have J:aA (ay di (aa (iV 0) ac)) [some _,Z (.tup [.int (c1),.int (o)]),Z (.tup [.int (c2),.int (g)]),Z (.int (S.G c1*S.T g c2)),Z (.int (S.G c2*S.T o c1)),none,none,none] st=some ((qai _).map _,st):=aR (aj U (nY h));rcases vD h m n (Sm.two (h.sG c1 (by lia)) (h.sT g c2 n (by lia))) (Sm.two (h.sG c2 (by lia)) (h.sT o c1 m (by lia))) (qai (P.m+1)) none none none (λs K=>by have:=qaI.mp K;lia) with⟨b,e⟩|⟨e,he⟩
 ·exact⟨b,ar U (ai u (ai s4 (fj (a7 J e))))⟩
 ·exact⟨false,ar U (ai u (ai s4 (ai (a7 J he) U)))⟩
def jU (P:Pb) (S:Tb) (x:D):Prop:=x=.non\/∃ c r,c<P.n/\S.G c<0/\fE P S c=[r]/\r<P.m/\0<S.T r c/\(∀ i,i<P.m->i≠r->0<S.T i c->lexP (P.m+1) λs=>S.T r c*LV P S i s - S.T i c*LV P S r s)/\x=.tup [.int (c:Int),.int (r:Int)]
theorem o9 (h:Okt P S) (hA:∀ i,i<P.m->∀ t,P.m<=t->P.A (S.kept i) t=0):∀ (j k:Nat) (x:D) (A l:Option W),k+j=P.n->jU P S x->(x=.non->∀ c,c<k->0<=S.G c)->
  (∃ c,c<P.n/\S.G c<0/\(∀ i,i<P.m->S.T i c<=0)/\b4 (.nm 2) bI ((qeH k j).map λc=>D.int ((c:Nat):Int)) [Z (obD P S),Z x,A,l] st=some (.rt (.d (.tup [.int (c:Int),.non])) st))\/
  ∃ y X T,jU P S y/\(y=.non->∀ c,c<P.n->0<=S.G c)/\b4 (.nm 2) bI ((qeH k j).map λc=>D.int ((c:Nat):Int)) [Z (obD P S),Z x,A,l] st=some (.nx [Z (obD P S),Z y,X,T] st)
 |0,k,x,A,l,hk,hx,C=>.inr ⟨x,A,l,hx,by rw[<-hk];exact C,U⟩
 |j+1,k,x,A,l,hk,hx,C=>by
  have F:k<P.n:=by lia
  have f:cw (.nm 2) _ [some _,Z x,A,l]=some [Z (obD P S),Z x,Z (.int ((k:Nat):Int)),l]:=rfl;have G:∀ a b d,iV 0 [some _,a,b,d] st=some (.d (obD P S),st):=λ_ _ _=>rfl;have tg:aG dGe (iOp dIx _ (iV 2)) (iC (.int 0)) [some _,Z x,some _,l] st=some (decide (S.G k>=0),st):=ap (ae (lq (G _ _ _)) U (dz st (by lia))) U (EH st _ _);rw[List.range'_succ,qau];by_cases hg:S.G k>=0
  ·rw[decide_eq_true hg]at tg
   have hb:bI [Z (obD P S),Z x,Z (.int ((k:Nat):Int)),l] st=some (.ct [Z (obD P S),Z x,Z (.int ((k:Nat):Int)),l] st):=by
    have:=cT (a:=oE) (b:=aW) tg U
    show ah _ _ _ _=_;simp only[ah,this];rfl
   simp only[b4,f,qaa,hb]
   exact (o9 h hA j (k+1) x (Z (.int ((k:Nat):Int))) l (by lia) hx λe c hc=>by
    by_cases z:c=k
    ·rw[z];exact hg
    ·exact C e c (by lia))
  ·rw[decide_eq_false hg]at tg
   have H:S.G k<0:=by lia
   have u:aD (.nm 3) (aY (aa (iV 2) (aa (ay gZ (aa (iV 0) (aa (iV 2) ac))) ac))) [Z (obD P S),Z x,Z (.int ((k:Nat):Int)),l] st=some (.nx [Z (obD P S),Z x,Z (.int ((k:Nat):Int)),Z (.tup [.int ((k:Nat):Int),yP (fE P S k)])] st):=
    ao (DP (ab U (ab (aj (ws:=[.d (obD P S),.d (.int ((k:Nat):Int))]) U (uL (st:=st) (c:=k) h (by lia))) U)) U (by show 2<=1000;decide))
   by_cases hz:∀ i,i<P.m->S.T i k<=0
   ·rw[uJ hz]at u
    left
    refine⟨k,F,H,hz,?_⟩;have hb:bI [Z (obD P S),Z x,Z (.int ((k:Nat):Int)),l] st=some (.rt (.d (.tup [.int ((k:Nat):Int),.non])) st):=ai (bC tg U) (ai u (fj (cT (ap (ae U U (mX st _ _)) U (qg st)) U)));simp only[b4,f,qaa,hb]
   ·obtain⟨r,l1,l2,l3,l4⟩:=uK h hA hz
    rw[l1]at u;have Q:aG jl (iOp dIx (iV 3) (iC (.int 1))) (iC .non) [Z (obD P S),Z x,Z (.int ((k:Nat):Int)),Z (.tup [.int ((k:Nat):Int),.int ((r:Nat):Int)])] st=some (false,st):=ap (ae U U (mX st _ _)) U (vQ st _);have v:jU P S _:=.inr ⟨k,r,F,H,l1,l2,l3,l4,U⟩;have N:∃ y,jU P S y/\y≠.non/\bI [Z (obD P S),Z x,Z (.int ((k:Nat):Int)),l] st=some (.nx [Z (obD P S),Z y,Z (.int ((k:Nat):Int)),Z (.tup [.int ((k:Nat):Int),.int ((r:Nat):Int)])] st):=by
     rcases hx with rfl|⟨c,O,c1,c2,c3,c4,c5,c6,rfl⟩
     ·have t1:aG jl (iV 1) (iC .non) [Z (obD P S),Z .non,Z (.int ((k:Nat):Int)),Z (.tup [.int ((k:Nat):Int),.int ((r:Nat):Int)])] st=some (true,st):=ap U U (qg st)
      have t2:dI (aG jl (iV 1) (iC .non)) (cm cJ (ay bQ (aa (iV 0) (aa (iV 3) (aa (iV 1) ac))))) [Z (obD P S),Z .non,Z (.int ((k:Nat):Int)),Z (.tup [.int ((k:Nat):Int),.int ((r:Nat):Int)])] st=some (true,st):=by simp only[dI,t1,qaa,if_true]
      exact⟨_,v,by simp,ai (bC tg U) (ai u (ai (bC Q U) (cT t2 U)))⟩
     ·obtain⟨b,eb⟩:=EI h F l2 c1 c4
      have t1:aG jl (iV 1) (iC .non) [Z (obD P S),Z (.tup [.int (c:Int),.int (O:Int)]),Z (.int ((k:Nat):Int)),Z (.tup [.int ((k:Nat):Int),.int ((r:Nat):Int)])] st=some (false,st):=ap U U (AK st _);have t3:ay bQ (aa (iV 0) (aa (iV 3) (aa (iV 1) ac))) [some _,some _,Z (.int ((k:Nat):Int)),some _] st=some (.d (.bl b),st):=aj U eb;have t2:dI (aG jl (iV 1) (iC .non)) (cm cJ (ay bQ (aa (iV 0) (aa (iV 3) (aa (iV 1) ac))))) [Z (obD P S),Z (.tup [.int (c:Int),.int (O:Int)]),Z (.int ((k:Nat):Int)),Z (.tup [.int ((k:Nat):Int),.int ((r:Nat):Int)])] st=some (b,st):=by simp only[dI,t1,cm,t3,qaa,qbq,if_false,cJ,qan]
      cases b with
      |true=>exact⟨_,v,by simp,ai (bC tg U) (ai u (ai (bC Q U) (cT t2 U)))⟩
      |false=>exact⟨_,.inr ⟨c,O,c1,c2,c3,c4,c5,c6,U⟩,by simp,ai (bC tg U) (ai u (ai (bC Q U) (bC t2 U)))⟩
    obtain⟨y,hy,V,hb⟩:=N;simp only[b4,f,qaa,hb];exact (o9 h hA j (k+1) y (Z (.int ((k:Nat):Int))) (Z (.tup [.int ((k:Nat):Int),.int ((r:Nat):Int)])) (by lia) hy λe=>absurd e V)
theorem Et (h:Okt P S) (hA:∀ i,i<P.m->∀ t,P.m<=t->P.A (S.kept i) t=0) :
  (∃ c,c<P.n/\S.G c<0/\(∀ i,i<P.m->S.T i c<=0)/\bD [.d (obD P S)] st=some (.d (.tup [.int (c:Int),.non]),st))\/
  ∃ y,jU P S y/\(y=.non->∀ c,c<P.n->0<=S.G c)/\bD [.d (obD P S)] st=some (.d y,st):=by
 have hn:=h.n64;have hr:ca (aa (iCB aT (aa (ax "free" (iV 0)) ac)) ac) [Z (obD P S),Z .non,none,none] st=some ((qeH 0 P.n).map λc=>D.int ((c:Nat)),st):=by
  have e2:cU 0 P.n=(qeH 0 P.n).map λc=>D.int ((c:Nat)):=by
   unfold cU;rw[qgO];exact qc8 λk _=>by rw[qcj]
  rw[<-e2];exact (i8 (az (ab (lp U) U) (show aT st [.d _]=some _ by rw[jm,aB])) (by lia) (by lia) (by lia))
 rcases o9 h hA P.n 0 .non none none (by lia) (.inl rfl) (λ_ c hc=>absurd hc (by lia)) with⟨c,c1,c2,c3,e⟩|⟨y,A,l,y1,y2,e⟩
 ·exact .inl ⟨c,c1,c2,c3,ar U (ai U (fj (a7 hr e)))⟩
 ·exact .inr ⟨y,y1,y2,ar U (ai U (ai (a7 hr e) U))⟩
end
end Own
set_option maxHeartbeats 1000000
namespace Own
open PySem L2
open Sx (Pb Tb Good Named Fe LV ZV piv lexP leastR leaveL sumN unit colV basis)
theorem dR {n k:Nat} (h:k<n):ixN n (k:Int)=some k:=by
 unfold ixN;rw[iFP (by lia),iFP (by lia)];rfl
theorem Ei (n:Nat) (f g:Nat->Int):dG (mpI n f) (mpI n g)=(qai n).map λc=>D.tup [.int (f c),.int (g c)]:=by
 apply qbo;intro i;rw[fm,qav];by_cases hi:i<n
 ·rw[bf hi,bf hi,qa6 hi];rfl
 ·rw[qaE (by rw[aB];lia),qaE (l:=qai n) (by rw[qas];lia)];rfl
theorem yN {te:Ef}{l:Ev}{st:Sto}{g:Nat->D×D} (F:Nat->D) {a:List Nat} (h:∀ k∈a,te (Z (g k).1::some (.d (g k).2)::l) st=some (.d (F k),st)) :
  lcI (.tp [0,1]) aP te (none::none::l) (a.map λk=>D.tup [(g k).1,(g k).2]) st=some (a.map F,st):=by
 have:=uE (tt:=aP) _ F λk b=>⟨U,λ_=>h k b⟩
 rw[this,qeJ.mpr λ_ _=>rfl]
theorem tZ {st:Sto}{n e:Nat}{f g:Nat->Int}{p:Int} (j:e<=n) (u:0<p) (sp:Sm p) (m:∀ c,c<=n->Sm (f c)) (sg:∀ c,c<=n->Sm (g c)) (hn:n<=1000) :
  jH [.d (.lst (mpI (n+1) f)),.d (.lst (mpI (n+1) g)),.d (.int (e:Int)),.d (.int p)] st=some (.d (.lst (mpI (n+1) λc=>if c=e then - f e else (g e*f c - f e*g c) / p)),st):=by
 have a:e<n+1:=by lia
 have hz:cY (aa (iV 0) (aa (iV 1) ac)) [Z (.lst (mpI (n+1) f)),Z (.lst (mpI (n+1) g)),Z (.int (e:Int)),Z (.int p),Z (.int (g e)),Z (.int (f e)),none] st=some ((qai (n+1)).map λc=>D.tup [.int (f c),.int (g c)],st):=by
  rw[<-Ei];rfl
 have s:lcI (.tp [0,1]) aP jZ [none,none,Z (.int (g e)),Z (.int (f e)),Z (.int p)] ((qai (n+1)).map λc=>D.tup [.int (f c),.int (g c)]) st=some (mpI (n+1) λc=>(g e*f c - f e*g c) / p,st):=by
  refine yN (g:=λc=>(D.int (f c),.int (g c))) _ λc x=>?_;have i:c<=n:=by have:=qaI.mp x;lia
  exact ae (ae (ae U U (bn st (Sm.mulOk (sg e j) (m c i)))) (ae U U (bn st (Sm.mulOk (m e j) (sg c i)))) U) U (pJ st u sp)
 have r:aD (.nm 6) (bV (iLc 2 [4,5,3] (cY (aa (iV 0) (aa (iV 1) ac))) (.tp [0,1]) aP jZ)) [Z (.lst (mpI (n+1) f)),Z (.lst (mpI (n+1) g)),Z (.int (e:Int)),Z (.int p),Z (.int (g e)),Z (.int (f e)),none] st=some (.nx [Z (.lst (mpI (n+1) f)),Z (.lst (mpI (n+1) g)),Z (.int (e:Int)),Z (.int p),Z (.int (g e)),Z (.int (f e)),some (.h st.length)] (st++[.l (mpI (n+1) λc=>(g e*f c - f e*g c) / p)])):=by
  refine ao ?_
  have:=aM (k:=2) (js:=[4,5,3]) hz (by rw[qaf,qas];lia) s
  simp only[bV,this,qan]
 have w:bo (iV 6) (iV 2) (iUn im (iV 5)) [Z (.lst (mpI (n+1) f)),Z (.lst (mpI (n+1) g)),Z (.int (e:Int)),Z (.int p),Z (.int (g e)),Z (.int (f e)),some (.h st.length)] (st++[.l (mpI (n+1) λc=>(g e*f c - f e*g c) / p)])=some (.nx [Z (.lst (mpI (n+1) f)),Z (.lst (mpI (n+1) g)),Z (.int (e:Int)),Z (.int p),Z (.int (g e)),Z (.int (f e)),some (.h st.length)] (st++[.l (mpI (n+1) λc=>if c=e then - f e else (g e*f c - f e*g c) / p)])):=by
  have t:fU (st++[.l (mpI (n+1) λc=>(g e*f c - f e*g c) / p)]) (.h st.length) (.d (.int (e:Int))) (.d (.int (- f e)))=some (st++[.l (mpI (n+1) λc=>if c=e then - f e else (g e*f c - f e*g c) / p)]):=by
   simp only[fU,gu,qaa,aB,dR a,qan,nJ,fI]
  have v:iUn im (iV 5) [Z (.lst (mpI (n+1) f)),Z (.lst (mpI (n+1) g)),Z (.int (e:Int)),Z (.int p),Z (.int (g e)),Z (.int (f e)),some (.h st.length)] _=some (.d (.int (- f e)),st++[.l (mpI (n+1) λc=>(g e*f c - f e*g c) / p)]):=rfl;have q:iV 6 [Z (.lst (mpI (n+1) f)),Z (.lst (mpI (n+1) g)),Z (.int (e:Int)),Z (.int p),Z (.int (g e)),Z (.int (f e)),some (.h st.length)] _=some (.h st.length,st++[.l (mpI (n+1) λc=>(g e*f c - f e*g c) / p)]):=rfl;have o:iV 2 [Z (.lst (mpI (n+1) f)),Z (.lst (mpI (n+1) g)),Z (.int (e:Int)),Z (.int p),Z (.int (g e)),Z (.int (f e)),some (.h st.length)] _=some (.d (.int (e:Int)),st++[.l (mpI (n+1) λc=>(g e*f c - f e*g c) / p)]):=rfl;simp only[bo,v,q,o,qaa,t,qan]
 have:=l7 (n:=7) (k:=4) (b:=vh) (ws:=[.d (.lst (mpI (n+1) f)),.d (.lst (mpI (n+1) g)),.d (.int (e:Int)),.d (.int p)]) (st:=st) (h:=st.length) U (ai (ao (ae U U (dz st a))) (ai (ao (ae U U (dz st a))) (ai r (ai w U)))) (qao _) (gu _ _)
 rw[qcI]at this;exact this
abbrev stG (st0:Sto) (fr kp:List D) (fs:List (Str×W)):Sto:=st0++[.l fr,.l kp,.o fs]
def fsO (n:Nat) (b:List D) (a:List D) (p:Int) (L:Nat):List (Str×W):=[("amounts",.d (.int (n:Int))),("lines",.d (.lst b)),("goal",.d (.lst a)),("part",.d (.int p)),("free",.h L),("kept",.h (L+1))]
section
variable {st0:Sto}{fr kp:List D}{fs:List (Str×W)}
theorem sg2:(stG st0 fr kp fs)[st0.length+2]?=some (.o fs):=by rw[qaJ (by lia)];simp
theorem sg0:lg (stG st0 fr kp fs) st0.length=some fr:=by unfold lg;rw[qaJ (by lia)];simp
theorem sg1:lg (stG st0 fr kp fs) (st0.length+1)=some kp:=by unfold lg;rw[qaJ (by lia)];simp
theorem ss2 {c:List (Str×W)}:(stG st0 fr kp fs).set (st0.length+2) (.o c)=stG st0 fr kp c:=by simp
theorem ss0 {x:List D}:(stG st0 fr kp fs).set st0.length (.l x)=stG st0 x kp fs:=by simp
theorem ss1 {x:List D}:(stG st0 fr kp fs).set (st0.length+1) (.l x)=stG st0 fr x fs:=by simp
theorem kB {f:Str}{w:W}{a:Ef}{env:Ev} (h:a env (stG st0 fr kp fs)=some (.h (st0.length+2),stG st0 fr kp fs)) (b:fs.lookup f=some w):ax f a env (stG st0 fr kp fs)=some (w,stG st0 fr kp fs):=by
 simp only[ax,h,qaa,sg2,b,qan]
theorem qY {f:Str}{x:D}{o v:Ef}{env:Ev} (g:v env (stG st0 fr kp fs)=some (.d x,stG st0 fr kp fs)) (e:o env (stG st0 fr kp fs)=some (.h (st0.length+2),stG st0 fr kp fs)) (hz:fs.length<1000) (b:(fs.lookup f).isSome=true):kK f o v env (stG st0 fr kp fs)=some (.nx env (stG st0 fr kp (nA f (.d x) fs))):=by
 simp only[kK,g,e,qaa,sg2,hz,b,and_self,if_true,ss2]
end
section
variable {n L:Nat}{b a e c:List D}{p f:Int}
theorem Bx:nA ("goal" : Str) (.d (.lst c)) (fsO n b a p L)=fsO n b c p L:=rfl
theorem zC:nA ("lines" : Str) (.d (.lst e)) (fsO n b a p L)=fsO n e a p L:=rfl
theorem By:nA ("part" : Str) (.d (.int f)) (fsO n b a p L)=fsO n b a f L:=rfl
theorem sQ:(fsO n b a p L).lookup ("lines" : Str)=some (.d (.lst b)):=rfl
theorem AT:(fsO n b a p L).lookup ("goal" : Str)=some (.d (.lst a)):=rfl
theorem AU:(fsO n b a p L).lookup ("part" : Str)=some (.d (.int p)):=rfl
end
def stO (st0:Sto) (P:Pb) (S:Tb):Sto:=stG st0 (mpI P.n (nI S.free)) (mpI P.m (nI S.kept)) (fsO P.n (aS P.m P.n S.T) (mpI (P.n+1) S.G) S.p st0.length)
theorem Ab {st0:Sto}{P:Pb}{S:Tb}{ws:List W}{a:List W} (h:vwA (stO st0 P S) ws=some a):vwA (stO st0 P S) (.h (st0.length+2)::ws)=some (.d (obD P S)::a):=by
 have e:vwW (stO st0 P S) (.h (st0.length+2))=some (.d (obD P S)):=by
  unfold vwW stO;dsimp only;rw[sg2];dsimp only
  have:vwF (stG st0 (mpI P.n (nI S.free)) (mpI P.m (nI S.kept)) (fsO P.n (aS P.m P.n S.T) (mpI (P.n+1) S.G) S.p st0.length)) (fsO P.n (aS P.m P.n S.T) (mpI (P.n+1) S.G) S.p st0.length)=some [.int (P.n),.lst (aS P.m P.n S.T),.lst (mpI (P.n+1) S.G),.int S.p,.lst (mpI P.n (nI S.free)),.lst (mpI P.m (nI S.kept))]:=by
   simp only[fsO,vwF,qan,qaa];rw[sg0,sg1];rfl
  rw[this];rfl
 simp only[vwA,e,h,qaa,qan]
theorem xA {m n r:Nat}{F:Nat->Nat->Int}{g:Nat->Int}:((qai m).map λi=>D.lst (mpI (n+1) (F i))).set r (.lst (mpI (n+1) g))=aS m n λi=>if i=r then g else F i:=by
 apply qbo;intro i;by_cases hi:i<m
 ·rw[nh hi]
  by_cases e:i=r
  ·subst e
   rw[qbn (by rw[qaf,qas];exact hi)];unfold lnD;dsimp only;rw[iFP U]
  ·rw[qbz (qbD e),qav,qa6 hi]
   unfold lnD;dsimp only;rw[iFN e];rfl
 ·rw[qaE (by rw[qb2,qaf,qas];lia),qaE (by rw[ce];lia)]
theorem AC {st0:Sto}{P:Pb}{S:Tb} (h:Okt P S) {r e:Nat} (w:r<P.m) (K:e<P.n):dC [.h (st0.length+2),.d (.int (r:Int)),.d (.int (e:Int))] (stO st0 P S)=some (.d .non,stO st0 P (piv S r e)):=by
 have hm:=h.m64;have hn:=h.n64;have L:=h.good.pos
 -- turning,part
 generalize u:S.T=T at *;have fin:∀ (env:Ev) (s:Sto),iP [some _,some _,some _,none,none,none,none] _=some (.nx env s)->s.take (stO st0 P S).length=s->dC [.h (st0.length+2),.d (.int (r)),.d (.int (e))] _=some (.d .non,s):=λenv s V X=>by
  show (iP [some _,some _,some _,none,none,none,none] _).bind _=_;rw[V];show some (W.d .non,s.take (stO st0 P S).length)=_;rw[X]
 have q:∀ (a b c d g i:Option W) (s:Sto),iV 0 [some _,a,b,c,d,g,i] s=some (.h (st0.length+2),s):=λ_ _ _ _ _ _ _=>rfl;have R:aD (.nm 3) (iOp dIx (ax ("lines") (iV 0)) (iV 1)) [some (.h (st0.length+2)),some (.d (.int (r))),some (.d (.int (e))),none,none,none,none] (stO st0 P S)=some (.nx [some (.h (st0.length+2)),some (.d (.int (r))),some (.d (.int (e))),some (.d (.lst (mpI (P.n+1) (T r)))),none,none,none] (stO st0 P S)):=by
  refine ao (ae (kB (q _ _ _ _ _ _ _) sQ) U ?_);rw[u];exact sM _ w
 have sT:∀ i c,i<P.m->c<=P.n->Sm (T i c):=λi c hi m=>by rw[<-u];exact h.sT i c hi m
 have H:iLc 1 [3,2,4] (aA (ax ("lines" : Str) (iV 0))) (.nm 0) aP c9 [some (.h (st0.length+2)),some (.d (.int (r:Int))),some (.d (.int (e:Int))),some (.d (.lst (mpI (P.n+1) (T r)))),some (.d (.int S.p)),none,none] (stO st0 P S)=some ((qai P.m).map λi=>D.lst (mpI (P.n+1) λc=>if c=e then - T i e else (T r e*T i c - T i e*T r c) / S.p),stO st0 P S):=by
  refine aM (aR (kB (f:=("lines" : Str)) (a:=iV 0) (st0:=st0) (fr:=mpI P.n (nI S.free)) (kp:=mpI P.m (nI S.kept)) (fs:=fsO P.n (aS P.m P.n S.T) (mpI (P.n+1) S.G) S.p st0.length) (q (some (.d (.int (r:Int)))) (some (.d (.int (e:Int)))) (some (.d (.lst (mpI (P.n+1) (T r))))) (some (.d (.int S.p))) none none _) sQ)) (by rw[ce];lia) ?_
  show lcI (.nm 0) aP c9 [none,some (.d (.lst (mpI (P.n+1) (T r)))),some (.d (.int (e:Int))),some (.d (.int S.p))] (aS P.m P.n S.T) (stO st0 P S)=_;rw[show aS P.m P.n S.T=(qai P.m).map (lnD P.n T) by rw[u];rfl];refine fR (g:=lnD P.n T) _ λi hi=>?_;exact aj (ws:=[.d (lnD P.n T i),.d (.lst (mpI (P.n+1) (T r))),.d (.int (e:Int)),.d (.int S.p)]) U (tZ (f:=T i) (g:=T r) (by lia) L h.sp (λc m=>sT i c (qaI.mp hi) m) (λc m=>sT r c w m) (by lia))
 have s5:i3 5 1 2 3 4 (iLc 1 [3,2,4] (aA (ax ("lines" : Str) (iV 0))) (.nm 0) aP c9) [some (.h (st0.length+2)),some (.d (.int (r:Int))),some (.d (.int (e:Int))),some (.d (.lst (mpI (P.n+1) (T r)))),some (.d (.int S.p)),none,none] (stO st0 P S)=some (.nx [some (.h (st0.length+2)),some (.d (.int (r:Int))),some (.d (.int (e:Int))),some (.d (.lst (mpI (P.n+1) (T r)))),some (.d (.int S.p)),some (.d (.lst (aS P.m P.n (piv S r e).T))),none] (stO st0 P S)):=by
  simp only[i3,H,qaa,qbS,qbt];rw[qaf,qas,dR w,aB,dR (by lia:e<P.n+1),qaa,qaa,iFP ⟨by lia,by show 5<7;decide,sZ _ _⟩,fI,xA];show some (Fl.nx [_,_,_,_,_,some (W.d (.lst (aS P.m P.n _))),none] _)=_
  have:(λi=>if i=r then (λj=>if j=e then S.p else T r j) else λc=>if c=e then - T i e else (T r e*T i c - T i e*T r c) / S.p)=(piv S r e).T:=by
   funext i c
   show _=if i=r then (if c=e then S.p else S.T r c) else _;rw[u];by_cases hi:i=r
   ·rw[iFP hi,iFP hi]
   ·rw[iFN hi,iFN hi]
  rw[this]
 have s6:=by
  have e0:=by
   funext c
   show _=if c=e then - S.G e else (S.T r e*S.G c - S.G e*S.T r c) / S.p;rw[u]
  have e1:=tZ (st:=stO st0 P S) (f:=S.G) (g:=T r) (n:=P.n) (e:=e) (by lia) L h.sp (λc m=>h.sG c m) (λc m=>sT r c w m) (by lia);rw[e0]at e1
  have:=qY (f:=("goal" : Str)) (o:=iV 0) (v:=ay jH (aa (ax ("goal" : Str) (iV 0)) (aa (iV 3) (aa (iV 2) (aa (iV 4) ac))))) (st0:=st0) (fr:=mpI P.n (nI S.free)) (kp:=mpI P.m (nI S.kept)) (fs:=fsO P.n (aS P.m P.n S.T) (mpI (P.n+1) S.G) S.p st0.length) (aj (ab (kB (f:=("goal" : Str)) (a:=iV 0) (st0:=st0) (fr:=mpI P.n (nI S.free)) (kp:=mpI P.m (nI S.kept)) (fs:=fsO P.n (aS P.m P.n S.T) (mpI (P.n+1) S.G) S.p st0.length) (q (some (.d (.int (r:Int)))) (some (.d (.int (e:Int)))) (some (.d (.lst (mpI (P.n+1) (T r))))) (some (.d (.int S.p))) (some (.d (.lst (aS P.m P.n (piv S r e).T)))) none _) AT) (ab U (ab U (ab U U)))) e1) (q _ _ _ _ _ _ _) (by show 6<1000;decide) U
  rw[Bx]at this;exact this
 have Q:=by
  have:=qY (f:=("lines" : Str)) (o:=iV 0) (v:=iV 5) (x:=.lst (aS P.m P.n (piv S r e).T)) (env:=[some (.h (st0.length+2)),some (.d (.int (r:Int))),some (.d (.int (e:Int))),some (.d (.lst (mpI (P.n+1) (T r)))),some (.d (.int S.p)),some (.d (.lst (aS P.m P.n (piv S r e).T))),none]) (st0:=st0) (fr:=mpI P.n (nI S.free)) (kp:=mpI P.m (nI S.kept)) (fs:=fsO P.n (aS P.m P.n S.T) (mpI (P.n+1) (piv S r e).G) S.p st0.length) U U (by show 6<1000;decide) U
  rw[zC]at this;exact this
 have N:kK ("part" : Str) (iV 0) (iOp dIx (iV 3) (iV 2)) [some (.h (st0.length+2)),some (.d (.int (r:Int))),some (.d (.int (e:Int))),some (.d (.lst (mpI (P.n+1) (T r)))),some (.d (.int S.p)),some (.d (.lst (aS P.m P.n (piv S r e).T))),none] (stG st0 (mpI P.n (nI S.free)) (mpI P.m (nI S.kept)) (fsO P.n (aS P.m P.n (piv S r e).T) (mpI (P.n+1) (piv S r e).G) S.p st0.length))=some (.nx [some (.h (st0.length+2)),some (.d (.int (r:Int))),some (.d (.int (e:Int))),some (.d (.lst (mpI (P.n+1) (T r)))),some (.d (.int S.p)),some (.d (.lst (aS P.m P.n (piv S r e).T))),none] (stG st0 (mpI P.n (nI S.free)) (mpI P.m (nI S.kept)) (fsO P.n (aS P.m P.n (piv S r e).T) (mpI (P.n+1) (piv S r e).G) (piv S r e).p st0.length))):=by
  have ep:(piv S r e).p=T r e:=by show S.T r e=_;rw[u]
  have:=qY (f:=("part" : Str)) (o:=iV 0) (v:=iOp dIx (iV 3) (iV 2)) (x:=.int (T r e)) (env:=[some (.h (st0.length+2)),some (.d (.int (r:Int))),some (.d (.int (e:Int))),some (.d (.lst (mpI (P.n+1) (T r)))),some (.d (.int S.p)),some (.d (.lst (aS P.m P.n (piv S r e).T))),none]) (st0:=st0) (fr:=mpI P.n (nI S.free)) (kp:=mpI P.m (nI S.kept)) (fs:=fsO P.n (aS P.m P.n (piv S r e).T) (mpI (P.n+1) (piv S r e).G) S.p st0.length) (ae U U (dz _ (by lia))) U (by show 6<1000;decide) U
  rw[By]at this;rw[ep];exact this
 generalize t:fsO P.n (aS P.m P.n (piv S r e).T) (mpI (P.n+1) (piv S r e).G) (piv S r e).p st0.length=FS at N;generalize hLN:W.d (.lst (aS P.m P.n (piv S r e).T))=LN at *;generalize Y:W.d (.lst (mpI (P.n+1) (T r)))=TR at *;have z:∀ {fr kp:List D}{k:Nat}{d:D},fr[k]?=some d->dIx (stG st0 fr kp FS) (.h st0.length) (.d (.int (k:Int)))=some d:=λ{fr kp k d} E=>by
  show (lg (stG st0 fr kp FS) st0.length).bind (λds=>atI ds (k:Int))=_;rw[sg0,qaa,cK E]
 have y:∀ {fr kp:List D}{k:Nat}{d:D},kp[k]?=some d->dIx (stG st0 fr kp FS) (.h (st0.length+1)) (.d (.int (k:Int)))=some d:=λ{fr kp k d} E=>by
  show (lg (stG st0 fr kp FS) (st0.length+1)).bind (λds=>atI ds (k:Int))=_;rw[sg1,qaa,cK E]
 have M:FS.lookup ("free" : Str)=some (.h st0.length):=by rw[<-t];rfl
 have O:FS.lookup ("kept" : Str)=some (.h (st0.length+1)):=by rw[<-t];rfl
 have I:bo (ax ("free" : Str) (iV 0)) (iV 2) (iOp dIx (ax ("kept" : Str) (iV 0)) (iV 1)) [some (.h (st0.length+2)),some (.d (.int (r:Int))),some (.d (.int (e:Int))),some TR,some (.d (.int S.p)),some LN,some (.d (.int (nI S.free e)))] (stG st0 (mpI P.n (nI S.free)) (mpI P.m (nI S.kept)) FS)=some (.nx [some (.h (st0.length+2)),some (.d (.int (r:Int))),some (.d (.int (e:Int))),some TR,some (.d (.int S.p)),some LN,some (.d (.int (nI S.free e)))] (stG st0 (mpI P.n (nI (piv S r e).free)) (mpI P.m (nI S.kept)) FS)):=by
  have F:iOp dIx (ax ("kept" : Str) (iV 0)) (iV 1) [some (.h (st0.length+2)),some (.d (.int (r:Int))),some (.d (.int (e:Int))),some TR,some (.d (.int S.p)),some LN,some (.d (.int (nI S.free e)))] (stG st0 (mpI P.n (nI S.free)) (mpI P.m (nI S.kept)) FS)=some (.d (.int (nI S.kept r)),stG st0 (mpI P.n (nI S.free)) (mpI P.m (nI S.kept)) FS):=ae (kB (q _ _ _ _ _ _ _) O) U (y (bf w))
  have A:=kB (f:=("free" : Str)) (a:=iV 0) (st0:=st0) (fr:=mpI P.n (nI S.free)) (kp:=mpI P.m (nI S.kept)) (fs:=FS) (q (some (.d (.int (r:Int)))) (some (.d (.int (e:Int)))) (some TR) (some (.d (.int S.p))) (some LN) (some (.d (.int (nI S.free e)))) _) M
  have C:iV 2 [some (.h (st0.length+2)),some (.d (.int (r:Int))),some (.d (.int (e:Int))),some TR,some (.d (.int S.p)),some LN,some (.d (.int (nI S.free e)))] (stG st0 (mpI P.n (nI S.free)) (mpI P.m (nI S.kept)) FS)=some (.d (.int (e:Int)),stG st0 (mpI P.n (nI S.free)) (mpI P.m (nI S.kept)) FS):=rfl;have J:fU (stG st0 (mpI P.n (nI S.free)) (mpI P.m (nI S.kept)) FS) (.h st0.length) (.d (.int (e:Int))) (.d (.int (nI S.kept r)))=some (stG st0 (mpI P.n (nI (piv S r e).free)) (mpI P.m (nI S.kept)) FS):=by
   simp only[fU,sg0,qaa,aB,dR K,qan,ss0,fI]
   congr 3
   funext j
   show _=(((if j=e then S.kept r else S.free j:Nat)):Int);by_cases l:j=e
   ·rw[iFP l,iFP l];rfl
   ·rw[iFN l,iFN l];rfl
  simp only[bo,F,A,C,qaa,J,qan]
 have B:bo (ax ("kept" : Str) (iV 0)) (iV 1) (iV 6) [some (.h (st0.length+2)),some (.d (.int (r:Int))),some (.d (.int (e:Int))),some TR,some (.d (.int S.p)),some LN,some (.d (.int (nI S.free e)))] (stG st0 (mpI P.n (nI (piv S r e).free)) (mpI P.m (nI S.kept)) FS)=some (.nx [some (.h (st0.length+2)),some (.d (.int (r:Int))),some (.d (.int (e:Int))),some TR,some (.d (.int S.p)),some LN,some (.d (.int (nI S.free e)))] (stG st0 (mpI P.n (nI (piv S r e).free)) (mpI P.m (nI (piv S r e).kept)) FS)):=by
  have F:iV 6 [some (.h (st0.length+2)),some (.d (.int (r:Int))),some (.d (.int (e:Int))),some TR,some (.d (.int S.p)),some LN,some (.d (.int (nI S.free e)))] (stG st0 (mpI P.n (nI (piv S r e).free)) (mpI P.m (nI S.kept)) FS)=some (.d (.int (nI S.free e)),stG st0 (mpI P.n (nI (piv S r e).free)) (mpI P.m (nI S.kept)) FS):=rfl;have A:=kB (f:=("kept" : Str)) (a:=iV 0) (st0:=st0) (fr:=mpI P.n (nI (piv S r e).free)) (kp:=mpI P.m (nI S.kept)) (fs:=FS) (q (some (.d (.int (r:Int)))) (some (.d (.int (e:Int)))) (some TR) (some (.d (.int S.p))) (some LN) (some (.d (.int (nI S.free e)))) _) O
  have C:iV 1 [some (.h (st0.length+2)),some (.d (.int (r:Int))),some (.d (.int (e:Int))),some TR,some (.d (.int S.p)),some LN,some (.d (.int (nI S.free e)))] (stG st0 (mpI P.n (nI (piv S r e).free)) (mpI P.m (nI S.kept)) FS)=some (.d (.int (r:Int)),stG st0 (mpI P.n (nI (piv S r e).free)) (mpI P.m (nI S.kept)) FS):=rfl;have J:fU (stG st0 (mpI P.n (nI (piv S r e).free)) (mpI P.m (nI S.kept)) FS) (.h (st0.length+1)) (.d (.int (r:Int))) (.d (.int (nI S.free e)))=some (stG st0 (mpI P.n (nI (piv S r e).free)) (mpI P.m (nI (piv S r e).kept)) FS):=by
   simp only[fU,sg1,qaa,aB,dR w,qan,ss1,fI]
   congr 3
   congr 1
   funext j
   show _=(((if j=r then S.free e else S.kept j:Nat)):Int);by_cases l:j=r
   ·rw[iFP l,iFP l];rfl
   ·rw[iFN l,iFN l];rfl
  simp only[bo,F,A,C,qaa,J,qan]
 have:=fin _ _ (ai R (ai (ao (kB (q _ _ _ _ _ _ _) AU)) (ai s5 (ai s6 (ai Q (ai N (ai (ao (ae (kB (q _ _ _ _ _ _ _) M) U (z (bf K)))) (ai I B)))))))) ?_
 ·rw[this,<-t];rfl
 ·refine qdq ?_
  unfold stO stG;rw[qaw,qaw];exact qao _
end Own
namespace Sx
theorem sumN_abs {n:Nat}{f:Nat->Int}{B:Nat} (h:∀ k,k<n->(f k).natAbs<=B):(sumN n f).natAbs<=n*B:=by
 induction n with
 |zero=>rw[sumN];omega
 |succ n w=>
  rw[sumN,qjN];have p:=w λk e=>h k (by omega);have x:=h n (by omega);omega
theorem sg_abs (k:Nat):(sg k).natAbs=1:=by unfold sg;split<;>rfl
theorem det_le {B X:Nat}:∀ (m:Nat) {C:Nat->Vec},m*B<=X->(∀ k t,k<m->t<m->(C k t).natAbs<=B)->(det m C).natAbs<=X^m
 |0,C,_,_=>by exact qao _
 |m+1,C,o,h=>by
  have:=sumN_abs (f:=λk=>sg k*C k 0*det m _) λk e=>by
   rw[qc5,qc5,sg_abs,qjL];exact qc3 (h k 0 e (by omega)) (det_le m (C:=λj t=>C (skip k j) (t+1)) (qaH (qcw B (by omega)) o) λj t z d=>h _ _ (by unfold skip;split<;>omega) (by omega))
  refine qaH this ?_;rw[<-Nat.mul_assoc,qjr,qgL (X^m)];exact qcw _ o
structure Bd (P:Pb):Prop where
 m64:P.m<=64
 n64:P.n<=100
 A:∀ k,k<P.n+P.m->∀ t,t<P.m->(P.A k t).natAbs<=2^50
 b:∀ t,t<P.m->(P.b t).natAbs<=2^50
 g:∀ k,k<P.n+P.m->(P.g k).natAbs<=2^50
variable {P:Pb}
theorem Bd.det (h:Bd P) {C:Nat->Vec} (q:∀ k t,k<P.m->t<P.m->(C k t).natAbs<=2^50):(det P.m C).natAbs<=2^3584:=by
 have hm:=h.m64
 refine qaH (det_le (X:=2 ^ 56) P.m (by
  have:P.m*2^50<=64*2^50:=qcw _ hm
  exact qaH this (by decide)) q) ?_
 rw[<-qjK];exact qaY (by decide) (by omega)
theorem unit_le (r t:Nat):(unit r t).natAbs<=2^50:=by unfold unit;split<;>decide
theorem Bd.basis (h:Bd P) {S:Tb} (hn:Named P S) {v:Vec} (u:∀ t,t<P.m->(v t).natAbs<=2^50) (i k t:Nat) (e:k<P.m) (d:t<P.m):(upd (basis P S) i v k t).natAbs<=2^50:=by
 unfold upd;split
 ·exact u t d
 ·exact h.A _ (hn.bound.2 k e) t d
theorem Bd.T (h:Bd P) {S:Tb} (hg:Good P S) (hn:Named P S) {i c:Nat} (hi:i<P.m) (l:c<=P.n):(S.T i c).natAbs<=2^3584:=by
 rw[hg.entry l hi];refine h.det λk t e d=>h.basis hn (λt d=>?_) i k t e d;unfold colV;by_cases a:c<P.n
 ·rw[iFP a];exact h.A _ (hn.bound.1 c a) t d
 ·rw[iFN a];exact h.b t d
theorem Bd.L (h:Bd P) {S:Tb} (hn:Named P S) (i s:Nat):(LV P S i s).natAbs<=2^3584:=by
 refine h.det λk t e d=>h.basis hn (λt d=>?_) i k t e d;unfold XV;split
 ·exact h.b t d
 ·exact unit_le _ _
theorem Bd.p (h:Bd P) {S:Tb} (hg:Good P S) (hn:Named P S):S.p.natAbs<=2^3584:=by
 rw[hg.dt];exact h.det λk t e d=>h.A _ (hn.bound.2 k e) t d
theorem Bd.G (h:Bd P) {S:Tb} (hg:Good P S) (hn:Named P S) {c:Nat} (l:c<=P.n):(S.G c).natAbs<=65*(2^50*2^3584):=by
 rw[hg.goal c l];have p:=sumN_abs λi hi=>by
  rw[qc5];exact qc3 (h.g _ (hn.bound.2 i hi)) (h.T hg hn hi l)
 have x:(S.p*gainC P S c).natAbs<=2^50*2^3584:=by
  rw[qc5,qgL];refine qc3 ?_ (h.p hg hn);unfold gainC;by_cases a:c<P.n
  ·rw[iFP a];exact h.g _ (hn.bound.1 c a)
  ·rw[iFN a];decide
 have y:P.m*_<=64*(2^50*2^3584):=qcw _ h.m64;omega
end Sx
set_option maxHeartbeats 1000000
namespace Own
open PySem L2
open Sx (Pb Tb Good Named Fe LV ZV piv lexP leastR leaveL sumN unit colV basis)
theorem wu {a b:Nat} (h:a<b):2^a<2^b:=Nat.pow_lt_pow_right (by decide) h
theorem zS {z:Int} (h:z.natAbs<=2^3584):Sm z:=qbO h (wu (by decide))
theorem DZ {z:Int} (h:z.natAbs<=65*(2^50*2^3584)):Sm z:=by
 refine qbO h ?_;refine qbO (qcw _ (by decide:65<=2^7)) ?_;rw[<-qhf,<-qhf];exact wu (by decide)
theorem Dm {P:Pb}{S:Tb} (b:Sx.Bd P) (g:Good P S) (n:Named P S):Okt P S:=by
 have d:=b.m64;exact⟨g,n,by lia,b.n64,λi c hi a=>zS (b.T g n hi a),λi s _ _=>zS (b.L n i s),λc a=>DZ (b.G g n a),zS (b.p g n)⟩
theorem Cr {c:Tf}{b:Sf}{m:Nat}{env:Ev}{st s:Sto} (h:c env st=some (false,s)):bz c b (m+1) env st=some (.nx env s):=by
 rw[bz,h];rfl
theorem zF {c:Tf}{b:Sf}{m:Nat}{env e:Ev}{st s a:Sto}{r:Option Fl} (h:c env st=some (true,s)) (hb:b env s=some (.nx e a)) (d:bz c b m e a=r):bz c b (m+1) env st=r:=by
 rw[bz,h];show ((b env s).bind _)=_;rw[hb];exact d
theorem Fm {c:Tf}{b:Sf}{m:Nat}{env:Ev}{st s a:Sto}{w:W} (h:c env st=some (true,s)) (hb:b env s=some (.rt w a)):bz c b (m+1) env st=some (.rt w a):=by
 rw[bz,h];show ((b env s).bind _)=_;rw[hb];rfl
theorem kH {st:Sto}{a0 a2:Option W}:∀ (n a b:Nat) (o:Option W),b<n->∃ c,bz dF d7 n [a0,Z (.int (a:Int)),a2,Z (.int (b:Int)),o] st=some (.nx [a0,Z (.int ((qf0 a b:Nat):Int)),a2,Z (.int 0),c] st)
 |0,a,b,o,h=>by lia
 |n+1,a,b,o,h=>by
  by_cases hb:b=0
  ·subst hb
   refine⟨o,?_⟩;rw[Nat.gcd_zero_right];exact Cr U
  ·have e:(!((b)==(0:Int)))=true:=by lia
   obtain⟨c,g⟩:=kH n b (a%b) _ (by have:=Nat.mod_lt a (Nat.pos_of_ne_zero hb);lia);refine⟨c,?_⟩;have i:qf0 a b=qf0 b (a%b):=by rw[qjs a b,Nat.gcd_rec b a,qjs]
   have f:(0)<(b:Int):=by lia
   have em:f9 st (.d (.int (a))) (.d (.int (b)))=some (.int ((a%b:Nat))):=by
    simp only[f9,f,if_true];rfl
   rw[i,<-g];exact zF (ap U U ((Cc st _).trans (by rw[e]))) (ai (ao (ae U U em)) U) U
theorem vE {st:Sto}{ns:List Int}{d0:D} (h:∀ (l:Ev) (s:Sto),aA (iV 0) (Z d0::l) s=some (ns.map D.int,s)) (hn:∀ n∈ns,Sm n):bg [.d d0] st=some (.d (.int ((cP 0 ns:Nat):Int)),st):=by
 obtain⟨j,r,e2,⟨b,c,a,rfl⟩,rfl⟩:=a5 (g:=.nm 2) (body:=dS) (λi env s=>(∃ b c a,env=[Z d0,Z (.int ((cP 0 (ns.take i)))),b,c,a])/\s=st)
  ⟨⟨_,_,_,U⟩,U⟩ (λi d env s hd ⟨⟨b,c,a,e⟩,es⟩=>by
   subst e es;rw[qav,qad]at hd;obtain⟨n,k,rfl⟩:=hd;obtain⟨hi,f⟩:=qap.mp k;have p:wY s [.d (.int n)]=some (.int ((n.natAbs))):=by
    show some _=_;rw[show (if n<0 then -n else n)=((n.natAbs)) by split<;>lia]
   have q:cP 0 (ns.take (i+1))=qf0 (cP 0 (ns.take i)) n.natAbs:=by
    rw[qdn hi,f,su]
   obtain⟨o,m⟩:=kH (st:=s) (a0:=some (.d d0)) (a2:=some (.d (.int n))) (2^8000) (cP 0 (ns.take i)) n.natAbs a (qdW (hn n (qbj k)) (wu (by decide)));refine⟨_,[some _,some _,Z (.int n),Z (.int 0),o],s,U,.inl ?_,⟨_,_,_,U⟩,U⟩;rw[q]
   exact ai (ao (az (ab U U) p)) m)
 rw[qaf,qb8]at e2;exact ar U (ai U (ai (a7 (h _ _) e2) U))
theorem mJ {st:Sto}{ns:List Int} (hn:∀ n∈ns,Sm n):bg [.d (.lst (ns.map D.int))] st=some (.d (.int ((cP 0 ns:Nat):Int)),st):=vE (λ_ _=>aR U) hn
theorem pK {te:Ef}{st:Sto}{ns:List Int}{g:Int} (a:0<g) (hg:Sm g) (b:te=iOp pE (iV 0) (iV 1)):lcI (.nm 0) aP te [none,Z (.int g)] (ns.map D.int) st=some ((ns.map λx=>x / g).map D.int,st):=by
 subst b
 rw [(qw (λd=>match d with | .int x=>.int (x / g) | d=>d) λd hd=>by
  obtain⟨y,c,rfl⟩:=qaM.mp hd
  exact⟨_,U,ae U U (pJ st a hg)⟩),qaR,qaR];rfl
theorem j6 {ns:List Int}{x:Int} (hx:x∈ns) (b:x≠0) (c:Sm x):0<((cP 0 ns:Nat):Int)/\Sm ((cP 0 ns:Nat):Int):=by
 obtain⟨d,a⟩:=yw hx b;refine⟨by lia,?_⟩;exact qbO a c
theorem uM {st:Sto}{ns:List Int} (hb:∀ x∈ns,Sm x) (f:∃ x∈ns,x≠0) (h:ns.length<=1000):cG [.d (.lst (ns.map D.int))] st=some (.d (.tup ((ns.map λx=>x / ((cP 0 ns:Nat):Int)).map D.int)),st):=by
 obtain⟨x,hx,a⟩:=f;have e1:=mJ (st:=st) hb;obtain⟨c,b⟩:=j6 hx a (hb x hx);generalize ((cP 0 ns):Int)=g at *;have e:(g==(0))=false:=by lia
 have hz:(ns.map D.int).length<=1000000:=by rw[qaf];lia
 exact ar U (ai (ao (aj U e1)) (ai (bC (ap U U (by rw[du,e])) U) (aC (az (ab (aq (aM (aR U) hz (pK c b U))) U) U))))
def acc (e:Nat->Nat) (y:Nat->Int) (i k:Nat):Int:=sumN i λj=>if e j=k then y j else 0
theorem rC (e:Nat->Nat) (y:Nat->Int) (i k:Nat):acc e y (i+1) k=acc e y i k+if e i=k then y i else 0:=rfl
theorem mf {e:Nat->Nat}{y:Nat->Int}{i k:Nat} (h:∀ j,j<i->e j≠k):acc e y i k=0:=by
 unfold acc;rw[Sx.sumN_congr λj a=>iFN (h j a),Sx.sumN_zero]
theorem oW {e:Nat->Nat}{y:Nat->Int}{d N i:Nat} (hd:d<=e i) (b:∀ j,j<i->e j≠e i):(mpI N λr=>acc e y i (d+r)).set (e i - d) (.int (y i))=mpI N λr=>acc e y (i+1) (d+r):=by
 rw[fI];refine bu λr _=>?_;rw[rC];by_cases c:r=e i - d
 ·rw[mf λj a=>by have:=b j a;lia];lia
 ·lia
theorem rB {e:Nat->Nat}{y:Nat->Int}{d N i:Nat} (h:∀ r,r<N->e i≠d+r):(mpI N λr=>acc e y i (d+r))=mpI N λr=>acc e y (i+1) (d+r):=by
 refine bu λr a=>?_;rw[rC,iFN (h r a)];lia
theorem Ag (n:Nat) (e:Nat->Nat) (y:Nat->Int) (d:Nat):(qaD n [D.int 0]).flatten=mpI n λr=>acc e y 0 (d+r):=by
 show _=(qai n).map λ_=>D.int 0
 induction n with
 |zero=>rfl
 |succ n a=>rw[qgN,qg0,a,qdG,qbw];rfl
theorem hU {f:Ef}{env:Ev}{st:Sto}{n:Nat} (b:f env st=some (.d (.int (n:Int)),st)) (hn:n<=900) (e:Nat->Nat) (y:Nat->Int) (d:Nat):bV (sB m6 (av (bj (aa (iC (.int 0)) ac))) f) env st=some (.h st.length,st++[.l (mpI n λr=>acc e y 0 (d+r))]):=by
 have a:sB m6 (av (bj (aa (iC (.int 0)) ac))) f env st=some (mpI n λr=>acc e y 0 (d+r),st):=by
  show ((f env st).bind λq=>(m6 q.2 (.d (.lst [.int 0])) q.1).map λl=>(l,q.2))=_;rw[b];show (m6 st _ _).map _=_;unfold m6;dsimp only;rw[iFP ⟨by decide,by lia,by lia⟩,qa7,Ag n e y d];rfl
 simp only[bV,a,qan]
end Own
set_option maxHeartbeats 1000000
namespace Own
open PySem L2
open Sx (Pb Tb Good Named Fe LV ZV piv lexP leastR leaveL sumN unit colV basis)
theorem sIx {o i v:Ef}{env:Ev}{st:Sto}{xs:List D}{k:Nat}{d:D} (b:v env (st++[.l xs])=some (.d d,st++[.l xs])) (a:o env (st++[.l xs])=some (.h st.length,st++[.l xs])) (hi:i env (st++[.l xs])=some (.d (.int (k:Int)),st++[.l xs])) (c:k<xs.length):bo o i v env (st++[.l xs])=some (.nx env (st++[.l (xs.set k d)])):=by
 have e:fU (st++[.l xs]) (.h st.length) (.d (.int (k))) (.d d)=some (st++[.l (xs.set k d)]):=by
  simp only[fU,gu,qaa,dR c,qan,nJ]
 simp only[bo,b,a,hi,qaa,e,qan]
theorem pM {a:Ef}{env:Ev}{st:Sto}{m:Nat}{f:Nat->Nat} (h:a env st=some (.d (.lst (mpI m (nI f))),st)):bK (aa a ac) env st=some ((qai m).map λi=>D.tup [.int ((i:Nat):Int),.int (nI f i)],st):=by
 have:=ab (b:=ac) h U
 rw[<-vo];simp only[bK,this,qaa]
theorem kj {m:Nat}{g:Nat->D}{i:Nat}{d:D} (h:((qai m).map g)[i]?=some d):i<m/\d=g i:=by
 rw[qav,qad]at h;obtain⟨k,b,rfl⟩:=h;obtain⟨hi,a⟩:=qap.mp b;rw[qe1]at a;rw[qas]at hi;exact⟨hi,by rw[a]⟩
theorem hW:∀ ns:List Int,uR (ns.map D.int)=true
 |[]=>rfl
 |n::ns=>hW ns
theorem y7 (n:Nat) (f:Nat->Int):okT (.tup (mpI n f))=true:=by
 rw[bH];exact hW _
section
variable {P:Pb}{S:Tb}{st:Sto}
theorem Eo (h:Okt P S):fG [.d (obD P S)] st=some (.d (.lst (mpI P.n λk=>acc S.kept (λi=>S.T i P.n) P.m k)),st):=by
 have hn:=h.n64;generalize M:(λi=>S.T i P.n)=y;have q:∀ (a b c:Option W) (s:Sto),iV 0 [some _,a,b,c] s=some (.d (obD P S),s):=λ_ _ _ _=>rfl;obtain⟨w,Y,e2,⟨p,m,rfl⟩,rfl⟩:=a5 (g:=.tp [2,3]) (body:=gn) (ds:=(qai P.m).map λi=>D.tup [.int _,.int (nI S.kept i)])
  (λi env s=>(∃ p m,env=[Z (obD P S),some (.h st.length),p,m])/\s=st++[.l (mpI P.n λr=>acc S.kept y i (0+r))])
  ⟨⟨_,_,U⟩,U⟩ (λi d env s hd ⟨⟨p,m,e⟩,es⟩=>by
   subst e es;obtain⟨hi,rfl⟩:=kj hd;refine⟨_,_,_,U,.inl ?_,⟨some (.d (.int ((i:Nat):Int))),Z (.int (nI S.kept i)),U⟩,U⟩;generalize u:(mpI P.n λr=>acc S.kept y i (0+r))=xs;have tl:aG dLt (iV 3) _ [Z (obD P S),some (.h st.length),Z (.int ((i:Nat):Int)),Z (.int (nI S.kept i))] (st++[.l xs])=some (decide _,st++[.l xs]):=ap U (bJ (q _ _ _ _)) (yT _ _ _);by_cases t:S.kept i<P.n
   ·rw[decide_eq_true (by show ((S.kept i:Nat):Int)<_;lia)]at tl
    have G:iOp dIx (iOp dIx (ax ("lines" : Str) (iV 0)) (iV 2)) (iUn im (iC (.int 1))) [Z (obD P S),some (.h st.length),Z (.int ((i:Nat):Int)),Z (.int (nI S.kept i))] (st++[.l xs])=some (.d (.int (y i)),st++[.l xs]):=by
     rw[<-M];exact ae (ae (ci (q _ _ _ _)) U (sM _ hi)) U (vT _)
    have:=sIx (k:=S.kept i) G (o:=iV 1) (i:=iV 3) U U (by rw[<-u,aB];exact t)
    rw[<-u]at this ⊢ tl;rw[<-oW (d:=0) (N:=P.n) (e:=S.kept) (y:=y) (i:=i) (by lia) λj B e=>by have:=gm h.good (by lia) hi e;lia];exact cT tl this
   ·rw[decide_eq_false (by show ¬ ((S.kept i:Nat):Int)<_;lia)]at tl
    rw[<-rB (d:=0) (N:=P.n) (e:=S.kept) (y:=y) (i:=i) λr F=>by lia,u]
    exact bC tl U)
 rw[qaf,qas]at e2
 have:=l7 (n:=4) (k:=1) (b:=jg) (ws:=[.d (obD P S)]) (st:=st) (h:=st.length) U (ai (ao (hU (st:=st) (bJ (q none none none st)) (by lia) S.kept y 0)) (ai (a7 (pM (oY (q _ _ _ _))) e2) U)) (qao _) (gu _ _)
 rw[qcI]at this;simp only[qbh]at this;exact this
def pr (P:Pb) (S:Tb) (i r:Nat):Int:=if ∃ c,c<i/\S.free c=P.n+r then ZV P S (r+1) else 0
theorem Fh (h:Okt P S) (hg:∀ r,r<P.m->P.g (P.n+r)=0):gy [.d (obD P S)] st=some (.d (.lst (mpI P.m λr=>ZV P S (r+1))),st):=by
 have hm:=h.m64;have hn:=h.n64;have q:∀ (a b c:Option W) (s:Sto),iV 0 [Z (obD P S),a,b,c] s=some (.d (obD P S),s):=λ_ _ _ _=>rfl;have hz:(mpI P.m λr=>acc S.free S.G 0 (0+r))=mpI P.m λr=>pr P S 0 r:=bu λr _=>by
  unfold pr;rw[iFN λ⟨c,O,_⟩=>by lia];rfl
 have K:=by
  have:=az (g:=aT) (ab (b:=ac) (ci (q none none none st)) U) (jm _ _)
  rw[ce]at this;exact this
 have s1:=hU (st:=st) K (by lia) S.free S.G 0;rw[hz]at s1;obtain⟨w,Y,e2,⟨p,m,rfl⟩,rfl⟩:=a5 (g:=.tp [2,3]) (body:=iH) (ds:=(qai P.n).map λi=>D.tup [.int ((i:Nat):Int),.int (nI S.free i)])
  (λi env s=>(∃ p m,env=[Z (obD P S),some (.h st.length),p,m])/\s=st++[.l (mpI P.m λr=>pr P S i r)])
  ⟨⟨_,_,U⟩,U⟩ (λi d env s hd ⟨⟨p,m,e⟩,es⟩=>by
   subst e es;obtain⟨hi,rfl⟩:=kj hd;refine⟨_,_,_,U,.inl ?_,⟨some (.d (.int ((i:Nat):Int))),Z (.int (nI S.free i)),U⟩,U⟩;have hb:=h.named.bound.1 i hi;generalize u:(mpI P.m λr=>pr P S i r)=xs;have tl:aG dGe (iV 3) (ax ("amounts" : Str) (iV 0)) [Z (obD P S),some (.h st.length),Z (.int ((i:Nat):Int)),Z (.int (nI S.free i))] (st++[.l xs])=some (decide (nI S.free i>=(P.n:Int)),st++[.l xs]):=ap U (bJ (q _ _ _ _)) (EH _ _ _)
   by_cases t:P.n<=S.free i
   ·rw[decide_eq_true (by show ((S.free i:Nat):Int)>=_;lia)]at tl
    have ho:iOp jY (iV 3) (ax ("amounts" : Str) (iV 0)) [Z (obD P S),some (.h st.length),Z (.int ((i:Nat):Int)),Z (.int (nI S.free i))] (st++[.l xs])=some (.d (.int ((S.free i - P.n:Nat):Int)),st++[.l xs]):=by
     rw[show ((S.free i - P.n:Nat):Int)=nI S.free i - (P.n:Int) by show _=((S.free i:Nat):Int) - _;lia];exact ae U (bJ (q _ _ _ _)) U
    have G:iOp dIx (ax ("goal" : Str) (iV 0)) (iV 2) [Z (obD P S),some (.h st.length),Z (.int ((i:Nat):Int)),Z (.int (nI S.free i))] (st++[.l xs])=some (.d (.int (S.G i)),st++[.l xs]):=ae (lq (q _ _ _ _)) U (dz _ (by lia))
    have:=sIx (k:=S.free i - P.n) G (o:=iV 1) U ho (by rw[<-u,aB];lia)
    have E:xs.set (S.free i - P.n) (.int (S.G i))=mpI P.m λr=>pr P S (i+1) r:=by
     rw[<-u,fI];refine bu λr F=>?_;by_cases er:r=S.free i - P.n
     ·rw[iFP er]
      unfold pr;rw[iFP ⟨i,by lia,by lia⟩];exact (Sx.price_free h.good h.named hg F hi (by lia)).symm
     ·rw[iFN er]
      unfold pr;by_cases ex:∃ c,c<i/\S.free c=P.n+r
      ·rw[iFP ex];obtain⟨c,I,v⟩:=ex;rw[iFP ⟨c,by lia,v⟩]
      ·rw[iFN ex,iFN λ⟨c,I,v⟩=>ex ⟨c,by
        by_cases z:c=i
        ·subst z;lia
        ·lia,v⟩]
    rw[<-E];exact cT tl this
   ·rw[decide_eq_false (by show ¬ ((S.free i:Nat):Int)>=_;lia)]at tl
    have E:xs=mpI P.m λr=>pr P S (i+1) r:=by
     rw[<-u];refine bu λr F=>?_;unfold pr;by_cases ex:∃ c,c<i/\S.free c=P.n+r
     ·rw[iFP ex];obtain⟨c,I,v⟩:=ex;rw[iFP ⟨c,by lia,v⟩]
     ·rw[iFN ex,iFN λ⟨c,I,v⟩=>ex ⟨c,by
        by_cases z:c=i
        ·subst z;lia
        ·lia,v⟩]
    rw[<-E]
    exact bC tl U)
 rw[qaf,qas]at e2
 have:=l7 (n:=4) (k:=1) (b:=kC) (ws:=[.d (obD P S)]) (st:=st) (h:=st.length) U (ai (ao s1) (ai (a7 (pM (lp (q _ _ _ _))) e2) U)) (qao _) (gu _ _)
 rw[qcI]at this
 rw[bu (f:=λr=>pr P S P.n r) (g:=λr=>ZV P S (r+1)) λr F=>by
  unfold pr;by_cases ex:∃ c,c<P.n/\S.free c=P.n+r
  ·rw[iFP ex]
  ·rw[iFN ex]
   rcases h.named.all (P.n+r) (by lia) with O|⟨j,B,e⟩
   ·exact absurd O ex
   ·exact (Sx.price_kept h.good h.named hg F B e).symm]at this
 exact this
theorem FV (h:Okt P S) {e:Nat} (X:e<P.n) (ht:∀ i,i<P.m->S.T i e<=0) (hp:∃ k,k<P.n/\Sx.wayN P S e k≠0):∃ g:Int,0<g/\(∀ k,k<P.n->g∣Sx.wayN P S e k)/\jI [.d (obD P S),.d (.int (e:Int))] []=some (.d (.tup (mpI P.n λk=>Sx.wayN P S e k / g)),[]):=by
 have hm:=h.m64;have hn:=h.n64;have q:∀ (a b c d:Option W) (s:Sto),iV 0 [Z (obD P S),a,b,c,d] s=some (.d (obD P S),s):=λ_ _ _ _ _=>rfl;have T:∀ i,i<P.m->S.kept i≠S.free e:=λi hi e1=>by
  have I:=h.good.entry (c:=e) (by lia) hi;have v:colV P S e=basis P S i:=by unfold colV basis;rw[iFP X,e1]
  rw[v,Sx.upd_self,<-h.good.dt]at I
  have:=ht i hi
  have:=h.good.pos
  lia
 generalize M:(λi=>- S.T i e)=y;have hw:∀ k,Sx.wayN P S e k=if k=S.free e then S.p else acc S.kept y P.m k:=λk=>by
  show Sx.byName P S (λi=>- S.T i e) k+_=_;rw[M];by_cases t:k=S.free e
  ·rw[iFP t,iFP t.symm,Sx.byName_not λi hi=>by rw[t];exact T i hi];lia
  ·rw[iFN t,iFN (qbD t)]
   show acc S.kept y P.m k+0=_;lia
 obtain⟨w,Y,e2,⟨p,m,rfl⟩,rfl⟩:=a5 (g:=.tp [3,4]) (body:=m7) (ds:=(qai P.m).map λi=>D.tup [.int ((i:Nat):Int),.int (nI S.kept i)])
  (λi env s=>(∃ p m,env=[Z (obD P S),Z (.int (e:Int)),some (.h 0),p,m])/\s=[]++[.l (mpI P.n λr=>acc S.kept y i (0+r))])
  (env:=[Z (obD P S),Z (.int (e:Int)),some (.h 0),none,none]) (st:=[]++[.l (mpI P.n λr=>acc S.kept y 0 (0+r))]) ⟨⟨_,_,U⟩,U⟩ (λi d env s hd ⟨⟨p,m,e0⟩,es⟩=>by
   subst e0 es;obtain⟨hi,rfl⟩:=kj hd;refine⟨_,_,_,U,.inl ?_,⟨some (.d (.int ((i:Nat):Int))),Z (.int (nI S.kept i)),U⟩,U⟩;generalize u:(mpI P.n λr=>acc S.kept y i (0+r))=xs;have tl:aG dLt (iV 4) (ax ("amounts" : Str) (iV 0)) [Z (obD P S),Z (.int (e:Int)),some (.h 0),Z (.int ((i:Nat):Int)),Z (.int (nI S.kept i))] ([]++[.l xs])=some (decide (nI S.kept i<(P.n:Int)),[]++[.l xs]):=ap U (bJ (q _ _ _ _ _)) (yT _ _ _)
   by_cases t:S.kept i<P.n
   ·rw[decide_eq_true (by show ((S.kept i:Nat):Int)<_;lia)]at tl
    have G:iUn im (iOp dIx (iOp dIx (ax ("lines" : Str) (iV 0)) (iV 3)) (iV 1)) [Z (obD P S),Z (.int (e:Int)),some (.h 0),Z (.int ((i:Nat):Int)),Z (.int (nI S.kept i))] ([]++[.l xs])=some (.d (.int (y i)),[]++[.l xs]):=by
     rw[<-M]
     have:=ae (g:=dIx) (ae (g:=dIx) (ci (q (Z (.int (e:Int))) (some (.h 0)) (Z (.int ((i:Nat):Int))) (Z (.int (nI S.kept i))) ([]++[C.l xs]))) (b:=iV 3) U (sM _ hi)) (b:=iV 1) U (sK (c:=e) _ (by lia))
     simp only[iUn,this,qaa];rfl
    have:=sIx (st:=[]) (k:=S.kept i) G (o:=iV 2) (i:=iV 4) U U (by rw[<-u,aB];exact t)
    rw[<-u]at this ⊢ tl;rw[<-oW (d:=0) (N:=P.n) (e:=S.kept) (y:=y) (i:=i) (by lia) λj B e=>by have:=gm h.good (by lia) hi e;lia];exact cT tl this
   ·rw[decide_eq_false (by show ¬ ((S.kept i:Nat):Int)<_;lia)]at tl
    rw[<-rB (d:=0) (N:=P.n) (e:=S.kept) (y:=y) (i:=i) λr F=>by lia,u]
    exact bC tl U)
 rw[qaf,qas]at e2;have s3:bi (aG dLt (iOp dIx (ax ("free" : Str) (iV 0)) (iV 1)) (ax ("amounts" : Str) (iV 0))) (bo (iV 2) (iOp dIx (ax ("free" : Str) (iV 0)) (iV 1)) (ax ("part" : Str) (iV 0))) aW [Z (obD P S),Z (.int (e:Int)),some (.h 0),p,m] ([]++[.l (mpI P.n λr=>acc S.kept y P.m (0+r))])=some (.nx [Z (obD P S),Z (.int (e:Int)),some (.h 0),p,m] ([]++[.l (mpI P.n λk=>Sx.wayN P S e k)])):=by
  have qf:∀ s,iOp dIx (ax ("free" : Str) (iV 0)) (iV 1) [Z (obD P S),Z (.int (e:Int)),some (.h 0),p,m] s=some (.d (.int (nI S.free e)),s):=λs=>ae (lp (q _ _ _ _ _)) U (dz _ X)
  generalize u:(mpI P.n λr=>acc S.kept y P.m (0+r))=xs;have tl:aG dLt (iOp dIx (ax ("free" : Str) (iV 0)) (iV 1)) (ax ("amounts" : Str) (iV 0)) [Z (obD P S),Z (.int (e:Int)),some (.h 0),p,m] ([]++[.l xs])=some (decide (nI S.free e<(P.n:Int)),[]++[.l xs]):=ap (qf _) (bJ (q _ _ _ _ _)) (yT _ _ _)
  by_cases t:S.free e<P.n
  ·rw[decide_eq_true (by show ((S.free e:Nat):Int)<_;lia)]at tl
   have:=sIx (st:=[]) (k:=S.free e) (lu (q (Z (.int (e:Int))) (some (.h 0)) p m ([]++[C.l xs]))) (o:=iV 2) (i:=iOp dIx (ax ("free" : Str) (iV 0)) (iV 1)) U (qf _) (by rw[<-u,aB];exact t)
   have E:xs.set (S.free e) (.int S.p)=mpI P.n λk=>Sx.wayN P S e k:=by
    rw[<-u,fI];refine bu λk _=>?_;rw[hw k,qbh]
   rw[E]at this;exact cT tl this
  ·rw[decide_eq_false (by show ¬ ((S.free e:Nat):Int)<_;lia)]at tl
   have E:xs=mpI P.n λk=>Sx.wayN P S e k:=by
    rw[<-u];refine bu λk hk'=>?_;rw[hw k,qbh,iFN (by lia)]
   rw[<-E];exact bC tl U
 obtain⟨R,A,J⟩:=hp;have L:∀ x∈(qai P.n).map (Sx.wayN P S e),Sm x:=λx hx=>by
  obtain⟨k,t,rfl⟩:=qaM.mp hx;rw[hw k];by_cases z:k=S.free e
  ·rw[iFP z];exact h.sp
  ·rw[iFN z]
   by_cases ex:∃ i,i<P.m/\S.kept i=k
   ·obtain⟨i,hi,rfl⟩:=ex
    have:acc S.kept y P.m (S.kept i)=y i:=Sx.byName_at (λi j hi B=>gm h.good hi B) hi
    rw[this,<-M];show (- S.T i e).natAbs<_;rw[qif];exact h.sT i e hi (by lia)
   ·rw[mf λj B e=>ex ⟨j,B,e⟩]
    exact qfZ (by decide)
 have H:=uM (st:=[]) L ⟨_,qaM.mpr ⟨R,qaI.mpr A,U⟩,J⟩ (by rw[qaf,qas];lia);obtain⟨g0,g1⟩:=j6 (ns:=(qai P.n).map (Sx.wayN P S e)) (qaM.mpr ⟨R,qaI.mpr A,U⟩) J (L _ (qaM.mpr ⟨R,qaI.mpr A,U⟩));have gd:∀ k,k<P.n->((cP 0 ((qai P.n).map (Sx.wayN P S e)):Nat):Int)∣Sx.wayN P S e k:=λk t=>qcN.mpr ((cQ 0 _).2 _ (qaM.mpr ⟨k,qaI.mpr t,U⟩));generalize hG:((cP 0 ((qai P.n).map (Sx.wayN P S e)):Nat):Int)=g at *;refine⟨g,g0,gd,?_⟩;rw[<-bH,qaR,qaR]at H;have O:cD cG (aa (iV 2) ac) [Z (obD P S),Z (.int (e:Int)),some (.h 0),p,m] ([]++[.l (mpI P.n λk=>Sx.wayN P S e k)])=some (.d (.tup (mpI P.n λk=>Sx.wayN P S e k / g)),[]++[.l (mpI P.n λk=>Sx.wayN P S e k)]):=by
  have ha:aa (iV 2) ac [Z (obD P S),Z (.int (e:Int)),some (.h 0),p,m] ([]++[.l (mpI P.n λk=>Sx.wayN P S e k)])=some ([.h 0],[]++[.l (mpI P.n λk=>Sx.wayN P S e k)]):=rfl;have Q:vwA ([]++[.l (mpI P.n λk=>Sx.wayN P S e k)]) [.h 0]=some [.d (.lst (mpI P.n λk=>Sx.wayN P S e k))]:=rfl;have V:cG [.d (.lst (mpI P.n λk=>Sx.wayN P S e k))] []=some (.d (.tup (mpI P.n λk=>Sx.wayN P S e k / g)),[]):=H;simp only[cD,ha,qaa,Q,V];rw[iFP];exact y7 _ _
 have:=gC (n:=5) (k:=2) (b:=rP) (ws:=[.d (obD P S),.d (.int (e:Int))]) (st:=[]) U (ai (ao (hU (st:=[]) (bJ (q (Z (.int (e:Int))) none none none [])) (by lia) S.kept y 0)) (ai (a7 (pM (oY (q _ _ _ _ _))) e2) (ai s3 (aC O))))
 exact this
end
end Own
set_option maxHeartbeats 1000000
namespace Own
open PySem L2
open Sx (Pb Tb Good Named Fe LV ZV piv lexP leastR leaveL sumN unit colV basis)
theorem mq {m:Fn}{a:Af}{env:Ev}{st:Sto}{ws b:List W}{x:D} (e:a env st=some (ws,st)) (c:vwA st ws=some b) (hm:m b []=some (.d x,[])) (hx:okT x=true):cD m a env st=some (.d x,st):=by
 simp only[cD,e,qaa,c,hm];rw[iFP hx]
structure Pd (P:Pb):Prop where
 bd:Sx.Bd P
 hA:∀ k,k<P.n+P.m->∀ t,P.m<=t->P.A k t=0
 hb:∀ t,P.m<=t->P.b t=0
 hg:∀ r,r<P.m->P.g (P.n+r)=0
section
variable {P:Pb}{S:Tb}
theorem Pd.okt (d:Pd P) (g:Good P S) (n:Named P S):Okt P S:=Dm d.bd g n
theorem Pd.kept (d:Pd P) (n:Named P S):∀ i,i<P.m->∀ t,P.m<=t->P.A (S.kept i) t=0:=λi hi t A=>d.hA _ (n.bound.2 i hi) t A
theorem F6 (g:Good P S) (f:Fe P S):∀ i,i<P.m->0<=S.T i P.n:=λi hi=>by
 rw[g.entry (qao _) hi]
 have:colV P S P.n=Sx.XV P 0:=by unfold colV Sx.XV;rw[iFN (qa3 _),iFP U]
 rw[this];exact (Sx.lexP_first (by lia) (f i hi))
structure x6 (P:Pb) (p:Int) (am pr:Nat->Int):Prop where
 p1:1<=p
 am0:∀ k,k<P.n->0<=am k
 pr0:∀ r,r<P.m->0<=pr r
 rows:∀ r,r<P.m->(sumN P.n λj=>am j*P.A j r)<=p*P.b r
 cols:∀ j,j<P.n->p*P.g j<=sumN P.m λr=>P.A j r*pr r
 same:(sumN P.m λr=>P.b r*pr r)=sumN P.n λj=>am j*P.g j
 sp:Sm p
 sa:∀ k,k<P.n->Sm (am k)
 sr:∀ r,r<P.m->Sm (pr r)
structure ma (P:Pb) (way:Nat->Int):Prop where
 w0:∀ k,k<P.n->0<=way k
 rows:∀ r,r<P.m->(sumN P.n λj=>way j*P.A j r)<=0
 gain:0<sumN P.n λj=>way j*P.g j
theorem mv {g a:Int} (h:g∣a):g*(a / g)=a:=qdD h
theorem re {n:Nat}{g:Int}{f h:Nat->Int} (hd:∀ k,k<n->g∣f k):g*(sumN n λk=>f k / g*h k)=sumN n λk=>f k*h k:=by
 rw[<-Sx.sumN_mul];refine Sx.sumN_congr λk m=>?_;rw[<-qbi,mv (hd k m)]
theorem wC {n:Nat}{g:Int}{f h:Nat->Int} (hd:∀ k,k<n->g∣f k):g*(sumN n λk=>h k*(f k / g))=sumN n λk=>h k*f k:=by
 rw[<-Sx.sumN_mul];refine Sx.sumN_congr λk m=>?_;rw[qaP,mv (hd k m)]
theorem FX (h:Okt P S) (hg:∀ r,r<P.m->P.g (P.n+r)=0) (w:∀ c,c<P.n->0<=S.G c) {r:Nat} (l:r<P.m):Sm (ZV P S (r+1))/\0<=ZV P S (r+1):=by
 rcases h.named.all (P.n+r) (by lia) with⟨c,N,e⟩|⟨j,o,e⟩
 ·rw[Sx.price_free h.good h.named hg l N e];exact⟨h.sG c (by lia),w c N⟩
 ·rw[Sx.price_kept h.good h.named hg l o e];exact⟨qfZ (by decide),qcf _⟩
theorem Ep (h:Okt P S) (k:Nat):Sm (acc S.kept (λi=>S.T i P.n) P.m k):=by
 by_cases ex:∃ i,i<P.m/\S.kept i=k
 ·obtain⟨i,hi,rfl⟩:=ex
  have:acc S.kept (λi=>S.T i P.n) P.m _=S.T i P.n:=Sx.byName_at (λi j hi o=>gm h.good hi o) hi
  rw[this];exact h.sT i P.n hi (qao _)
 ·rw[mf λj o e=>ex ⟨j,o,e⟩]
  exact qfZ (by decide)
theorem uI {g a b:Int} (R:0<g) (h:g*a<=g*b):a<=b:=Int.le_of_mul_le_mul_left h R
theorem Sm.dv {a:Int} (h:Sm a) (q:Int):Sm (a / q):=qbO (Int.natAbs_ediv_le_natAbs a q) h
theorem EB (d:Pd P) (g:Good P S) (n:Named P S) (f:Fe P S) (w:∀ c,c<P.n->0<=S.G c):∃ p am pr,x6 P p am pr/\fH [.d (obD P S)] []=some (.d (.tup [.str "most",.int p,.tup (mpI P.n am),.tup (mpI P.m pr)]),[]):=by
 have h:=d.okt g n;have hm:=h.m64;have hn:=h.n64;have M:=F6 g f;have e1:=Eo (st:=[]) h;have e2:=Fh (st:=[]) h d.hg;have hg:=d.hg;have M1:=λr l=>Sx.amounts_ok g n M (r:=r) l;have M2:=Sx.gains_amounts g n d.hg;have M3:=λj o=>Sx.prices_ok g n d.hA w (j:=j) o;have M4:=Sx.bounds_prices g d.hb;have M5:∀ k,0<=acc S.kept (λi=>S.T i P.n) P.m k:=λk=>Sx.byName_nonneg (P:=P) (S:=S) M k;have M6:=Ep h;have M7:=λr l=>FX h d.hg w (r:=r) l;have M9:∀ j,Sx.byName P S (λi=>S.T i P.n) j=acc S.kept (λi=>S.T i P.n) P.m j:=λ_=>rfl;simp only[M9]at M1 M2;generalize acc S.kept (λi=>S.T i P.n) P.m=am at *;generalize I:(λr=>ZV P S (r+1))=pr at *;have y:∀ r,ZV P S (r+1)=pr r:=λr=>by rw[<-I]
 simp only[y]at M3 M4 M7;have hns:D.int S.p::(mpI P.n am++mpI P.m pr)=(S.p::((qai P.n).map am++(qai P.m).map pr)).map D.int:=by
  rw[qau,qbw,bH,bH]
 have H:∀ x∈S.p::((qai P.n).map am++(qai P.m).map pr),Sm x:=λx hx=>by
  rcases qaz.mp hx with rfl|hx
  ·exact h.sp
  ·rcases qaQ.mp hx with hx|hx
   ·obtain⟨k,_,rfl⟩:=qaM.mp hx;exact M6 k
   ·obtain⟨k,m,rfl⟩:=qaM.mp hx;exact (M7 k (qaI.mp m)).1
 have e3:=mJ (st:=[]) H;have L:=g.pos;obtain⟨u,G⟩:=j6 qag (by lia) h.sp;have v:∀ x∈S.p::((qai P.n).map am++(qai P.m).map pr),_∣x:=λx hx=>qcN.mpr ((cQ 0 _).2 _ hx);rw[<-hns]at e3;generalize ((cP 0 _:Nat):Int)=q at *;have dp:q∣S.p:=v _ qag;have J:=λk m=>v _ (qah _ (qa1 _ (qaM.mpr ⟨k,qaI.mpr m,U⟩)));have K:=λk m=>v _ (qah _ (qay _ (qaM.mpr ⟨k,qaI.mpr m,U⟩)));refine⟨S.p / q,λk=>am k / q,λr=>pr r / q,⟨?_,λk _=>qdL (M5 k) (by lia),λr l=>qdL (M7 r l).2 (by lia),λr l=>?_,λj o=>?_,?_,h.sp.dv _,λk _=>(M6 k).dv _,λr l=>(M7 r l).1.dv _⟩,?_⟩
 ·have:=mv dp
  rcases Int.lt_or_le (S.p / q) 1 with z|z
  ·have:q*(S.p / q)<=q*0:=qdC (by lia) (by lia)
   lia
  ·exact z
 ·refine uI u ?_
  rw[re (h:=λj=>P.A j r) J,<-qbi,mv dp];exact M1 r l
 ·refine uI u ?_
  rw[wC (h:=λr=>P.A j r) K,<-qbi,mv dp];exact M3 j o
 ·refine qd3 (a:=q) (by lia) ?_
  rw[wC (h:=λr=>P.b r) K,re (h:=λj=>P.g j) J,M4,M2]
 ·have B:∀ (a b c:Option W) (s:Sto),iV 0 [Z (obD P S),a,b,c] s=some (.d (obD P S),s):=λ_ _ _ _=>rfl
  have ka:lcI (.nm 0) aP dn [none,Z (.int q)] (mpI P.n am) []=some (mpI P.n λk=>am k / q,[]):=by
   have:=pK (te:=dn) (st:=[]) (ns:=(qai P.n).map am) u G U
   rw[<-bH,qaR,qaR]at this;exact this
  have Y:lcI (.nm 0) aP dm [none,Z (.int q)] (mpI P.m pr) []=some (mpI P.m λk=>pr k / q,[]):=by
   have:=pK (te:=dm) (st:=[]) (ns:=(qai P.m).map pr) u G U
   rw[<-bH,qaR,qaR]at this;exact this
  have X:(mpI P.n am).length<=1000000:=by rw[aB];lia
  have V:(mpI P.m pr).length<=1000000:=by rw[aB];lia
  have F:[D.int S.p].length+(mpI P.n am).length<=1000000:=by rw[aB];show 1+_<=_;lia
  have E:([D.int S.p]++mpI P.n am).length+(mpI P.m pr).length<=1000000:=by rw[qaw,aB,aB];show 1+_+_<=_;lia
  generalize mpI P.n am=AM at *;generalize mpI P.m pr=PR at *;have Q:aD (.nm 3) (ay bg (aa (iOp aV (iOp aV (av (bj (aa (ax ("part" : Str) (iV 0)) ac))) (iV 1)) (iV 2)) ac)) [Z (obD P S),Z (.lst AM),Z (.lst PR),none] []=some (.nx [Z (obD P S),Z (.lst AM),Z (.lst PR),Z (.int q)] []):=by
   have hl:bj (aa (ax ("part" : Str) (iV 0)) ac) [Z (obD P S),Z (.lst AM),Z (.lst PR),none] []=some ([.int S.p],[]):=by
    have:=ab (b:=ac) (lu (B (Z (.lst AM)) (Z (.lst PR)) none [])) U
    rfl
   exact ao (aj (ab (ae (ae (aq hl) U (fq _ F)) U (fq _ E)) U) e3)
  exact ar (n:=4) (k:=1) (b:=jh) U (ai (ao (aj (ab (B _ _ _ _) U) e1)) (ai (ao (aj (ab (B _ _ _ _) U) e2)) (ai Q (aC (DP (ab U (ab (ae (lu (B _ _ _ _)) U (pJ _ u G)) (ab (az (ab (aq (aM (aR U) X ka)) U) U) (ab (az (ab (aq (aM (aR U) V Y)) U) U) U)))) U (by show 4<=1000;decide))))))
theorem Eu (d:Pd P) (g:Good P S) (n:Named P S) {e:Nat} (C:e<P.n) (A:∀ i,i<P.m->S.T i e<=0) (w:S.G e<0):∃ way,ma P way/\jI [.d (obD P S),.d (.int (e:Int))] []=some (.d (.tup (mpI P.n way)),[]):=by
 have W1:=Sx.way_gains g n d.hg C w;have L:∃ k,k<P.n/\Sx.wayN P S e k≠0:=by
  by_cases z:∃ k,k<P.n/\Sx.wayN P S e k≠0
  ·exact z
  ·rw[Sx.sumN_congr λk m=>by
    by_cases O:Sx.wayN P S e k=0
    ·rw[O,qbs]
    ·exact absurd ⟨k,m,O⟩ z,Sx.sumN_zero]at W1
   lia
 obtain⟨q,u,v,T⟩:=FV (d.okt g n) C A L;refine⟨_,⟨λk _=>qdL (Sx.way_nonneg g A k) (by lia),λr l=>?_,?_⟩,T⟩
 ·refine uI u ?_
  rw[re v,qa2];exact Sx.way_rows g n C A l
 ·refine Int.lt_of_mul_lt_mul_left (a:=q) ?_ (by lia)
  rw[re v,qa2];exact W1
end
end Own
set_option maxHeartbeats 1000000
namespace Own
open PySem L2
open Sx (Pb Tb Good Named Fe LV ZV piv lexP leastR leaveL sumN unit colV basis)
theorem Gi (n:Nat) (f:Nat->Int):okT (.tup [.str "beyond",.tup (mpI n f)])=true:=by
 simp only[okT,uR,bH,hW,qim]
theorem E6 (n m:Nat) (p:Int) (f g:Nat->Int):okT (.tup [.str "most",.int p,.tup (mpI n f),.tup (mpI m g)])=true:=by
 simp only[okT,uR,bH,hW,qim]
def En (P:Pb) (S:Tb) (x:D):Prop:=(∃ c,c<P.n/\S.G c<0/\(∀ i,i<P.m->S.T i c<=0)/\x=.tup [.int (c:Int),.non])\/(jU P S x/\(x=.non->∀ c,c<P.n->0<=S.G c))
section
variable {P:Pb}{S:Tb}
theorem zZ (d:Pd P) (g:Good P S) (n:Named P S):∃ x,En P S x/\okT x=true/\bD [.d (obD P S)] []=some (.d x,[]):=by
 rcases Et (d.okt g n) (d.kept n) with⟨c,l,hg,E,e⟩|⟨y,H,hn,e⟩
 ·exact⟨_,.inl ⟨c,l,hg,E,U⟩,U,e⟩
 ·refine⟨y,.inr ⟨H,hn⟩,?_,e⟩
  rcases H with rfl|⟨c,r,_,_,_,_,_,_,rfl⟩<;>rfl
theorem jW {st0:Sto}{a b c o:Option W}{x:D} (e:bD [.d (obD P S)] []=some (.d x,[])) (hx:okT x=true):cD bD (aa (iV 3) ac) [a,b,c,some (.h (st0.length+2)),o] (stO st0 P S)=some (.d x,stO st0 P S):=
 mq U (Ab U) e hx
def n4 (P:Pb) (f:Nat) (S:Tb) (x:D):Prop:=
 (∃ S' way,ma P way/\∀ (st0:Sto) (a b c:Option W),bz fM d8 f [a,b,c,some (.h (st0.length+2)),Z x] (stO st0 P S)=some (.rt (.d (.tup [.str "beyond",.tup (mpI P.n way)])) (stO st0 P S')))\/
 ∃ S',Good P S'/\Named P S'/\Fe P S'/\(∀ c,c<P.n->0<=S'.G c)/\∀ (st0:Sto) (a b c:Option W),bz fM d8 f [a,b,c,some (.h (st0.length+2)),Z x] (stO st0 P S)=some (.nx [a,b,c,some (.h (st0.length+2)),Z .non] (stO st0 P S'))
theorem v4 (d:Pd P):∀ (f:Nat) (V:List Nat) (S:Tb) (x:D),Good P S->Named P S->Fe P S->En P S x->V.Nodup->(∀ v∈V,v<(P.n+P.m)^P.m)->(∀ v∈V,∃ S',Good P S'/\Named P S'/\Sx.code (P.n+P.m) S'.kept P.m=v/\Sx.less P S' S)->(P.n+P.m)^P.m<f+V.length->n4 P f S x
 |0,V,S,x,_,_,_,_,C,hb,_,hf=>by
  have:=Sx.nodup_le _ V C hb
  lia
 |f+1,V,S,x,hg,hn,K,hx,C,hb,J,hf=>by
  have h:=d.okt hg hn;rcases hx with⟨c,l,B,E,rfl⟩|⟨hx,w⟩
  ·obtain⟨way,t,R⟩:=Eu d hg hn l E B
   refine .inl ⟨S,way,t,λst0 a b o=>?_⟩;refine Fm U (fj (cT U (aC (DP (ws:=[.d _,.d _]) (ab U (ab ?_ U)) U (by show 2<=1000;decide)))));refine mq (ab U (ab (ae U U (uA _ _ _)) U)) (Ab U) R ?_;exact y7 _ _
  ·rcases hx with rfl|⟨c,r,l,B,_,F,M,q,rfl⟩
   ·exact .inr ⟨S,hg,hn,K,w U,λst0 a b o=>Cr U⟩
   ·obtain⟨z,I,N,G⟩:=Sx.step hg hn K l F M B q
    obtain⟨y,Q,Y,T⟩:=zZ d z I;have j:∀ {S':Tb},Named P S'->∀ i,i<P.m->S'.kept i<P.n+P.m:=λp i hi=>p.bound.2 i hi;have m:∀ (st0:Sto) (a b o:Option W),d8 [a,b,o,some _,some _] _=some _:=λst0 a b o=>by
     have L:cy (ay dC (aa (iV 3) (aa (iOp dIx (iV 4) (iC (.int 1))) (aa (iOp dIx (iV 4) (iC (.int 0))) ac)))) [a,b,o,some (.h (st0.length+2)),Z (.tup [.int (c),.int (r)])] (stO st0 P S)=some (.nx [a,b,o,some (.h (st0.length+2)),Z (.tup [.int (c),.int (r)])] (stO st0 P (piv S r c))):=by
      have:=aj (a:=aa (iV 3) (aa (iOp dIx (iV 4) (iC _)) (aa (iOp dIx (iV 4) (iC _)) ac))) (env:=[a,b,o,some _,some _]) (st:=stO st0 P S) (ab U (ab (ae U U (mX _ _ _)) (ab (ae U U (uA _ _ _)) U))) (AC h F l)
      simp only[cy,this,qan]
     exact ai (bC U U) (ai L (ao (jW T Y)))
    rcases (v4 d f _ _ y z I N Q
     (qce.mpr ⟨λhm=>by
       obtain⟨S',s,p,A,u⟩:=J _ hm
       exact Sx.less_kept s hg u (Sx.code_inj (j p) (j hn) A),C⟩)
     (λv k=>by
       rcases qaz.mp k with rfl|k
       ·exact Sx.code_lt (j hn)
       ·exact hb v k)
     (λv k=>by
       rcases qaz.mp k with rfl|k
       ·exact⟨S,hg,hn,U,G⟩
       ·obtain⟨S',s,p,A,u⟩:=J v k
        exact⟨S',s,p,A,Sx.less_trans s.pos hg.pos z.pos u G⟩)
     (by rw[qaq];lia)) with⟨S',way,t,hw⟩|⟨S',gS,O,X,hS,hw⟩
    ·exact .inl ⟨S',way,t,λst0 a b o=>zF U (m st0 a b o) (hw st0 a b o)⟩
    ·exact .inr ⟨S',gS,O,X,hS,λst0 a b o=>zF U (m st0 a b o) (hw st0 a b o)⟩
end
def gB (m n:Nat) (R:Nat->Nat->Int) (b g:Nat->Int):Pb where
 m:=m
 n:=n
 A:=λk t=>if k<n then (if t<m then R t k else 0) else unit (k - n) t
 b:=λt=>if t<m then b t else 0
 g:=λk=>if k<n then g k else 0
def BS (m n:Nat) (R:Nat->Nat->Int) (b g:Nat->Int):Tb:=Sx.tb0 (gB m n R b g) (λi c=>if c<n then R i c else b i) (λc=>if c<n then - g c else 0)
def kR (m n:Nat) (R:Nat->Nat->Int):D:=.tup ((qai m).map λi=>D.tup (mpI n (R i)))
structure Inp (m n:Nat) (R:Nat->Nat->Int) (b g:Nat->Int):Prop where
 m64:m<=64
 n64:n<=100
 R:∀ i c,i<m->c<n->(R i c).natAbs<=2^50
 b:∀ i,i<m->(b i).natAbs<=2^50/\0<=b i
 g:∀ c,c<n->(g c).natAbs<=2^50
section
variable {m n:Nat}{R:Nat->Nat->Int}{b g:Nat->Int}
theorem Ce (h:Inp m n R b g):Pd (gB m n R b g) where
 bd:={
  m64:=h.m64
  n64:=h.n64
  A:=λk _ t j=>by
   show (if k<n then _ else unit _ t).natAbs<=_;by_cases e:k<n
   ·rw[iFP e,iFP (show t<m from j)];exact h.R t k j e
   ·rw[iFN e];exact Sx.unit_le _ _
  b:=λt j=>by
   show (if t<m then b t else 0).natAbs<=_;rw[iFP (show t<m from j)];exact (h.b t j).1
  g:=λk _=>by
   show (if k<n then g k else 0).natAbs<=_;by_cases e:k<n
   ·rw[iFP e];exact h.g k e
   ·rw[iFN e];exact qbA _ }
 hA:=λk e t j=>by
  have hk':k<n+m:=e;have V:m<=t:=j;show (if k<n then _ else unit _ t)=0;by_cases w:k<n
  ·rw[iFP w,iFN (by lia)]
  ·rw[iFN w];unfold unit;rw[iFN (by lia)]
 hb:=λt j=>iFN (qhG.mpr j)
 hg:=λr _=>iFN (by show ¬ n+r<n;lia)
theorem AF (h:Inp m n R b g):Good (gB m n R b g) (BS m n R b g)/\Named (gB m n R b g) (BS m n R b g)/\Fe (gB m n R b g) (BS m n R b g):=by
 have d:=Ce h
 have:=Sx.good0
  (λr _=>by
    funext t
    show (if n+r<n then _ else unit (n+r - n) t)=_
    rw[iFN (by lia),qaK])
  (λk e=>d.hA k (by lia)) d.hb d.hg
  (λi c hi o=>by
    show (if c<n then R i c else b i)=if c<n then _ else _
    rw[iFP (show c<n from o),iFP (show c<n from o),iFP (show i<m from hi)])
  (λi hi=>by
    show (if n<n then _ else b i)=if i<m then b i else 0
    rw[iFN (qa3 _),iFP (show i<m from hi)])
  (λc o=>by
    show (if c<n then - g c else 0)=- (if c<n then g c else 0)
    rw[iFP (show c<n from o),iFP (show c<n from o)])
  (by show (if n<n then _ else _)=0;rw[iFN (qa3 _)])
 refine⟨this.1,this.2.1,this.2.2 λt j=>?_⟩;show 0<=if t<m then b t else 0;rw[iFP (show t<m from j)];exact (h.b t j).2
theorem v5 (f:Nat->Int) (x:Int):mpI n f++[.int x]=mpI (n+1) λc=>if c<n then f c else x:=by
 rw[nu,iFN (qa3 _)];rw[bu (g:=λc=>if c<n then f c else x) λk e=>by rw[iFP e]]
theorem zO (lo:Nat) (m:Nat):cU (lo:Int) m=mpI m (nI λi=>lo+i):=by
 refine qc8 λk _=>?_;show D.int _=D.int (((lo+k:Nat)));rw[Int.natCast_add]
theorem E1 {st0:Sto}{H L:Option W} (h:Inp m n R b g):oF 4 4 bO (aa (iV 0) (aa (iV 1) (aa (iV 2) ac))) [some (.d (kR m n R)),some (.d (.tup (mpI m b))),some (.d (.tup (mpI n g))),H,L] st0=some (.h (st0.length+2),stO st0 (gB m n R b g) (BS m n R b g)):=by
 have hm:=h.m64;have hn:=h.n64;generalize F:([none,some (.d (kR m n R)),some (.d (.tup (mpI m b))),some (.d (.tup (mpI n g)))]:Ev)=E;have v1:∀ s,iV 1 E s=some (.d (kR m n R),s):=λs=>by rw[<-F];rfl
 have X:∀ s,iV 2 E s=some (.d (.tup (mpI m b)),s):=λs=>by rw[<-F];rfl
 have N:∀ s,iV 3 E s=some (.d (.tup (mpI n g)),s):=λs=>by rw[<-F];rfl
 have a:∀ s,iCB aT (aa (iV 3) ac) E s=some (.d (.int (n:Int)),s):=λs=>by
  have:=az (g:=aT) (d:=.int ((mpI n g).length:Nat)) (ab (b:=ac) (N s) U) U
  rw[aB]at this;exact this
 have q:∀ s,iCB aT (aa (iV 1) ac) E s=some (.d (.int (m:Int)),s):=λs=>by
  have:=az (g:=aT) (d:=.int (((qai m).map λi=>D.tup (mpI n (R i))).length:Nat)) (ab (b:=ac) (v1 s) U) U
  rw[qaf,qas]at this;exact this
 have Y:av (iLc 2 [] (cY (aa (iV 1) (aa (iV 2) ac))) (.tp [0,1]) aP gf) E st0=some (.d (.lst (aS m n λi c=>if c<n then R i c else b i)),st0):=by
  have hz:cY (aa (iV 1) (aa (iV 2) ac)) E st0=some ((qai m).map λi=>D.tup [.tup (mpI n (R i)),.int (b i)],st0):=by
   have e1:dG ((qai m).map λi=>D.tup (mpI n (R i))) (mpI m b)=(qai m).map λi=>D.tup [.tup (mpI n (R i)),.int (b i)]:=by
    apply qbo;intro i;rw[fm,qav,qav];by_cases hi:i<m
    ·rw[bf hi,qa6 hi];rfl
    ·rw[qaE (l:=qai m) (by rw[qas];lia)];rfl
   rw[<-e1]
   have:=ab (v1 st0) (ab (b:=ac) (X st0) U)
   simp only[cY,this,qaa];rfl
  refine aq (aM hz (by rw[qaf,qas];lia) ?_);refine yN (g:=λi=>(D.tup (mpI n (R i)),.int (b i))) (lnD n λi c=>if c<n then R i c else b i) λi hi=>?_;unfold lnD;rw[<-v5 (R i) (b i)];exact ae (aq (show iCL vX (aa (iV 0) ac) _ _=some (mpI n (R i),_) from U)) (aq (show bj (aa (iV 1) ac) _ _=some ([.int (b i)],_) from U)) (fq _ (by rw[aB];show _+1<=_;lia))
 have f3:iOp aV (av (iLc 1 [] (aA (iV 3)) (.nm 0) aP gg)) (av (bj (aa (iC (.int 0)) ac))) E st0=some (.d (.lst (mpI (n+1) λc=>if c<n then - g c else 0)),st0):=by
  rw[<-v5 (λc=>- g c) 0];refine ae (aq (aM (be (N st0)) (by rw[aB];lia) (fR (g:=λk=>D.int (g k)) (λk=>D.int (- g k)) λk _=>rfl))) (aq (show bj (aa (iC (.int 0)) ac) E st0=some ([.int 0],st0) from U)) (fq _ ?_);rw[qaf,qas];show _+1<=_;lia
 have f5:bV (xm (aa (iCB aT (aa (iV 3) ac)) ac)) E st0=some (.h st0.length,st0++[.l (mpI n (nI λc=>c))]):=by
  have:=ab (b:=ac) (a st0) U
  have e1:xm (aa (iCB aT (aa (iV 3) ac)) ac) E st0=some (mpI n (nI λc=>c),st0):=by
   simp only[xm,this,qaa];rw[iFP ⟨by lia,by lia⟩,qa7,show cU 0 n=cU ((0:Nat):Int) n from U,zO];simp only[qbh]
  simp only[bV,e1,qan]
 have T:bV (pO (aa (iCB aT (aa (iV 3) ac)) (aa (iOp aV (iCB aT (aa (iV 3) ac)) (iCB aT (aa (iV 1) ac))) ac))) E (st0++[.l (mpI n (nI λc=>c))])=some (.h (st0.length+1),st0++[.l (mpI n (nI λc=>c)),.l (mpI m (nI λi=>n+i))]):=by
  generalize hs:(st0++[C.l (mpI n (nI λc=>c))])=s1;have h2:iOp aV (iCB aT (aa (iV 3) ac)) (iCB aT (aa (iV 1) ac)) E s1=some (.d (.int ((n:Int)+(m:Int))),s1):=ae (a s1) (q s1) U
  have:=ab (a s1) (ab (b:=ac) h2 U)
  have e1:pO (aa (iCB aT (aa (iV 3) ac)) (aa (iOp aV (iCB aT (aa (iV 3) ac)) (iCB aT (aa (iV 1) ac))) ac)) E s1=some (mpI m (nI λi=>n+i),s1):=by
   simp only[pO,this,qaa];rw[iFP ⟨by lia,by lia,by lia,by lia⟩,show (((n:Int)+(m:Int)) - (n:Int)).toNat=m by lia,zO]
  simp only[bV,e1,qan];rw[<-hs,qaw]
  simp
 have z:qc bO E st0=some (fsO n (aS m n λi c=>if c<n then R i c else b i) (mpI (n+1) λc=>if c<n then - g c else 0) 1 st0.length,st0++[.l (mpI n (nI λc=>c)),.l (mpI m (nI λi=>n+i))]):=by
  unfold bO;simp only[qc,a st0,Y,f3,f5,T,qaa,qan,show iC (.int 1) E st0=some (.d (.int 1),st0) from U];rfl
 have ha:aa (iV 0) (aa (iV 1) (aa (iV 2) ac)) [some (.d (kR m n R)),some (.d (.tup (mpI m b))),some (.d (.tup (mpI n g))),H,L] st0=some ([.d (kR m n R),.d (.tup (mpI m b)),.d (.tup (mpI n g))],st0):=rfl;simp only[oF,ha,qaa];show (qc bO [none,some (.d (kR m n R)),some (.d (.tup (mpI m b))),some (.d (.tup (mpI n g)))] st0).map _=_;rw[F,z,qan];rw[qaw,qbJ];rfl
inductive Aj (P:Pb):D->Prop
 |most (p:Int) (am pr:Nat->Int):x6 P p am pr->Aj P (.tup [.str "most",.int p,.tup (mpI P.n am),.tup (mpI P.m pr)])
 |beyond (way:Nat->Int):ma P way->Aj P (.tup [.str "beyond",.tup (mpI P.n way)])
theorem zq {m n:Nat} (hm:m<=64) (hn:n<=100):(n+m)^m<2^8000:=by
 have J:(n+m)^m<=(2^8)^m:=Nat.pow_le_pow_left (by lia) m;rw[<-qjK]at J;exact qbO J (wu (by lia))
theorem AW (h:Inp m n R b g):∃ x,Aj (gB m n R b g) x/\okT x=true/\∀ st:Sto,∃ u,g9 [.d (kR m n R),.d (.tup (mpI m b)),.d (.tup (mpI n g))] st=some (.d x,st++u):=by
 have d:=Ce h;obtain⟨O,Q,f1⟩:=AF h;obtain⟨y,sy,M,K⟩:=zZ d O Q;generalize hM:(kR m n R)=A at *;generalize hB:D.tup _=B at *;generalize hC:D.tup (mpI n g)=C at *;have I:∀ st0,aD (.nm 3) _ [Z A,Z B,Z C,none,none] st0=some _:=λst0=>by
  rw[<-hM,<-hB,<-hC];exact ao (E1 h)
 rcases (v4 d _ [] _ y O Q f1 sy qcX (λv G=>nomatch G) (λv G=>nomatch G) (by rw[qdj,qjt];exact zq h.m64 h.n64)) with⟨S',way,S,hw⟩|⟨S',gS,nS,fS,hS,hw⟩
 ·refine⟨_,.beyond way S,Gi _ _,λst0=>⟨_,ar U (ai (I st0) (ai (ao (jW K M)) (fj (hw st0 _ _ _))))⟩⟩
 ·obtain⟨p,am,pr,mi,em⟩:=EB d gS nS fS hS
  refine⟨_,.most p am pr mi,E6 _ _ _ _ _,λst0=>⟨_,ar U (ai (I st0) (ai (ao (jW K M)) (ai (hw st0 _ _ _) (aC (mq U (Ab U) em (E6 _ _ _ _ _))))))⟩⟩
end
end Own
namespace Sx
def spR (N k:Nat) (V:Nat->Nat->Int) (r c:Nat):Int:=if r<N then (if c<k then - V r c else if c<k+k then V r (c - k) else if c - (k+k)=r then 1 else 0) else if c<k+k then 0 else if c - (k+k)=r - N then 1 else 0
def spB (N r:Nat):Int:=if r<N then 0 else 1
def spG (k c:Nat):Int:=if c<k+k then 0 else 1
section
variable {N k:Nat}{V:Nat->Nat->Int}{am pr:Nat->Int}{p:Int}
theorem sp_row {i:Nat} (hi:i<N):(sumN (k+k+N) λj=>am j*spR N k V i j)=am (k+k+i) - sumN k λt=>(am t - am (k+t))*V i t:=by
 rw[sumN_append,sumN_append];have e1:(sumN k λj=>am j*spR N k V i j)=sumN k λt=>(-1)*(am t*V i t):=sumN_congr λt l=>by
  unfold spR;rw[iFP hi,iFP l,qf2];omega
 have e2:(sumN k λj=>am _*spR N k V i (k+j))=sumN k λt=>am (k+t)*V i t:=sumN_congr λt l=>by
  unfold spR;rw[iFP hi,iFN (by omega),iFP (by omega),qaK]
 have e3:(sumN N λj=>am (k+k+j)*spR N k V i (k+k+j))=am (k+k+i):=by
  rw[sumN_single hi λj o c=>by unfold spR;rw[iFP hi,iFN (by omega),iFN (by omega),qaK,iFN c,qa2]];unfold spR;rw[iFP hi,iFN (by omega),iFN (by omega),qaK,iFP U,qdc]
 have e4:(sumN k λt=>(am t - am (k+t))*V i t)=(sumN k λt=>am t*V i t) - sumN k λt=>am (k+t)*V i t:=by
  rw[<-sumN_sub];exact sumN_congr λt _=>qf1 _ _ _
 rw[e1,sumN_mul];omega
theorem sp_lim {i:Nat} (hi:i<N):(sumN (k+k+N) λj=>am j*spR N k V (N+i) j)=am (k+k+i):=by
 rw[sumN_append];have e1:(sumN (k+k) λj=>am j*spR N k V (N+i) j)=0:=by
  rw[sumN_congr λj o=>by unfold spR;rw[iFN (by omega),iFP o,qa2],sumN_zero]
 have e3:(sumN N λj=>am (k+k+j)*spR N k V (N+i) (k+k+j))=am (k+k+i):=by
  rw[sumN_single hi λj o c=>by unfold spR;rw[iFN (by omega),iFN (by omega),qaK,qaK,iFN c,qa2]];unfold spR;rw[iFN (by omega),iFN (by omega),qaK,qaK,iFP U,qdc]
 rw[e1,e3,qcj]
theorem sp_colA {t:Nat} (l:t<k):(sumN (N+N) λr=>spR N k V r t*pr r)=- sumN N λi=>V i t*pr i:=by
 rw[sumN_append];have e1:(sumN N λr=>spR N k V r t*pr r)=sumN N λi=>(-1)*(V i t*pr i):=sumN_congr λr g=>by
  unfold spR;rw[iFP g,iFP l,qdz];omega
 have e2:(sumN N λr=>spR N k V (N+r) t*pr (N+r))=0:=by
  rw[sumN_congr λj o=>by unfold spR;rw[iFN (by omega),iFP (by omega),qbs],sumN_zero]
 rw[e1,sumN_mul];omega
theorem sp_colB {t:Nat} (l:t<k):(sumN (N+N) λr=>spR N k V r (k+t)*pr r)=sumN N λi=>V i t*pr i:=by
 rw[sumN_append];have e2:(sumN N λr=>spR N k V (N+r) (k+t)*pr (N+r))=0:=by
  rw[sumN_congr λj o=>by unfold spR;rw[iFN (by omega),iFP (by omega),qbs],sumN_zero]
 rw [(sumN_congr λr g=>by
  unfold spR;rw[iFP g,iFN (by omega),iFP (by omega),qaK]),e2,qfx]
theorem sp_colE {i:Nat} (hi:i<N):(sumN (N+N) λr=>spR N k V r (k+k+i)*pr r)=pr i+pr (N+i):=by
 rw[sumN_append];have e1:(sumN N λr=>spR N k V r (k+k+i)*pr r)=pr i:=by
  rw[sumN_single hi λr g c=>by unfold spR;rw[iFP g,iFN (by omega),iFN (by omega),qaK,iFN (qbD c),qbs]];unfold spR;rw[iFP hi,iFN (by omega),iFN (by omega),qaK,iFP U,qdb]
 have e2:(sumN N λr=>spR N k V (N+r) (k+k+i)*pr (N+r))=pr (N+i):=by
  rw[sumN_single hi λr g c=>by unfold spR;rw[iFN (by omega),iFN (by omega),qaK,qaK,iFN (qbD c),qbs]];unfold spR;rw[iFN (by omega),iFN (by omega),qaK,qaK,iFP U,qdb]
 rw[e1,e2]
theorem sum0 {n:Nat}{f:Nat->Int} (h:∀ i,i<n->0<=f i) (e:sumN n f=0):∀ i,i<n->f i=0:=by
 induction n with
 |zero=>exact λi hi=>absurd hi (qcz _)
 |succ n D=>
  have G:=sumN_nonneg (n:=n) λi hi=>h i (by omega);have H:=h n (by omega);rw[sumN]at e;intro i hi;rcases Nat.lt_succ_iff_lt_or_eq.mp hi with z|z
  ·exact D (λi hi=>h i (by omega)) (by omega) i z
  ·rw[z];omega
theorem split_core (p1:1<=p) (am0:∀ j,j<k+k+N->0<=am j) (pr0:∀ r,r<N+N->0<=pr r) (rows:∀ r,r<N+N->(sumN (k+k+N) λj=>am j*spR N k V r j)<=p*spB N r)
  (cols:∀ j,j<k+k+N->p*spG k j<=sumN (N+N) λr=>spR N k V r j*pr r) (same:(sumN (N+N) λr=>spB N r*pr r)=sumN (k+k+N) λj=>am j*spG k j) :
  (∀ t,t<k->(sumN N λi=>V i t*pr i)=0)/\∀ i,i<N->0<=(sumN k λt=>(am t - am (k+t))*V i t)/\((sumN k λt=>(am t - am (k+t))*V i t)=0↔pr i≠0):=by
 have m:∀ t,t<k->(sumN N λi=>V i t*pr i)=0:=λt l=>by
  have a:=cols t (by omega);have b:=cols (k+t) (by omega);rw[sp_colA l]at a;rw[sp_colB l]at b;unfold spG at a b;rw[iFP (by omega)]at a b;omega
 have u:∀ i,i<N->am (k+k+i)<=sumN k λt=>(am t - am (k+t))*V i t:=λi hi=>by
  have a:=rows i (by omega);rw[sp_row hi]at a;unfold spB at a;rw[iFP hi]at a;omega
 have y:∀ i,i<N->am _<=p:=λi hi=>by
  have a:=rows (N+i) (by omega);rw[sp_lim hi]at a;unfold spB at a;rw[iFN (by omega),qdc]at a;exact a
 have hz:∀ i,i<N->p<=pr i+pr _:=λi hi=>by
  have a:=cols (k+k+i) (by omega);rw[sp_colE hi]at a;unfold spG at a;rw[iFN (by omega),qdc]at a;exact a
 have E:(sumN N λi=>pr (N+i))=sumN N λi=>am (k+k+i):=by
  have e1:(sumN (N+N) λr=>spB N r*pr r)=sumN N λi=>pr (N+i):=by
   rw[sumN_append,sumN_congr λr g=>by unfold spB;rw[iFP g,qbs],sumN_zero,qcj];exact sumN_congr λr _=>by unfold spB;rw[iFN (by omega),qdb]
  have e2:(sumN (k+k+N) λj=>am j*spG k j)=sumN N λi=>am (k+k+i):=by
   rw[sumN_append,sumN_congr λr g=>by unfold spG;rw[iFP g,qa2],sumN_zero,qcj];exact sumN_congr λr _=>by unfold spG;rw[iFN (by omega),qdc]
  rw[<-e1,<-e2];exact same
 have e0:∀ i,i<N->0<=am (k+k+i):=λi hi=>am0 _ (by omega);have x:∀ i,i<N->0<=pr i:=λi hi=>pr0 _ (by omega);have A:∀ i,i<N->0<=pr (N+i):=λi hi=>pr0 _ (by omega);have s:=by
  refine sum0 (λi hi=>qd2 (x i hi) (qeA (e0 i hi) (u i hi))) ?_;have e1:(sumN N λi=>pr i*sumN k λt=>_*V i t)=sumN N λi=>sumN k λt=>(am t - am (k+t))*_:=sumN_congr λi _=>by
   rw[<-sumN_mul];exact sumN_congr λt _=>by rw[qaT _,qbi]
  rw[e1,sumN_swap,sumN_congr λt l=>by rw[sumN_mul,m t l,qa2],sumN_zero]
 have v:∀ i,i<N->pr i*am (k+k+i)=0:=λi hi=>by
  have a:=qdC (u i hi) (x i hi);have b:=qd2 (x i hi) (e0 i hi);rw[s i hi]at a;omega
 have w:∀ i,i<N->pr (N+i)*(p - am (k+k+i))=0:=by
  refine sum0 (λi hi=>qd2 (A i hi) (by have:=y i hi;omega)) ?_;have a2:0<=sumN N λi=>am (k+k+i)*(pr (N+i) - p):=sumN_nonneg λi hi=>by
   have b:=qdC (hz i hi) (e0 i hi);rw[qcl,qaT (am _) (pr i),(v i hi)]at b;rw[qcG];omega
  have B:0<=sumN N λi=>pr (N+i)*(p - am (k+k+i)):=sumN_nonneg λi hi=>qd2 (A i hi) (by have:=y i hi;omega)
  rw [(sumN_congr λi _=>by
   rw[qcG,qaT (am _),qaT (am _) p]),sumN_sub,sumN_mul]at a2
  rw [(sumN_congr λi _=>by
   rw[qcG,qaT _ p]),sumN_sub,sumN_mul]at B ⊢
  rw[E]at B ⊢;omega
 refine⟨m,λi hi=>⟨qeA (e0 i hi) (u i hi),λF C=>?_,λC=>?_⟩⟩
 ·have a:=u i hi
  have d:=hz i hi;rcases qcA.mp (w i hi) with q|q<;>omega
 ·rcases qcA.mp (s i hi) with q|q
  ·exact absurd q C
  ·exact q
theorem split_most {way:Nat->Int} (w0:∀ j,j<k+k+N->0<=way j) (rows:∀ r,r<N+N->(sumN (k+k+N) λj=>way j*spR N k V r j)<=0) (gain:0<sumN (k+k+N) λj=>way j*spG k j):False:=by
 have e2:(sumN (k+k+N) λj=>way j*spG k j)=0:=by
  rw[sumN_append,sumN_congr λr g=>by unfold spG;rw[iFP g,qa2],sumN_zero,qcj,sumN_congr λi hi=>?_,sumN_zero];have a:=rows (N+i) (by omega);rw[sp_lim hi]at a;have b:=w0 (k+k+i) (by omega);rw[show way _=0 by omega,qbs]
 omega
end
end Sx
set_option maxHeartbeats 1000000
namespace Own
open PySem L2
open Sx (Pb Tb Good Named Fe LV ZV piv lexP leastR leaveL sumN unit colV basis)
theorem bE {a:Af}{env:Ev}{st s:Sto}{ws:List W}{ds:List D} (h:a env st=some (ws,s)) (hd:og ws=some ds) (b:ds.length<=1000:=by decide):aY a env st=some (.d (.tup ds),s):=by
 simp only[aY,h,hd,b,qaa,if_true]
theorem jP {a:Af}{env:Ev}{st s:Sto}{ws:List W}{ds:List D} (h:a env st=some (ws,s)) (hd:og ws=some ds) (b:ds.length<=1000:=by decide):bj a env st=some (ds,s):=by
 simp only[bj,h,hd,b,qaa,if_true]
theorem E3 (s:Sto) {a b:Int} (h:qbP a b):aU s (.d (.int a)) (.d (.int b))=some (.int (a*b)):=iFP h
theorem yW (s:Sto) {a b:Int} (h:0<b):f9 s (.d (.int a)) (.d (.int b))=some (.int (a%b)):=iFP h
theorem CP (s:Sto) {a b:Int} (h:0<b/\b<1073741824):iy s (.d (.int a)) (.d (.int b))=some (.int (a / b)):=iFP h
theorem tJ {st:Sto}{k:Int} (a:0<=k) (c:k<=60):cq [.d (.int k)] st=some (.d (.int (2^k.toNat)),st):=by
 obtain⟨b,f,e2,o,rfl,rfl⟩:=a5 (g:=.nm 2) (body:=eS) (λi env s=>∃ o,env=[Z (.int k),Z (.int (2^i)),o]/\s=st)
  ⟨none,U,U⟩ (λi d env s hd ⟨o,e,es⟩=>by
   subst e es;obtain⟨rfl,hi⟩:=qW hd;refine⟨_,[some _,some _,Z (.int i)],s,U,.inl ?_,_,U,U⟩
   exact ao (ae U U (E3 _ (dZ (by decide)))))
 rw[gF]at e2;exact ar U (l8 (ao U) (l8 (a7 (i8 U a (by lia) U) e2) (aC U)))
theorem xL {j:Nat} (h:j<=20):(0:Int)<2^j/\(2:Int)^j<1073741824:=by
 have a:∀ m ,m<=20->2^m<=2^20:=λm hm=>qaY (by decide) hm;have b:=a j h;have c:0<2^j:=qfZ (by decide);lia
theorem A9 {st:Sto}{row k:Int} (a:0<=k) (b:k<=20):qB [.d (.int row),.d (.int k)] st=some (.d (.int (onI row k)),st):=by
 have h:=xL (j:=k.toNat) (by lia);exact ar U (aC (ae (ae U (aj U (tJ a (by lia))) (CP _ ⟨h.1,h.2⟩)) U (yW _ (by decide))))
def bY (b:Bool) (t:List Int) (row:Int):Int:=if b=true then (if ek row t=(t.length:Int) then 1 else 0) else (if ek row t%2=1 then -1 else 1)
def aw (b:Bool):Str:=if b=true then "both" else "odd"
theorem oM (b:Bool):(aw b==("both" : Str))=b:=by cases b<;>decide
theorem Aa {st:Sto}{b:Bool}{t:List Int}{row:Int} (i:∀ k∈t,0<=k/\k<=20) (m:t.length<=1000):i5 [.d (.str (aw b)),.d (ag t),.d (.int row)] st=some (.d (.int (bY b t row)),st):=by
 have a:lcI (.nm 0) aP db [none,some _] _ st=some ((t.map D.int).map λd=>match d with|.int k=>.int (onI row k)|d=>d,st):=qw _ λd hd=>by
  obtain⟨k,j,rfl⟩:=qaM.mp hd;exact⟨_,U,aj U (A9 (i k j).1 (i k j).2)⟩
 have e1:((t.map D.int).map λd=>match d with|.int k=>.int (onI row k)|d=>d)=(t.map (onI row)).map D.int:=by rw[qaR,qaR];rfl
 rw[e1]at a;have e:=FE st (t.map (onI row));rw[rR]at e;have g:(t.map D.int).length<=1000000:=by rw[qaf];lia
 have c:aT st [.d (ag t)]=some (.int (t.length)):=by
  show some (D.int _)=_;rw[qaf]
 have f:dEq st (.d (.str (aw b))) (.d (.str "both"))=some (.bl b):=by rw[vz,oM]
 have l:bY b t row=if b=true then (if (ek row t==(t.length))=true then 1 else 0) else (if (ek row t%2==(1))=true then -1 else 1):=by simp only[bY,beq_iff_eq]
 rw[l];have first:∀ (tl:Sf) (r:Option Fl),tl [Z (.str (aw b)),Z (ag t),Z (.int row),Z (.int (ek row t))] st=r->ah (aD (.nm 3) (iCB pH (aa (av (iLc 1 [2] (aA (iV 1)) (.nm 0) aP db)) ac))) tl [Z (.str (aw b)),Z (ag t),Z (.int row),none] st=r:=λtl r h=>by
  have q:aD (.nm 3) (iCB pH (aa (av (iLc 1 [2] (aA (iV 1)) _ aP db)) ac)) [some _,some _,some _,none] st=some (.nx [Z (.str (aw b)),Z (ag t),some _,some _] st):=ao (az (ab (aq (aM (be U) g a)) U) e);simp only[ah,q,qaa,h]
 generalize aw b=kd at *;cases b with
 |true=>
  cases hq:(ek row t==_) with
  |true=>exact ar U (first _ _ (wv (Cp (ap U U f) (aC (nC (ap U (az U c) (by rw[du,hq])) U)))))
  |false=>exact ar U (first _ _ (wv (Cp (ap U U f) (aC (qT (ap U (az U c) (by rw[du,hq])) U)))))
 |false=>
  cases hq:(ek row t%2==_) with
  |true=>exact ar U (first _ _ (l8 (Co (ap U U f) U) (aC (nC (ap (ae U U (yW _ (by decide))) U (by rw[du,hq])) U))))
  |false=>exact ar U (first _ _ (l8 (Co (ap U U f) U) (aC (qT (ap (ae U U (yW _ (by decide))) U (by rw[du,hq])) U))))
theorem wE {st:Sto}{fs:List D} (c:fs.length<=1000):bN [.d (.tup fs)] st=some (.d (.tup ((bA 0 fs).map D.int)),st):=by
 have a:lcI (.tp [0,1]) eE eA [none,none] (bF 0 fs) st=some (((bF 0 fs).filter BF).map DT,st):=jC _ _ λd hd=>by
  obtain⟨i,hi⟩:=List.mem_iff_getElem?.mp hd;rw[dh]at hi;obtain⟨e,b,rfl⟩:=qad.mp hi;exact⟨_,U,by simp only[eE,BF,iV,iC,aG,nH,wU,rW,dQ,qaa,qan,qbt,qbS,qhg,qhh,qbh],λ_=>by simp only[eA,DT,iV,nH,qan,qbt,qhg,qhh,qbh]⟩
 rw[nU]at a;have hz:(bF 0 fs).length<=1000000:=by rw[j0];lia
 simp only[bN,kD,iV,ac,aa,iCB,av,aO,iLc,bK,br,uo,fX,dH,qaa,qan,qbt,qau,qdQ,qaq,qdj,qc7,qdF,qci,qdi,qe6,if_true,qbh,lg,a,hz]
theorem BK {st:Sto}{fs:List D}{j:Nat}{d:D} (hd:fs[j]?=some d) (a:rA d) (hn:d≠.non):eU [.d (.tup fs),.d (.int (j:Int))] st=some (.d (.int (sgD d)),st):=by
 have e:atI fs (j:Int)=some d:=cK hd;rcases a with rfl|rfl|rfl
 ·exact absurd U hn
 ·simp only[eU,jV,iV,iC,iOp,aG,iUn,eO,aO,br,wU,fX,dIx,dEq,mY,eqK,eqD,im,qaa,qan,qbt,qbS,qau,qdQ,qaq,qdj,qdF,qci,qdi,qgx,qe6,if_true,if_false,qbq,qbh,lg,qgz,e,sgD,show ((0:Int)==1)=false by decide,show ¬ (0:Int)=1 by decide]
 ·simp only[eU,jV,iV,iC,iOp,aG,iUn,eO,aO,br,wU,fX,dIx,dEq,mY,eqK,eqD,im,qaa,qan,qbt,qbS,qau,qdQ,qaq,qdj,qdF,qci,qdi,qgx,qe6,if_true,qbh,lg,qgz,e,sgD,show ((1:Int)==1)=true by decide]
theorem FA {d:D}:sgD d=1\/sgD d=-1:=by
 unfold sgD;split
 ·split
  ·exact .inl U
  ·exact .inr U
 ·exact .inl U
theorem xP {st:Sto}{fs:List D}{j:Nat}{d:D}{b:Bool}{t:List Int} (hd:fs[j]?=some d) (c:rA d) (hn:d≠.non) (f:∀ k∈t,0<=k/\k<=20) (a:t.length<=1000) :
  cr [.d (.tup fs),.d (.str (aw b)),.d (ag t),.d (.int (j:Int))] st=some (.d (.int (sgD d*bY b t j)),st):=by
 have e1:=BK (st:=st) hd c hn;have e2:=Aa (st:=st) (b:=b) (row:=j) f a;have e:qbP (sgD d) (bY b t j):=dY (by rcases FA (d:=d) with h|h<;>(rw[h];decide));generalize aw b=kd at e2 ⊢;generalize ag t=tt at e2 ⊢;simp only[cr,fZ,iV,iOp,ac,aa,ay,aO,br,aU,qaa,qan,qbt,qbS,qau,qdQ,qaq,qdj,qdF,qci,qdi,qgx,qe6,if_true,qbh,qgz,e1,e2,e]
end Own
set_option maxHeartbeats 1000000
namespace Own
open PySem L2
open Sx (Pb Tb Good Named Fe LV ZV piv lexP leastR leaveL sumN unit colV basis)
theorem ie {α b:Type} (a:α) (F:α->b) (l:List α):l.map F=(qai l.length).map λi=>F (l.getD i a):=by
 apply qbo;intro i;rw[qav,qav];by_cases h:i<l.length
 ·rw[qa6 h,qal h,qan,qan,qat,qal h];rfl
 ·rw[qaE (by lia),qaE (by rw[qas];lia)];rfl
theorem nv {n l:Nat}{f h g:Nat->Int} (b:∀ i,i<n->g i=f i) (c:∀ i,i<l->g (n+i)=h i):mpI n f++mpI l h=mpI (n+l) g:=by
 apply qbo;intro i;by_cases q:i<n
 ·rw[qaB (by rw[aB];exact q),bf q,bf (by lia),b i q]
 ·rw[qaJ (by rw[aB];lia),aB]
  by_cases a:i<n+l
  ·rw[bf (by lia),bf a,<-c _ (by lia),show n+_=i by lia]
  ·rw[qaE (by rw[aB];lia),qaE (by rw[aB];lia)]
theorem uV (c:Int):∀ n,(qaD n [D.int c]).flatten=mpI n λ_=>c
 |0=>rfl
 |n+1=>by rw[nu,qgN,qg0,uV c n];rfl
theorem uG {α:Type}{te:Ef}{l:Ev}{st:Sto}{g:α->D} (F:α->D):∀ {a:List α},(∀ k∈a,te (Z (g k)::l) st=some (.d (F k),st))->lcI (.nm 0) aP te (none::l) (a.map g) st=some (a.map F,st)
 |[],_=>rfl
 |k::a,h=>by
  rw[qau];unfold lcI;rw[show cw _ _ _=some (some _::l) from U,qaa,show aP _ st=some (true,st) from U,qaa,(h k qag),qaa,(uG F λx hx=>h x (qah _ hx))];rfl
theorem vq (F:Nat->D) (n:Nat):bF 0 ((qai n).map F)=(qai n).map λi:Nat=>D.tup [.int ((i:Nat):Int),F i]:=by
 apply qbo;intro i;rw[dh,qav,qav];by_cases hi:i<n
 ·rw[qa6 hi,qan,qan,qan,qbh]
 ·rw[qaE (by rw[qas];lia)];rfl
structure Spl (fs:List D) (ts:List (List Int)):Prop where
 fl:fs.length<=32
 fv:∀ d∈fs,rA d
 tl:ts.length<=16
 tt:∀ t∈ts,(∀ k∈t,0<=k/\k<=20)/\t.length<=20
 nd:ts.Nodup
def nR (fs:List D):Nat:=(bA 0 fs).length
def jQ (fs:List D) (i:Nat):Int:=(bA 0 fs).getD i 0
def spV (fs:List D) (b:Bool) (ts:List (List Int)) (i t:Nat):Int:=sgD (fs.getD (jQ fs i).toNat .non)*bY b (ts.getD t []) (jQ fs i)
def tsD (ts:List (List Int)):D:=.tup (ts.map ag)
section
variable {fs:List D}{b:Bool}{ts:List (List Int)}
theorem Spl.n (h:Spl fs ts):nR fs<=32:=qaH (oR fs 0) h.fl
theorem uX (h:Spl fs ts) {j:Int} (l:j∈bA 0 fs):∃ (m:Nat) (d:D),j=(m:Int)/\m<fs.length/\fs[m]?=some d/\rA d/\d≠.non/\fs.getD j.toNat .non=d:=by
 obtain⟨m,e,hm,hn⟩:=kA fs 0 l;rw[qbh]at e;have hd:=qal hm;refine⟨m,_,e,hm,hd,h.fv _ (qbR hm),λq=>hn (by rw[hd,q]),?_⟩;rw[e,qa7,qat,hd];rfl
theorem tY {st:Sto} (h:Spl fs ts):cW [.d (.tup fs),.d (.str (aw b)),.d (tsD ts)] st=some (.d (.lst ((qai (nR fs)).map λi=>D.lst (mpI ts.length (spV fs b ts i)))),st):=by
 have o:∀ j∈bA 0 fs,lcI _ aP dM [none,some _,some _,Z _] _ st=some (ts.map λt=>D.int (sgD (fs.getD j.toNat .non)*bY b t j),st):=λj l=>by
  obtain⟨m,d,rfl,hm,hd,p,hn,hg⟩:=uX h l;refine uG (g:=ag) _ λt a=>?_;rw[hg];exact aj (ab U (ab U (ab U (ab U U)))) (xP hd p hn (h.tt t a).1 (by have:=(h.tt t a).2;lia))
 have n:lcI _ aP dN [none,some _,some _,some _] _ st=some ((bA 0 fs).map λj=>D.lst _,st):=
  uG _ λj l=>aq (aM (be U) (by rw[qaf];have:=h.tl;lia) (o j l))
 have e:((bA 0 fs).map λj=>D.lst (ts.map λt=>D.int (sgD (fs.getD j.toNat .non)*bY b t j)))=(qai (nR fs)).map λi=>D.lst (mpI ts.length (spV fs b ts i)):=by
  rw[ie 0 _ _];refine qc8 λi _=>?_;rw[ie [] _ ts];rfl
 rw[e]at n;exact ar U (aC (aq (aM (be (aj U (wE (by have:=h.fl;lia)))) (by rw[qaf];have:=h.n;unfold nR at this;lia) n)))
theorem y8 {st:Sto}{i N:Nat} (hN:N<=100):jG [.d (.int (i:Int)),.d (.int (N:Int))] st=some (.d (.lst (mpI N λj=>if j=i then 1 else 0)),st):=by
 exact ar U (aC (aq (aM (i8 U (by lia) (by lia) (by lia)) (by unfold cU;rw [qaf,qas];lia) (fR (λj=>D.int _) λj _=>by
   have c:aG dEq (iV 0) (iV 1) [Z (.int (0+((j)))),Z (.int (i))] st=some (decide (j=i),st):=by
    have e:((0+((j)))==(i:Int))=decide (j=i):=by lia
    refine ap U U ?_;rw[du,e]
   by_cases q:j=i
   ·rw[iFP q];rw[decide_eq_true q]at c;exact nC c U
   ·rw[iFN q];rw[decide_eq_false q]at c;exact qT c U))))
theorem BX {st:Sto}{k:Nat}{f:Nat->Int} (r:k<=100):gw [.d (.lst (mpI k f))] st=some (.d (.lst (mpI k f++mpI k λt=>- f t)),st):=by
 have n:lcI _ aP iD [none] (mpI k f) st=some (mpI k λt=>- f t,st):=fR _ λt _=>rfl;exact ar U (aC (ae (aq (U)) (aq (aM (aR U) (by rw[aB];lia) n)) (fq _ (by rw[aB,aB];lia))))
end
end Own
set_option maxHeartbeats 1000000
namespace Own
open PySem L2
open Sx (Pb Tb Good Named Fe LV ZV piv lexP leastR leaveL sumN unit colV basis)
theorem DS {α:Type} (F:Nat->α) (n l:Nat):(qai n).map F++(qai l).map (λi=>F (n+i))=(qai (n+l)).map F:=by
 apply qbo;intro i;by_cases q:i<n
 ·rw[qaB (by rw[qaf,qas];exact q),qav,qav,qa6 q,qa6 (by lia)]
 ·rw[qaJ (by rw[qaf,qas];lia),qav,qav,qaf,qas]
  by_cases a:i<n+l
  ·rw[qa6 (by lia),qa6 a,qan,qan,show n+_=i by lia]
  ·rw[qaE (by rw[qas];lia),qaE (by rw[qas];lia)];rfl
theorem jK (s:Sto) (c:Int) {n:Nat} (hn:n<1000):aU s (.d (.tup [.int c])) (.d (.int (n:Int)))=some (.tup (mpI n λ_=>c)):=by
 show (if _ then some _ else none)=_;rw[iFP ⟨by simp,by show 1<=1000;decide,by lia,by lia⟩,qa7,uV]
theorem yY (s:Sto) (c:Int) {n:Nat} (hn:n<1000):aU s (.d (.lst [.int c])) (.d (.int (n:Int)))=some (.lst (mpI n λ_=>c)):=by
 show (if _ then some _ else none)=_;rw[iFP ⟨by show 1<=1000;decide,by lia,by lia⟩,qa7,uV]
theorem Cy (s:Sto) (k:Nat):aU s (.d (.int 2)) (.d (.int (k:Int)))=some (.int ((k+k:Nat):Int)):=by
 rw[bn s (dY (by decide)),show _*_=((k+k:Nat):Int) by lia]
section
variable {fs:List D}{b:Bool}{ts:List (List Int)}{N k:Nat}{V:Nat->Nat->Int}
theorem xb {st:Sto} (hN:N<=32) (s:k<=16):lcI (.tp [0,1]) aP jn [none,none,Z (.int (N:Int))] ((qai N).map λi:Nat=>D.tup [.int ((i:Nat):Int),.lst (mpI k (V i))]) st=some ((qai N).map λi=>D.lst (mpI (k+k+N) (Sx.spR N k V i)),st):=
 yN (g:=λi=>(D.int _,D.lst _)) _ λi hi=>by
  have q:=qaI.mp hi;have e1:mpI k _++mpI k (λt=>- - V i t)=mpI _ (Sx.spR N k V i):=nv (λt o=>by unfold Sx.spR;rw[iFP q,iFP o]) (λt o=>by unfold Sx.spR;rw[iFP q,iFN (by lia),iFP (by lia),qaK,Int.neg_neg]);have hw:=BX (st:=st) (k:=k) (f:=λt=>- V i t) (by lia);rw[e1]at hw;rw[<-(nv (λt o=>rfl) (λj a=>by unfold Sx.spR;rw[iFP q,iFN (by lia),iFN (by lia),qaK]))];exact ae (aj (ab (aq (aM (aR U) (by rw[aB];lia) (fR _ λt _=>rfl))) U) hw) (aj (ab U (ab U U)) (y8 (st:=st) (i:=i) (N:=N) (by lia))) (fq _ (by rw[aB,aB];lia))
theorem xz {st:Sto} (hN:N<=32) (s:ts.length<=16):lcI (.nm 0) aP fB [none,Z (tsD ts),Z (.int (N:Int))] (cU 0 N) st=some ((qai N).map λi=>D.lst (mpI (ts.length+ts.length+N) (Sx.spR N ts.length V (N+i))),st):=
 fR _ λi hi=>by
  have m:aT st [.d (tsD ts)]=some (.int (ts.length)):=by
   show some (D.int _)=_;rw[qaf]
  rw[<-(nv (λt o=>by unfold Sx.spR;rw[iFN (by lia),iFP o]) (λj a=>by unfold Sx.spR;rw[iFN (by lia),iFN (by lia),qaK,qaK])),qcj];exact ae (ae (aq (U)) (ae U (az (ab U U) m) (Cy st _)) (yY st 0 (by lia))) (aj (ab U (ab U U)) (y8 (by lia))) (fq _ (by rw[aB,aB];lia))
theorem D1 (hN:N<=32) (s:k<=16) (y:∀ i t,(V i t).natAbs<=1):Inp (N+N) (k+k+N) (Sx.spR N k V) (Sx.spB N) (Sx.spG k):=by
 have one:∀ {z:Int},z.natAbs<=1->z.natAbs<=2^50:=λh=>qaH h (by decide);refine⟨by lia,by lia,λi c _ _=>one ?_,λi _=>⟨one ?_,?_⟩,λc _=>one ?_⟩
 ·unfold Sx.spR
  split
  ·split
   ·rw[qif];exact y _ _
   ·split
    ·exact y _ _
    ·split<;>decide
  ·split
   ·decide
   ·split<;>decide
 ·unfold Sx.spB;split<;>decide
 ·unfold Sx.spB;split<;>decide
 ·unfold Sx.spG;split<;>decide
structure Em (N k:Nat) (V:Nat->Nat->Int) (p:Int) (am pr:Nat->Int):Prop where
 bal:∀ t,t<k->(sumN N λi=>V i t*pr i)=0
 val:∀ i,i<N->0<=(sumN k λt=>(am t - am (k+t))*V i t)/\((sumN k λt=>(am t - am (k+t))*V i t)=0↔pr i≠0)
 sa:∀ j,j<k+k+N->Sm (am j)/\0<=am j
 sr:∀ i,i<N->Sm (pr i)/\0<=pr i
theorem FD {x:D} (M:Aj (gB (N+N) (k+k+N) (Sx.spR N k V) (Sx.spB N) (Sx.spG k)) x):∃ p am pr,Em N k V p am pr/\x=.tup [.str "most",.int p,.tup (mpI (k+k+N) am),.tup (mpI (N+N) pr)]:=by
 have w:∀ {r j:Nat},r<N+N->j<k+k+N->(gB _ _ _ (Sx.spB N) (Sx.spG k)).A j r=Sx.spR N k V r j:=λl a=>by
  show (if _<k+k+N then _ else _)=_;rw[iFP a,iFP l]
 have C:∀ {r:Nat},r<N+N->(gB _ (k+k+N) (Sx.spR N k V) _ (Sx.spG k)).b r=Sx.spB N r:=λl=>iFP l;have pg:∀ {j:Nat},j<k+k+N->(gB (N+N) _ (Sx.spR N k V) (Sx.spB N) _).g j=Sx.spG k j:=λa=>iFP a;cases M with
 |beyond way M=>
  exfalso
  refine Sx.split_most (V:=V) M.w0 (λr l=>?_) ?_
  ·have:=M.rows r l
   rw[Sx.sumN_congr (g:=λj=>way j*(gB _ _ _ _ _).A j r) λj a=>by rw[w l a]];exact this
  ·have:=M.gain
   rw[Sx.sumN_congr (g:=λj=>way j*(gB _ _ _ _ _).g j) λj a=>by rw[pg a]];exact this
 |most p am pr M=>
  have c:=Sx.split_core M.p1 M.am0 M.pr0 (λr l=>by
   have:=M.rows r l
   rw[C l]at this;rw[Sx.sumN_congr (g:=λj=>am j*(gB _ _ _ _ _).A j r) λj a=>by rw[w l a]];exact this) (λj a=>by
   have:=M.cols j a
   rw[pg a]at this;rw[Sx.sumN_congr (g:=λr=>(gB _ _ _ _ _).A j r*pr r) λr l=>by rw[w l a]];exact this) (by
   have:=M.same
   rw[Sx.sumN_congr (g:=λr=>(gB _ _ _ _ _).b r*pr r) λr l=>by rw[C l],Sx.sumN_congr (n:=k+k+N) (g:=λj=>am j*(gB _ _ _ _ _).g j) λj a=>by rw[pg a]]
   exact this)
  exact⟨p,am,pr,⟨c.1,c.2,λj a=>⟨M.sa j a,M.am0 j a⟩,λi hi=>⟨M.sr i (show i<N+N by lia),M.pr0 i (show i<N+N by lia)⟩⟩,U⟩
theorem D0 (i t:Nat):(spV fs b ts i t).natAbs<=1:=by
 unfold spV;rw[qc5];have F:(sgD (fs.getD (jQ fs i).toNat .non)).natAbs<=1:=by rcases FA with h|h<;>rw[h]<;>decide
 have H:(bY b (ts.getD t []) (jQ fs i)).natAbs<=1:=by
  unfold bY;split<;>split<;>decide
 exact qaH (qc3 F H) (by decide)
theorem EY (h:Spl fs ts) (hN:0<nR fs):∃ p am pr,Em (nR fs) ts.length (spV fs b ts) p am pr/\∀ (st:Sto) (B:Option W),∃ u,
  ah (aD (.nm 6) (av (iLc 1 [2,4] (ca (aa (iV 4) ac)) (.nm 0) aP fB))) (aD (.nm 7) (ay g9 (aa (iCB dH (aa (av (iLc 1 [] (aA (iOp aV (iV 5) (iV 6))) (.nm 0) aP fA)) ac)) (aa (iOp aV (iOp aU (aY (aa (iC (.int 0)) ac)) (iV 4)) (iOp aU (aY (aa (iC (.int 1)) ac)) (iV 4))) (aa (iOp aV (iOp aU (aY (aa (iC (.int 0)) ac)) (iOp aU (iC (.int 2)) (iCB aT (aa (iV 2) ac)))) (iOp aU (aY (aa (iC (.int 1)) ac)) (iV 4))) ac)))))
   [Z (.tup fs),Z (.str (aw b)),Z (tsD ts),Z (.lst ((qai (nR fs)).map λi=>D.lst (mpI ts.length (spV fs b ts i)))),Z (.int (nR fs:Int)),Z (.lst ((qai (nR fs)).map λi=>D.lst (mpI (ts.length+ts.length+nR fs) (Sx.spR (nR fs) ts.length (spV fs b ts) i)))),none,B] st
   = some (.nx [Z (.tup fs),Z (.str (aw b)),Z (tsD ts),Z (.lst ((qai (nR fs)).map λi=>D.lst (mpI ts.length (spV fs b ts i)))),Z (.int (nR fs:Int)),Z (.lst ((qai (nR fs)).map λi=>D.lst (mpI (ts.length+ts.length+nR fs) (Sx.spR (nR fs) ts.length (spV fs b ts) i)))),Z (.lst ((qai (nR fs)).map λi=>D.lst (mpI (ts.length+ts.length+nR fs) (Sx.spR (nR fs) ts.length (spV fs b ts) (nR fs+i))))),Z (.tup [.str "most",.int p,.tup (mpI (ts.length+ts.length+nR fs) am),.tup (mpI (nR fs+nR fs) pr)])] (st++u)):=by
 have hn:=h.n;have s:=h.tl;obtain⟨x,M,_,hx⟩:=AW (D1 hn s D0);obtain⟨p,am,pr,v,rfl⟩:=FD M;refine⟨p,am,pr,v,λst B=>?_⟩;obtain⟨u,e⟩:=hx st;refine⟨u,?_⟩;have m:aT st [.d (tsD ts)]=some (.int (ts.length)):=by
  show some (D.int _)=_;rw[qaf]
 have G:=xz (st:=st) (V:=spV fs b ts) hn s;have hb:mpI _ _++mpI (nR fs) _=mpI _ (Sx.spB (nR fs)):=nv (λi hi=>by unfold Sx.spB;rw[iFP hi]) (λi hi=>by unfold Sx.spB;rw[iFN (by lia)]);have hg:mpI _ _++mpI (nR fs) _=mpI _ (Sx.spG ts.length):=nv (λi hi=>by unfold Sx.spG;rw[iFP hi]) (λi hi=>by unfold Sx.spG;rw[iFN (by lia)]);have l:=DS (λr=>D.lst (mpI (ts.length+ts.length+nR fs) (Sx.spR (nR fs) ts.length (spV fs b ts) r))) (nR fs) (nR fs);have o:lcI _ aP fA [none] _ st=some ((qai (nR fs+nR fs)).map λr=>D.tup _,st):=
  fR (g:=λr=>D.lst (mpI (ts.length+ts.length+nR fs) (Sx.spR (nR fs) ts.length (spV fs b ts) r))) _ λr _=>rfl
 generalize nR fs=N at *;generalize ts.length=k at *;generalize spV fs b ts=V at *;generalize ((qai N).map λi=>D.lst (mpI (k+k+N) (Sx.spR N k V i)))=L5 at *;generalize ((qai N).map λi=>D.lst _)=L6 at *;have E:L5.length+L6.length<=1000000:=by
  have:=congrArg qgZ l
  rw[qaw,qaf,qas]at this;lia
 refine ai (ao (aq (aM (i8 (e:=iV 4) (z:=(N:Int)) U (by lia) (by lia) (by lia)) (by unfold cU;rw[qaf,qas];lia) G))) (ao (aj (ab (az (ab (aq (aM (aR (ae U U (fq _ E))) (by rw[qaw];exact E) ?_)) U) U) (ab (ae (ae U U (jK st 0 (by lia))) (ae U U (jK st 1 (by lia))) ((mh _ (by rw[aB,aB];lia)).trans (by rw[hb]))) (ab (ae (ae U (ae U (az (ab U U) m) (Cy st _)) (jK st 0 (by lia))) (ae U U (jK st 1 (by lia))) ((mh _ (by rw[aB,aB];lia)).trans (by rw[hg]))) U))) e));rw[l];exact o
end
end Own
set_option maxHeartbeats 1000000
namespace Own
open PySem L2
open Sx (Pb Tb Good Named Fe LV ZV piv lexP leastR leaveL sumN unit colV basis)
theorem Gc {ns:List Int} (h:∀ x∈ns,x=0):cP 0 ns=0:=by
 have c:=λx hx=>qcN.mpr ((cQ 0 ns).2 x hx)
 induction ns with
 |nil=>rfl
 |cons x ns b=>
  have hx:=h x qag;subst hx;exact b (λy a=>h y (qah _ a)) (λy a=>qcN.mpr ((cQ 0 ns).2 y a))
theorem AV {n:Nat}{f:Nat->Int} (m:∀ i,i<n->Sm (f i)) (hn:n<=1000):∃ (q:Int) (g:Nat->Int),0<q/\(∀ i,i<n->f i=q*g i)/\∀ st:Sto,cG [.d (.tup (mpI n f))] st=some (.d (.tup (mpI n g)),st):=by
 have hb:∀ x∈(qai n).map f,Sm x:=λx hx=>by
  obtain⟨i,hi,rfl⟩:=qaM.mp hx;exact m i (qaI.mp hi)
 have e1:=λst=>vE (st:=st) (λ_ _=>by rw[<-bH];exact be U) hb;by_cases hz:∀ x∈(qai n).map f,x=0
 ·refine⟨1,f,by decide,λi _=>(qdb _).symm,λst=>?_⟩
  have e:=e1 st;rw[Gc hz]at e;exact ar U (ai (ao (aj U e)) (fj (cT U U)))
 ·obtain⟨x,hx,c⟩:∃ x∈(qai n).map f,x≠0:=by
   by_cases q:∃ x∈(qai n).map f,x≠0
   ·exact q
   ·exact absurd (λx hx=>qcg λh=>q ⟨x,hx,h⟩) hz
  obtain⟨b,j⟩:=j6 hx c (hb x hx);have gd:∀ i,i<n->_∣f i:=λi hi=>qcN.mpr ((cQ 0 _).2 _ (qaM.mpr ⟨i,qaI.mpr hi,U⟩));generalize ((cP 0 _):Int)=q at *;refine⟨q,_,b,λi hi=>(qdD (gd i hi)).symm,λst=>?_⟩;have k:(q==(0))=false:=by lia
  have a:=pK (st:=st) (ns:=(qai n).map f) b j U;rw[<-bH,qaR,qaR]at a;have l:(mpI n f).length<=1000000:=by rw[aB];lia
  exact ar U (ai (ao (aj U (e1 st))) (ai (bC (ap U U (by rw[du,k])) U) (aC (az (ab (aq (aM (be U) l a)) U) U))))
def rN (fs:List D) (i:Nat):Nat:=(jQ fs i).toNat
section
variable {fs:List D}{b:Bool}{ts:List (List Int)}
theorem wD:∀ (r:List D) (i:Nat),(bA i r).Nodup
 |[],_=>qcX
 |d::r,i=>by
  have x:=wD r (i+1);have w:∀ j∈bA _ r,(i)≠j:=λj p=>by
   obtain⟨m,e,_,_⟩:=kA r (i+1) p;lia
  cases d<;>first|exact x|exact (qce.mpr ⟨λhm=>w _ hm U,x⟩)
theorem zQ {i:Nat} (hi:i<nR fs):jQ fs i∈bA 0 fs:=by
 unfold jQ;rw[qat,qal hi];exact qbR hi
theorem oQ (h:Spl fs ts) {i:Nat} (hi:i<nR fs):jQ fs i=(rN fs i:Int)/\rN fs i<fs.length:=by
 obtain⟨m,d,e,hm,_⟩:=uX h (zQ hi);unfold rN;rw[e];exact⟨U,hm⟩
theorem uW (h:Spl fs ts) {i j:Nat} (hi:i<nR fs) (p:j<nR fs) (e:rN fs i=rN fs j):i=j:=by
 have e1:jQ fs i=jQ fs j:=by rw[(oQ h hi).1,(oQ h p).1,e]
 unfold jQ at e1;rw[qat,qat,qal hi,qal p]at e1;exact (qdB (wD fs 0)).mp e1
theorem Ac {st:Sto}{m:Nat}{y:Nat->Int} (h:Spl fs ts) (hm:m=nR fs\/m=0):df [.d (.tup fs),.d (.tup (mpI m y))] st=some (.d (.tup (mpI fs.length λr=>acc (rN fs) y m r)),st):=by
 have B:=h.fl;have hz:∀ (t f c:Option W) (s:Sto),bN [.d (.tup fs)] s=some (.d (.tup ((bA 0 fs).map D.int)),s)->cY (aa (ay bN (aa (iV 0) ac)) (aa (iV 1) ac)) [Z (.tup fs),Z (.tup (mpI m y)),t,f,c] s=some ((qai m).map λi=>D.tup [.int ((rN fs i:Nat):Int),.int (y i)],s):=λt f c s C=>by
  have e1:dG ((bA 0 fs).map D.int) (mpI m y)=(qai m).map λi=>D.tup [.int ((rN fs i:Nat):Int),.int (y i)]:=by
   apply qbo;intro i;rw[fm,qav,qav];by_cases hi:i<m
   ·rw[bf hi,qa6 hi]
    have q:i<(bA 0 fs).length:=by have:nR fs=(bA 0 fs).length:=rfl;lia
    have e:=(oQ h (show i<nR fs by lia)).1;unfold jQ at e;rw[qat,qal q]at e;rw[qal q,qan,qan,<-e];rfl
   ·rw[qaE (l:=mpI m y) (by rw[aB];lia),qaE (l:=qai m) (by rw[qas];lia)]
    cases (bA 0 fs)[i]?<;>rfl
  rw[<-e1]
  have:=ab (aj (a:=aa (iV 0) ac) (env:=[Z (.tup fs),Z (.tup (mpI m y)),t,f,c]) (st:=s) U C) (ab (a:=iV 1) (b:=ac) U U)
  simp only[cY,this,qaa];rfl
 obtain⟨z,E,e2,⟨f,c,rfl⟩,rfl⟩:=a5 (g:=.tp [3,4]) (body:=gq) (ds:=(qai m).map λi=>D.tup [.int ((rN fs i:Nat):Int),.int (y i)])
  (λi env s=>(∃ f c,env=[Z (.tup fs),Z (.tup (mpI m y)),some (.h st.length),f,c])/\s=st++[.l (mpI fs.length λr=>acc (rN fs) y i (0+r))])
  ⟨⟨_,_,U⟩,U⟩ (λi d env s hd ⟨⟨f,c,e⟩,es⟩=>by
   subst e es;obtain⟨hi,rfl⟩:=kj hd;refine⟨_,_,_,U,.inl ?_,⟨some (.d (.int ((rN fs i:Nat):Int))),Z (.int (y i)),U⟩,U⟩
   have:=sIx (k:=rN fs i) (env:=[Z (.tup fs),Z (.tup (mpI m y)),some (.h st.length),Z (.int ((rN fs i:Nat):Int)),Z (.int (y i))]) (v:=iV 4) (d:=.int (y i)) (st:=st) (xs:=mpI fs.length λr=>acc (rN fs) y i (0+r)) U (o:=iV 2) (i:=iV 3) U U (by rw[aB];exact ((oQ h (show i<nR fs by lia)).2))
   rw[<-oW (d:=0) (N:=fs.length) (e:=rN fs) (y:=y) (i:=i) (by lia) λj p e=>by have:=uW h (show j<nR fs by lia) (show i<nR fs by lia) e;lia]
   exact this)
 rw[qaf,qas]at e2;have u:=wE (st:=st++[.l (mpI fs.length λr=>acc (rN fs) y 0 (0+r))]) (fs:=fs) (by lia);have A:iCB dH (aa (iV 2) ac) [Z (.tup fs),Z (.tup (mpI m y)),some (.h st.length),f,c] (st++[.l (mpI fs.length λr=>acc (rN fs) y m (0+r))])=some (.d (.tup (mpI fs.length λr=>acc (rN fs) y m (0+r))),st++[.l (mpI fs.length λr=>acc (rN fs) y m (0+r))]):=by
  refine az (ab U U) ?_;show (lg (st++[.l (mpI fs.length λr=>acc (rN fs) y m (0+r))]) st.length).map _=_;rw[(gu st (mpI fs.length λr=>acc (rN fs) y m (0+r)))];rfl
 have:=gC (n:=5) (k:=2) (b:=ji) (ws:=[.d (.tup fs),.d (.tup (mpI m y))]) (st:=st) U (ai (ao (hU (st:=st) (az (ab U U) U) (by lia) _ y 0)) (ai (a7 (hz _ _ _ _ u) e2) (aC A)))
 rw[qcI]at this;simp only[qbh]at this;exact this
end
end Own
set_option maxHeartbeats 1000000
namespace Own
open PySem L2
open Sx (Pb Tb Good Named Fe LV ZV piv lexP leastR leaveL sumN unit colV basis)
theorem rj (k:List Int) (d:D) (r:List (List Int×D)) (t:List Int):vM ((k,d)::r) t=if k=t then some d else vM r t:=by
 unfold vM;by_cases e:k=t
 ·rw[qei (by simpa using e),iFP e];rfl
 ·rw[qej (by simpa using e),iFN e]
theorem An (a:List (List Int×D)) (k:List Int):(a.any λp=>decide (p.1=k))=decide (k∈a.map qc2):=by
 induction a with
 |nil=>rfl
 |cons p r b=>
  rw[qcc,b];by_cases e:p.1=k
  ·simp[e]
  ·have:¬ k=p.1:=λz=>e z.symm
   simp[e,this]
theorem z9 (k:List Int) (d:D) (j:List Int):∀ a:List (List Int×D),k∉a.map qc2->vM (a++[(k,d)]) j=if j=k then some d else vM a j
 |[],_=>by
  show vM [(k,d)] j=_;rw[rj];by_cases e:k=j
  ·rw[iFP e,iFP e.symm]
  ·rw[iFN e,iFN (λz=>e z.symm)]
 |(c,f)::r,h=>by
  rw[qau,qaz,not_or]at h;rw[qci,rj,rj,z9 k d j r h.2];by_cases b:c=j
  ·rw[iFP b,iFP b,iFN (λz=>h.1 (z.symm.trans b.symm))]
  ·rw[iFN b,iFN b]
theorem AB (s:Sto) (a:Int):dNe s (.d (.int a)) (.d (.int 0))=some (.bl (decide (a≠0))):=by
 show some (D.bl (!(a==0)))=_;by_cases h:a=0<;>simp[h]
def aZ (a:List (List Int)) (X:List Int->Int):List Prt:=(a.filter λt=>decide (X t≠0)).map λt=>(t,X t)
theorem yv {st:Sto}{kd:Str}{n:Nat}{a:List (List Int×D)}{X:List Int->Int} (hm:mgt st n=some a) (f:a.length<64) (l:∀ t∈a.map qc2,vM a t=some (.int (X t))) :
  gx [.d (.str kd),.h n] st=some (.d (bT kd (aZ (aE (a.map qc2)) X)),st):=by
 have m:(aE (a.map qc2)).length<=64:=by rw[(aI _).length_eq,qaf];lia
 have i:∀ t∈aE _,xn (iV 1) (iV 0) [Z (ag t),some (.h n)] st=some (.d (.int (X t)),st):=λt b=>by
  have e2:=(λt b=>l t ((aI _).mem_iff.mp b)) t b;simp only[xn,iV,ag,qbt,qbS,qan,qaa,hm,(bx t),e2]
 have c:=jC (g:=.nm 0) (tt:=iM) (te:=iE) (env:=[none,some _]) (λd=>match d with|.tup ds=>(match a8 ds with|some t=>decide (X t≠0)|none=>false)|_=>false) (λd=>match d with|.tup ds=>(match a8 ds with|some t=>cu (t,X t)|none=>d)|d=>d) (ds:=(aE _).map ag) λd hd=>by
  obtain⟨t,b,rfl⟩:=qaM.mp hd;have e1:=bx t;refine⟨_,U,?_,λ_=>?_⟩
  ·show _=some ((match a8 _ with|some t=>decide _|none=>false),st)
   rw[e1];exact ap (i t b) U (AB _ _)
  ·show _=some (W.d (match a8 _ with|some t=>cu (t,X t)|none=>ag t),st)
   rw[e1];exact bE (ab U (ab (i t b) U)) U (by show 2<=1000;decide)
 have e:((((aE (a.map qc2)).map ag).filter (λd=>match d with|.tup ds=>(match a8 ds with|some t=>decide (X t≠0)|none=>false)|_=>false)).map (λd=>match d with|.tup ds=>(match a8 ds with|some t=>cu (t,X t)|none=>d)|d=>d))=(aZ (aE (a.map qc2)) X).map cu:=by
  unfold aZ;rw[List.filter_map,qaR,qaR];have e1:=bx
  congr 1
  ·funext t
   show (match a8 _ with|some t=>cu (t,X t)|none=>ag t)=cu (t,X t)
   rw[e1]
  ·refine qhr λt _=>?_
   show (match a8 _ with|some t=>decide _|none=>false)=_
   rw[e1]
 rw[e]at c;have j:j7 (iV 1) [Z (.str kd),some (.h n)] st=some ((aE (a.map qc2)).map ag,st):=by
  simp only[j7,iV,qbt,qbS,qan,qaa,hm,f,if_true]
 have k:aA (av (j7 (iV 1))) [Z (.str kd),some (.h n)] st=some ((aE (a.map qc2)).map ag,st):=by
  simp only[aA,av,j,qan,qaa]
 have hz:((aE (a.map qc2)).map ag).length<=1000000:=by rw[qaf];lia
 exact ar U (aC (bE (ab U (ab (az (ab (aq (aM k hz c)) U) U) U)) U (by show 2<=1000;decide)))
theorem sV (st:Sto) (a:List (List Int×D)):mgt (st++[.m a]) st.length=some a:=by
 unfold mgt;rw[qaJ (qao _),qey];rfl
theorem uH {α:Type}{te:Ef}{l:Ev}{st:Sto}{g:α->D×D} (F:α->D):∀ {a:List α},(∀ k∈a,te (Z (g k).1::some (.d (g k).2)::l) st=some (.d (F k),st))->
  lcI (.tp [0,1]) aP te (none::none::l) (a.map λk=>D.tup [(g k).1,(g k).2]) st=some (a.map F,st)
 |[],_=>rfl
 |k::a,h=>by
  rw[qau];unfold lcI;rw[show cw _ _ _=some (some _::some _::l) from U,qaa,show aP _ st=some (true,st) from U,qaa,(h k qag),qaa,(uH F λx hx=>h x (qah _ hx))];rfl
end Own
set_option maxHeartbeats 1000000
namespace Own
open PySem L2
open Sx (Pb Tb Good Named Fe LV ZV piv lexP leastR leaveL sumN unit colV basis)
def dvP (g:Int) (p:Prt):Prt:=(p.1,p.2 / g)
theorem xI {st:Sto}{kd:Str}{ps:List Prt}{g:Int} (c:ps.length<=1000) (hg:∀ p∈ps,0<g/\Sm g):nq [.d (bT kd ps),.d (.int g)] st=some (.d (bT kd (ps.map (dvP g))),st):=by
 have a:lcI (.tp [0,1]) aP mD [none,none,Z (.int g)] (ps.map cu) st=some ((ps.map (dvP g)).map cu,st):=by
  rw[qaR];exact uH (g:=λp:Prt=>(ag p.1,D.int p.2)) _ λp b=>bE (ab U (ab (ae U U (pJ st (hg p b).1 (hg p b).2)) U)) U (by show 2<=1000;decide)
 have hz:(ps.map cu).length<=1000000:=by rw[qaf];lia
 exact ar U (aC (bE (ab (ae U U (uA _ _ _)) (ab (az (ab (aq (aM (be (ae U U (mX _ _ _))) hz a)) U) U) U)) U (by show 2<=1000;decide)))
theorem xO {st:Sto}{kd:Str}{ps:List Prt} (c:ps.length<=1000) (hn:∀ p∈ps,p.2≠0/\Sm p.2):nr [.d (bT kd ps)] st=some (.d (bT kd (ps.map (dvP ((cP 0 (ps.map qfH):Nat):Int)))),st):=by
 have b:lcI (.tp [0,1]) aP mE [none,none] (ps.map cu) st=some ((ps.map qfH).map D.int,st):=by
  rw[qaR];exact uH (g:=λp:Prt=>(ag p.1,D.int p.2)) _ λp a=>rfl
 have hz:(ps.map cu).length<=1000000:=by rw[qaf];lia
 exact ar U (aC (aj (ab U (ab (aj (ab (aq (aM (be (ae U U (mX _ _ _))) hz b)) U) (mJ (st:=st) λn hm=>by
  obtain⟨p,a,rfl⟩:=qaM.mp hm
  exact (hn p a).2)) U)) (xI (st:=st) (kd:=kd) c λp a=>j6 (qdH a) (hn p a).1 (hn p a).2)))
theorem A1 {a:List (List Int)}{X:List Int->Int}{g:Int} (hd:∀ t∈a,g∣X t):(aZ a X).map (dvP g)=aZ a λt=>X t / g:=by
 unfold aZ;rw[qaR]
 have:(a.filter λt=>decide (X t≠0))=a.filter λt=>decide (X t / g≠0):=qhr λt b=>by
  apply decide_eq_decide.mpr;refine not_congr ⟨λh=>by rw[h,Int.zero_ediv],λh=>by rw[<-(qdD (hd t b)),h,qa2]⟩
 rw[this];rfl
def pkv (ts:List (List Int)) (x:Nat->Int) (i:Nat):List (List Int×D):=(qai i).map λj=>(ts.getD j [],.int (x j))
section
variable {ts:List (List Int)}{x:Nat->Int}
theorem sw (hn:ts.Nodup) {i j:Nat} (hi:i<ts.length) (f:j<ts.length) (e:ts.getD i []=ts.getD j []):i=j:=by
 rw[qat,qat,qal hi,qal f]at e;exact (qdB hn).mp e
theorem wp (i:Nat):(pkv ts x i).map qc2=(qai i).map λj=>ts.getD j []:=by unfold pkv;rw[qaR];rfl
theorem wo:(pkv ts x ts.length).map qc2=ts:=by
 have:=ie [] id ts
 rw[qgY]at this;rw[wp];exact this.symm
theorem zn (hn:ts.Nodup) {i:Nat} (hi:i<ts.length):ts.getD i []∉(pkv ts x i).map qc2:=λh=>by
 rw[wp]at h;obtain⟨j,f,e⟩:=qaM.mp h;have I:=qaI.mp f
 have:=sw hn (show j<ts.length by lia) hi e
 lia
theorem tF (i:Nat):pkv ts x (i+1)=pkv ts x i++[(ts.getD i [],.int (x i))]:=by unfold pkv;rw[qdG,qbw];rfl
theorem Bn (hn:ts.Nodup) {i:Nat} (hi:i<ts.length):zA (pkv ts x i) (ts.getD i []) (.int (x i))=pkv ts x (i+1):=by
 rw[tF];unfold zA;rw[An,iFN (by rw[decide_eq_true_iff];exact (zn hn hi))]
theorem zo (hn:ts.Nodup):∀ {i j:Nat},i<=ts.length->j<i->vM (pkv ts x i) (ts.getD j [])=some (.int (x j))
 |0,_,_,f=>absurd f (qcz _)
 |i+1,j,hi,f=>by
  rw[tF,z9 _ _ _ _ (zn hn (by lia))];by_cases e:j=i
  ·subst e;rw[iFP U]
  ·rw[iFN (λq=>e (sw hn (by lia) (by lia) q)),zo hn (by lia) (by lia)]
def fJ (ts:List (List Int)) (x:Nat->Int) (t:List Int):Int:=match vM (pkv ts x ts.length) t with|some (.int z)=>z|_=>0
theorem A6 (hn:ts.Nodup) {j:Nat} (f:j<ts.length):fJ ts x (ts.getD j [])=x j:=by
 unfold fJ;rw[zo hn (qao _) f]
theorem jJ {t:List Int} (h:t∈ts):∃ j,j<ts.length/\ts.getD j []=t:=by
 obtain⟨j,f,e⟩:=qcu.mp h;exact⟨j,f,by rw[qat,qal f];exact e⟩
theorem Fc {st:Sto}{m i:Nat}{am:Nat->Int}{a0:Option W} (hn:ts.Nodup) (H:ts.length<=16) (hm:ts.length+ts.length<=m) (hi:i<ts.length) :
  dW [a0,Z (tsD ts),Z (.tup (mpI m am)),some (.h st.length),Z (.int (i:Int)),Z (ag (ts.getD i []))] (st++[.m (pkv ts (λj=>am j - am (ts.length+j)) i)])
  = some (.nx [a0,Z (tsD ts),Z (.tup (mpI m am)),some (.h st.length),Z (.int (i:Int)),Z (ag (ts.getD i []))] (st++[.m (pkv ts (λj=>am j - am (ts.length+j)) (i+1))])):=by
 have e2:=sV st (pkv ts (λj=>am j - am (ts.length+j)) i);have e3:=Bn (x:=λj=>am j - am (ts.length+j)) hn hi;have e4:=nJ st (.m (pkv ts (λj=>am j - am (ts.length+j)) i)) (.m (pkv ts (λj=>am j - am (ts.length+j)) (i+1)));have S:(pkv ts (λj=>am j - am (ts.length+j)) i).length<1000:=by unfold pkv;rw[qaf,qas];lia
 have v:∀ s ,aT s [.d (tsD ts)]=some _:=λs=>by
  show some (D.int _)=_;rw[qaf]
 have R:∀ s ,dIx s (.d (.tup (mpI m am))) (.d (.int (i)))=some _:=λs=>cK (bf (by lia));have Q:∀ s ,dIx s (.d (.tup (mpI m am))) (.d (.int ((ts.length)+(i))))=some _:=λs=>by
  exact cK (bf (by lia))
 generalize pkv ts _ i=K at *;generalize tsD ts=V at *;generalize mpI m am=A at *;generalize ts.getD i []=t at *;have J:=ae (g:=jY) (env:=[a0,some _,some _,some (.h st.length),some _,Z (ag t)]) (st:=st++[.m K]) (ae (a:=iV 2) (b:=iV 4) U U (R _)) (ae (a:=iV 2) (b:=iOp aV (iCB aT (aa (iV 1) ac)) (iV 4)) U (ae (az (ab U U) (v _)) U U) (Q _)) U;simp only[ag]at J ⊢;simp only[dW,vF,J,iV,qbt,qbS,qan,qaa,(bx _),e2,S,if_true,e3,e4]
theorem Dx {b:Bool}{am:Nat->Int}{m:Nat} (hn:ts.Nodup) (H:ts.length<=16) (hm:ts.length+ts.length<=m) (M:∀ j,j<ts.length+ts.length->Sm (am j)/\0<=am j) :
  ∃ (q:Int) (X:List Int->Int),0<q/\(∀ j,j<ts.length->am j - am (ts.length+j)=q*X (ts.getD j []))/\∀ st:Sto,hJ [.d (.str (aw b)),.d (tsD ts),.d (.tup (mpI m am))] st=some (.d (bT (aw b) (aZ (aE ts) X)),st):=by
 have w:∀ j,j<ts.length->fJ ts (λj=>am j - am (ts.length+j)) (ts.getD j [])=am j - am (ts.length+j):=λj f=>A6 (x:=λj=>am j - am (ts.length+j)) hn f;have o:∀ p∈aZ (aE ts) (fJ ts λj=>am j - am (ts.length+j)),p.2≠0/\Sm p.2:=λp r=>by
  unfold aZ at r;obtain⟨t,u,rfl⟩:=qaM.mp r;obtain⟨I,P⟩:=qbF.mp u;refine⟨of_decide_eq_true P,?_⟩;obtain⟨j,f,rfl⟩:=jJ ((aI _).mem_iff.mp I);show Sm (fJ ts _ (ts.getD j []));rw[w j f];have a:=M j (by lia);have c:=M (ts.length+j) (by lia);unfold Sm at *;generalize (2:Nat)^4000=B at *;lia
 have E:(aZ (aE ts) (fJ ts λj=>am j - am (ts.length+j))).length<=1000:=by
  unfold aZ;rw[qaf]
  have:=qbG (λt=>decide (fJ ts (λj=>am j - am (ts.length+j)) t≠0)) (aE ts)
  rw[(aI _).length_eq]at this;lia
 have l:∀ st:Sto,hJ [.d (.str (aw b)),.d (tsD ts),.d (.tup (mpI m am))] st=some (.d (bT (aw b) ((aZ (aE ts) (fJ ts λj=>am j - am (ts.length+j))).map (dvP ((cP 0 ((aZ (aE ts) (fJ ts λj=>am j - am (ts.length+j))).map qfH):Nat):Int)))),st):=λst=>by
  have N:=yv (st:=st++[.m (pkv ts (λj=>am j - am (ts.length+j)) ts.length)]) (kd:=aw b) (X:=fJ ts λj=>am j - am (ts.length+j)) (sV st _) (by unfold pkv;rw [qaf,qas];lia) (λt u=>by
   rw[wo]at u;obtain⟨j,f,rfl⟩:=jJ u;rw[w j f]
   exact zo (x:=λj=>am j - am (ts.length+j)) hn (qao _) f)
  rw[wo]at N;have y:=xO (st:=st++[.m (pkv ts (λj=>am j - am (ts.length+j)) ts.length)]) (kd:=aw b) E o;obtain⟨G,Y,e2,⟨F,C,rfl⟩,rfl⟩:=a5 (g:=.tp [4,5]) (body:=dW) (ds:=(qai ts.length).map λi:Nat=>D.tup [.int ((i:Nat):Int),ag (ts.getD i [])])
   (λi env s=>(∃ F C,env=[Z (.str (aw b)),Z (tsD ts),Z (.tup (mpI m am)),some (.h st.length),F,C])/\s=st++[.m (pkv ts (λj=>am j - am (ts.length+j)) i)])
   (env:=[Z (.str (aw b)),Z (tsD ts),Z (.tup (mpI m am)),some (.h st.length),none,none]) ⟨⟨_,_,U⟩,U⟩ (λi d env s hd ⟨⟨F,C,e⟩,es⟩=>by
    subst e es;obtain⟨hi,rfl⟩:=kj hd
    exact⟨_,_,_,U,.inl (Fc hn H hm hi),⟨_,_,U⟩,U⟩)
  rw[qaf,qas]at e2;have T:bK (aa (iV 1) ac) [Z (.str (aw b)),Z (tsD ts),Z (.tup (mpI m am)),some (.h st.length),none,none] (st++[.m []])=some ((qai ts.length).map λi:Nat=>D.tup [.int ((i:Nat):Int),ag (ts.getD i [])],st++[.m []]):=by
   rw[<-vq (λi=>ag (ts.getD i [])),<-ie [] ag ts];rfl
  generalize aZ (aE ts) (fJ ts λj=>am j - am (ts.length+j))=ps at *;generalize pkv ts (λj=>am j - am (ts.length+j)) ts.length=K at *
  have:=gC (n:=6) (k:=3) (b:=oo) (ws:=[.d (.str (aw b)),.d (tsD ts),.d (.tup (mpI m am))]) (st:=st) U (ai U (ai (a7 T e2) (aC (aj (ab (aj U N) U) y))))
  rw[qcI]at this;exact this
 by_cases L:aZ (aE ts) (fJ ts λj=>am j - am (ts.length+j))=[]
 ·refine⟨1,fJ ts λj=>am j - am (ts.length+j),by decide,λj f=>by rw[w j f,qdb],λst=>?_⟩
  rw[l st,L];rfl
 ·obtain⟨p,r⟩:=List.exists_mem_of_ne_nil _ L
  have O:=(j6 (qdH r) (o p r).1 (o p r).2).1;have hd:∀ t∈aE ts,((cP 0 ((aZ (aE ts) (fJ ts λj=>am j - am (ts.length+j))).map qfH):Nat):Int)∣fJ ts (λj=>am j - am (ts.length+j)) t:=λt u=>by
   by_cases z:fJ ts (λj=>am j - am (ts.length+j)) t=0
   ·rw[z];exact Int.dvd_zero _
   ·refine qcN.mpr ((cQ 0 _).2 _ (qaM.mpr ⟨(t,fJ ts (λj=>am j - am (ts.length+j)) t),?_,U⟩))
    unfold aZ;exact qaM.mpr ⟨t,qbF.mpr ⟨u,decide_eq_true z⟩,U⟩
  generalize ((cP 0 ((aZ (aE ts) (fJ ts λj=>am j - am (ts.length+j))).map qfH):Nat):Int)=q at *;refine⟨q,λt=>fJ ts (λj=>am j - am (ts.length+j)) t / q,O,λj f=>?_,λst=>by rw[l st,(A1 hd)]⟩
  have:=hd (ts.getD j []) ((aI _).mem_iff.mpr (by rw[qat,qal f];exact qbR f))
  rw[qdD this,w j f]
end
end Own
set_option maxHeartbeats 1000000
namespace Own
open PySem L2
open Sx (Pb Tb Good Named Fe LV ZV piv lexP leastR leaveL sumN unit colV basis)
theorem F5 (ds:List D) (k:Nat):f8 ds none (some (k:Int))=ds.take k:=by
 unfold f8;rw[HT.sIx_nat,HT.sIx_none,qf9,qgK];rcases Nat.le_total k ds.length with h|h
 ·rw[qhX h]
 ·rw[qhN h,qb8,qdq h]
theorem AX {n k:Nat}{f:Nat->Int} (h:k<=n):(mpI n f).take k=mpI k f:=by
 apply qbo;intro i;by_cases hi:i<k
 ·rw[qd7 hi,bf (by lia),bf hi]
 ·rw[qaE (by rw[qch];lia),qaE (by rw[aB];lia)]
theorem Fk {a b c:Sf}{env e:Ev}{st s:Sto}{r:Option Fl} (h:ah a b env st=some (.nx e s)) (d:c e s=r):ah a (ah b c) env st=r:=by
 simp only[ah]at h ⊢;cases ha:a env st with
 |none=>rw[ha]at h;cases h
 |some x=>
  rw[ha,qaa]at h;rw[qaa];cases x with
  |nx e1 s1=>simp only at h ⊢;rw[h];exact d
  |_=>cases h
theorem x8 {e:Nat->Nat}{y:Nat->Int}{m i:Nat} (hi:i<m) (h:∀ j,j<m->e j=e i->j=i):acc e y m (e i)=y i:=by
 unfold acc;rw[Sx.sumN_single hi λj a q=>iFN λz=>q (h j a z),iFP U]
structure oV (fs:List D) (b:Bool) (ts:List (List Int)) (X:List Int->Int) (w:Nat->Int):Prop where
 bal:∀ t,t<ts.length->(sumN (nR fs) λi=>spV fs b ts i t*w (rN fs i))=0
 val:∀ i,i<nR fs->0<=(sumN ts.length λt=>X (ts.getD t [])*spV fs b ts i t)/\((sumN ts.length λt=>X (ts.getD t [])*spV fs b ts i t)=0↔w (rN fs i)≠0)
 w0:∀ r,r<fs.length->0<=w r/\Sm (w r)
 wn:∀ r,r<fs.length->fs.getD r .non=.non->w r=0
 sX:∀ t∈ts,Sm (X t)
theorem Ct {q x y:Int} (a:0<q) (e:x=q*y) (h:Sm x):Sm y:=by
 refine qbO ?_ h;rw[e,qc5];exact Nat.le_mul_of_pos_left _ (by lia)
section
variable {fs:List D}{b:Bool}{ts:List (List Int)}
theorem D2 (h:Spl fs ts) {r:Nat} (e:fs.getD r .non=.non) {i:Nat} (hi:i<nR fs):rN fs i≠r:=λz=>by
 obtain⟨m,d,e1,_,_,_,hn,hg⟩:=uX h (zQ hi);unfold rN at z;rw[z]at hg;exact hn (hg.symm.trans e)
theorem CF (h:Spl fs ts) {y:Nat->Int} (hy:∀ i,i<nR fs->Sm (y i)/\0<=y i) (r:Nat):Sm (acc (rN fs) y (nR fs) r)/\0<=acc (rN fs) y (nR fs) r:=by
 by_cases q:∃ i,i<nR fs/\rN fs i=r
 ·obtain⟨i,hi,rfl⟩:=q
  rw[x8 hi λj g z=>uW h g hi z];exact hy i hi
 ·rw[mf λj g z=>q ⟨j,g,z⟩]
  exact⟨qex _,qcf _⟩
theorem zW (h:Spl fs ts):∃ X w,oV fs b ts X w/\∀ st:Sto,∃ u,i4 [.d (.tup fs),.d (.str (aw b)),.d (tsD ts)] st=some (.d (.tup [bT (aw b) (aZ (aE ts) X),.tup (mpI fs.length w)]),st++u):=by
 have o:∀ s:Sto,aT s [.d (.lst ((qai (nR fs)).map λi=>D.lst (mpI ts.length (spV fs b ts i))))]=some (.int (nR fs:Int)):=λs=>by
  show some (D.int _)=_;rw[qaf,qas]
 by_cases hN:nR fs=0
 ·refine⟨λ_=>0,λr=>acc (rN fs) (λ_=>0) 0 r,⟨λt _=>?_,λi hi=>absurd hi (by lia),λr _=>⟨qcf _,qex _⟩,λ_ _ _=>rfl,λ_ _=>qex _⟩,λst=>⟨[],?_⟩⟩
  ·rw[hN];rfl
  have K:=tY (st:=st) (b:=b) h;have hw:=Ac (st:=st) (m:=0) (y:=λ_=>0) h (.inr U);have Q:aZ (aE ts) (λ_=>0)=[]:=by
   unfold aZ;rw[qek.mpr λt _=>by simp];rfl
  have P:_=some (D.int 0):=(o st).trans (by rw[hN];rfl);rw[Q,qbH];generalize tsD ts=H at *;generalize aw b=kd at *;exact ar (n:=8) (k:=3) (b:=iQ) U (ai (ao (aj U K)) (ai (ao (az (ab U U) P)) (fj (cT (s:=st) U (aC (bE (ab (bE (ds:=[.str kd,.tup []]) U U (by show 2<=1000;decide)) (ab (aj (ab U (ab U U)) hw) U)) U (by show 2<=1000;decide)))))))
 ·obtain⟨p,am,pr,S,N⟩:=EY (b:=b) h (by lia)
  have hn:=h.n;obtain⟨q,X,Y,W,hp⟩:=Dx (b:=b) (m:=ts.length+ts.length+nR fs) (am:=am) h.nd h.tl (by lia) λj g=>S.sa j (by lia);have x:=CF h (y:=pr) λi hi=>S.sr i hi;obtain⟨T,w,F,l,E⟩:=AV (n:=fs.length) (f:=λr=>acc (rN fs) pr (nR fs) r) (λr _=>(x r).1) (by have:=h.fl;lia);have C:∀ i,i<nR fs->pr i=T*w (rN fs i):=λi hi=>by
   rw[<-l _ (oQ h hi).2,x8 hi λj g z=>uW h g hi z]
  refine⟨X,w,⟨λt G=>?_,λi hi=>?_,λr I=>⟨?_,Ct F (l r I) (x r).1⟩,λr I e=>?_,λt G=>?_⟩,λst=>?_⟩
  ·have e:=S.bal t G
   rw[Sx.sumN_congr λi hi=>by rw[C i hi,qaP],Sx.sumN_mul]at e;exact (qcA.mp e).resolve_left (by lia)
  ·have e:=S.val i hi
   rw[Sx.sumN_congr λt G=>by rw[W t G,qbi],Sx.sumN_mul,C i hi]at e;generalize (sumN ts.length λt=>X (ts.getD t [])*spV fs b ts i t)=v at *;refine⟨?_,?_⟩
   ·have:=e.1
    by_cases z:0<=v
    ·exact z
    ·have:=qgh Y (show v<0 by lia)
     lia
   ·have e2:=e.2
    rw[qcA,ne_eq,qcA]at e2;have n1:¬ q=0:=by lia
    have n2:¬ T=0:=by lia
    simpa [n1,n2] using e2
  ·have e:=(x r).2
   rw[l r I]at e;by_cases z:0<=w r
   ·exact z
   ·have:=qgh F (show w r<0 by lia)
    lia
  ·have:=l r I
   rw[mf λj g=>D2 h e g]at this;exact (qcA.mp this.symm).resolve_left (by lia)
  ·obtain⟨j,g,rfl⟩:=jJ G
   refine Ct Y (W j g) ?_;have a:=S.sa j (by lia);have c:=S.sa (ts.length+j) (by lia);unfold Sm at *;generalize (2:Nat)^4000=B at *;lia
  ·obtain⟨u,hu⟩:=N st none
   refine⟨u,?_⟩;have K:=tY (st:=st) (b:=b) h;have he:=xb (st:=st) (V:=spV fs b ts) (k:=ts.length) hn h.tl;have Q:bK (aa (iV 3) ac) [Z (.tup fs),Z (.str (aw b)),Z (tsD ts),Z (.lst ((qai (nR fs)).map λi=>D.lst (mpI ts.length (spV fs b ts i)))),Z (.int (nR fs:Int)),none,none,none] st=some ((qai (nR fs)).map λi:Nat=>D.tup [.int ((i:Nat):Int),.lst (mpI ts.length (spV fs b ts i))],st):=by
    rw[<-vq _];rfl
   have P:=o st;have J:=Ac (st:=st++u) (m:=nR fs) (y:=pr) h (.inl U);have M:=E (st++u);have sl:dSl (st++u) (.d (.tup (mpI (nR fs+nR fs) pr))) none (some (nR fs:Int))=some (.tup (mpI (nR fs) pr)):=by
    rw[<-AX (n:=nR fs+nR fs) (k:=nR fs) (f:=pr) (by lia),<-F5];rfl
   have f0:((nR fs:Int)==(0:Int))=false:=by simp;lia
   have hz:((qai (nR fs)).map λi:Nat=>D.tup [.int ((i:Nat):Int),.lst (mpI ts.length (spV fs b ts i))]).length<=1000000:=by rw[qaf,qas];lia
   generalize (mpI fs.length λr=>acc (rN fs) pr (nR fs) r)=A at *;generalize mpI fs.length w=A2 at *;generalize mpI (nR fs) pr=A3 at *;generalize mpI (nR fs+nR fs) pr=A4 at *;generalize mpI (ts.length+ts.length+nR fs) am=A5 at *;generalize bT (aw b) (aZ (aE ts) X)=R at *;generalize ((qai (nR fs)).map λi=>D.lst (mpI (ts.length+ts.length+nR fs) (Sx.spR (nR fs) ts.length (spV fs b ts) i)))=L5 at *;generalize ((qai (nR fs)).map λi=>D.lst (mpI (ts.length+ts.length+nR fs) (Sx.spR (nR fs) ts.length (spV fs b ts) (nR fs+i))))=L6 at *;generalize ((qai (nR fs)).map λi:Nat=>D.tup [.int ((i:Nat):Int),.lst (mpI ts.length (spV fs b ts i))])=LE at *;generalize ((qai (nR fs)).map λi=>D.lst (mpI ts.length (spV fs b ts i)))=L at *;generalize tsD ts=H at *;generalize aw b=kd at *;have O:iSl (iOp dIx (iV 7) (iC (.int 3))) iPn (iPs (iV 4)) [Z (.tup fs),Z (.str kd),Z H,Z (.lst L),Z (.int (nR fs:Int)),Z (.lst L5),Z (.lst L6),Z (.tup [.str "most",.int p,.tup A5,.tup A4])] (st++u)=some (.d (.tup A3),st++u):=by
    have x1:iOp dIx (iV 7) (iC (.int 3)) [Z (.tup fs),Z (.str kd),Z H,Z (.lst L),Z (.int (nR fs:Int)),Z (.lst L5),Z (.lst L6),Z (.tup [.str "most",.int p,.tup A5,.tup A4])] (st++u)=some (.d (.tup A4),st++u):=ae U U U
    have x2:iPs (iV 4) [Z (.tup fs),Z (.str kd),Z H,Z (.lst L),Z (.int (nR fs:Int)),Z (.lst L5),Z (.lst L6),Z (.tup [.str "most",.int p,.tup A5,.tup A4])] (st++u)=some (some (nR fs:Int),st++u):=rfl
    simp only[iSl,x1,x2,iPn,qaa,sl,qan]
   exact ar (n:=8) (k:=3) (b:=iQ) U (ai (ao (aj U K)) (ai (ao (az (ab U U) P)) (ai (bC (s:=st) (ap U U (by rw[du,f0])) U) (ai (ao (aq (aM Q hz he))) (Fk hu (aC (bE (ab (aj (ab U (ab U (ab (ae U U U) U))) (hp (st++u))) (ab (aj (ab (aj (ab U (ab O U)) J) U) M) U)) U (by show 2<=1000;decide))))))))
end
end Own
set_option maxHeartbeats 1000000
namespace Own
open PySem L2
open Sx (Pb Tb Good Named Fe LV ZV piv lexP leastR leaveL sumN unit colV basis)
theorem F2 {x:Int} (h:0<=x):qdM x 1=x%2:=by
 obtain⟨n,rfl⟩:=qgA h;rw[show qdM _ _=((n&&&1:Nat)) from U,Nat.and_one_is_mod];lia
theorem zD {a b:Tf}{env:Ev}{st s:Sto} (c:a env st=some (false,s)):kI a b env st=some (false,s):=by
 simp only[kI,c,qaa,qbq,if_false]
theorem zE {a b:Tf}{env:Ev}{st s:Sto}{r:Option (Bool×Sto)} (c:a env st=some (true,s)) (hb:b env s=r):kI a b env st=r:=by
 simp only[kI,c,qaa,if_true,hb]
theorem fg {a b:Tf}{env:Ev}{st s:Sto}{r:Option (Bool×Sto)} (c:a env st=some (false,s)) (hb:b env s=r):dI a b env st=r:=by
 simp only[dI,c,qaa,qbq,if_false,hb]
theorem Cz {c:Tf}{b:Sf}{n:Nat}{env:Ev}{st s:Sto} (h:c env st=some (false,s)):bz c b (n+1) env st=some (.nx env s):=by
 unfold bz;rw[h,qaa,iFN qaU]
theorem FT {c:Tf}{b:Sf}{n:Nat}{env e:Ev}{st s a:Sto} (h:c env st=some (true,s)) (hb:b env s=some (.nx e a)):bz c b (n+1) env st=bz c b n e a:=by
 rw[bz,h,qaa,iFP U,hb,qaa]
theorem iS (s:Sto) {a b:Int} (h:0<b):f9 s (.d (.int a)) (.d (.int b))=some (.int (a%b)):=iFP h
theorem pI (s:Sto) {a b:Int} (h:0<b/\b<1073741824):iy s (.d (.int a)) (.d (.int b))=some (.int (a / b)):=iFP h
theorem pf0 (p:Spo) (a:Sto) (e:Ev):cE (iV 0) (iC (.int 0)) (some (.h 1)::e) (spo p a)=some (.h 0,spo p a):=rfl
theorem pf1 (p:Spo) (a:Sto) (e:Ev):cE (iV 0) (iC (.int 1)) (some (.h 1)::e) (spo p a)=some (.d (.int p.s),spo p a):=rfl
theorem pf2 (p:Spo) (a:Sto) (e:Ev):cE (iV 0) (iC (.int 2)) (some (.h 1)::e) (spo p a)=some (.d (.int p.c),spo p a):=rfl
theorem pfx (x:Int) (xs:List Int) (s c:Int) (a:Sto) (e:Ev):iOp dIx (cE (iV 0) (iC (.int 0))) (iC (.int 0)) (some (.h 1)::e) (spo ⟨x::xs,s,c⟩ a)=some (.d (.int x),spo ⟨x::xs,s,c⟩ a):=by
 refine ae (pf0 _ _ _) U ?_;exact CH _ _
theorem Gm (x:Int) (xs:List Int) (s c:Int) (a:Sto) (e:Ev):cR uN (cE (iV 0) (iC (.int 0))) (aa (iC (.int 0)) ac) (some (.h 1)::e) (spo ⟨x::xs,s,c⟩ a)=some (.d (.int x),spo ⟨xs,s,c⟩ a):=by
 show ((uN _ [.d _]).map λy=>(W.d y.1,(spo _ a).set 0 _))=_
 have:uN ((x::xs).map D.int) [.d (.int 0)]=some (.int x,xs.map D.int):=by
  show (ixN ((xs.map D.int).length+1) 0).bind _=_;rw[B9];rfl
 rw[this];rfl
theorem B4 {s c:Int}{e:Ev}:∀ (xs:List Int) (f:Nat),xs.length<f->(∀ x∈xs,0<=x)->
  ∃ b:List Int,b.length<=xs.length/\(∀ x∈b,0<=x)/\∀ a:Sto,bz gM iN f (some (.h 1)::e) (spo ⟨xs,s,c⟩ a)=some (.nx (some (.h 1)::e) (spo ⟨b,s,c⟩ a))
 |_,0,h,_=>absurd h (qcz _)
 |[],f+1,_,_=>⟨_,qao _,(λx hx=>nomatch hx),λa=>Cz (zD (ap (pf0 _ _ _) U U))⟩
 |x::xs,f+1,g,d=>by
  have c1:∀ a ,aG dNe _ (av (bj ac)) (some _::e) _=some (true,spo ⟨x::xs,s,c⟩ a):=λa=>ap (pf0 _ _ _) U U;have c2:∀ a ,aG dEq _ (iC _) (some _::e) _=some (x==0,spo ⟨x::xs,s,c⟩ a):=λa=>ap (pfx _ _ _ _ _ _) U (du _ _ _);cases q:(x==0) with
  |true=>
   rw[q]at c2;obtain⟨b,j,a2,k⟩:=B4 xs f (by simpa using g) λy i=>d y (qah _ i);refine⟨b,qaH j (qcF _),a2,λa=>?_⟩;rw[<-k a];refine FT (zE (c1 a) (c2 a)) ?_;show cy _ _ _=_;simp only[cy,Gm,qan]
  |false=>
   rw[q]at c2;exact⟨_,qao _,d,λa=>Cz (zE (c1 a) (c2 a))⟩
theorem Dh {n:Nat} (h:n<=63):n<2^8000:=qbO h (qaN (by decide:63<2^6) (qaY (by decide) (by decide)))
theorem gQ {p:Spo}{m Zq:Int} (h:okP p Zq) (Q:Zq<900000000) (m0:0<m) (N:m<1073741824):∃ (r:Int) (B:Spo),0<=r/\r<m/\okP B (Zq+1)/\∀ a:Sto,aJ [.h 1,.d (.int m)] (spo p a)=some (.d (.int r),spo B a):=by
 obtain⟨xs,s,c⟩:=p;obtain⟨J,t,I,c1⟩:=h;obtain⟨O,H,y,M⟩:=B4 (s:=s) (c:=c) xs (2^8000) (Dh t) J;have w:=M;cases O with
 |cons x l=>
  have c2:∀ a:Sto,aG dNe _ (av (bj ac)) [some (.h 1),Z (.int m),none,none,none] _=some (true,spo ⟨x::l,s,c⟩ a):=λa=>ap (pf0 _ _ _) U U;refine⟨x%m,⟨x / m::l,s,c⟩,qh0 _ (by lia),qht _ m0,⟨λz hz=>?_,by simp at H ⊢;lia,I,by lia⟩,λa=>?_⟩
  ·rcases qaz.mp hz with rfl|hz
   ·exact qdL (y x qag) (by lia)
   ·exact y z (qah _ hz)
  ·have e3:bo (cE (iV 0) (iC (.int 0))) (iC (.int 0)) (iOp iy (iOp dIx (cE (iV 0) (iC (.int 0))) (iC (.int 0))) (iV 1)) [some (.h 1),Z (.int m),Z (.int (x%m)),none,none] (spo ⟨x::l,s,c⟩ a)=some (.nx [some (.h 1),Z (.int m),Z (.int (x%m)),none,none] (spo ⟨x / m::l,s,c⟩ a)):=by
    have L:fU (spo ⟨x::l,s,c⟩ a) (.h 0) (.d (.int 0)) (.d (.int (x / m)))=some (spo ⟨x / m::l,s,c⟩ a):=by
     show (ixN ((l.map D.int).length+1) 0).map (λj=>(spo ⟨x::l,s,c⟩ a).set 0 (.l (((x::l).map D.int).set j (.int (x / m)))))=_;rw[B9];rfl
    simp only[bo,(ae (g:=iy) (b:=iV 1) (pfx x l s c a [Z (.int m),Z (.int (x%m)),none,none]) U (pI _ ⟨m0,N⟩)),pf0,qaa,iC,L,qan]
   exact ar (n:=5) (k:=2) U (ai (w a) (fj (cT (c2 a) (ai (ao (ae (pfx _ _ _ _ _ _) U (iS _ m0))) (ai e3 U)))))
 |nil=>
  have c2:∀ a:Sto,aG dNe _ (av (bj ac)) [some (.h 1),Z (.int m),none,none,none] _=some (false,spo ⟨[],s,c⟩ a):=λa=>ap (pf0 _ _ _) U U;have e3:∀ a:Sto,jo (iV 0) (iC (.int 2)) (iOp aV (cE (iV 0) (iC (.int 2))) (iC (.int 1))) [some (.h 1),Z (.int m),none,none,none] (spo ⟨[],s,c⟩ a)=some _:=λa=>by
   simp only[jo,(ae (g:=aV) (b:=iC (.int 1)) (pf2 ⟨[],s,c⟩ a [Z (.int m),none,none,none]) U U),qaa,iC,iV];rfl
  obtain⟨u,F⟩:∃ u,(s+611953*(c+1)*(c+1))*48271%2305843009213693951=u:=⟨_,U⟩;refine⟨(u+(c+1))*(u / 1009+40692*(c+1)+3)%2305843009213693921 / 4099%m,⟨[],s,c+1⟩,qh0 _ (by lia),qht _ m0,⟨λz hz=>(nomatch hz),by simp,by dsimp only;lia,by dsimp only;lia⟩,λa=>?_⟩
  have C:qbP 611953 (c+1):=dY (by decide);have k2:∀ q,qbP q (c+1):=λq=>dZ ⟨by lia,by lia⟩;have P:∀ q,qbP q 48271:=λq=>dZ (by decide);have G:∀ q,qbP (u+(c+1)) q:=λq=>dY ⟨by lia,by lia⟩;have o:=λ(a:Sto) (e:Ev)=>pf2 ⟨[],s,c+1⟩ a e;have A:=λ(a:Sto) (e:Ev)=>pf1 ⟨[],s,c+1⟩ a e;dsimp only at A o;generalize c+1=d at *;have E:∀ (v f:Option W),aD (.nm 3) (iOp f9 (iOp aU (iOp aV (cE (iV 0) (iC (.int 1))) (iOp aU (iOp aU (iC (.int 611953)) (cE (iV 0) (iC (.int 2)))) (cE (iV 0) (iC (.int 2))))) (iC (.int 48271))) (iC (.int 2305843009213693951))) [some (.h 1),Z (.int m),none,v,f] (spo ⟨[],s,d⟩ a)=some (.nx [some (.h 1),Z (.int m),none,Z (.int u),f] (spo ⟨[],s,d⟩ a)):=λv f=>
   ao (i:=3) (ae (ae (ae (A _ _) (ae (ae U (o _ _) (bn _ C)) (o _ _) (bn _ (k2 _))) U) U (bn _ (P _))) U (by rw[<-F];exact iS _ (by decide)))
  have K:∀ (f:Option W),aD (.nm 4) (iOp aV (iOp aV (iOp iy (iV 3) (iC (.int 1009))) (iOp aU (iC (.int 40692)) (cE (iV 0) (iC (.int 2))))) (iC (.int 3))) [some (.h 1),Z (.int m),none,Z (.int u),f] (spo ⟨[],s,d⟩ a)=some (.nx [some (.h 1),Z (.int m),none,Z (.int u),Z (.int (u / 1009+40692*d+3))] (spo ⟨[],s,d⟩ a)):=λf=>
   ao (i:=4) (ae (ae (ae U U (pI _ (by decide))) (ae U (o _ _) (bn _ (dY (by decide)))) U) U U)
  exact ar (n:=5) (k:=2) U (ai (w a) (ai (bC (c2 a) U) (ai (e3 a) (ai (E _ _) (ai (K _) (aC (ae (ae (ae (ae (ae U (o _ _) U) U (bn _ (G _))) U (iS _ (by decide))) U (pI _ (by decide))) U (iS _ m0))))))))
end Own
set_option maxHeartbeats 1000000
namespace Own
open PySem L2
open Sx (Pb Tb Good Named Fe LV ZV piv lexP leastR leaveL sumN unit colV basis)
theorem qsl {f:Ef}{lo hi:Pf}{env:Ev}{c s1 b a:Sto}{x:W}{l u:Option Int}{d:D} (g:f env c=some (x,s1)) (h:lo env s1=some (l,b)) (e:hi env b=some (u,a)) (hd:dSl a x l u=some d):iSl f lo hi env c=some (.d d,a):=by
 simp only[iSl,g,h,e,qaa,hd,qan]
theorem p18:uc 10 18:=by decide
theorem Gn (s:Sto):Ay s (.d (.int 10)) (.d (.int 18))=some (.int (10^18)):=by
 rfl
theorem DG (ns:List Int) (hn:ns.length<=63):∃ p,okP p 0/\iZ [.d (.scr ns)] []=some (.h 1,spo p []):=by
 have r:f8 (ns.map D.int) none (some 63)=ns.map D.int:=by
  unfold f8;have e1:HT.sIx (ns.map D.int).length 0 none=0:=rfl;have e2:HT.sIx (ns.map D.int).length (ns.map D.int).length (some 63)=(ns.map D.int).length:=by
   unfold HT.sIx;simp;lia
  rw[e1,e2,qf9,qgK,qb8]
 have v:∀ q,qbP q 69621:=λq=>dZ (by decide);obtain⟨o,s',e2,xs,a,k,rfl,rfl,n,j⟩:=a5 (g:=.nm 3) (body:=jB) (ds:=ns.map D.int)
  (λi env s=>∃ (xs:List Int) (a:Int) (k:Option W),env=[Z (.scr ns),Z (.int a),some (.h 0),k]/\s=[C.l (xs.map D.int)]/\xs.length<=i/\∀ x∈xs,0<=x)
  ⟨[],_,none,U,U,qao _,(λx hx=>nomatch hx)⟩ (λi d env s hd ⟨xs,a,k,e,es,n,j⟩=>by
   subst e es;rw[qav,qad]at hd;obtain⟨x,hx,rfl⟩:=hd;have hi:=(qap.mp hx).1;have s1:aD (.nm 1) (iOp f9 (iOp aV (iOp aU (iV 1) (iC _)) (iV 3)) (iC (.int 2305843009213693951))) [Z (.scr ns),Z (.int a),some (.h 0),Z (.int x)] [C.l (xs.map D.int)]=some _:=
    ao (ae (ae (ae U U (bn _ (v _))) U U) U (iS _ (by decide)))
   generalize (a*69621+x)%2305843009213693951=t at *;have c:aG dGe (iCB wY (aa (iV 3) ac)) (iOp Ay (iC _) (iC _)) [Z (.scr ns),Z (.int t),some (.h 0),Z (.int x)] [C.l _]=some (decide _,[C.l (xs.map D.int)]):=ap (az (ab U U) U) (ae U U (Gn _)) U;by_cases hg:(10)^18<=(if x<0 then -x else x)
   ·rw[decide_eq_true hg]at c
    have hz:(xs.map D.int).length<1000000:=by rw[qaf];lia
    refine⟨_,_,_,U,.inl (ai s1 (cT c (DM U (az (ab U U) U) U U hz))),xs++[if x<0 then -x else x],t,_,U,?_,by rw[qaw];show _+1<=_;lia,λy u=>?_⟩
    ·rw[qbw];rfl
    ·rcases qaQ.mp u with q|q
     ·exact j y q
     ·rw[qam.mp q];split<;>lia
   ·rw[decide_eq_false hg]at c
    exact⟨_,_,_,U,.inl (ai s1 (bC c U)),xs,t,_,U,U,by lia,j⟩)
 rw[qaf]at n;refine⟨⟨xs,a,0⟩,⟨j,by lia,qcf _,qcf _⟩,?_⟩;have l:sC 1 2 (aa (iOp aV (iOp aU (iC (.int 7)) (iCB aT (aa (iV 0) ac))) (iC (.int 5))) (aa (bV (bj ac)) ac)) [Z (.scr ns),none,none,none] []=some (.nx [Z (.scr ns),Z (.int (7*(ns.length)+5)),some (.h 0),none] [C.l []]):=by
  have f:aT [] [.d (.scr ns)]=some (.int (ns.length)):=by
   show some (D.int _)=_;rw[qaf]
  have x1:iOp aV (iOp aU (iC (.int 7)) (iCB aT (aa (iV 0) ac))) (iC (.int 5)) [some _,none,none,none] []=some (.d _,[]):=ae (ae U (az (ab U U) f) (bn _ (dY (by decide)))) U U;simp only[sC,(ab (b:=aa (bV (bj ac)) ac) x1 U),qaa];rfl
 have m:aA (iSl (iV 0) iPn (iPs (iC (.int 63)))) [Z (.scr ns),Z (.int (7*(ns.length)+5)),some (.h 0),none] [C.l []]=some (ns.map D.int,[C.l []]):=by
  show some _=_;rw[r]
 exact ar U (ai l (ai (a7 m e2) (aC U)))
end Own
set_option maxHeartbeats 1000000
namespace Own
open PySem L2
open Sx (Pb Tb Good Named Fe LV ZV piv lexP leastR leaveL sumN unit colV basis)
theorem DO {c:Tf}{a b:Ef}{env:Ev}{st s:Sto}{r:Option (W×Sto)} (h:c env st=some (true,s)) (d:a env s=r):eO c a b env st=r:=by simp only[eO,h,qaa,if_true,d]
theorem DN {c:Tf}{a b:Ef}{env:Ev}{st s:Sto}{r:Option (W×Sto)} (h:c env st=some (false,s)) (hb:b env s=r):eO c a b env st=r:=by simp only[eO,h,qaa,qbq,if_false,hb]
theorem kh {α:Type}{tg:Tg}{te:Ef}{env:Ev}{st:Sto}{g:α->D} (F:α->D):∀ {a:List α},(∀ k∈a,∃ e1,cw tg (.d (g k)) env=some e1/\te e1 st=some (.d (F k),st))->lcI tg aP te env (a.map g) st=some (a.map F,st)
 |[],_=>rfl
 |k::a,h=>by
  obtain⟨e1,b,c⟩:=h k qag;rw[qau,lcI,b,qaa,show aP e1 st=some (true,st) from U,qaa,c,qaa,(kh F λx hx=>h x (qah _ hx))];rfl
theorem jD {α:Type}{tg:Tg}{tt:Tf}{te:Ef}{env:Ev}{st:Sto}{g:α->D} (F:α->D) (p:α->Bool):∀ {a:List α},(∀ k∈a,∃ e1,cw tg (.d (g k)) env=some e1/\tt e1 st=some (p k,st)/\te e1 st=some (.d (F k),st))->lcI tg tt te env (a.map g) st=some ((a.filter p).map F,st)
 |[],_=>rfl
 |k::a,h=>by
  obtain⟨e1,c,e,f⟩:=h k qag;have b:=jD F p λx hx=>h x (qah _ hx);rw[qau,lcI,c,qaa,e,qaa,qbI];cases p k with
  |true=>
   rw[f,qaa,b];rfl
  |false=>
   rw[iFN qaU,iFN qaU,b]
theorem CG {row k:Int} (h:0<=row):qdM (row / 2^k.toNat) 1=onI row k:=F2 (qdL h (qgQ (Int.pow_pos (by decide))))
theorem rS (row:Int):∀ t:List Int,(((t.filter λk=>onI row k==1).length:Nat):Int)=ek row t
 |[]=>rfl
 |k::t=>by
  have a:=rS row t;rw[qbI];unfold ek;rcases Cd row k with e|e
  ·lia
  ·rw[e,iFP (by decide),qaq]
   lia
theorem sS {st:Sto}{b:Bool}{t:List Int}{row:Int} (g:0<=row) (f:∀ k∈t,0<=k/\k<=20) (j:t.length<=1000):dX [.d (.str (aw b)),.d (ag t),.d (.int row)] st=some (.d (.int (bY b t row)),st):=by
 have a:aT st [.d (.lst ((t.filter λk=>onI row k==1).map D.int))]=some (.int (ek row t)):=by
  show some (D.int _)=_;rw[qaf,rS]
 have tl:aT st [.d (ag t)]=some (.int (t.length)):=by
  show some (D.int _)=_;rw[qaf]
 have hz:(t.map D.int).length<=1000000:=by rw[qaf];lia
 have eq:bY b t row=if b=true then (if ek row t=(t.length) then 1 else 0) else 1 - 2*(ek row t%2):=by
  unfold bY;cases b with
  |true=>rfl
  |false=>
   split<;>lia
 rw[eq];have e:aD (.nm 3) (iCB aT (aa (av (iLc 1 [2] (aA (iV 1)) (.nm 0) iL iB)) ac)) [Z (.str (aw b)),Z (ag t),Z (.int row),none] st=some (.nx [Z (.str (aw b)),Z (ag t),Z (.int row),Z (.int (ek row t))] st):=
  ao (i:=3) (az (ab (aq (aM (be U) hz (jD D.int _ λk h=>by
  refine⟨_,U,?_,U⟩;refine ap (ae (ae U U (FC _ (f k h).1)) U ?_) U (du _ _ _);show some _=_
  rw[CG g]))) U) a)
 have c:aG dEq (iV 0) (iC _) [some _,Z (ag t),Z (.int row),Z (.int (ek row t))] st=some (b,st):=ap U U (by rw[vz,(oM b)]);generalize ek row t=n at *;generalize aw b=kd at *;cases b with
 |true=>
  rw[iFP U]
  exact ar U (ai e (aC (DO c (az (ab (ae U (az (ab U U) tl) (du _ _ _)) U) (by
   by_cases q:n=(t.length)
   ·rw[q,iFP U,beq_self_eq_true];rfl
   ·rw[iFN q,show (n==_)=false by simpa using q];rfl)))))
 |false=>
  exact ar U (ai e (aC (DN c (ae U (ae U (ae U U (iS _ (by decide))) (bn _ (dY (by decide)))) U))))
theorem xD {st:Sto}:∀ {n:Nat},n<=2->cn [.d (.int (n:Int))] st=some (.d (.lst ((bU n).map ag)),st)
 |0,_=>rfl
 |1,_=>rfl
 |2,_=>rfl
end Own
set_option maxHeartbeats 1000000
namespace Own
open PySem L2
open Sx (Pb Tb Good Named Fe LV ZV piv lexP leastR leaveL sumN unit colV basis)
theorem vn {tt:Tf}{te:Ef}{l:Ev} (g:∀ (d:D) (p:Spo) (Zq:Int),okP p Zq->Zq<800000000->∃ (b:Bool) (c:Spo),okP c (Zq+1)/\∀ a:Sto,tt (Z d::l) (spo p a)=some (b,spo c a)) (f:∀ (d:D) (s:Sto),te (Z d::l) s=some (.d d,s)):∀ (A:List (List Int)) (p:Spo) (Zq:Int),okP p Zq->Zq+A.length<800000000->
  ∃ (ts:List (List Int)) (c:Spo),ts.Sublist A/\okP c (Zq+A.length)/\∀ a:Sto,lcI (.nm 0) tt te (none::l) (A.map ag) (spo p a)=some (ts.map ag,spo c a)
 |[],p,Zq,h,_=>⟨_,p,qju _,h.mono (by simp),λa=>rfl⟩
 |t::A,p,Zq,h,m=>by
  rw[qaq]at m;obtain⟨b,p1,j,e1⟩:=g _ p Zq h (by lia);obtain⟨ts,e,i,k,e2⟩:=vn g f A p1 _ j (by lia);have hm:okP e (Zq+((t::A).length)):=k.mono (by rw[qaq];lia);have st:∀ a:Sto,cw (.nm 0) _ (none::l)=some (Z (ag t)::l):=λa=>rfl;cases b with
  |true=>
   refine⟨_,e,i.cons_cons t,hm,λa=>?_⟩;rw[qau,lcI,st a,qaa,e1 a,qaa,f,qaa,e2 a];rfl
  |false=>
   refine⟨ts,e,i.cons t,hm,λa=>?_⟩;rw[qau,lcI,st a,qaa,e1 a,qaa,iFN qaU,e2 a]
theorem BM {p:Spo}{Zq:Int}{n:Nat} (hn:n<=2) (h:okP p Zq) (F:Zq+100<800000000):∃ (ts:List (List Int)) (j:Spo),ts.Sublist (bU n)/\okP j (Zq+20)/\∀ c:Sto,gv [.h 1,.d (.int (n:Int))] (spo p c)=some (.d (tsD ts),spo j c):=by
 obtain⟨way,p1,a0,I,A,e1⟩:=gQ h (m:=4) (by lia) (by decide) (by decide);obtain⟨z,g,J,L,w,e2⟩:=gQ A (m:=(n:Int)+1) (by lia) (by lia) (by lia);have K:(bU n).length<=4:=by
  rw[rE];exact qaH (qaY (by decide) hn) (by decide)
 have hz:((bU n).map ag).length<=1000000:=by rw[qaf];lia
 have e:∀ c:Sto,sD 2 3 4 (aa (ay cn (aa (iV 1) ac)) (aa (ay aJ (aa (iV 0) (aa (iC (.int 4)) ac))) (aa (ay aJ (aa (iV 0) (aa (iOp aV (iV 1) (iC (.int 1))) ac))) ac))) [some (.h 1),Z (.int (n:Int)),none,none,none] (spo p c)=some (.nx [some (.h 1),Z (.int (n:Int)),Z (.lst ((bU n).map ag)),Z (.int way),Z (.int z)] (spo g c)):=λc=>by
  have x:=ab (b:=aa (ay aJ (aa (iV 0) (aa (iC (.int 4)) ac))) (aa (ay aJ (aa (iV 0) (aa (iOp aV (iV 1) (iC (.int 1))) ac))) ac)) (env:=[some (.h 1),Z (.int (n:Int)),none,none,none]) (aj (a:=aa (iV 1) ac) (m:=cn) (ab U U) ((λs=>xD (st:=s) hn) _)) (ab (aj (ab U (ab U U)) (e1 c)) (ab (aj (ab U (ab (ae U U U) U)) (e2 c)) U));simp only[sD,x,qaa];rfl
 have i:∀ s:Sto,aG dEq (iV 3) (iC (.int 0)) [some (.h 1),Z (.int (n:Int)),Z (.lst ((bU n).map ag)),some _,Z (.int z)] s=some (way==0,s):=λs=>ap U U (du _ _ _);have c1:∀ s:Sto,aG dEq (iV 3) (iC (.int 1)) [some (.h 1),Z (.int (n:Int)),Z (.lst ((bU n).map ag)),some _,Z (.int z)] s=some (way==1,s):=λs=>ap U U (du _ _ _);cases q0:(way==0) with
 |true=>
  rw[q0]at i
  have o:∀ s:Sto,lcI (.nm 0) iK iA [none,Z (.int z)] _ s=some (((bU n).filter λt=>decide _).map ag,s):=λs=>jD ag _ λt _=>⟨_,U,ap (az (ab U U) (by
   show some (D.int _)=_
   rw[qaf])) U U,U⟩
  refine⟨_,g,qeI (p:=λt=>decide ((t.length:Int)<=z)),w.mono (by lia),λc=>?_⟩;have k:=o (spo g c);exact ar U (ai (e c) (fj (cT (i _) (aC (az (ab (aq (aM (aR U) hz k)) U) U)))))
 |false=>
  rw[q0]at i;cases q1:(way==1) with
  |true=>
   rw[q1]at c1;obtain⟨r,f,d0,d1,y,e3⟩:=gQ w (m:=2) (by lia) (by decide) (by decide);have u:∃ B:List _,B.Sublist (bU n)/\f8 ((bU n).map ag) (some z) (some (z+r))=B.map ag:=by
    unfold f8;rw[<-qie,<-List.map_take];exact⟨_,(qhp _ _).trans (List.drop_sublist _ _),U⟩
   obtain⟨B,H,u⟩:=u;refine⟨B,f,H,y.mono (by lia),λc=>?_⟩;have q:iPs (iOp aV (iV 4) (ay aJ (aa (iV 0) (aa (iC (.int 2)) ac)))) [some (.h 1),Z (.int (n:Int)),Z (.lst ((bU n).map ag)),Z (.int way),Z (.int z)] (spo g c)=some (some (z+r),spo f c):=by
    have v:iOp aV (iV 4) (ay aJ (aa (iV 0) (aa (iC (.int 2)) ac))) [some (.h 1),Z (.int (n:Int)),Z (.lst ((bU n).map ag)),Z (.int way),Z (.int z)] _=some (.d _,spo f c):=ae U (aj (ab U (ab U U)) (e3 c)) U;simp only[iPs,v,qaa];rfl
   have C:dSl (spo f c) (.d (.lst ((bU n).map ag))) (some z) (some (z+r))=some (.lst (B.map ag)):=by
    show some _=_;rw[u]
   exact ar U (ai (e c) (ai (bC (i _) U) (fj (cT (c1 _) (aC (az (ab (qsl U U q C) U) U))))))
  |false=>
   rw[q1]at c1
   obtain⟨ts,f,G,y,e3⟩:=vn (tt:=iJ) (te:=iz) (l:=[some (.h 1),some _]) (λd p Zq h F=>by
    obtain⟨r,j,_,_,h',E⟩:=gQ h (m:=2+way%2) (by lia) (by lia) (by lia)
    exact⟨_,j,h',λc=>ap (aj (ab U (ab (ae U (ae U U (iS _ (by decide))) U) U)) (E c)) U U⟩) (λd s=>rfl) (bU n) g _ w (by lia)
   refine⟨ts,f,G,y.mono (by lia),λc=>?_⟩;have k:=e3 c;exact ar U (ai (e c) (ai (bC (i _) U) (ai (bC (c1 _) U) (aC (az (ab (aq (aM (aR U) hz k)) U) U)))))
end Own
set_option maxHeartbeats 1000000
namespace Own
open PySem L2
open Sx (Pb Tb Good Named Fe LV ZV piv lexP leastR leaveL sumN unit colV basis)
end Own
set_option maxHeartbeats 1000000
namespace Own
open PySem L2
open Sx (Pb Tb Good Named Fe LV ZV piv lexP leastR leaveL sumN unit colV basis)
theorem mF:∀ (ds:List D) (k:Nat),(bF k ds).length=ds.length
 |[],_=>rfl
 |_::ds,k=>by rw[bF,qaq,qaq,mF ds]
def sR (fs:List D) (g:Nat->Int) (r:Nat):Int:=if dQ (fs.getD r .non)=true then 0 else g r
theorem Gh {d:D} (h:d≠.non):¬ dQ d=true:=by
 cases d<;>first|exact absurd U h|exact Bool.noConfusion
theorem wI (b:Bool) (t:List Int) (row:Int):(bY b t row).natAbs<=1:=by
 unfold bY;split<;>split<;>decide
theorem u6 (f:Nat->Int):∀ n,((qai n).map f).sum=sumN n f
 |0=>rfl
 |n+1=>by
  rw[qdG,qbw,qhP,u6 f n];show _+(f n+0)=sumN n f+f n;lia
theorem zh {l m:List Int} (h:l.Perm m):l.sum=m.sum:=by
 induction h with
 |nil=>rfl
 |cons x _ c=>rw[qcb,qcb,c]
 |swap x y l=>rw[qcb,qcb,qcb,qcb];lia
 |trans _ _ a b=>exact a.trans b
theorem v8 (X g:List Int->Int):∀ a:List (List Int),((aZ a X).map λp=>p.2*g p.1).sum=(a.map λt=>X t*g t).sum
 |[]=>rfl
 |t::a=>by
  have b:=v8 X g a;unfold aZ at b ⊢;rw[qbI,qau,qcb];by_cases h:X t=0
  ·rw[iFN (by simp[h]),b,h,qbs,qcj]
  ·rw[iFP (by simp[h]),qau,qau,qcb,b]
theorem yZ (X g:List Int->Int) (ts:List (List Int)):((aZ (aE ts) X).map λp=>p.2*g p.1).sum=sumN ts.length λt=>X (ts.getD t [])*g (ts.getD t []):=by
 rw[v8,zh ((aI ts).map λt=>X t*g t),ie [] _ ts,u6]
theorem t7 (g:Nat->Int):∀ (r:List D) (k:Nat),((bA k r).map λj=>g j.toNat).sum=sumN r.length λj=>if dQ (r.getD j .non)=true then 0 else g (k+j)
 |[],k=>rfl
 |d::r,k=>by
  rw[qaq,qgM r.length 1,Sx.sumN_append];have c:(sumN r.length λj=>if dQ ((d::r).getD (1+j) .non)=true then 0 else g (k+(1+j)))=sumN r.length λj=>if dQ _=true then 0 else g _:=Sx.sumN_congr λj _=>by
   rw[qgM 1 j,qbS,show k+_=k+1+j by lia]
  have b:(sumN 1 λj=>if dQ ((d::r).getD j .non)=true then 0 else g (k+j))=if dQ d=true then 0 else g k:=by
   show (0)+_=_;rw[qcj];rfl
  rw[c,b,<-(t7 g r _)];have a:(((k:Int)::bA (k+1) r).map λj=>g j.toNat).sum=g k+((bA (k+1) r).map λj=>g j.toNat).sum:=by
   rw[qau,qcb,qa7]
  cases d<;>first|exact (qcj _).symm|exact a
theorem t6:∀ (r:List D) (k j:Nat),j<r.length->r.getD j .non≠.non->((k+j:Nat):Int)∈bA k r
 |[],_,_,h,_=>absurd h (qcz _)
 |d::r,k,0,_,hn=>by
  have:_∈(k:Int)::bA (k+1) r:=qag
  cases d<;>first|exact absurd U hn|exact this
 |d::r,k,j+1,h,hn=>by
  have a:=t6 r (k+1) j (by rw[qaq]at h;lia) (by exact hn);rw[show k+1+j=k+(j+1) by lia]at a;cases d<;>first|exact a|exact qah _ a
section
variable {fs:List D}{b:Bool}{ts:List (List Int)}{X:List Int->Int}{w:Nat->Int}
theorem BG (h:Spl fs ts) (S:oV fs b ts X w) {t:List Int} (d:t∈ts):sumN fs.length (sR fs λr=>w r*sgD (fs.getD r .non)*bY b t r)=0:=by
 obtain⟨j,g,rfl⟩:=jJ d;have e:=t7 (λr=>w r*sgD (fs.getD r .non)*bY b (ts.getD j []) r) fs 0;rw[ie 0 _ _,u6]at e;have e2:sumN fs.length (sR fs λr=>w r*sgD _*bY b _ r)=sumN fs.length λr=>if dQ _=true then 0 else w (0+r)*sgD (fs.getD (0+r) .non)*bY b (ts.getD j []) ((0+r:Nat)):=Sx.sumN_congr λr _=>by rw[qbh];rfl
 rw[e2,<-e];refine Eq.trans (Sx.sumN_congr λi hi=>?_) (S.bal j g);show w (rN fs i)*sgD (fs.getD (rN fs i) .non)*bY b _ (rN fs i)=sgD (fs.getD (rN fs i) .non)*bY b _ _*w _;rw[((oQ h hi).1),qbi,qaT]
theorem BH (h:Spl fs ts) (S:oV fs b ts X w) {r:Nat} (f:r<fs.length) (hn:fs.getD r .non≠.non):0<=(sumN ts.length λt=>X (ts.getD t [])*bY b (ts.getD t []) r)*sgD (fs.getD r .non)/\((sumN ts.length λt=>X (ts.getD t [])*bY b (ts.getD t []) r)*sgD (fs.getD r .non)=0↔w r≠0):=by
 have hm:=t6 fs 0 r f hn;rw[qbh]at hm;obtain⟨i,hi,e⟩:=qcu.mp hm;have a:jQ fs i=(r):=by
  unfold jQ;rw[qat,qal hi];exact e
 have k:rN fs i=r:=by unfold rN;rw[a,qa7]
 have v:=S.val i hi;rw[k]at v;have c:(sumN ts.length λt=>X (ts.getD t [])*spV fs b ts i t)=(sumN ts.length λt=>X (ts.getD t [])*bY b (ts.getD t []) r)*sgD (fs.getD r .non):=by
  rw[<-Sx.sumN_right];refine Sx.sumN_congr λt _=>?_;unfold spV;rw[a,qa7,qaT (sgD _),qbi]
 rw[c]at v;exact v
end
def sz (d:D):Int:=if dQ d=true then 0 else sgD d
theorem sz3 {d:D} (h:rA d):sz d=0\/sz d=1\/sz d=-1:=by
 rcases h with rfl|rfl|rfl
 ·exact .inl U
 ·exact .inr (.inr U)
 ·exact .inr (.inl U)
theorem xY {n:Nat}{f:Nat->Int} (b:∀ k,k<n->0<=f k) (c:sumN n f=0):∀ k,k<n->f k=0:=λk a=>by
 rw[Sx.sumN_split a]at c
 have:=Sx.sumN_nonneg (f:=λi=>if i=k then 0 else f i) λi hi=>by split;exact qcf _;exact b i hi
 have:=b k a
 lia
section
variable {fs:List D}{b:Bool}{ts:List (List Int)}{X:List Int->Int}{w:Nat->Int}
def vlR (b:Bool) (ts:List (List Int)) (Y:Nat->Int) (r:Nat):Int:=sumN ts.length λt=>Y t*bY b (ts.getD t []) r
def xZ (fs:List D) (b:Bool) (ts:List (List Int)) (v:Nat->Int):Prop:=∀ t∈ts,(sumN fs.length λr=>v r*sz (fs.getD r .non)*bY b t r)=0
theorem yf {v:Nat->Int} (hb:xZ fs b ts v) (Y:Nat->Int):(sumN fs.length λr=>v r*(sz (fs.getD r .non)*vlR b ts Y r))=0:=by
 have e:(sumN fs.length λr=>v r*(sz (fs.getD r .non)*vlR b ts Y r))=sumN fs.length λr=>sumN ts.length λt=>Y t*_:=Sx.sumN_congr λr _=>by
  unfold vlR;rw[<-qbi,<-Sx.sumN_mul];exact Sx.sumN_congr λt _=>qaP ..
 rw[e,Sx.sumN_swap];refine (Sx.sumN_congr λt f=>?_).trans (Sx.sumN_zero _);rw[Sx.sumN_mul,hb _ (by rw[qat,qal f];exact qbR f),qa2]
theorem A8 {v:Nat->Int} (hb:xZ fs b ts v) {Y:Nat->Int} (l:∀ r,r<fs.length->0<=v r) (i:∀ r,r<fs.length->0<=sz (fs.getD r .non)*vlR b ts Y r) {r:Nat} (d:r<fs.length) (j:v r≠0):sz (fs.getD r .non)*vlR b ts Y r=0:=by
 have:=xY (λk g=>qd2 (l k g) (i k g)) (yf hb Y) r d
 exact (qcA.mp this).resolve_left j
theorem zV (h:Spl fs ts) {r:Nat} (d:r<fs.length):rA (fs.getD r .non):=by
 rw[qat,qal d];exact h.fv _ (qbR d)
theorem zT (h:Spl fs ts) (S:oV fs b ts X w):xZ fs b ts w:=λt f=>by
 refine (Sx.sumN_congr λr _=>?_).trans (BG h S f);unfold sR sz;split
 ·rw[qa2,qbs]
 ·rfl
theorem zU (h:Spl fs ts) (S:oV fs b ts X w) {r:Nat} (d:r<fs.length):0<=sz (fs.getD r .non)*vlR b ts (λt=>X (ts.getD t [])) r/\(fs.getD r .non≠.non->sz (fs.getD r .non)*vlR b ts (λt=>X (ts.getD t [])) r=0->w r≠0):=by
 by_cases e:fs.getD r .non=.non
 ·rw[e]
  exact⟨by show 0<=0*_;rw[qbs];exact qcf _,λq=>absurd U q⟩
 ·obtain⟨a,c⟩:=BH h S d e
  have es:sz _=sgD _:=iFN (Gh e);rw[es];rw[qaT];exact⟨a,λ_ q=>c.mp q⟩
end
end Own
set_option maxHeartbeats 1000000
namespace Own
open PySem L2
open Sx (Pb Tb Good Named Fe LV ZV piv lexP leastR leaveL sumN unit colV basis)
section
variable {fs:List D}{b:Bool}{ts:List (List Int)}{X:List Int->Int}{w:Nat->Int}
def Tel (b:Bool) (ts:List (List Int)) (fs:List D):Prop:=∃ Y:Nat->Int,∀ r,r<fs.length->fs.getD r .non≠.non->0<sz (fs.getD r .non)*vlR b ts Y r
theorem D9 (h:Spl fs ts) {v:Nat->Int} (hb:xZ fs b ts v) (j:∀ r,r<fs.length->0<=v r/\(fs.getD r .non=.non->v r=0)) (t:Tel b ts fs) {r:Nat} (d:r<fs.length):v r=0:=qcg λi=>by
 obtain⟨Y,g⟩:=t
 have:=A8 hb (λk f=>(j k f).1) (λk f=>by
  by_cases e:fs.getD k .non=.non
  ·rw[e];show 0<=0*_;rw[qbs];exact qcf _
  ·exact qgQ (g k f e)) d i
 have:=g r d (λe=>i ((j r d).2 e))
 lia
theorem FQ (h:Spl fs ts) (S:oV fs b ts X w):(∀ r,r<fs.length->w r=0)↔Tel b ts fs:=by
 refine⟨λz=>⟨λt=>X (ts.getD t []),λr d hn=>?_⟩,λt r d=>D9 h (zT h S) (λk f=>⟨(S.w0 k f).1,S.wn k f⟩) t d⟩;obtain⟨a,c⟩:=zU h S d
 have:=c hn
 rcases qdX a with q|q
 ·exact q
 ·exact absurd (z r d) (this q.symm)
end
def b5 (N:Nat) (l:List Int):List D:=l.map D.int++qaD (N - l.length) .non
theorem qR {N:Nat}{l:List Int} (h:l.length<=N):(b5 N l).length=N:=by
 unfold b5;rw[qaw,qaf,qb3];lia
theorem zt {N r:Nat}{l:List Int} (h:r<l.length):(b5 N l).getD r .non=.int (l.getD r 0):=by
 unfold b5;rw[qat,qaB (by rw[qaf];exact h),qav,qat,qal h];rfl
theorem zr {N r:Nat}{l:List Int} (h:l.length<=r):(b5 N l).getD r .non=.non:=by
 unfold b5;rw[qat,qaJ (by rw[qaf];exact h),qcC];split<;>rfl
def jc (l:List Int):Prop:=∀ x∈l,x=0\/x=1
theorem Cg {N:Nat}{l:List Int} (h:jc l):∀ u∈b5 N l,rA u:=λu a=>by
 rcases qaQ.mp a with q|q
 ·obtain⟨x,hx,rfl⟩:=qaM.mp q
  rcases h x hx with rfl|rfl
  ·exact .inr (.inl U)
  ·exact .inr (.inr U)
 ·exact .inl (List.eq_of_mem_replicate q)
theorem BU {b:Bool}{ts:List (List Int)}{N:Nat}{l:List Int}{x:Int} (d:l.length<N) (t:Tel b ts (b5 N (l++[x]))):Tel b ts (b5 N l):=by
 obtain⟨Y,c⟩:=t;have f:(l++[x]).length<=N:=by rw[qaw];exact d
 rw[qR f]at c;refine⟨Y,λr a hn=>?_⟩;rw[qR (by lia)]at a;by_cases q:r<l.length
 ·have e:(b5 N (l++[x])).getD r .non=(b5 N l).getD r .non:=by
   rw[zt (by rw[qaw];exact qaN q (qcH _ _)),zt q,qat,qaB q,qat]
  have:=c r a (by rw[e];exact hn)
  rwa [e]at this
 ·exact absurd (zr (by lia)) hn
def bB:Nat->List (List Int)
 |0=>[[]]
 |i+1=>(bB i).flatMap λl=>[l++[0],l++[1]]
theorem eI:∀ (i:Nat) {l:List Int},l∈bB i↔l.length=i/\jc l
 |0,l=>by
  unfold bB;rw[qam];exact⟨λe=>by rw[e];exact⟨U,λx hx=>nomatch hx⟩,λ⟨e,_⟩=>List.eq_nil_of_length_eq_zero e⟩
 |i+1,l=>by
  rw[bB,List.mem_flatMap];constructor
  ·rintro⟨m,hm,b⟩
   obtain⟨a,c⟩:=(eI i).mp hm
   have:∃ x:Int,(x=0\/x=1)/\l=m++[x]:=by
    rcases qaz.mp b with e|b
    ·exact⟨0,.inl U,e⟩
    ·exact⟨1,.inr U,qam.mp b⟩
   obtain⟨x,hx,rfl⟩:=this;refine⟨by rw[qaw,a];rfl,λy f=>?_⟩;rcases qaQ.mp f with q|q
   ·exact c y q
   ·rw[qam.mp q];exact hx
  ·rintro⟨b,d⟩
   rcases List.eq_nil_or_concat l with e|⟨m,x,e⟩
   ·subst e;cases b
   ·rw[List.concat_eq_append]at e
    subst e;refine⟨m,(eI i).mpr ⟨by rw[qaw]at b;exact qhF b,λy f=>d y (qa1 _ f)⟩,?_⟩;rcases d x (qay _ (qam.mpr rfl)) with rfl|rfl
    ·exact qag
    ·exact qah _ (qam.mpr U)
open Classical in
def cI (b:Bool) (ts:List (List Int)) (fs:List D):Bool:=decide (Tel b ts fs)
open Classical in
theorem nQ {b:Bool}{ts:List (List Int)}{fs:List D}:cI b ts fs=true↔Tel b ts fs:=decide_eq_true_iff
def fnd (b:Bool) (ts:List (List Int)) (N i:Nat):List (List Int):=(bB i).filter λl=>cI b ts (b5 N l)
theorem oA {α a:Type} (p:a->Bool) (q:α->Bool) (g:α->List a):∀ L:List α,(∀ l∈L,q l=false->(g l).filter p=[])->(L.flatMap g).filter p=(L.filter q).flatMap λl=>(g l).filter p
 |[],_=>rfl
 |l::L,h=>by
  rw[qfd,qe2,oA p q g L λx hx=>h x (qah _ hx),qbI];cases e:q l with
  |true=>rw[iFP U,qfd]
  |false=>rw[h l qag e];rfl
theorem yu (b:Bool) (ts:List (List Int)) {N i:Nat} (hi:i<N):fnd b ts N (i+1)=(fnd b ts N i).flatMap λl=>[l++[0],l++[1]].filter λl=>cI b ts (b5 N l):=by
 refine oA _ _ _ _ λl f c=>?_;have a:=((eI i).mp f).1;rw[qek];intro x hx d
 have:∃ y:Int,x=l++[y]:=by
  rcases qaz.mp hx with e|hx
  ·exact⟨0,e⟩
  ·exact⟨1,qam.mp hx⟩
 obtain⟨y,rfl⟩:=this;rw[nQ.mpr (BU (by lia) (nQ.mp d))]at c;cases c
end Own
set_option maxHeartbeats 1000000
namespace Own
open PySem L2
open Sx (Pb Tb Good Named Fe LV ZV piv lexP leastR leaveL sumN unit colV basis)
theorem lX {W K:Nat}:∀ {ds:List D},(∀ d∈ds,rpD d=true/\wtD d<=W/\dpD d<=K)->nG ds=true/\t9 ds<=(W+2)*ds.length/\rZ ds<=K
 |[],_=>by exact⟨U,qbA _,qbA _⟩
 |d::ds,h=>by
  obtain⟨a,b,c⟩:=lX λx hx=>h x (qah _ hx);obtain⟨e,f,c1⟩:=h d qag;rw[nG,t9,rZ,a,e,qaq];exact⟨U,by lia,by lia⟩
theorem AR {a b:List Int} (h:leL a b) (c:a≠b):bq a b=true:=by
 cases e:bq a b with
 |true=>rfl
 |false=>exact absurd (gr a b e h) c
theorem oI {l:List (List Int)} (hn:l.Nodup):(aE l).Pairwise λa b=>bq a b=true:=by
 have c:=(aI l).nodup_iff.mpr hn;exact (cL l).imp₂ (λa b d c=>AR d c) c
theorem wB:∀ {a c:List (List Int)},a.Pairwise (λx y=>bq x y=true)->c.Pairwise (λx y=>bq x y=true)->(∀ x,x∈a↔x∈c)->a=c
 |[],[],_,_,_=>rfl
 |[],y::c,_,_,h=>absurd ((h y).mpr qag) qbv
 |x::a,[],_,_,h=>absurd ((h x).mp qag) qbv
 |x::a,y::c,f,g,h=>by
  obtain⟨d,a2⟩:=qa4.mp f;obtain⟨c1,c2⟩:=qa4.mp g;have b:∀ {z:List Int},bq z z=true->False:=λ{z} q=>by rw[m8]at q;cases q
  have e:x=y:=by
   rcases qaz.mp ((h x).mp qag) with q|q
   ·exact q
   rcases qaz.mp ((h y).mpr qag) with k|k
   ·exact k.symm
   exact (b (lW _ _ _ (c1 x q) (d y k))).elim
  subst e;rw[wB a2 c2 λz=>⟨λhz=>?_,λhz=>?_⟩]
  ·rcases qaz.mp ((h z).mp (qah _ hz)) with q|q
   ·rw[q]at hz;exact (b (d x hz)).elim
   ·exact q
  ·rcases qaz.mp ((h z).mpr (qah _ hz)) with q|q
   ·rw[q]at hz;exact (b (c1 x hz)).elim
   ·exact q
def rpS (t:List Int):Str:=(toP (D.tup (t.map D.int))).shown
theorem in2:∀ {n:Nat},n<=2->∀ t∈bU n,t∈bU 2
 |0,_=>by decide
 |1,_=>by decide
 |2,_=>λt h=>h
theorem BI:((bU 2).all λt=>(bU 2).all λu=>(rpS t==rpS u)==(t==u))=true:=by decide +kernel
theorem DV {n:Nat} (hn:n<=2) {t u:List Int} (b:t∈bU n) (a:u∈bU n) (e:rpS t=rpS u):t=u:=by
 have:=qaW.mp (qaW.mp BI t (in2 hn t b)) u (in2 hn u a)
 rw[e,beq_self_eq_true,beq_iff_eq]at this;exact eq_of_beq this.symm
theorem qX (s:Sto) {n:Nat} (hn:n<=2) {t:List Int} (b:t∈bU n):cB s [.d (ag t)]=some (.str (rpS t)):=by
 have h:=gh n ((aI _).mem_iff.mp b);have f:=wF h;obtain⟨a,c,e⟩:=lX (W:=2000) (K:=1) (ds:=t.map D.int) λd hd=>by
  obtain⟨x,hx,rfl⟩:=qaM.mp hd
  have:=h.2 x hx
  have:x=0\/x=1:=by lia
  rcases this with rfl|rfl
  ·exact⟨U,by decide,by decide⟩
  ·exact⟨U,by decide,by decide⟩
 rw[qaf]at c;have r:rpD (ag t)=true/\wtD (ag t)<=16000000/\dpD (ag t)<=50:=by
  unfold ag;rw[wtD,dpD];exact⟨a,by lia,by lia⟩
 show (if rpD (ag t)=true/\wtD (ag t)<=16000000/\dpD (ag t)<=50 then some (D.str (rpS t)) else none)=_;rw[iFP r]
theorem iI {f:Tf}{env:Ev}{st s:Sto}{k:Bool} (h:f env st=some (k,s)):dP f env st=some (!k,s):=by
 simp only[dP,h,qan]
theorem iq {f:Ef}{env:Ev}{st s:Sto}{k:Bool} (h:f env st=some (.d (.bl k),s)):cm cJ f env st=some (k,s):=by
 simp only[cm,h,qaa];rfl
theorem Fi {a:Af}{env:Ev}{st s:Sto}{bs:List Bool} (h:a env st=some ([.d (.lst (bs.map D.bl))],s)):iCB Ax a env st=some (.d (.bl (bs.all id)),s):=by
 refine az h ?_;show (jX _).map _=_;rw[mo];rfl
theorem u5 (s:Sto) (a:Str):dNe s (.d (.str a)) (.d (.str a))=some (.bl false):=by
 show some (D.bl (!(a==a)))=_;rw[beq_self_eq_true];rfl
theorem Cb (s:Sto) (a b:Int):dNe s (.d (.int a)) (.d (.int b))=some (.bl (!(a==b))):=rfl
theorem oB:∀ v:List Str,(v.map D.str).all bG=true
 |[]=>rfl
 |x::v=>by rw[qau,qbu,oB v];rfl
theorem vP {a:Str}:∀ {v:List Str},a∈v->inD (.str a) (v.map D.str)=true
 |[],h=>nomatch h
 |x::v,h=>by
  unfold inD;rw[qau,qcc,qfR];rcases qaz.mp h with rfl|h
  ·exact .inl (beq_self_eq_true a)
  ·exact .inr (vP h)
theorem A0 (s:Sto) {a:Str}{v:List Str} (h:a∈v):pF s (.d (.str a)) (.d (.lst (v.map D.str)))=some (.bl false):=by
 show (if bG _=true/\(v.map D.str).all bG=true then some _ else none)=_;rw[iFP ⟨U,oB v⟩,vP h];rfl
theorem tW {n:Nat}{ts:List (List Int)} (a:ts.Sublist (bU n)) (hd:ts.Nodup) (b:(lh n).Nodup):aE ts=ts:=
 wB (oI hd) ((oI b).sublist a) λx=>(aI ts).mem_iff
theorem xo {ts:List (List Int)} (hd:ts.Nodup):ts.map (λt=>ts.idxOf t)=qai ts.length:=by
 refine List.ext_getElem (by rw[qaf,qas]) λi a b=>?_;rw[qc4,qe1];exact hd.idxOf_getElem i _
theorem v7:∀ {P:List Nat},P.Pairwise (·<·)->∀ d∈dG (P.map λk:Nat=>D.int (k:Int)) ((P.drop 1).map λk:Nat=>D.int (k:Int)),∃ a c:Nat,d=.tup [.int (a:Int),.int (c:Int)]/\a<c
 |[],_,d,h=>nomatch h
 |[x],_,d,h=>nomatch h
 |x::y::P,b,d,h=>by
  obtain⟨e,f⟩:=qa4.mp b;rcases qaz.mp (h) with rfl|h
  ·exact⟨x,y,U,e y qag⟩
  ·exact v7 f d h
theorem F4 (ds:List D):f8 ds (some 1) none=ds.drop 1:=by
 unfold f8;rw[show (some 1)=some ((1:Nat):Int) from U,HT.sIx_nat];by_cases h:1<=ds.length
 ·rw[qhX h,qdq (by rw[qfr];exact qao _)]
 ·rw[qhN (by lia),qgy (qao _),qgy (by lia),List.take_nil]
section
variable {n:Nat}{ts:List (List Int)}{st:Sto}{kd:Str}{X:List Int->Int}
theorem yB (hn:n<=2) (h:ts.Sublist (bU n)) (hd:ts.Nodup) {t:List Int} (f:t∈ts):(ts.map rpS).idxOf? (rpS t)=some (ts.idxOf t):=by
 have u:=List.idxOf_lt_length_iff.mpr f;rw[qdk];refine⟨by rw[qaf];exact u,by rw[qc4,List.getElem_idxOf u],λj hj e=>?_⟩;rw[qc4]at e;have o:j<ts.length:=by lia
 have:=DV hn (h.subset (qbR o)) (h.subset f) e
 have h2:=hd.idxOf_getElem j o;lia
theorem xv (hn:n<=2) (h:ts.Sublist (bU n)) (hd:ts.Nodup) (Y:(lh n).Nodup) (u:ts.length<=16):dB [.d (bT kd (aZ (aE ts) X)),.d (.str kd),.d (tsD ts)] st=some (.d (.bl true),st):=by
 rw[tW h hd Y];have l:∀ p∈aZ ts X,p.1∈ts/\p.2≠0:=λp w=>by
  obtain⟨t,f,rfl⟩:=qaM.mp w;obtain⟨a,c⟩:=qbF.mp f;exact⟨a,of_decide_eq_true c⟩
 have pl:(aZ ts X).length<=16:=by
  unfold aZ;rw[qaf];exact qaH (qbG _ _) u
 have Q:((aZ ts X).map λp=>ts.idxOf p.1).Pairwise (·<·):=by
  have e:(aZ ts X).map (λp=>ts.idxOf p.1)=(ts.filter λt=>decide (X t≠0)).map λt=>ts.idxOf t:=by unfold aZ;rw[qaR];rfl
  rw[e];refine qfl (qeI.map _) ?_;rw[xo hd];exact List.pairwise_lt_range
 have J:lcI (.nm 0) aP eL [none] (ts.map ag) st=some ((ts.map rpS).map D.str,st):=by
  rw[qaR];exact kh _ λt f=>⟨_,U,az (ab U U) (qX st hn (h.subset f))⟩
 have k2:lcI (.nm 0) aP eK [none,Z (.lst ((ts.map rpS).map D.str))] ((aZ ts X).map cu) st=some (((aZ ts X).map λp=>ts.idxOf p.1).map λk:Nat=>D.int (k:Int),st):=by
  have em:((aZ ts X).map λp=>ts.idxOf p.1).map (λk:Nat=>D.int (k:Int))=(aZ ts X).map λp=>D.int ((ts.idxOf p.1:Nat):Int):=by rw[qaR];rfl
  rw[em];refine kh _ λp w=>⟨[some _,some _],U,?_⟩;have f:=(l p w).1;have r:aa (iCB cB (aa (iOp dIx (iV 0) (iC (.int 0))) ac)) ac [Z (cu p),Z (.lst ((ts.map rpS).map D.str))] st=some ([.d _],st):=ab (az (ab (ae U U U) U) (qX st hn (h.subset f))) U;have v:iV 1 [Z (cu p),some _] st=some (.d (.lst ((ts.map rpS).map D.str)),st):=rfl;have G:kz ((ts.map rpS).map D.str)=some (ts.map rpS):=by
   generalize ts.map rpS=L
   induction L with
   |nil=>rfl
   |cons x L I=>rw[qau,kz,I];rfl
  show sA (iV 1) _ _ _=_;simp only[sA,v,r,qaa,G];rw[iFP (by rw[qaf];lia),yB hn h hd f];rfl
 obtain⟨C,s',hF,q,rfl,rfl⟩:=a5 (g:=.nm 4) (body:=eR) (ds:=(aZ ts X).map cu) (λi env s=>∃ q,env=[some _,some _,some _,some _,q,none]/\s=st) (env:=[Z (bT kd (aZ ts X)),Z (.str kd),Z (tsD ts),Z (.lst ((ts.map rpS).map D.str)),none,none]) (st:=st) ⟨_,U,U⟩ (by
  rintro i d env s m ⟨q,rfl,rfl⟩
  rw[qav,qad]at m;obtain⟨p,K,rfl⟩:=m;obtain⟨f,V⟩:=l p (qbj K);have B:=A0 s (qaM.mpr ⟨p.1,f,U⟩:rpS p.1∈ts.map rpS);have z:(p.2==0)=false:=by simpa using V
  refine⟨_,_,_,U,.inl (ai (bC (fg (iI (k:=true) (iq (az (ab U (ab U U)) U))) (fg (ap (az (ab U U) U) U U) (ap (az (ab (ae U U U) U) (qX s hn (h.subset f))) U B))) U) (bC (fg (iI (k:=true) (iq (az (ab (ae U U U) (ab U U)) U))) (fg (iq (az (ab (ae U U U) (ab U U)) U)) (ap (ae U U U) U (by rw[du,z])))) U)),_,U,U⟩)
 generalize A:(aZ ts X).map _=P at *;have F:lcI (.tp [0,1]) aP cC [none,none] _ s'=some ((dG _ _).map λ_=>D.bl true,s'):=qw _ λd y=>by
  obtain⟨a,c,rfl,N⟩:=v7 Q d y;refine⟨_,U,ae U U ?_⟩;show some _=_;rw[decide_eq_true (by lia)]
 have S:((dG (P.map λk:Nat=>D.int (k:Int)) ((P.drop 1).map λk:Nat=>D.int (k:Int))).map λ_=>D.bl true)=((dG (P.map λk:Nat=>D.int (k:Int)) ((P.drop 1).map λk:Nat=>D.int (k:Int))).map λ_=>true).map D.bl:=by rw[qaR];rfl
 rw[S]at F;have zl:(dG (P.map λk:Nat=>D.int (k:Int)) ((P.drop 1).map λk:Nat=>D.int (k:Int))).length<=1000000:=by
  rw[nZ,qaf,<-A,qaf];lia
 have T:((dG (P.map λk:Nat=>D.int (k:Int)) ((P.drop 1).map λk:Nat=>D.int (k:Int))).map λ_=>true).all id=true:=by rw[qer];exact qaW.mpr λ_ _=>rfl
 have R:dSl s' (.d (.lst (P.map λk:Nat=>D.int (k:Int)))) (some 1) none=some (.lst ((P.drop 1).map λk:Nat=>D.int (k:Int))):=by
  show some _=_;rw[F4,qie]
 have tl:(ts.map ag).length<=1000000:=by rw[qaf];lia
 have M:((aZ ts X).map cu).length<=1000000:=by rw[qaf];lia
 have E:∀ {e1 e3 e4 e5:Option W},aA (iOp dIx (iV 0) (iC (.int 1))) [Z (bT kd (aZ ts X)),e1,Z (tsD ts),e3,e4,e5] s'=some ((aZ ts X).map cu,s'):=λ{e1 e3 e4 e5}=>be (ae U U U);have O:∀ {e1 e3 e4 e5:Option W},aA (iV 2) [Z (bT kd (aZ ts X)),e1,some _,e3,e4,e5] s'=some (ts.map ag,s'):=λ{e1 e3 e4 e5}=>be U;have H:∀ {e0 e1 e2 e3 e4:Option W},cY (aa (iV 5) (aa (iSl (iV 5) (iPs (iC (.int 1))) iPn) ac)) [e0,e1,e2,e3,e4,Z (.lst (P.map λk:Nat=>D.int (k:Int)))] s'=some (dG _ _,s'):=λ{e0 e1 e2 e3 e4}=>by
  simp only[cY,(ab (a:=iV 5) (b:=aa (iSl (iV 5) (iPs (iC (.int 1))) iPn) ac) (env:=[e0,e1,e2,e3,e4,Z (.lst (P.map λk:Nat=>D.int (k:Int)))]) (st:=s') U (ab (qsl U U U R) U)),qaa];rfl
 have fin:=aC (Fi (a:=aa (av (iLc 2 [] _ _ aP cC)) ac) (env:=[Z (bT kd (aZ ts X)),Z (.str kd),Z (tsD ts),Z (.lst ((ts.map rpS).map D.str)),q,some _]) (ab (aq (aM H zl F)) U));rw[T]at fin;exact ar (n:=6) (k:=3) U (ai (bC (fg (iI (k:=true) (iq (az (ab U (ab U U)) U))) (fg (ap (az (ab U U) U) U U) (fg (iI (k:=true) (iq (az (ab (ae U U U) (ab U U)) U))) (ap (ae U U U) U (u5 _ _))))) U) (ai (bC (iI (k:=true) (iq (az (ab (ae U U U) (ab U U)) U))) U) (ai (ao (i:=3) (aq (aM O tl J))) (ai (a7 E hF) (ai (ao (i:=5) (aq (aM E M k2))) fin)))))
end
end Own
set_option maxHeartbeats 1000000
namespace Own
open PySem L2
open Sx (Pb Tb Good Named Fe LV ZV piv lexP leastR leaveL sumN unit colV basis)
theorem si (fs:List D):bF 0 fs=(qai fs.length).map λr:Nat=>D.tup [.int (r:Int),fs.getD r .non]:=by
 refine qbo λi=>?_;rw[dh,qav];by_cases h:i<fs.length
 ·have e:fs.getD i .non=fs[i]:=by rw[qat,qal h];rfl
  rw[qa6 h,qal h,qan,qan,e,qbh]
 ·rw[qaE (by lia),qaE (by rw[qas];lia)];rfl
theorem yr {l:List Int}{r:Nat} (h:r<l.length):(l.map D.int).getD r .non=.int (l.getD r 0):=by
 rw[qat,qav,qat,qal h];rfl
theorem Gu {x:Int} (h:x=0\/x=1):sz (.int x)=2*x - 1:=by
 rcases h with rfl|rfl<;>rfl
theorem F3 {l:List Int} (h:jc l) {r:Nat} (a:r<l.length):l.getD r 0=0\/l.getD r 0=1:=by
 rw[qat,qal a];exact h _ (qbR a)
theorem zR {l:List Int} (a:jc l) {r:Nat} (b:r<l.length) {s:Sto}{env:Ev}{V R:Ef} (c:V env s=some (.d (.tup (l.map D.int)),s)) (e:R env s=some (.d (.int (r:Int)),s)):iOp jY (iOp aU (iC (.int 2)) (iOp dIx V R)) (iC (.int 1)) env s=some (.d (.int (sz ((l.map D.int).getD r .non))),s):=by
 rw[yr b,Gu (F3 a b)];have hx:dIx s (.d (.tup (l.map D.int))) (.d (.int (r)))=some (.int (l.getD r 0)):=by
  exact cK (by rw[qav,qat,qal b];rfl)
 exact ae (ae U (ae c e hx) (bn _ (dY (by decide)))) U U
section
variable {b:Bool}{ts:List (List Int)}{X:List Int->Int}{w:Nat->Int}{st:Sto}{l:List Int}
theorem xE (h:Spl (l.map D.int) ts) {r:Nat}:fF [.d (bT (aw b) (aZ (aE ts) X)),.d (.int (r:Int))] st=some (.d (.int (vlR b ts (λt=>X (ts.getD t [])) r)),st):=by
 have C:∀ p∈aZ _ X,p.1∈ts:=λp v=>by
  obtain⟨t,E,rfl⟩:=qaM.mp v;exact (aI _).mem_iff.mp (qbF.mp E).1
 have pl:(aZ (aE ts) X).length<=16:=by
  unfold aZ;rw[qaf]
  have:=qbG (λt=>decide (X t≠0)) (aE ts)
  rw[(aI _).length_eq]at this
  have:=h.tl
  lia
 have O:pH st [.d (.lst ((aZ (aE ts) X).map λp=>D.int (p.2*bY b p.1 (r))))]=some (.int (vlR b ts (λt=>X (ts.getD t [])) r)):=by
  have e:((aZ (aE ts) X).map λp=>D.int (p.2*bY b p.1 (r)))=((aZ (aE ts) X).map λp=>p.2*bY b p.1 (r)).map D.int:=by rw[qaR];rfl
  rw[e];show (a8 _).map _=_;rw[bx,qan,yZ X (λt=>bY b t _) ts];rfl
 have ql:((aZ (aE ts) X).map cu).length<=1000000:=by rw[qaf];lia
 exact ar U (aC (az (ab (aq (aM (be (ae U U U)) ql (kh _ λp v=>by
  refine⟨_,U,?_⟩;have e:=sS (st:=st) (b:=b) (row:=(r)) (by lia) (h.tt _ (C p v)).1 (by have:=(h.tt _ (C p v)).2;lia)
  exact ae U (aj (ab (ae U U U) (ab U (ab U U))) e) (bn _ (dZ (by have:=wI b p.1 (r);lia)))))) U) O))
theorem zM (h:Spl (l.map D.int) ts) (n:jc l) (S:oV (l.map D.int) b ts X w) (hz:∀ r,r<(l.map D.int).length->w r=0):b7 [.d (bT (aw b) (aZ (aE ts) X)),.d (.tup (l.map D.int))] st=some (.d (.bl true),st):=by
 have z:=h.fl;have u:(l.map D.int).length=l.length:=qaf ..;have H:lcI (.tp [0,1]) cx ck [none,none] (bF 0 (l.map D.int)) st=some ((qai l.length).map λr:Nat=>D.int (r),st):=by
  rw[si,u]
  have:=jD (tg:=.tp [0,1]) (tt:=cx) (te:=ck) (env:=[none,none]) (st:=st) (g:=λr:Nat=>D.tup [.int (r),(l.map D.int).getD r .non]) _ (λ_=>true) λr f=>by
   rw[yr (qaI.mp f)];exact⟨_,U,U,U⟩
  rw[this,qeJ.mpr λ_ _=>rfl]
 have k2:lcI (.nm 0) aP cj [none,Z (bT (aw b) (aZ (aE ts) X)),Z (.tup (l.map D.int))] ((qai l.length).map λr:Nat=>D.int (r)) st=some (((qai l.length).map λ_=>true).map D.bl,st):=by
  have em:((qai l.length).map λ_=>true).map D.bl=(qai l.length).map λ_=>D.bl true:=by rw[qaR];rfl
  rw[em];refine kh _ λr f=>⟨_,U,?_⟩;have j:=qaI.mp f;have o:r<(l.map D.int).length:=by rw[u];exact j
  obtain⟨p1,Y⟩:=zU h S o;have pos:0<vlR b ts (λt=>X (ts.getD t [])) r*sz ((l.map D.int).getD r .non):=by
   rw[qaT];rcases qdX p1 with q|q
   ·exact q
   ·exact absurd (hz r o) (Y ((λr f e=>by rw[yr f]at e;cases e) r j) q.symm)
  refine ae (ae (aj (ab U (ab U U)) (xE (st:=st) (b:=b) (X:=X) h (r:=r))) (zR n j U U) (bn _ (dZ (by
   rcases sz3 (zV h o) with q|q|q<;>rw[q]<;>decide)))) rfl ?_
  show some _=_;rw[decide_eq_true pos]
 have rl:((qai l.length).map λr:Nat=>D.int (r)).length<=1000000:=by rw[qaf,qas];lia
 have K:(bF 0 (l.map D.int)).length<=1000000:=by rw[mF];lia
 have ta:((qai l.length).map λ_=>true).all id=true:=by rw[qer];exact qaW.mpr λ_ _=>rfl
 have fin:=aC (Fi (a:=aa (av (iLc 1 [0,1] (aA (iV 2)) _ aP cj)) ac) (env:=[some _,some _,some _]) (ab (aq (aM (aR U) rl k2)) U));rw[ta]at fin;exact ar U (ai (ao (aq (aM U K H))) fin)
theorem sk {g w:Nat->Int}:∀ N:Nat,(∀ r,r<N->0<=w r/\(w r=0->g r=0))->(((qai N).filter λr=>decide (0<w r)).map g).sum=sumN N g
 |0,_=>rfl
 |N+1,h=>by
  obtain⟨a,c⟩:=h N (by lia);rw[qdG,qe2,qbw,qhP,(sk N λr f=>h r (by lia)),qbI];by_cases q:0<w N
  ·rw[iFP (decide_eq_true q)]
   show sumN N g+(g N+0)=sumN N g+g N;lia
  ·rw[iFN (by simpa using q)]
   show sumN N g+0=sumN N g+g N;lia
theorem yF (h:Spl (l.map D.int) ts) (n:jc l) (S:oV (l.map D.int) b ts X w) (hz:∃ r,r<(l.map D.int).length/\w r≠0):cM [.d (.tup (l.map D.int)),.d (.str (aw b)),.d (tsD ts),.d (.tup (mpI (l.map D.int).length w))] st=some (.d (.bl true),st):=by
 have z:=h.fl;have u:(l.map D.int).length=l.length:=qaf ..;have w0:=λr f=>(S.w0 r (by rw[u];exact f)).1;have bal:=zT h S;unfold xZ at bal;obtain⟨r0,m,hw0⟩:=hz;rw[u]at m;rw[u]at bal z ⊢
 -- the weights themselves
 obtain⟨Q,s1,I,B,y,rfl,rfl⟩:=a5 (g:=.tp [4,5]) (body:=fQ) (ds:=dG (l.map D.int) (mpI l.length w)) (λi env s=>∃ B y,env=[Z (.tup (l.map D.int)),Z (.str (aw b)),Z (tsD ts),some _,B,y,none,none]/\s=st) (env:=[Z (.tup (l.map D.int)),Z (.str (aw b)),Z (tsD ts),Z (.tup (mpI l.length w)),none,none,none,none]) (st:=st) ⟨_,_,U,U⟩ (by
  rintro i d env s hd ⟨B,y,rfl,rfl⟩
  rw[fm,qab]at hd;obtain⟨d1,A,hd⟩:=hd;obtain⟨d2,G,rfl⟩:=qad.mp hd;rw[qav,qad]at A;obtain⟨x,hx,rfl⟩:=A;obtain⟨hi,rfl⟩:=kj G;refine⟨_,_,_,U,.inl (bC (fg (iI (k:=true) (iq (az (ab U (ab U U)) U))) (fg (iq (k:=false) (az (ab U (ab U U)) U)) (fg (ap (k:=false) U U ?_) (zD (ap U U U))))) U),_,_,U,U⟩;show some (D.bl (decide (w i<0)))=_
  rw[(decide_eq_false (by have:=w0 i hi;lia))])
 -- the rows with a F
 have k6:lcI (.tp [0,1]) fV fO [none,none] (bF 0 (mpI l.length w)) s1=some (((qai l.length).filter λr=>decide (0<w r)).map λr:Nat=>D.int (r:Int),s1):=by
  rw[si,aB];refine jD _ (λr=>decide (0<w r)) λr f=>?_;have g:(mpI l.length w).getD r .non=.int (w r):=by rw[qat,bf (qaI.mp f)];rfl
  rw[g];exact⟨_,U,U,U⟩
 -- the sums
 obtain⟨T,s2,P,M,rfl,rfl⟩:=a5 (g:=.nm 7) (body:=fP) (ds:=ts.map ag) (λi env s=>∃ M,env=[Z (.tup (l.map D.int)),Z (.str (aw b)),Z (tsD ts),some _,B,y,some _,M]/\s=s1) (env:=[Z (.tup (l.map D.int)),Z (.str (aw b)),Z (tsD ts),Z (.tup (mpI l.length w)),B,y,some _,none]) (st:=s1) ⟨_,U,U⟩ (by
  rintro i d env s hd ⟨M,rfl,rfl⟩
  rw[qav,qad]at hd;obtain⟨t,W,rfl⟩:=hd;have E:=qbj W;have O:pH s [.d (.lst (((qai l.length).filter λr=>decide (0<w r)).map λr=>D.int (w r*sz ((l.map D.int).getD r .non)*bY b t (r))))]=some (.int 0):=by
   have e:(((qai l.length).filter λr=>decide (0<w r)).map λr=>D.int (w r*sz ((l.map D.int).getD r .non)*bY b t (r)))=(((qai l.length).filter λr=>decide (0<w r)).map λr=>w r*sz ((l.map D.int).getD r .non)*bY b t (r)).map D.int:=by rw[qaR];rfl
   rw[e];show (a8 _).map _=_;rw[bx,qan,sk l.length λr f=>⟨w0 r f,λq=>by rw[q,qbs,qbs]⟩,bal t E]
  have zl:(((qai l.length).filter λr=>decide (0<w r)).map λr:Nat=>D.int (r)).length<=1000000:=by
   rw[qaf]
   have:=qbG (λr=>decide (0<w r)) (qai l.length)
   rw[qas]at this;lia
  exact⟨_,_,_,U,.inl (bC (ap (az (ab (aq (aM (aR U) zl (kh (g:=λr:Nat=>D.int (r:Int)) _ λr f=>by
   have j:=qaI.mp (qbF.mp f).1;refine⟨_,U,?_⟩;have e:=sS (st:=s) (b:=b) (t:=t) (row:=(r:Int)) (by lia) (h.tt t E).1 (by have:=(h.tt t E).2;lia);have sg:=zR (s:=s) (env:=[Z (.int (r:Int)),Z (.tup (mpI l.length w)),Z (.tup (l.map D.int)),Z (.str (aw b)),Z (ag t)]) (V:=iV 2) (R:=iV 0) n j U U;have hx:dIx s (.d (.tup (mpI l.length w))) (.d (.int (r:Int)))=some (.int (w r)):=cK (bf j);have H:qbP (w r) (sz ((l.map D.int).getD r .non)):=dZ (by rcases sz3 ((λr f=>zV h (by rw[u];exact f)) r j) with q|q|q<;>rw[q]<;>decide)
   exact ae (ae (ae U U hx) sg (bn _ H)) (aj (ab U (ab U (ab U U))) e) (bn _ (dZ (by have:=wI b t (r:Nat);lia)))))) U) O) U (Cb _ 0 0)) U),_,U,U⟩)
 have J:dNe s2 (.d (.lst (((qai l.length).filter λr=>decide (0<w r)).map λr:Nat=>D.int (r)))) (.d (.lst []))=some (.bl true):=by
  have v:0<(((qai l.length).filter λr=>decide (0<w r)).map λr:Nat=>D.int (r)).length:=by
   rw[qaf];exact List.length_pos_of_mem (qbF.mpr ⟨qaI.mpr m,decide_eq_true (by have:=w0 r0 m;lia)⟩)
  generalize (((qai l.length).filter λr=>decide (0<w r)).map λr=>D.int _)=L at *;cases L with
  |nil=>exact absurd v (qa3 _)
  |cons x L=>rfl
 have K:(bF 0 (mpI l.length w)).length<=1000000:=by rw[mF,aB];lia
 exact ar U (ai (bC (fg (iI (k:=true) (iq (az (ab U (ab U U)) U))) (ap (az (ab U U) (by show some (D.int _)=_;rw[aB])) (az (ab U U) (by show some (D.int _)=_;rw[qaf])) (by rw[Cb,beq_self_eq_true];rfl))) U) (ai (a7 U I) (ai (ao (aq (aM U K k6))) (ai (a7 (be U) P) (aC (ae U U J))))))
end
end Own
set_option maxHeartbeats 1000000
namespace Own
open PySem L2
open Sx (Pb Tb Good Named Fe LV ZV piv lexP leastR leaveL sumN unit colV basis)
def nzW (n:Nat) (w:Nat->Int):Bool:=((qai n).map w).any λx=>decide (x≠0)
theorem qD {n:Nat}{w:Nat->Int}:nzW n w=false↔∀ r,r<n->w r=0:=by
 unfold nzW;rw[qfe];constructor
 ·intro h r a
  have:=h _ (qaM.mpr ⟨r,qaI.mpr a,U⟩)
  exact qcg λq=>this (decide_eq_true q)
 ·intro h x hx
  obtain⟨r,a,rfl⟩:=qaM.mp hx;rw[h r (qaI.mp a)];decide
theorem Es (s:Sto) (n:Nat) (w:Nat->Int):CM s [.d (.tup (mpI n w))]=some (.bl (nzW n w)):=by
 rw[bH];show (a8 _).map _=_;rw[bx];rfl
section
variable {fs:List D}{b:Bool}{ts:List (List Int)}
theorem nL (h:Spl fs ts):∃ X w,oV fs b ts X w/\cI b ts fs=!nzW fs.length w/\∀ st:Sto,∃ u,eV [.d (.tup fs),.d (.str (aw b)),.d (tsD ts)] st=some (.d (if cI b ts fs=true then .tup [.str "poly",bT (aw b) (aZ (aE ts) X)] else .tup [.str "bar",.tup (mpI fs.length w)]),st++u):=by
 obtain⟨X,w,S,a⟩:=zW h;have c:cI b ts fs=!nzW fs.length w:=by
  have:=FQ h S
  cases q:nzW fs.length w with
  |false=>exact nQ.mpr (this.mp (qD.mp q))
  |true=>exact Bool.eq_false_iff.mpr λt=>by rw[qD.mpr (this.mpr (nQ.mp t))]at q;cases q
 refine⟨X,w,S,c,λst=>?_⟩;obtain⟨u,e⟩:=a st;have f:=Es (st++u) fs.length w;refine⟨u,?_⟩;rw[c];generalize nzW fs.length w=z at *;cases z with
 |true=>exact ar U (ai (ao (aj U e)) (fj (cT (iq (az (ab (ae U U (mX _ _ _)) U) f)) U)))
 |false=>exact ar U (ai (ao (aj U e)) (ai (bC (iq (az (ab (ae U U (mX _ _ _)) U) f)) U) U))
theorem xR (h:Spl fs ts):∀ st:Sto,∃ u A,eV [.d (.tup fs),.d (.str (aw b)),.d (tsD ts)] st=some (.d (.tup [.str (if cI b ts fs=true then "poly" else "bar"),A]),st++u):=λst=>by
 obtain⟨X,w,S,c,a⟩:=nL h;obtain⟨u,e⟩:=a st;cases q:cI b ts fs with
 |true=>rw[q]at e;exact⟨u,_,e⟩
 |false=>rw[q]at e;exact⟨u,_,e⟩
end
theorem fD:∀ n:Nat,(lh n).Nodup
 |0=>by simp[lh]
 |n+1=>by
  rw[lh,qcx];refine⟨fD n,?_,?_⟩
  ·refine qiA _ (λa b c=>?_) (fD n)
   intro e;exact c (List.append_cancel_right e)
  ·intro a d b hb e
   subst e;obtain⟨t,_,rfl⟩:=qaM.mp hb
   have:=(gh n d).2 _ (qay _ (qam.mpr U))
   lia
theorem oz {fs:List D}{ts:List (List Int)}{n:Nat} (c:n<=4) (fl:fs.length=2^n) (fv:∀ u∈fs,rA u) (a:ts.Sublist (bU n)):Spl fs ts:=by
 have e:2^n<=16:=qaH (qaY (by decide) c) (by decide);refine⟨by lia,fv,?_,λt b=>?_,((aI _).nodup_iff.mpr (fD _)).sublist a⟩
 ·have:=a.length_le
  rw[rE]at this;lia
 ·have hm:=gh _ ((aI _).mem_iff.mp (a.subset b))
  have f:=wF hm;exact⟨λk d=>by have:=hm.2 k d;lia,by lia⟩
theorem BD (N k:Nat) (h:k<=N) (hN:N<1000) (s:Sto):aU s (.d (.tup [.non])) (.d (.int ((N:Int) - (k:Int))))=some (.tup (qaD (N - k) .non)):=by
 have e:((N) - (k:Int)).toNat=N - k:=by lia
 show (if [D.non]≠[]/\[D.non].length<=1000/\0<=_/\_<1000 then some _ else none)=_;rw[iFP ⟨by simp,by decide,by lia,by lia⟩,e];refine congrArg (λz=>some _) ?_;generalize N - k=j
 induction j with
 |zero=>rfl
 |succ j a=>rw[qc7,qfc,a];rfl
section
variable {b:Bool}{ts:List (List Int)}{n:Nat}
theorem sq (hn:n<=2) (h:ts.Sublist (bU n)) {l:List Int} (f:l.length<=2^n) (c:jc l) (st:Sto):∃ u,cf [.d (ag l),.d (.int ((2^n:Nat):Int)),.d (.str (aw b)),.d (tsD ts)] st=some (.d (.bl (cI b ts (b5 (2^n) l))),st++u):=by
 have N4:2^n<=4:=qaH (qaY (by decide) hn) (by decide);obtain⟨u,A,e⟩:=xR (oz (by lia) (qR f) (Cg c) h) st;refine⟨u,?_⟩;have a:aT st [.d (ag l)]=some (.int (l.length)):=by
  show some (D.int _)=_;rw[qaf]
 have g:aV st _ _=some (.tup (b5 (2^n) l)):=mh st (by rw[qaf,qb3];lia);generalize b5 _ l=F at *;have q:dEq (st++u) (.d (.str (if cI b ts F=true then "poly" else "bar"))) (.d (.str "poly"))=some (.bl (cI b ts F)):=by
  cases cI b ts F<;>rfl
 exact ar U (aC (ae (ae (aj (ab (ae U (ae (bE (ab U U) U (by decide)) (ae U (az (ab U U) a) U) (BD _ l.length f (by lia) st)) g) (ab U (ab U U))) e) U U) U q))
end
theorem lgm (B u:Sto) (ds:List D):lg (B++.l ds::u) B.length=some ds:=by unfold lg;simp
theorem stm (B u:Sto) (c a:C):(B++c::u).set B.length a=B++a::u:=by simp
theorem lga {s:Sto}{n:Nat}{ds:List D} (h:lg s n=some ds) (u:Sto):lg (s++u) n=some ds:=by
 have a:=qz h;unfold lg;rw[qaB ((qap.mp a).1),a]
theorem Df {tt:Tf}{te:Ef}{l:Ev}{a c:List Int}{s s1 e:Sto}{f:List Int->Bool} (b:tt (Z (ag a)::l) s=some (f a,s1)) (g:tt (Z (ag c)::l) s1=some (f c,e)) (h:∀ d s,te (Z d::l) s=some (.d d,s)):lcI (.nm 0) tt te (none::l) [ag a,ag c] s=some (([a,c].filter f).map ag,e):=by
 rw[qbI,qbI];have st:∀ d ,cw (.nm 0) _ (none::l)=some (Z d::l):=λd=>rfl;cases e1:f a<;>cases e2:f c<;>rw[e1]at b<;>rw[e2]at g<;>simp only[lcI,st,b,g,h,qaa,og,qan,if_true,if_false,qbq]<;>rfl
theorem Fj {o a:Ef}{env:Ev}{st s1 c:Sto}{n:Nat}{xs e ds:List D} (f:o env st=some (.h n,s1)) (g:a env s1=some (.d (.lst xs),c)) (i:lg s1 n=some e) (hg:lg c n=some ds) (hz:ds.length+xs.length<=1000000):cy (cR nj o (aa a ac)) env st=some (.nx env (c.set n (.l (ds++xs)))):=by
 simp only[cy,cR,f,(ab (b:=ac) g U),i,hg,nj,hz,if_true,qaa,qan]
def jb (w:W) (s:Sto) (L:List (List Int)):Prop:=w=.d (.lst (L.map ag))\/∃ h,w=.h h/\lg s h=some (L.map ag)
theorem gN:∀ i,(bB i).length=2^i
 |0=>rfl
 |i+1=>by
  rw[bB,List.length_flatMap,qjr,<-gN i];generalize bB i=L
  induction L with
  |nil=>rfl
  |cons l L a=>
   rw[qau,qcb,a];show 2+L.length*2=(L.length+1)*2;lia
section
variable {b:Bool}{ts:List (List Int)}{n:Nat}
theorem yt {N i:Nat}{l:List Int} (h:l∈fnd b ts N i):l.length=i/\jc l:=(eI i).mp (qbF.mp h).1
theorem vC {i:Nat} (N:Nat) (hi:i<=4):(fnd b ts N i).length<=16:=by
 have:=qbG (λl=>cI b ts (b5 N l)) (bB i)
 rw[gN]at this;have h2:2^i<=16:=qaH (qaY (by decide) hi) (by decide);unfold fnd;lia
theorem Ar (hn:n<=2) (A:ts.Sublist (bU n)) {l:List Int} (v:l.length<2^n) (u:jc l) {acc:List (List Int)} (ha:acc.length<=100) {B Uu:Sto}{e0 e4 e5 e8:Option W}:∃ Uu' c,cc [e0,Z (.str (aw b)),Z (tsD ts),Z (.int ((2^n:Nat):Int)),e4,e5,some (.h B.length),Z (ag l),e8] (B++.l (acc.map ag)::Uu)=some (.nx [e0,Z (.str (aw b)),Z (tsD ts),Z (.int ((2^n:Nat):Int)),e4,e5,some (.h B.length),Z (ag l),c] (B++.l ((acc++[l++[0],l++[1]].filter λl=>cI b ts (b5 (2^n) l)).map ag)::Uu')):=by
 have N4:2^n<=4:=qaH (qaY (by decide) hn) (by decide)
 have more:∀ x:Int,x=0\/x=1->(l++[x]).length<=2^n/\jc (l++[x]):=λx hx=>⟨by rw[qaw];exact v,λy hy=>by
  rcases qaQ.mp hy with q|q
  ·exact u y q
  ·rw[qam.mp q];exact hx⟩
 obtain⟨C,f1⟩:=sq (b:=b) hn A (more 0 (.inl U)).1 (more 0 (.inl U)).2 (B++.l (acc.map ag)::Uu);obtain⟨J,Y⟩:=sq (b:=b) hn A (more 1 (.inr U)).1 (more 1 (.inr U)).2 (B++.l (acc.map ag)::Uu++C);have R:∀ x:Int,ag (l++[x])=.tup (l.map D.int++[.int x]):=λx=>by unfold ag;rw[qbw];rfl
 have I:(l.map D.int).length+1<=1000000:=by rw[qaf];lia
 have z:∀ (x:Int) (s:Sto),aV s (.d (ag l)) (.d (.tup [.int x]))=some (ag (l++[x])):=λx s=>by rw[R];exact mh s I
 have fl2:([l++[0],l++[1]].filter λl=>cI b ts (b5 (2^n) l)).length<=2:=qbG _ _;have M:lcI (.nm 0) i9 iT [none,Z (.int ((2^n:Nat):Int)),Z (.str (aw b)),Z (tsD ts)] [ag (l++[0]),ag (l++[1])] (B++.l (acc.map ag)::Uu)=some (([l++[0],l++[1]].filter λl=>cI b ts (b5 (2^n) l)).map ag,B++.l (acc.map ag)::Uu++C++J):=by
  have t1:=iq (aj (a:=aa (iV 0) (aa (iV 1) (aa (iV 2) (aa (iV 3) ac)))) (env:=[Z (ag (l++[0])),Z (.int ((2^n:Nat):Int)),Z (.str (aw b)),Z (tsD ts)]) (ab U (ab U (ab U (ab U U)))) f1);have t2:=iq (aj (a:=aa (iV 0) (aa (iV 1) (aa (iV 2) (aa (iV 3) ac)))) (env:=[Z (ag (l++[1])),Z (.int ((2^n:Nat):Int)),Z (.str (aw b)),Z (tsD ts)]) (ab U (ab U (ab U (ab U U)))) Y);exact Df (f:=λl=>cI b ts (b5 (2^n) l)) t1 t2 λd s=>rfl
 have e1:B++.l (acc.map ag)::Uu++C++J=B++.l (acc.map ag)::(Uu++C++J):=by simp only[qbJ,qci]
 refine⟨Uu++C++J,Z (.tup [ag (l++[0]),ag (l++[1])]),?_⟩;have hx:=Fj (o:=iV 6) (a:=av (iLc 1 [3,1,2] (aA (iV 8)) (.nm 0) i9 iT)) (env:=[e0,Z (.str (aw b)),Z (tsD ts),Z (.int ((2^n:Nat):Int)),e4,e5,some (.h B.length),Z (ag l),Z (.tup [ag (l++[0]),ag (l++[1])])]) U (aq (aM (be U) (by show 2<=1000000;decide) M)) (lgm _ _ _) (by rw[e1];exact lgm _ _ _) (by rw[qaf,qaf];lia);rw[e1,stm]at hx;rw[qbw];exact ai (ao (i:=8) (bE (ds:=[ag (l++[0]),ag (l++[1])]) (ab (ae U (bE (ds:=[.int 0]) U U (by decide)) (z 0 _)) (ab (ae U (bE (ds:=[.int 1]) U U (by decide)) (z 1 _)) U)) U (by show 2<=1000;decide))) hx
theorem vA {L:List (List Int)}{i:Nat} (h:i<L.length) (G:List Int->List (List Int)):(L.take (i+1)).flatMap G=(L.take i).flatMap G++G L[i]:=by
 rw[qdn h,List.flatMap_append];simp
theorem ur {G:List Int->List (List Int)} (E:∀ l,(G l).length<=2):∀ L:List (List Int),(L.flatMap G).length<=2*L.length
 |[]=>qao _
 |l::L=>by
  have:=ur E L
  have:=E l
  rw[qfd,qaw,qaq];lia
theorem yQ (hn:n<=2) (A:ts.Sublist (bU n)) {i:Nat} (hi:i<2^n) {s:Sto}{w:W} (hw:jb w s (fnd b ts (2^n) i)) {e0 e5 e6 e7 e8:Option W}:∃ Uu K H m c,iX [e0,Z (.str (aw b)),Z (tsD ts),Z (.int ((2^n:Nat):Int)),some w,e5,e6,e7,e8] s=some (.nx [e0,Z (.str (aw b)),Z (tsD ts),Z (.int ((2^n:Nat):Int)),some K,e5,H,m,c] (s++Uu))/\jb K (s++Uu) (fnd b ts (2^n) (i+1)):=by
 have N4:2^n<=4:=qaH (qaY (by decide) hn) (by decide);have L16:=vC (b:=b) (ts:=ts) (2^n) (show i<=4 by lia);have P:∀ l∈fnd b ts (2^n) i,l.length=i/\jc l:=λl h=>yt h;rw[yu b ts hi];generalize fnd b ts (2^n) i=L at *;generalize E:(λl:List Int=>[l++[0],l++[1]].filter λl=>cI b ts (b5 (2^n) l))=G;have Q:∀ l,(G l).length<=2:=λl=>by rw[<-E];exact qbG _ _
 have new:aD (.nm 6) (bV (bj ac)) [e0,Z (.str (aw b)),Z (tsD ts),Z (.int ((2^n:Nat):Int)),some w,e5,e6,e7,e8] s=some (.nx [e0,Z (.str (aw b)),Z (tsD ts),Z (.int ((2^n:Nat):Int)),some w,e5,some (.h s.length),e7,e8] (s++[.l []])):=rfl;have step:∀ i d env st,(L.map ag)[i]?=some d->(∃ Uu e7 e8,env=[e0,Z (.str (aw b)),Z (tsD ts),Z (.int ((2^n:Nat):Int)),some w,e5,some (.h s.length),e7,e8]/\st=s++.l (((L.take i).flatMap G).map ag)::Uu)->∃ z a2 O,cw (.nm 7) (.d d) env=some z/\(cc z st=some (.nx a2 O)\/cc z st=some (.ct a2 O))/\∃ Uu e7 e8,a2=[e0,Z (.str (aw b)),Z (tsD ts),Z (.int ((2^n:Nat):Int)),some w,e5,some (.h s.length),e7,e8]/\O=s++.l (((L.take (i+1)).flatMap G).map ag)::Uu:=by
  rintro j d env st hd ⟨Uu,e7,e8,rfl,rfl⟩
  rw[qav,qad]at hd;obtain⟨l,I,rfl⟩:=hd;obtain⟨hj,T⟩:=qap.mp I;obtain⟨v,u⟩:=P l (qbj I);have F:((L.take j).flatMap G).length<=100:=by
   have:=ur Q (L.take j)
   rw[qch]at this;lia
  obtain⟨Uu',c,e⟩:=Ar (b:=b) hn A (l:=l) (by lia) u (acc:=(L.take j).flatMap G) F (B:=s) (Uu:=Uu) (e0:=e0) (e4:=some w) (e5:=e5) (e8:=e8);have eG:([l++[0],l++[1]].filter λl=>cI b ts (b5 (2^n) l))=G L[j]:=by rw[<-E,T]
  rw[eG,<-vA hj G]at e;exact⟨_,_,_,U,.inl e,Uu',_,_,U,U⟩
 have fin:∃ Uu m c,kJ (iV 4) (.nm 7) cc [e0,Z (.str (aw b)),Z (tsD ts),Z (.int ((2^n:Nat):Int)),some w,e5,some (.h s.length),e7,e8] (s++[.l []])=some (.nx [e0,Z (.str (aw b)),Z (tsD ts),Z (.int ((2^n:Nat):Int)),some w,e5,some (.h s.length),m,c] (s++.l ((L.flatMap G).map ag)::Uu)):=by
  rcases hw with rfl|⟨h,rfl,v⟩
  ·obtain⟨t,s',p,Uu,m,c,rfl,rfl⟩:=a5 (g:=.nm 7) (body:=cc) (ds:=L.map ag) (λi env st=>∃ Uu e7 e8,env=[e0,Z (.str (aw b)),Z (tsD ts),Z (.int ((2^n:Nat):Int)),Z (.lst (L.map ag)),e5,some (.h s.length),e7,e8]/\st=s++.l (((L.take i).flatMap G).map ag)::Uu) (env:=[e0,Z (.str (aw b)),Z (tsD ts),Z (.int ((2^n:Nat):Int)),Z (.lst (L.map ag)),e5,some (.h s.length),e7,e8]) (st:=s++[.l []]) ⟨[],e7,e8,U,U⟩ step
   rw[qaf,qb8]at p;exact⟨Uu,m,c,p⟩
  ·obtain⟨t,s',p,Uu,m,c,rfl,rfl⟩:=mH (n:=h) (all:=L.map ag) (g:=.nm 7) (body:=cc) (ds:=L.map ag) (λi env st=>∃ Uu e7 e8,env=[e0,Z (.str (aw b)),Z (tsD ts),Z (.int ((2 ^ n:Nat):Int)),some (.h h),e5,some (.h s.length),e7,e8]/\st=s++.l (((L.take i).flatMap G).map ag)::Uu) (env:=[e0,Z (.str (aw b)),Z (tsD ts),Z (.int ((2 ^ n:Nat):Int)),some (.h h),e5,some (.h s.length),e7,e8]) (st:=s++[.l []]) ⟨[],e7,e8,U,U⟩ (by
    rintro i env st ⟨Uu,e7,e8,rfl,rfl⟩
    exact lga v _) step
   rw[qaf,qb8]at p;refine⟨Uu,m,c,?_⟩;have h4:iV 4 [e0,Z (.str (aw b)),Z (tsD ts),Z (.int ((2^n:Nat):Int)),some (W.h h),e5,some (.h s.length),e7,e8] (s++[.l []])=some (.h h,s++[.l []]):=rfl;simp only[kJ,h4,qaa,lga v];exact p
 obtain⟨Uu,m,c,p⟩:=fin;refine⟨.l ((L.flatMap G).map ag)::Uu,.h s.length,some (.h s.length),m,c,ai new (ai p (ao (i:=4) U)),.inr ⟨_,U,lgm _ _ _⟩⟩
theorem xB (hn:n<=2) (A:ts.Sublist (bU n)) (st:Sto):jF [.d (.int (n:Int)),.d (.str (aw b)),.d (tsD ts)] st=some (.d (.tup ((fnd b ts (2^n) (2^n)).map ag)),st):=by
 have N4:2^n<=4:=qaH (qaY (by decide) hn) (by decide);have e2:=tJ (st:=st) (k:=(n:Int)) (by lia) (by lia);have ep:(2:Int)^(n:Int).toNat=((2^n:Nat):Int):=by rw[qa7];push_cast;rfl
 rw[ep]at e2;have X:fnd b ts (2^n) 0=[[]]:=by
  unfold fnd;rw[bB,qbI]
  have:cI b ts (b5 (2^n) [])=true:=nQ.mpr ⟨λ_=>0,λr hr hx=>absurd (zr (qbA _)) hx⟩
  rw[this];rfl
 obtain⟨t,s',p,Uu,w,e5,e6,e7,e8,rfl,rfl,hw⟩:=a5 (g:=.nm 5) (body:=iX) (ds:=cU 0 (2^n)) (λi env s=>∃ Uu w e5 e6 e7 e8,env=[Z (.int (n:Int)),Z (.str (aw b)),Z (tsD ts),Z (.int ((2^n:Nat):Int)),some w,e5,e6,e7,e8]/\s=st++Uu/\jb w s (fnd b ts (2^n) i))
  (env:=[Z (.int (n:Int)),Z (.str (aw b)),Z (tsD ts),Z (.int ((2 ^ n:Nat):Int)),Z (.lst [.tup []]),none,none,none,none]) (st:=st) ⟨[],_,_,_,_,_,U,(qbH _).symm,.inl (by rw [X];rfl)⟩ (by
  rintro i d env s hd ⟨Uu,w,e5,e6,e7,e8,rfl,rfl,hw⟩
  obtain⟨rfl,hi⟩:=qW hd;obtain⟨Uu',K,H,m,c,e,S⟩:=yQ hn A hi hw (e0:=some (.d (.int (n:Int)))) (e5:=some (.d (.int (i:Int)))) (e6:=e6) (e7:=e7) (e8:=e8)
  exact⟨_,_,_,U,.inl e,Uu++Uu',K,_,_,_,_,U,qbJ _ _ _,S⟩)
 rw[gF]at hw;have ht:dH (st++Uu) [w]=some (.tup ((fnd b ts (2^n) (2^n)).map ag)):=by
  rcases hw with rfl|⟨h,rfl,v⟩
  ·rfl
  ·show (lg _ _).map _=_
   rw[v];rfl
 have V:(0:Int)<=((2^n:Nat):Int)/\((2^n:Nat):Int)<=1000:=by lia
 have q:=gC (n:=9) (k:=3) (b:=rM) (ws:=[.d (.int (n:Int)),.d (.str (aw b)),.d (tsD ts)]) (st:=st) U (ai (ao (i:=3) (aj (ab U U) e2)) (ai (ao (i:=4) (aq (jP (ds:=[.tup []]) (ab (bE U U (by decide)) U) U (by decide)))) (ai (a7 (i8 U V.1 V.2 (qa7 _)) p) (aC (az (ab U U) ht)))));rw[qcI]at q;exact q
end
theorem FB (s:Sto):∀ {n:Nat},n<=2->Az s (.d (.int 1)) (.d (.int (n:Int)))=some (.int ((2^n:Nat):Int))
 |0,_=>rfl
 |1,_=>rfl
 |2,_=>rfl
theorem AD {n:Nat} (hn:n<=2) (st:Sto):cF [.d (.int (n:Int))] st=some (.d (.lst ((bB (2^n)).map ag)),st):=by
 have N4:2^n<=4:=qaH (qaY (by decide) hn) (by decide);have A:∀ (l:List Int) (x:Int),ag (l++[x])=.tup (l.map D.int++[.int x]):=λl x=>by unfold ag;rw[qbw];rfl
 -- one c
 have c:∀ {i:Nat}{s:Sto}{w:W}{e0 e2 e3 e4:Option W},i<4->jb w s (bB i)->∃ C q b,cb [e0,some w,e2,e3,e4] s=some (.nx [e0,some C,e2,q,b] (s++[.l ((bB (i+1)).map ag)]))/\C=.h s.length:=by
  intro i s w e0 e2 e3 e4 hi hw;have v:∀ l∈bB i,l.length=i:=λl h=>((eI i).mp h).1;have N:(bB i).length<=8:=by
   rw[gN];exact qaH (qaY (by decide) (show i<=3 by lia)) (by decide)
  rw[bB];generalize bB i=L at *;generalize H:(λl:List Int=>[l++[0],l++[1]])=G;have z:∀ l,(G l).length<=2:=λl=>by rw[<-H];exact qao 2
  have new:aD (.nm 3) (bV (bj ac)) [e0,some w,e2,e3,e4] s=some (.nx [e0,some w,e2,some (.h s.length),e4] (s++[.l []])):=rfl;have step:∀ i d env st,(L.map ag)[i]?=some d->(∃ e4,env=[e0,some w,e2,some (.h s.length),e4]/\st=s++[.l (((L.take i).flatMap G).map ag)])->∃ p a2 u,cw (.nm 4) (.d d) env=some p/\(a6 p st=some (.nx a2 u)\/a6 p st=some (.ct a2 u))/\∃ e4,a2=[e0,some w,e2,some (.h s.length),e4]/\u=s++[.l (((L.take (i+1)).flatMap G).map ag)]:=by
   rintro j d env st hd ⟨e4,rfl,rfl⟩
   rw[qav,qad]at hd;obtain⟨l,E,rfl⟩:=hd;obtain⟨J,B⟩:=qap.mp E;have m:=v l (qbj E);have t:(l.map D.int).length+1<=1000000:=by rw[qaf];lia
   have p:∀ (x:Int) (s:Sto),aV s (.d (ag l)) (.d (.tup [.int x]))=some (ag (l++[x])):=λx s=>by rw[A];exact mh s t
   have hx:=Fj (o:=iV 3) (a:=av (bj (aa (iOp aV (iV 4) (aY (aa (iC (.int 0)) ac))) (aa (iOp aV (iV 4) (aY (aa (iC (.int 1)) ac))) ac)))) (env:=[e0,some w,e2,some (.h s.length),Z (ag l)]) U (aq (jP (ds:=[ag (l++[0]),ag (l++[1])]) (ab (ae U (bE (ds:=[.int 0]) U U (by decide)) (p 0 _)) (ab (ae U (bE (ds:=[.int 1]) U U (by decide)) (p 1 _)) U)) U (by show 2<=1000;decide))) (lgm s [] (((L.take j).flatMap G).map ag)) (lgm s [] (((L.take j).flatMap G).map ag)) (by
    have:=ur z (L.take j)
    rw[qch]at this;rw[qaf];show _+2<=_
    lia)
   rw[stm s [] _ _]at hx;have I:G L[j]=[l++[0],l++[1]]:=by rw[<-H,B]
   rw[vA J G,I,qbw];exact⟨_,_,_,U,.inl hx,_,U,U⟩
  have fin:∃ b,kJ (iV 1) (.nm 4) a6 [e0,some w,e2,some (.h s.length),e4] (s++[.l []])=some (.nx [e0,some w,e2,some (.h s.length),b] (s++[.l ((L.flatMap G).map ag)])):=by
   rcases hw with rfl|⟨h,rfl,m⟩
   ·obtain⟨k,s',f,b,rfl,rfl⟩:=a5 (g:=.nm 4) (body:=a6) (ds:=L.map ag) (λi env st=>∃ e4,env=[e0,Z (.lst (L.map ag)),e2,some (.h s.length),e4]/\st=s++[.l (((L.take i).flatMap G).map ag)]) (env:=[e0,Z (.lst (L.map ag)),e2,some (.h s.length),e4]) (st:=s++[.l []]) ⟨_,U,U⟩ step
    rw[qaf,qb8]at f;exact⟨_,f⟩
   ·obtain⟨k,s',f,b,rfl,rfl⟩:=mH (n:=h) (all:=L.map ag) (g:=.nm 4) (body:=a6) (ds:=L.map ag) (λi env st=>∃ e4,env=[e0,some (.h h),e2,some (.h s.length),e4]/\st=s++[.l (((L.take i).flatMap G).map ag)]) (env:=[e0,some (.h h),e2,some (.h s.length),e4]) (st:=s++[.l []]) ⟨_,U,U⟩ (by
     rintro i env st ⟨e4,rfl,rfl⟩
     exact lga m _) step
    rw[qaf,qb8]at f;have M:iV 1 [e0,some (W.h h),e2,some (.h s.length),e4] (s++[.l []])=some (.h h,s++[.l []]):=rfl;refine⟨b,?_⟩;simp only[kJ,M,qaa,lga m];exact f
  obtain⟨b,f⟩:=fin;exact⟨.h s.length,some (.h s.length),b,ai new (ai f U),U⟩
 obtain⟨k,s',f,Uu,w,e2,e3,e4,rfl,rfl,hw⟩:=a5 (g:=.nm 2) (body:=cb) (ds:=cU 0 (2^n)) (λi env s=>∃ Uu w e2 e3 e4,env=[Z (.int (n:Int)),some w,e2,e3,e4]/\s=st++Uu/\((i=0/\w=.d (.lst [.tup []]))\/∃ h,st.length<=h/\w=.h h/\lg s h=some ((bB i).map ag)))
  (env:=[Z (.int (n:Int)),Z (.lst [.tup []]),none,none,none]) (st:=st) ⟨[],_,_,_,_,U,(qbH _).symm,.inl ⟨U,U⟩⟩ (by
  rintro i d env s hd ⟨Uu,w,e2,e3,e4,rfl,rfl,hw⟩
  obtain⟨rfl,hi⟩:=qW hd;have y:jb w (st++Uu) (bB i):=by
   rcases hw with⟨rfl,rfl⟩|⟨h,_,rfl,m⟩
   ·exact .inl U
   ·exact .inr ⟨h,U,m⟩
  obtain⟨C,q,b,e,rfl⟩:=c (by lia) y (e0:=some (.d (.int (n:Int)))) (e2:=some (.d (.int (i:Int)))) (e3:=e3) (e4:=e4)
  exact⟨_,_,_,U,.inl e,Uu++[.l ((bB (i+1)).map ag)],_,_,_,_,U,qbJ _ _ _,.inr ⟨_,by rw[qaw];lia,U,lgm (st++Uu) [] _⟩⟩)
 rw[gF]at hw;have p1:0<2^n:=qex n;rcases hw with⟨e,_⟩|⟨h,K,rfl,m⟩
 ·lia
 have F:(0:Int)<=((2^n:Nat):Int)/\((2^n:Nat):Int)<=1000:=by lia
 have r:cz [Z (.int (n:Int)),none,none,none,none] st=some (.rt (.h h) (st++Uu)):=ai (ao (i:=1) (w:=.d (.lst [.tup []])) (aq (jP (ds:=[.tup []]) (ab (bE U U (by decide)) U) U (by decide)))) (ai (a7 (i8 (ae U U (FB st hn)) F.1 F.2 (qa7 _)) f) (aC U));show dE 5 1 cz [.d (.int (n:Int))] st=_;unfold dE;simp only[qb1,if_true,qau,qdQ,qaD,qci,qdi,r,qaa];unfold xg;dsimp only;rw[iFN (by lia),m,qcI];rfl
end Own
section
set_option maxHeartbeats 1000000
namespace Own
open PySem L2
open Sx (Pb Tb Good Named Fe LV ZV piv lexP leastR leaveL sumN unit colV basis)
theorem DU (s:Sto) {L:List (List Int)} (hL:L.length<=16) (h:∀ l∈L,l.length<=4/\jc l):∃ x:Str,cB s [.d (.tup (L.map ag))]=some (.str x):=by
 obtain⟨a,c,e⟩:=lX (W:=8050) (K:=2) (ds:=L.map ag) λd hd=>by
  obtain⟨l,A,rfl⟩:=qaM.mp hd;obtain⟨h4,t⟩:=h l A;obtain⟨a,c,e⟩:=lX (W:=2000) (K:=1) (ds:=l.map D.int) λd hd=>by
   obtain⟨x,hx,rfl⟩:=qaM.mp hd;rcases t x hx with rfl|rfl
   ·exact⟨U,by decide,by decide⟩
   ·exact⟨U,by decide,by decide⟩
  rw[qaf]at c;unfold ag;rw[wtD,dpD];exact⟨a,by lia,by lia⟩
 rw[qaf]at c;have r:rpD (.tup (L.map ag))=true/\wtD (.tup (L.map ag))<=16000000/\dpD (.tup (L.map ag))<=50:=by
  rw[wtD,dpD];exact⟨a,by lia,by lia⟩
 refine⟨(toP (.tup (L.map ag))).shown,?_⟩;show (if rpD _=true/\wtD _<=16000000/\dpD _<=50 then some _ else none)=_;rw[iFP r]
theorem DW (s:Sto) {k:Nat} (Y:k<=16):∃ x:Str,cB s [.d (.int (k:Int))]=some (.str x):=by
 refine⟨_,(U).trans (iFP ?_)⟩
 have:∀ k:Nat,k<=16->(k:Int).natAbs.log2<1920:=by decide
 exact this k Y
theorem Cq {g:Tg}{f:Ef}{env e:Ev}{st s:Sto}{x:W} (h:f env st=some (x,s)) (v:cw g x env=some e):aD g f env st=some (.nx e s):=by
 simp only[aD,h,qaa,v,qan]
theorem oP {N:Nat}{l:List Int} (h:l.length=N):b5 N l=l.map D.int:=by
 unfold b5;rw[h,qey];exact qbH _
section
variable {b:Bool}{ts:List (List Int)}{n:Nat}
theorem CQ (hn:n<=2) (v:ts.Sublist (bU n)) {l:List Int} (A:l.length=2^n) (t:jc l) {acc:List (List Int)} (ha:acc.length<=100) {B Uu:Sto}{e0 e1 e2 e7 e8 e9:Option W}:∃ Uu' J V,qv [e0,e1,e2,Z (.str (aw b)),Z (tsD ts),some (.h B.length),Z (ag l),e7,e8,e9] (B++.l (acc.map ag)::Uu)=some (.nx [e0,e1,e2,Z (.str (aw b)),Z (tsD ts),some (.h B.length),Z (ag l),J,V,e9] (B++.l ((if cI b ts (b5 (2^n) l)=true then acc++[l] else acc).map ag)::Uu')):=by
 have N4:2^n<=4:=qaH (qaY (by decide) hn) (by decide);have fl:(l.map D.int).length=2^n:=by rw[qaf];exact A
 have Sp:Spl (l.map D.int) ts:=oz (by lia) fl (by rw[<-oP A];exact Cg t) v;obtain⟨X,w,S,R,hsv⟩:=nL (b:=b) Sp;obtain⟨u,e⟩:=hsv (B++.l (acc.map ag)::Uu);have e1':B++.l (acc.map ag)::Uu++u=B++.l (acc.map ag)::(Uu++u):=by simp only[qbJ,qci]
 rw[oP A];rw[e1']at e;have e:eV [.d (ag l),.d (.str (aw b)),.d (tsD ts)] (B++.l (acc.map ag)::Uu)=_:=e;cases q:cI b ts (l.map D.int) with
 |true=>
  rw[q,iFP U]at e;have hz:∀ r,r<(l.map D.int).length->w r=0:=qD.mp (by rw[q]at R;cases z:nzW (l.map D.int).length w;rfl;rw[z]at R;cases R);have C:=xv (st:=B++.l ((acc++[l]).map ag)::(Uu++u)) (kd:=aw b) (X:=X) hn v Sp.nd (fD n) Sp.tl;have I:=zM (st:=B++.l ((acc++[l]).map ag)::(Uu++u)) Sp t S hz;have I:b7 [.d (bT (aw b) (aZ (aE ts) X)),.d (ag l)] (B++.l ((acc++[l]).map ag)::(Uu++u))=_:=I;have H:=DM (o:=iV 5) (a:=iV 6) (env:=[e0,e1,e2,Z (.str (aw b)),Z (tsD ts),some (.h B.length),Z (ag l),Z (.str "poly"),Z (bT (aw b) (aZ (aE ts) X)),e9]) (d:=ag l) U U (lgm B (Uu++u) (acc.map ag)) (lgm B (Uu++u) (acc.map ag)) (by rw[qaf];lia)
  rw[stm B (Uu++u) _ _]at H;have em:(acc++[l]).map ag=acc.map ag++[ag l]:=by rw[qbw];rfl
  rw[<-em]at H;refine⟨Uu++u,Z (.str "poly"),Z (bT (aw b) (aZ (aE ts) X)),?_⟩
  rw[iFP U];generalize bT (aw b) (aZ (aE ts) X)=P at *;generalize tsD ts=T at *;generalize aw b=kd at *;exact ai (Cq (aj (ab U (ab U (ab U U))) e) U) (cT (ap U U (by rw[vz];rfl)) (ai H (bC (fg (iI (k:=true) (iq (aj (ab U (ab U (ab U U))) C))) (iI (k:=true) (iq (aj (ab U (ab U U)) I)))) U)))
 |false=>
  rw[q,iFN qaU]at e;have hz:∃ r,r<(l.map D.int).length/\w r≠0:=by
   apply qcg;intro no
   have:nzW (l.map D.int).length w=false:=qD.mpr λr hr=>qcg λk=>no ⟨r,hr,k⟩
   rw[q,this]at R;cases R
  have C:=yF (st:=B++.l (acc.map ag)::(Uu++u)) Sp t S hz;have C:cM [.d (ag l),.d (.str (aw b)),.d (tsD ts),.d (.tup (mpI (l.map D.int).length w))] (B++.l (acc.map ag)::(Uu++u))=_:=C;refine⟨Uu++u,Z (.str "bar"),Z (.tup (mpI (l.map D.int).length w)),?_⟩
  rw[iFN qaU];generalize mpI (l.map D.int).length w=M at *;generalize tsD ts=T at *;generalize aw b=kd at *;exact ai (Cq (aj (ab U (ab U (ab U U))) e) U) (bC (ap U U (by rw[vz];rfl)) (bC (iI (k:=true) (iq (aj (ab U (ab U (ab U (ab U U)))) C))) U))
theorem x9 (hn:n<=2) (v:ts.Sublist (bU n)) {st:Sto}{h:Nat} (hg:lg st h=some ((fnd b ts (2^n) (2^n)).map ag)) {e0 e1 e6 e7 e8 e9:Option W}:qu [e0,e1,Z (.int (n:Int)),Z (.str (aw b)),Z (tsD ts),some (.h h),e6,e7,e8,e9] st=some (.nx [e0,e1,Z (.int (n:Int)),Z (.str (aw b)),Z (tsD ts),some (.h h),e6,e7,e8,e9] st):=by
 have N4:2^n<=4:=qaH (qaY (by decide) hn) (by decide);have el:=xB (b:=b) hn v st;have G:=vC (b:=b) (ts:=ts) (2^n) N4;obtain⟨x,hx⟩:=DU st G λl A=>by
  obtain⟨a,c⟩:=yt A;exact⟨by lia,c⟩
 obtain⟨y,hy⟩:=DW st G;have O:aT st [.d (.tup ((fnd b ts (2^n) (2^n)).map ag))]=some (.int ((fnd b ts (2^n) (2^n)).length)):=by
  show some (D.int _)=_;rw[qaf]
 have E:aT st [.h h]=some (.int ((fnd b ts (2^n) (2^n)).length)):=by
  show (lg st h).map _=_;rw[hg,qan,qaf]
 have Q:dH st [.h h]=some (.tup ((fnd b ts (2^n) (2^n)).map ag)):=by
  show (lg st h).map _=_;rw[hg];rfl
 exact bC (fg (ap (az (ab (aj (ab U (ab U (ab U U))) el) U) hx) (az (ab (az (ab U U) Q) U) hx) (u5 _ _)) (ap (az (ab (aj (ab U (ab U (ab U U))) (ar U (aC (az (ab (aj (ab U (ab U (ab U U))) el) U) O)))) U) hy) (az (ab (az (ab U U) E) U) hy) (u5 _ _))) U
end
theorem xf {L:List (List Int)}{i:Nat} (h:i<L.length) (f:List Int->Bool):(L.take (i+1)).filter f=if f L[i]=true then (L.take i).filter f++[L[i]] else (L.take i).filter f:=by
 rw[qdn h,qe2,qbI];split
 ·rfl
 ·exact qbH _
theorem yM (ns:List Int) (A:ns.length<=63):∃ st,sU [.d (.scr ns)] []=some (.d (.bl true),st):=by
 obtain⟨p,H,e1⟩:=DG ns A;obtain⟨F,p1,a0,a1,h1,C⟩:=gQ H (m:=5) (by lia) (by decide) (by decide);obtain⟨r2,p2,c0,c1,h2,I⟩:=gQ h1 (m:=2) (by lia) (by decide) (by decide);obtain⟨n,hn,en⟩:∃ n:Nat,n<=2/\∀ s,dIx s (.d (.lst [.int 2,.int 2,.int 1,.int 2,.int 0])) (.d (.int F))=some (.int (n:Int)):=by
  have:F=0\/F=1\/F=2\/F=3\/F=4:=by lia
  rcases this with rfl|rfl|rfl|rfl|rfl
  ·exact⟨2,by decide,λs=>rfl⟩
  ·exact⟨2,by decide,λs=>rfl⟩
  ·exact⟨1,by decide,λs=>rfl⟩
  ·exact⟨2,by decide,λs=>rfl⟩
  ·exact⟨0,by decide,λs=>rfl⟩
 obtain⟨b,eb⟩:∃ b:Bool,∀ s,dIx s (.d (.lst [.str "both",.str "odd"])) (.d (.int r2))=some (.str (aw b)):=by
  have:r2=0\/r2=1:=by lia
  rcases this with rfl|rfl
  ·exact⟨true,λs=>rfl⟩
  ·exact⟨false,λs=>rfl⟩
 obtain⟨ts,j,v,h3,f3⟩:=BM hn h2 (by lia);have N4:2^n<=4:=qaH (qaY (by decide) hn) (by decide);have fu:=AD hn (spo j []++[.l []]);have hA:∀ l∈bB (2^n),l.length=2^n/\jc l:=λl h=>(eI _).mp h;have hAl:(bB (2^n)).length<=16:=by
  rw[gN];exact qaH (qaY (by decide) N4) (by decide)
 obtain⟨env',s',hF,Uu,e6,e7,e8,rfl,rfl⟩:=a5 (g:=.nm 6) (body:=qv) (ds:=(bB (2^n)).map ag) (λi env s=>∃ Uu e6 e7 e8,env=[Z (.scr ns),some (.h 1),Z (.int (n:Int)),Z (.str (aw b)),Z (tsD ts),some (.h (spo j []).length),e6,e7,e8,none]/\s=spo j []++.l ((((bB (2^n)).take i).filter λl=>cI b ts (b5 (2^n) l)).map ag)::Uu)
  (env:=[Z (.scr ns),some (.h 1),Z (.int (n:Int)),Z (.str (aw b)),Z (tsD ts),some (.h (spo j []).length),none,none,none,none]) (st:=spo j []++[.l []]) ⟨[],_,_,_,U,U⟩ (by
  rintro i d env s hd ⟨Uu,e6,e7,e8,rfl,rfl⟩
  rw[qav,qad]at hd;obtain⟨l,Y,rfl⟩:=hd;obtain⟨hi,hk'⟩:=qap.mp Y;obtain⟨q1,q2⟩:=hA l (qbj Y);have al:(((bB (2^n)).take i).filter λl=>cI b ts (b5 (2^n) l)).length<=100:=by
   have:=qbG (λl=>cI b ts (b5 (2^n) l)) ((bB (2^n)).take i)
   rw[qch]at this;lia
  obtain⟨Uu',J,V,e⟩:=CQ hn v q1 q2 al (B:=spo j []) (Uu:=Uu) (e0:=some (.d (.scr ns))) (e1:=some (.h 1)) (e2:=some (.d (.int (n:Int)))) (e7:=e7) (e8:=e8) (e9:=none);have ef:=xf hi λl=>cI b ts (b5 (2^n) l);rw[hk']at ef;rw[<-ef]at e
  exact⟨_,_,_,U,.inl e,Uu',_,_,_,U,U⟩)
 rw[qaf,qb8]at hF;have hg:lg (spo j []++.l ((fnd b ts (2^n) (2^n)).map ag)::Uu) (spo j []).length=some ((fnd b ts (2^n) (2^n)).map ag):=lgm _ _ _;have eF:((bB (2^n)).filter λl=>cI b ts (b5 (2^n) l))=fnd b ts (2^n) (2^n):=rfl;rw[eF]at hF
 obtain⟨env2,s2,hG,e9,rfl,rfl⟩:=a5 (g:=.nm 9) (body:=qu) (ds:=cU 0 2) (λi env s=>∃ e9,env=[Z (.scr ns),some (.h 1),Z (.int (n:Int)),Z (.str (aw b)),Z (tsD ts),some (.h (spo j []).length),e6,e7,e8,e9]/\s=spo j []++.l ((fnd b ts (2 ^ n) (2 ^ n)).map ag)::Uu) (env:=[Z (.scr ns),some (.h 1),Z (.int (n:Int)),Z (.str (aw b)),Z (tsD ts),some (.h (spo j []).length),e6,e7,e8,none]) (st:=spo j []++.l ((fnd b ts (2 ^ n) (2 ^ n)).map ag)::Uu) ⟨_,U,U⟩ (by
  rintro i d env s hd ⟨e9,rfl,rfl⟩
  exact⟨_,_,_,U,.inl (x9 hn v hg),_,U,U⟩)
 have st1:sC 2 3 (aa (iOp dIx (av (bj (aa (iC (.int 2)) (aa (iC (.int 2)) (aa (iC (.int 1)) (aa (iC (.int 2)) (aa (iC (.int 0)) ac))))))) (ay aJ (aa (iV 1) (aa (iC (.int 5)) ac)))) (aa (iOp dIx (av (bj (aa (iC (.str "both")) (aa (iC (.str "odd")) ac)))) (ay aJ (aa (iV 1) (aa (iC (.int 2)) ac)))) ac)) [Z (.scr ns),some (.h 1),none,none,none,none,none,none,none,none] (spo p [])=some (.nx [Z (.scr ns),some (.h 1),Z (.int (n:Int)),Z (.str (aw b)),none,none,none,none,none,none] (spo p2 [])):=by
  have x:=ab (b:=aa (iOp dIx (av (bj (aa (iC (.str "both")) (aa (iC (.str "odd")) ac)))) (ay aJ (aa (iV 1) (aa (iC (.int 2)) ac)))) ac) (env:=[Z (.scr ns),some (.h 1),none,none,none,none,none,none,none,none]) (st:=spo p []) (ae (aq (jP (a:=aa (iC (.int 2)) (aa (iC (.int 2)) (aa (iC (.int 1)) (aa (iC (.int 2)) (aa (iC (.int 0)) ac))))) (ws:=[.d (.int 2),.d (.int 2),.d (.int 1),.d (.int 2),.d (.int 0)]) (ds:=[.int 2,.int 2,.int 1,.int 2,.int 0]) U U (by decide))) (aj (a:=aa (iV 1) (aa (iC (.int 5)) ac)) (ab U (ab U U)) (C [])) (en _)) (ab (ae (aq (jP (a:=aa (iC (.str "both")) (aa (iC (.str "odd")) ac)) (ws:=[.d (.str "both"),.d (.str "odd")]) (ds:=[.str "both",.str "odd"]) U U (by decide))) (aj (ab U (ab U U)) (I [])) (eb _)) U)
  simp only[sC,x,qaa];rfl
 have s5:aD (.nm 5) (bV (bj ac)) [Z (.scr ns),some (.h 1),Z (.int (n:Int)),Z (.str (aw b)),Z (tsD ts),none,none,none,none,none] (spo j [])=some (.nx [Z (.scr ns),some (.h 1),Z (.int (n:Int)),Z (.str (aw b)),Z (tsD ts),some (.h (spo j []).length),none,none,none,none] (spo j []++[.l []])):=rfl;have q:=gC (n:=10) (k:=1) (b:=B3) (ws:=[.d (.scr ns)]) (st:=[]) (x:=.bl true) U (ai (ao (i:=1) (aj U e1)) (ai st1 (ai (ao (i:=4) (aj (ab U (ab U U)) (f3 []))) (ai s5 (ai (a7 (aR (aj (ab U U) fu)) hF) (ai (a7 (i8 (z:=2) U (by decide) (by decide) U) hG) (aC U)))))));exact⟨_,q⟩
end Own
end
namespace Own
open PySem L2
theorem AQ {b:List Value}{n:Nat} (h:b.length=n+1):∃ a r,b=a::r/\r.length=n:=by
 cases b with
 |nil=>cases h
 |cons a r=>exact⟨a,r,U,qhF h⟩
theorem EU {b:List Value} (h:b.length=1):∃ a0,b=[a0]:=by
 obtain⟨a,r,rfl,g⟩:=AQ h;exact⟨a,by rw[List.length_eq_zero_iff.1 g]⟩
theorem EV {c:List Value} (h:c.length=2):∃ a0 a,c=[a0,a]:=by
 obtain⟨b,r,rfl,g⟩:=AQ h;obtain⟨a,rfl⟩:=EU g;exact⟨b,a,U⟩
theorem EW {c:List Value} (h:c.length=3):∃ a0 a a2,c=[a0,a,a2]:=by
 obtain⟨b,r,rfl,g⟩:=AQ h;obtain⟨a,a2,rfl⟩:=EV g;exact⟨b,a,a2,U⟩
theorem EX {d:List Value} (h:d.length=4):∃ a0 c a2 a,d=[a0,c,a2,a]:=by
 obtain⟨b,r,rfl,g⟩:=AQ h;obtain⟨c,a2,a,rfl⟩:=EW g;exact⟨b,c,a2,a,U⟩
theorem bnd {K:qae}:∀ p∈tbl,∀ f g,Fun K p.1 p.1 (top p.2.1) f g->cN K g (p.2.2.1.take p.2.2.2) []:=by
 iterate 45 refine qcU.2 ⟨λf g F=>F.binds λ_ _ _ _ _ _ b a=>(by first|(obtain⟨_,rfl⟩:=EU a;rfl)|(obtain⟨_,_,rfl⟩:=EV a;rfl)|(obtain⟨_,_,_,rfl⟩:=EW a;rfl)|(obtain⟨_,_,_,_,rfl⟩:=EX a;rfl)),?_⟩
 exact λ_ h=>nomatch h
theorem fa_mk {K:qae}{x:Str}{i k:Nat}{N:List Str}{f:Addr}{g:qb0} (a:qee K qb5 x=some (some (.ref f))) (b:Fun K x x (top i) f g):∃ f g,qee K qb5 (rT x i N k).1=some (some (.ref f))/\Fun K (rT x i N k).1 (rT x i N k).1 (top (rT x i N k).2.1) f g:=⟨f,g,a,b⟩
theorem txt_mk {K:qae}{h:Heap}{mg:Str->Option Value} (X:K.In h) (G:h.Ns qb5 mg) (F:∀ p∈tbl,∃ f g,qee K qb5 p.1=some (some (.ref f))/\Fun K p.1 p.1 (top p.2.1) f g)
  (z:∀ x∈(["abs","all","any","bool","enumerate","int","isinstance","len","list","range","repr","sorted","str","sum","tuple","zip"]:List Str),qee K qb5 x=some none)
  {a c:Addr}{e:qb0} (c1:qee K qb5 "Table" = some (some (.ref a))) (c2:qca K (.ref a) "__init__" = some (some (.ref c))) (c3:Fun K "__init__" "Table.__init__" bS c e)
  (m0:qfj K a=true) (m2:qhK K (.ref c)=true) (m3:qcB K (.ref a)=true) (d0:qd5 K a Str.empty=true) (d1:qdO K a=true) (d2:qeS K a=true) (d3:qca K (.ref a) "__setattr__" = some (some (.builtin "object.__setattr__")))
  (na:∀ p∈bO,qca K (.ref a) p.1=some none)
  : Txt K mg:=
 ⟨λp d=>let ⟨f,g,a,b⟩:=F p d;⟨f,g,b,qhB X G a,bnd p d f g b⟩,λx h=>PySem.W.mg_none_of X G (z x h),a,c,e,qhB X G c1,c3,c3.binds λ_ _ _ _ _ _ j i=>(by obtain⟨_,_,_,_,rfl⟩:=EX i;rfl),⟨m0,c2,m2,m3⟩,⟨d0,d1,d2,d3⟩,na⟩
theorem walk {l:qfk}{q:qaO}{b:List Str}{XP:(Str->Option Value)->Heap->Prop}{YP:World->Heap->Prop}{d:DefRec}{K:Params->qae} (hn:l.most=some 63) (c:d.params.defaults=[])
  (i:∀ (w:World) (h:Heap),YP w h->(K w.params).In h)
  (F:∀ (w:World) (mg:Str->Option Value) (e:Addr) (h:Heap),(K w.params).In h->h.Ns qb5 mg->mg d.name=some (.ref e)->
    ∃ fd:qb0,(∀ (s:qak) (u:Value),qhk s fd ⟨[u],[]⟩ [("_law_script",u)])/\∀ base:Heap,(K w.params).In base->base.Ns qb5 mg->cZ l.prog w (K w.params) mg base CX0 11 e fd ["_law_script"] (spI (K w.params) sU)) :
  qhC q b XP YP l.row.toRowW d [] (λf g=>qhd f g):=
 L2.walk_of (n:=63) (k:=11) (x:="_law_script") (CX:=λ_=>CX0) (sp:=λw=>spI (K w.params) sU) hn (by decide) c ⟨U,by decide,by decide,U⟩ i F (λ_ _ a ns j m o=>BN m o (yM ns j)) λ_ _ _ _ _ z=>z
theorem law_mk {l:qfk}{w:World}{K:qae}{h:Heap}{mg:Str->Option Value}{b:Addr} (a:mg "law" = some (.ref b)) (T:Txt K mg) :
  ∃ fd:qb0,(∀ (s:qak) (v:Value),qhk s fd ⟨[v],[]⟩ [("_law_script",v)])/\∀ base:Heap,K.In base->base.Ns qb5 mg->cZ l.prog w K mg base CX0 11 b fd ["_law_script"] (spI K sU):=by
 obtain⟨f,g,F,m,_⟩:=T.F (rT "law" 55 ["_law_script","_law_pot_here","_law_n","_law_kind","_law_terms_here","_law_due","_law_f","_law_word","_law_thing","_law_again"] 1) (by decide +kernel)
 have e:=a.symm.trans m;cases e
 refine⟨g,λs v=>?_,λbase _ _=>by
  have q:=Gk (P:=l.prog) (w:=w) (base:=base) T
  iterate 5 replace q:=q.2
  exact q _ _ F⟩
 obtain⟨o,n,kV,i,j,k,d,ct,c,e,_⟩:=F.ex;rw[e];exact .of_eq U
end Own
namespace PySem.W.Fast
theorem tw14235915020097091636:True:=⟨⟩
theorem tw2345715392919814400:True:=⟨⟩
theorem tw3419576160653200392:True:=⟨⟩
theorem tw13128502313097409377:True:=⟨⟩
theorem tw16925760051783865320:True:=⟨⟩
theorem tw8139056808690817229:True:=⟨⟩
theorem tw10571293294149589270:True:=⟨⟩
theorem tw7374440933062706116:True:=⟨⟩
theorem tw11972427438720050927:True:=⟨⟩
theorem tw7943889451302828966:True:=⟨⟩
theorem tw5067208012817088058:True:=⟨⟩
theorem tw1366777563581645309:True:=⟨⟩
theorem tw6877034757849761812:True:=⟨⟩
theorem tw15391045640184812417:True:=⟨⟩
theorem tw7475819338333215252:True:=⟨⟩
theorem tw982555032302316657:True:=⟨⟩
theorem tw15717992569973050731:True:=⟨⟩
theorem tw16464443205337266133:True:=⟨⟩
theorem tw13949504809703699812:True:=⟨⟩
theorem tw3050674224924735461:True:=⟨⟩
theorem tw1384844970065196238:True:=⟨⟩
theorem tw5552592126243782080:True:=⟨⟩
theorem tw14138169553838738846:True:=⟨⟩
theorem tw10837459757501298515:True:=⟨⟩
theorem tw14659512468649045390:True:=⟨⟩
theorem tw5068922265280272769:True:=⟨⟩
theorem tw8442329280169021689:True:=⟨⟩
theorem tw3374425687975487629:True:=⟨⟩
theorem tw5750489673984183433:True:=⟨⟩
theorem tw11675684348543044897:True:=⟨⟩
theorem tw15867361815914370519:True:=⟨⟩
theorem tw13457240614237961694:True:=⟨⟩
theorem tw8819442988953210485:True:=⟨⟩
theorem tw11532170185696338475:True:=⟨⟩
theorem tw14865897111684941073:True:=⟨⟩
theorem tw13859649723499931842:True:=⟨⟩
theorem tw1600216255272806053:True:=⟨⟩
theorem tw9554162416199089906:True:=⟨⟩
theorem tw9946314696263595978:True:=⟨⟩
theorem tw1469844894621976179:True:=⟨⟩
theorem tw15104100003842410088:True:=⟨⟩
theorem tw14136573573183254761:True:=⟨⟩
theorem tw7765304184969520216:True:=⟨⟩
theorem tw9100384827766467640:True:=⟨⟩
theorem tw15451824541470719870:True:=⟨⟩
theorem tw659006259212354402:True:=⟨⟩
theorem tw2470738530752502094:True:=⟨⟩
theorem tw2197742612787402802:True:=⟨⟩
theorem tw8398320164469370185:True:=⟨⟩
theorem tw15270904200655445709:True:=⟨⟩
theorem tw4013714140488847392:True:=⟨⟩
theorem tw10902928510320812209:True:=⟨⟩
theorem tw4986427570255250816:True:=⟨⟩
theorem tw10074763785337115431:True:=⟨⟩
theorem tw13714897957309085277:True:=⟨⟩
theorem tw14008504155905204322:True:=⟨⟩
theorem tw13815111555982836482:True:=⟨⟩
theorem tw5815189360205671045:True:=⟨⟩
theorem tw4285853766313380311:True:=⟨⟩
theorem tw9551008760559997722:True:=⟨⟩
theorem tw1193165420287311217:True:=⟨⟩
theorem tw2823509750024587596:True:=⟨⟩
theorem tw11880322974055363126:True:=⟨⟩
theorem tw3904993650113086998:True:=⟨⟩
theorem tw5716059683350962288:True:=⟨⟩
theorem tw17233703089656697741:True:=⟨⟩
theorem tw1966231063974454112:True:=⟨⟩
theorem tw15196873805676704457:True:=⟨⟩
theorem tw6903736715581026662:True:=⟨⟩
theorem tw4965107438266113907:True:=⟨⟩
theorem tw1389299098772475790:True:=⟨⟩
theorem tw11690326855299676531:True:=⟨⟩
theorem tw6439623007589242323:True:=⟨⟩
theorem tw2297186547027177722:True:=⟨⟩
theorem tw17967597444340803787:True:=⟨⟩
theorem tw3411972970546637281:True:=⟨⟩
theorem tw13958504324844519253:True:=⟨⟩
theorem tw15663240731045380945:True:=⟨⟩
theorem tw10916845901841886703:True:=⟨⟩
theorem tw12635297541290022087:True:=⟨⟩
theorem tw9498296687180335663:True:=⟨⟩
theorem tw415343986647213650:True:=⟨⟩
theorem tw7853065877845561364:True:=⟨⟩
theorem tw1072903073186021538:True:=⟨⟩
theorem tw2475579838800815862:True:=⟨⟩
theorem tw7169088245346027667:True:=⟨⟩
theorem tw4051188454864759753:True:=⟨⟩
theorem tw2163943979622041233:True:=⟨⟩
theorem tw12159990721204750623:True:=⟨⟩
theorem tw16093433877403914624:True:=⟨⟩
theorem tw10320847684645098450:True:=⟨⟩
theorem tw8007418857004904480:True:=⟨⟩
theorem tw12006881733910664386:True:=⟨⟩
theorem tw6748522725268439909:True:=⟨⟩
theorem tw13065662695142027398:True:=⟨⟩
theorem tw11662169611601497031:True:=⟨⟩
theorem tw13355192817737571992:True:=⟨⟩
theorem tw6087122917371823405:True:=⟨⟩
theorem tw342008528868214688:True:=⟨⟩
theorem tw17763018519865106090:True:=⟨⟩
theorem tw4071712633402243385:True:=⟨⟩
theorem tw16630784909344832133:True:=⟨⟩
theorem tw7858703563170472538:True:=⟨⟩
theorem tw12000877810189203980:True:=⟨⟩
theorem tw5698808013385405070:True:=⟨⟩
theorem tw13016703854213640752:True:=⟨⟩
theorem tw12732612010054550075:True:=⟨⟩
theorem tw17116914297555780622:True:=⟨⟩
theorem tw6334805513192934325:True:=⟨⟩
theorem tw7064224353176799022:True:=⟨⟩
theorem tw6879077568232133473:True:=⟨⟩
theorem tw13605832114445099936:True:=⟨⟩
theorem tw947029681284665556:True:=⟨⟩
theorem tw12184189436614126956:True:=⟨⟩
theorem tw12458632616399694095:True:=⟨⟩
theorem tw14228350178766215295:True:=⟨⟩
theorem tw6035424412929137941:True:=⟨⟩
theorem tw16420192728924347419:True:=⟨⟩
theorem tw15450750517679483603:True:=⟨⟩
theorem tw2505673584368955894:True:=⟨⟩
theorem tw5787711698727259382:True:=⟨⟩
theorem tw13854975180264988476:True:=⟨⟩
theorem tw3650312244706086908:True:=⟨⟩
theorem tw10232717645103095547:True:=⟨⟩
theorem tw15175923722026029456:True:=⟨⟩
theorem tw3808920489232724308:True:=⟨⟩
theorem tw7230087125656306258:True:=⟨⟩
theorem tw2906841067094791640:True:=⟨⟩
theorem tw11133846829878050602:True:=⟨⟩
theorem tw9326878881562634804:True:=⟨⟩
theorem tw14604685206062462597:True:=⟨⟩
theorem tw12388036424115940314:True:=⟨⟩
theorem tw1987574650742219812:True:=⟨⟩
theorem tw8564519330415214441:True:=⟨⟩
theorem tw2627504025373318489:True:=⟨⟩
theorem tw13371142847889524894:True:=⟨⟩
theorem tw13445307033929616897:True:=⟨⟩
theorem tw6882094166101032913:True:=⟨⟩
theorem tw14274085887912830082:True:=⟨⟩
theorem tw3913843711081582850:True:=⟨⟩
theorem tw3477229341416257486:True:=⟨⟩
theorem tw11776342664878074291:True:=⟨⟩
theorem tw17881734252175448276:True:=⟨⟩
theorem tw15455854529093073317:True:=⟨⟩
theorem tw18272481892346640433:True:=⟨⟩
theorem tw634496761685436642:True:=⟨⟩
theorem tw14391873181855034053:True:=⟨⟩
theorem tw15920481880558465996:True:=⟨⟩
theorem tw14597810425144541819:True:=⟨⟩
theorem tw10826747677588125310:True:=⟨⟩
theorem tw9012445274735016820:True:=⟨⟩
theorem tw2407769597425499797:True:=⟨⟩
theorem tw2449679929427410296:True:=⟨⟩
theorem tw18231404380197203745:True:=⟨⟩
theorem tw9637018075443961251:True:=⟨⟩
theorem tw12570531156407323215:True:=⟨⟩
theorem tw12419537505479342691:True:=⟨⟩
theorem tw1846013185734789500:True:=⟨⟩
theorem tw3320011774264662112:True:=⟨⟩
theorem tw15574707691413952546:True:=⟨⟩
theorem tw16409670111020899387:True:=⟨⟩
theorem tw11647804680861629838:True:=⟨⟩
theorem tw4525545710100354247:True:=⟨⟩
theorem tw5683999350967704617:True:=⟨⟩
theorem tw24788480010891671:True:=⟨⟩
theorem tw18330593713680785288:True:=⟨⟩
theorem tw14081355779493145695:True:=⟨⟩
theorem tw14583655722905687447:True:=⟨⟩
theorem tw2910771044637814289:True:=⟨⟩
theorem tw15124993203405546112:True:=⟨⟩
theorem tw7189418206630972032:True:=⟨⟩
theorem tw12130489024855315928:True:=⟨⟩
theorem tw9216403641221922643:True:=⟨⟩
theorem tw9121965156691831639:True:=⟨⟩
theorem tw4532830044076552879:True:=⟨⟩
theorem tw10853193243253406769:True:=⟨⟩
theorem tw17500992069709698152:True:=⟨⟩
theorem tw6628841555919891764:True:=⟨⟩
theorem tw4296592728863632793:True:=⟨⟩
theorem tw11371705062575470073:True:=⟨⟩
end PySem.W.Fast
open PySem PySem.W PyProof.Rows
set_option maxRecDepth 100000 in
set_option maxHeartbeats 0 in
theorem PySem.Challenge.cw_signpoly_k70_listed_by_papers_holds : PySem.Challenge.rw_signpoly_k70_listed_by_papers.Holds := by
 w_on;o_law;k_head;(case hw=>w_witness2)
 k_fill
 refine Own.walk (l:=PySem.Challenge.rw_signpoly_k70_listed_by_papers) rfl rfl (λw h Y=>PySem.W.kIn_of Y) ?F
 case F=>
  intro w mg d h KX G a;refine Own.law_mk (h:=h) a ?T
  case T=>
   refine' Own.txt_mk KX G ?F ?z ?c1 ?c2 ?c3 ?m0 ?m2 ?m3 ?d0 ?d1 ?d2 ?d3 ?na
   case F=>(iterate 45 (refine' qcU.2 ⟨Own.fa_mk ?e ?b,?_⟩;(case e=>k_is);(case b=>(refine' L2.fun_mk ?l ?c ?k;(case l=>k_is);(case c=>k_is);case k=>k_is))));intro _ h;cases h
   case z=>(iterate 16 (refine qcU.2 ⟨by k_is,?_⟩));intro _ h;cases h
   case c1=>k_is
   case c2=>k_is
   case c3=>refine' L2.fun_mk ?l ?c ?k;(case l=>k_is);(case c=>k_is);case k=>k_is
   case m0=>kernel_rfl
   case m2=>kernel_rfl
   case m3=>kernel_rfl
   case d0=>kernel_rfl
   case d1=>kernel_rfl
   case d2=>kernel_rfl
   case d3=>kernel_rfl
   case na=>(iterate 6 (refine qcU.2 ⟨by kernel_rfl,?_⟩));intro _ h;cases h
