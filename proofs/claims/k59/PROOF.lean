import PyProof.Rows.All
import Wide.All
import OpenK.AllK
import Wide.FinOn
import Lean
import PyProof.EqAt
import PyProof.EqKinds
import PyProof.TupleCall
import PyProof.ListRange
import PyProof.NeKinds
import KE.KUnpack
import KE.KSortTup
import PyProof.ZipIter
import PyProof.Rows.CallKwBuiltin
import PyProof.SetKind
import PyProof.SetRoads
import KE.KDictList
import PyProof.Rows.SetFrom
import PyProof.WalksMore
import PyProof.TupleKey
import KE.KDictLaws
import PyProof.FactsAll.tuple_0
import PyProof.FactsAll.tuple_2
import PyProof.FactsAll.tuple_3
import PyProof.FactsAll.list_3
import PyProof.Rows.SeqMore
import PyProof.AutoSeq1
import PySem.Challenge.RW_signpoly_k59_changes_and_a_polynomial
set_option Elab.async false
set_option linter.all false
set_option maxRecDepth 100000
set_option genSizeOf false
noncomputable section
open And renaming left -> qgQ
open Array renaming getElem?_eq_getElem -> qar, length_toList -> qav, getElem?_eq_none -> qaR, toList_append -> qaV, toList_inj -> qaY, getElem?_toList -> qa8, toList_extract -> qbn, perm_iff_toList_perm -> qb3, getElem_toList -> qcD, toList_filterMap -> qdW, toList_reverse -> qed, forIn_toList -> qeD, getElem?_setIfInBounds -> qe7, getElem_mem_toList -> qfF, toList_range -> qgx, toList_push -> qgJ
open Array.Perm renaming refl -> qjG
open Bool renaming false_ne_true -> qal, false_eq_true -> qap, and_eq_true -> qaL, not_true -> qa2, not_eq_true' -> qbX, or_eq_true -> qcy, not_false -> qdd, or_false -> qdl, false_or -> qdm, eq_iff_iff -> qdp, false_and -> qdD, not_eq_true -> qdV, not_eq_false' -> qeJ, xor_false -> qfD, and_false -> qfE, and_true -> qfW
open Classical renaming byContradiction -> qb2
open Int renaming toNat_natCast -> qaX, eq_ofNat_of_zero_le -> qcn, mul_assoc -> qdn, zero_add -> qdC, zero_mul -> qeb, le_trans -> qec, emod_lt_of_pos -> qeN, emod_nonneg -> qfs, fdiv_eq_ediv_of_nonneg -> qfB, mul_zero -> qgo, add_zero -> qgp, mul_add -> qgH, le_refl -> qgI, ediv_nonneg -> qg9, mul_comm -> qin, add_mul -> qiw
open List renaming mem_cons_of_mem -> qaf, mem_cons_self -> qah, length_map -> qai, map_cons -> qaj, length_cons -> qaq, size_toArray -> qas, mem_append_right -> qat, all_eq_true -> qaw, getElem?_eq_some_iff -> qax, mem_singleton -> qay, mem_cons -> qaz, mem_map -> qaB, getElem?_eq_getElem -> qaH, map_map -> qaJ, length_append -> qaK, getElem?_append_left -> qaM, getD_cons_zero -> qaO, mem_range -> qaP, getElem?_map -> qaW, sum_cons -> qaZ, getElem?_append_right -> qa1, map_congr_left -> qa5, pairwise_cons -> qa9, length_nil -> qba, all_cons -> qbg, getD_eq_getElem?_getD -> qbk, getD_cons_succ -> qbl, map_append -> qbm, replicate_succ -> qbr, nodup_cons -> qbs, length_range -> qbu, mem_append -> qbx, extract_eq_take_drop -> qby, lookup_cons -> qbA, append_assoc -> qbD, foldl_cons -> qbG, mem_of_getElem? -> qbI, mem_append_left -> qbJ, mem_map_of_mem -> qbL, drop_eq_getElem_cons -> qbM, take_length -> qbQ, getElem?_set_ne -> qbS, any_cons -> qbU, pairwise_map -> qbV, flatten_cons -> qbW, take_of_length_le -> qbY, isEmpty_nil -> qb4, cons_append -> qb5, pairwise_iff_getElem -> qca, mem_iff_getElem -> qcc, nil_append -> qce, mem_filter -> qcf, length_set -> qcg, filterMap_cons -> qcj, getElem?_set_self -> qco, take_append_drop -> qcv, map_nil -> qcw, length_replicate -> qcx, pairwise_append -> qcE, getElem?_of_mem -> qcF, not_mem_nil -> qcP, length_take -> qcQ, filter_cons -> qcR, filterMap_cons_some -> qcS, pairwise_singleton -> qcW, getElem?_replicate -> qcX, find?_cons -> qcY, append_nil -> qcZ, take_succ_eq_append_getElem -> qc2, take_add_one -> qc5, map_id -> qc6, mapM_toArray -> qc7, length_filter_le -> qde, filter_map -> qdo, set_cons_zero -> qdw, set_cons_succ -> qdx, drop_zero -> qdA, nodup_append -> qdI, filterMap_cons_none -> qdJ, length_eq_zero_iff -> qdQ, getElem_mem -> qdU, pairwise_lt_range -> qdX, find?_cons_of_pos -> qdY, find?_cons_of_neg -> qdZ, length_singleton -> qd4, all_nil -> qd5, mem_of_mem_drop -> qeg, take_zero -> qej, nodup_nil -> qek, forIn_nil -> qel, replicate_zero -> qeo, getElem_of_mem -> qep, mem_filterMap -> qeH, map_filterMap -> qeI, ext_getElem? -> qeS, all_map -> qeV, mem_flatten -> qe2, length_drop -> qe3, getElem_inj -> qe4, drop_length -> qe5, all_toArray -> qe6, of_mem_zip -> qfg, forIn_cons -> qfh, perm_ext_iff_of_nodup -> qfq, getElem?_eq_none_iff -> qfA, length_erase_of_mem -> qfO, getElem?_take_of_lt -> qfP, set_comm -> qfU, length_pos_of_mem -> qf6, set_append_right -> qf9, perm_append_comm -> qga, mem_of_mem_take -> qgl, mem_erase_of_ne -> qgm, cons_merge_cons -> qgn, take_succ_cons -> qgu, filter_eq_self -> qgv, zip_cons_cons -> qgF, push_toArray -> qgN, foldl_append -> qgO, any_eq_false -> qgP, nodup_range -> qgW, isEmpty_iff -> qgX, take_left' -> qgZ, sum_append -> qg0, take_add -> qhf, map_take -> qhg, map_drop -> qhh
open List.Pairwise renaming imp_of_mem -> qhu, filterMap -> qhv, filter -> qhw
open List.Perm renaming refl -> qbE, eq_of_pairwise -> qds
open Nat renaming ne_of_lt -> qam, le_refl -> qan, lt_of_lt_of_le -> qaE, lt_succ_of_lt -> qaF, zero_le -> qaI, le_trans -> qaQ, ne_of_gt -> qa4, zero_add -> qbo, lt_succ_self -> qbt, lt_irrefl -> qbH, zero_testBit -> qbK, testBit_or -> qbO, eq_of_testBit_eq -> qcd, not_lt_zero -> qci, le_succ -> qcm, le_of_lt -> qcA, testBit_xor -> qc0, le_of_eq -> qdf, testBit_and -> qdr, sub_self -> qd8, lt_trans -> qd9, and_zero -> qea, zero_or -> qeA, add_one_ne_zero -> qeB, lt_of_le_of_lt -> qeM, one_shiftLeft -> qeU, succ_pos -> qe0, sub_zero -> qe1, succ_ne_self -> qfa, le_of_not_lt -> qfb, le_add_right -> qfc, mul_le_mul -> qfM, lt_pow_two_of_testBit -> qfN, add_assoc -> qf5, lt_of_succ_lt_succ -> qf8, add_comm -> qgk, pow_lt_pow_right -> qgs, pow_le_pow_right -> qgt, or_zero -> qgE, xor_assoc -> qhs, zero_xor -> qif, xor_zero -> qig, succ_add -> qih, pow_succ -> qii, or_assoc -> qij, mul_comm -> qik, lt_or_ge -> qil, add_zero -> qim, pow_pos -> qit, log2_lt -> qiu, add_mul -> qiv, mod_lt -> qjF
open Ne renaming symm -> qbR
open Option renaming bind_eq_some_iff -> qac, map_eq_some_iff -> qae, bind_some -> qag, map_some -> qaC, isSome_iff_exists -> qcb, isSome_some -> qgj, getD_none -> qgD
open Option.some renaming inj -> qaD
open PyProof.Rows renaming wpS_bind -> qau, wpS_pure -> qaA, slot_tuple_getitem -> qbp, boot_tuple -> qbq, wpS_forRange -> qbz, callWith_type1 -> qbB, boot_isinstance -> qbP, wpS_modify -> qct, boot_sorted -> qcz, boot_repr -> qcO, callWith_builtin1 -> qcT, wpS_mono -> qc8, wpS_get -> qdq, boot_int -> qdz, assignInOrder_cons -> qdN, entry_list_sort -> qex, entry_proto_collect' -> qeK, slot_list_sort -> qeP, args_list_sort -> qeR, boot_set -> qeY, boot_abs -> qeZ, lt_int -> qff, size_push' -> qfl, plain_sorted -> qfu, entry_sorted -> qfv, args_sorted1 -> qfw, entry_list_iadd' -> qfH, kind_sorted -> qf1, sortedHeap_old -> qgf, sortedHeap_at -> qgz, listUpdate_at -> qgB, subscriptTail_builtinR -> qgK, seqEpoch_at -> qg5, keyKind'_eq -> qg6, getElem?_mirror_all -> qg7, entry_tuple_getitem -> qg8, args_tuple_getitem -> qhd, assignInOrder_nil -> qhq, Subscript_ -> qhr, gt_int -> qia, boot_sum -> qib, boot_max -> qic, boot_bool -> qid, boot_all -> qie, oneTypeOnly'_eq -> qiq, getElem?_bubble -> qis, slicePart_none -> qiy, boot_enumerate -> qiB
open PyProof.Rows.F renaming plain_set_update_loop -> qbd, entry_set_update_loop -> qbN
open PyProof.Rows.IntsAre renaming length -> qdO, int_at -> qdP
open PyProof.Rows.KeyOrd renaming kle_trans -> qbf, kle_refl -> qcr, kle_of_klt -> qc3, klt_of_kle_of_klt -> qdB, klt_of_klt_of_kle -> qfr, kle_antisymm -> qgb, klt_asymm -> qgG
open PySem renaming wpAny_bind -> qaa, wpAny_pure -> qab, wpAny_newObj_type -> qaS, wpAny_holding -> qaT, wpAny_call_entry -> qaU, codeAny_builtin -> qa7, wpAny_callSpecial?_slot -> qbc, sizeLine_eq -> qbi, mem_of_lookup -> qbj, boot_len -> qbw, wpAny_Call_Name_kw -> qbT, wpAny_setField -> qbZ, wpAny_setState_of -> qb0, wpAny_mono -> qb1, wpAny_storeSet_of -> qck, wpAny_ite_split -> qcl, wpAny_typeNameOfWhole_keyiter -> qcs, wpAny_rule -> qcu, wpAny_passesOwn -> qcG, pushCells_keeps -> qcH, codeAny_mono -> qcI, wpAny_truthy_bool -> qcL, wpAny_newList -> qcM, call_meets -> qcN, wpAny_isInstance -> qcU, wpAny_typeNameOf_keyiter -> qc1, wpAny_pyIter_tuple -> qc9, wpAny_attempt -> qda, strLen_append -> qdb, plainId_quiet -> qdc, wpAny_pyIter_list -> qdg, wpAny_seqItems -> qdh, wpAny_runValue -> qdi, isSubtype_type -> qdj, codeAny_call_builtin -> qdt, wpAny_standAt -> qdu, wpAny_load -> qdy, wpAny_of_eq -> qdE, wpAny_field -> qdF, wpAny_tryCatch -> qdR, wpAny_pyIter_slot -> qd0, wpAny_pyIter_enum -> qd1, wpAny_askSetting -> qee, wpAny_pyNext_list_item -> qeh, wpAny_updateSeq -> qer, wpAny_typeOf -> qes, wpAny_pyNext_list_end -> qet, wpAny_ite_false -> qeu, wpAny_execs_nil -> qev, weight_type_call_type -> qew, codeAny_of_tree -> qey, typeIs_int -> qeE, list_append -> qeL, entryFor_alias -> qeQ, wpAny_handled -> qe8, tupleKind_room_in1 -> qe9, wpAny_dictEntries -> qfj, wpAny_call -> qfk, intKind_is -> qfm, noFill_tuple_add -> qfG, check_set_init_1 -> qfI, wpAny_throw -> qfX, wpAny_specialOf -> qfY, wpAny_letGo -> qfZ, wpAny_dictEpoch -> qf0, ofString_length -> qf3, wpAny_bindName -> qgd, wpAny_binaryOp_repeat_ref -> qge, isSubtype_stop -> qgg, wpAny_comprehension_free -> qgq, wpAny_pyNext_enum_itemD -> qgy, seq_tuple_add -> qgA, codeAny_compStart_list -> qgL, seqSlot_of -> qgM, wpAny_isOneOf_keyiter -> qgR, seqIndex_neg -> qgS, putSet_of -> qgT, concat_meets -> qgU, builtinLookup_eq_fast -> qgV, wpAny_binaryOp_same -> qg2, wpAny_alloc -> qg3, seqIndex_of -> qg4, wpAny_sequenceKey -> qhl, wpAny_assign_Name -> qhm, wpAny_Name -> qhn, slot_list_getitem -> qho, piled_cons -> qhp, wpAny_setScan_of -> qhy, wpAny_execs_cons -> qhz, typeLookup_type -> qip, join_length_add -> qir, wpAny_fieldsOf -> qix, repr_of_reads' -> qiz, fitsIndex_both -> qiA
open PySem.Around renaming under_plainId -> qbF, under_plain -> qeq
open PySem.AutoSeq1 renaming sub_tuple_tuple -> qfd
open PySem.Calls renaming spliced_cons -> qb6, spliced_nil -> qcB, call_function_entry -> qcJ, Name_function_global -> qfi, callWith_builtin -> qfV, evalArgs_plain -> qgc
open PySem.Code renaming quiet_builtin -> qcq
open PySem.Draws renaming list -> qio
open PySem.F renaming called_set -> qaG, slot_dict_keyiterator_next -> qbC, plain_max_loop -> qcp, slot_tuple_iterator_next -> qcK, slot_set_iter -> qc4, args_tuple_add_2 -> qdv, entry_type_call -> qdG, entry_tuple_add -> qdH, typeCall_set_1 -> qdK, slot_tuple_add -> qdL, entry_set_init -> qdM, slot_tuple_lt -> qdS, slot_dict_get -> qdT, args_dict_keyiterator_next_1 -> qd3, slot_tuple_mul -> qd6, entry_dict_keyiterator_next -> qd7, slot_int_rmul -> qem, args_list_append_2 -> qeC, entry_list_append -> qeO, slot_list_append -> qeW, sub_list_frozenset -> qeX, args_tuple_lt_2 -> qfn, args_set_iter_1 -> qfo, args_dict_get_3 -> qfp, entry_max_loop -> qft, slot_dict_iter -> qfx, entry_tuple_lt -> qfy, entry_dict_get -> qfz, args_tuple_iterator_next_1 -> qfC, plain_set_new -> qfL, entry_tuple_iterator_next -> qfQ, sub_list_set -> qfS, slot_set_xor -> qfT, slot_set_or -> qf4, args_tuple_mul_2 -> qg1, slot_tuple_rmul -> qha, entry_tuple_mul -> qhb, args_int_rmul_2 -> qhc, slot_int_index -> qhj, entry_int_rmul -> qhk, fills_int_mul -> qhx
open PySem.Heap renaming get?_push_of_some -> qad, lt_size -> qak, get?_push_size -> qao, size_push -> qa0, get?_update_other -> qa6, get?_update_self -> qbb, get?_push_ne -> qch, get?_update_ne -> qgw, size_update -> qgY
open PySem.Heap.IsSliceOf renaming new -> qhi
open PySem.Heap.SameBut renaming update -> qaN, refl -> qdk
open PySem.IsL renaming update -> qez
open PySem.Moved renaming trans -> qht
open PySem.Obj renaming data_mapFields -> qbh, isFreed_of_fields -> qb8, cls_mapFields -> qcC
open PySem.Paired renaming length -> qen, snoc -> qhe
open PySem.PassesOwn renaming never -> qb7
open PySem.PyData renaming noDict_hsm -> qgr
open PySem.SeqAt renaming ne_of_list_tuple -> qfR
open PySem.SeqAt.EqAt renaming of_refs -> qd2, same -> qeG, str_int -> qfJ, int_str -> qfK, tuple_str -> qja, tuple_none -> qjb, tuple_list -> qjc, tuple_int -> qjd, tuple_bool -> qje, str_tuple -> qjf, str_str -> qjg, str_none -> qjh, str_list -> qji, str_bool -> qjj, none_tuple -> qjk, none_str -> qjl, none_list -> qjm, none_int -> qjn, none_bool -> qjo, list_tuple -> qjp, list_str -> qjq, list_none -> qjr, list_int -> qjs, list_bool -> qjt, int_tuple -> qju, int_none -> qjv, int_list -> qjw, int_int -> qjx, int_bool -> qjy, bool_tuple -> qjz, bool_str -> qjA, bool_none -> qjB, bool_list -> qjC, bool_int -> qjD, bool_bool -> qjE
open PySem.SeqAt.RcAt renaming tuples -> qef, lists_lengths -> qeT, lists -> qf2, tuple_str -> qiC, tuple_none -> qiD, tuple_list -> qiE, tuple_int -> qiF, tuple_bool -> qiG, str_tuple -> qiH, str_str -> qiI, str_none -> qiJ, str_list -> qiK, str_int -> qiL, str_bool -> qiM, none_tuple -> qiN, none_str -> qiO, none_none -> qiP, none_list -> qiQ, none_int -> qiR, none_bool -> qiS, list_tuple -> qiT, list_str -> qiU, list_none -> qiV, list_int -> qiW, list_bool -> qiX, int_tuple -> qiY, int_str -> qiZ, int_none -> qi0, int_list -> qi1, int_int -> qi2, int_bool -> qi3, bool_tuple -> qi4, bool_str -> qi5, bool_none -> qi6, bool_list -> qi7, bool_int -> qi8, bool_bool -> qi9
open PySem.SeqAt.RcNeAt renaming tuples -> qfe, tuple_str -> qhA, tuple_none -> qhB, tuple_list -> qhC, tuple_int -> qhD, tuple_bool -> qhE, str_tuple -> qhF, str_str -> qhG, str_none -> qhH, str_list -> qhI, str_int -> qhJ, str_bool -> qhK, none_tuple -> qhL, none_str -> qhM, none_none -> qhN, none_list -> qhO, none_int -> qhP, none_bool -> qhQ, lists_lengths -> qhR, lists -> qhS, list_tuple -> qhT, list_str -> qhU, list_none -> qhV, list_int -> qhW, list_bool -> qhX, int_tuple -> qhY, int_str -> qhZ, int_none -> qh0, int_list -> qh1, int_int -> qh2, int_bool -> qh3, bool_tuple -> qh4, bool_str -> qh5, bool_none -> qh6, bool_list -> qh7, bool_int -> qh8, bool_bool -> qh9
open PySem.SetTable renaming toList_insertAt -> qb9
open PySem.W renaming mg_none_of -> qa3, mg_of -> qbe, kia_one -> qbv, cellsFrom_some -> qcV, kdl_extend -> qei, kitx_tuple -> qf7, kitx_list -> qgh, kitx_dict -> qgi
open PySem.Walks renaming list -> qgC
open PySem.WalksT renaming enumerateD -> qeF
namespace L2
open PySem PySem.Spec PyProof.Rows
abbrev Key:=Sum Int Str
noncomputable def m9:Key->Value->Bool
 | .inl k,v=>Value.isInt k v
 | .inr x,v=>Value.isStrOf x v
noncomputable def DP (w:World):Key->Int
 | .inl k=>hashInt k
 | .inr x=>hashStr w x
theorem bM:∀ {k:Key}{v:Value},m9 k v=true->(∃ i t,k=Sum.inl i/\v=Value.int i t)\/(∃ x t,k=Sum.inr x/\v=Value.str x t)
 | .inl i,v,h=>by
  obtain⟨t,e⟩:=Value.isInt_shape (k:=i) (v:=v) h
  exact .inl ⟨i,t,rfl,e⟩
 | .inr x,v,h=>by
  obtain⟨t,e⟩:=Value.isStrOf_shape (x:=x) (v:=v) h
  exact .inr ⟨x,t,rfl,e⟩
theorem vd (i:Int) (t:Tok):m9 (.inl i) (.int i t)=true:=by simp [m9,Value.isInt]
theorem uC (x:Str) (t:Tok):m9 (.inr x) (.str x t)=true:=by simp [m9,Value.isStrOf]
theorem Bs (a b:Int):decide ((Sum.inl a:Key)=Sum.inl b)=(a==b):=by
 by_cases e:a=b
 ·subst e;simp
 ·have h:¬ (Sum.inl a:Key)=Sum.inl b:=λq=>e (Sum.inl.inj q)
  rw [decide_eq_false h]
  exact (beq_eq_false_iff_ne.mpr e).symm
theorem BN (a b:Str):decide ((Sum.inr a:Key)=Sum.inr b)=decide (a=b):=by
 by_cases e:a=b
 ·subst e;simp
 ·have h:¬ (Sum.inr a:Key)=Sum.inr b:=λq=>e (Sum.inr.inj q)
  rw [decide_eq_false h,decide_eq_false e]
theorem Bp (a:Int) (b:Str):decide ((Sum.inl a:Key)=Sum.inr b)=false:=decide_eq_false (λq=>nomatch q)
theorem A9 (a:Str) (b:Int):decide ((Sum.inr a:Key)=Sum.inl b)=false:=decide_eq_false (λq=>nomatch q)
noncomputable def bU (prog:Program) (w:World):PySem.KeyKind prog w Key where
 is:=m9
 hash:=DP w
 inj:=λv a b ha hb=>by
  rcases bM ha with⟨i,t,rfl,rfl⟩ | ⟨x,t,rfl,rfl⟩
  ·rcases bM hb with⟨j,u,rfl,e⟩ | ⟨y,u,rfl,e⟩
   ·injection e with e1 _;rw [e1]
   ·exact nomatch e
  ·rcases bM hb with⟨j,u,rfl,e⟩ | ⟨y,u,rfl,e⟩
   ·exact nomatch e
   ·injection e with e1 _;rw [e1]
 byValue:=λk v h=>by
  rcases bM h with⟨i,t,rfl,rfl⟩ | ⟨x,t,rfl,rfl⟩<;>rfl
 pyHash:=λhv h=>by
  rcases bM hv with⟨i,t,rfl,rfl⟩ | ⟨x,t,rfl,rfl⟩
  ·exact wpAny_pyHash_int h
  ·exact wpAny_pyHash_str h
 eqBool:=λhu hv h=>by
  rcases bM hu with⟨i,t,rfl,rfl⟩ | ⟨x,t,rfl,rfl⟩
  ·rcases bM hv with⟨j,u,rfl,rfl⟩ | ⟨y,u,rfl,rfl⟩
   ·rw [Bs] at h;exact wpAny_eqBool_int h
   ·rw [Bp] at h;exact qfK i t y u _ _ _ _ h
  ·rcases bM hv with⟨j,u,rfl,rfl⟩ | ⟨y,u,rfl,rfl⟩
   ·rw [A9] at h;exact qfJ x t j u _ _ _ _ h
   ·rw [BN] at h;exact wpAny_eqBool_str h
 «strs»:=λk x t v h=>by
  rcases bM h with⟨i,u,rfl,e⟩ | ⟨y,u,rfl,e⟩
  ·exact nomatch e
  ·injection e with e1 _
   subst e1
   cases v<;>rfl
theorem qN (prog:Program) (w:World) (i:Int) (t:Tok):(bU prog w).is (.inl i) (.int i t)=true:=vd i t
theorem pq (prog:Program) (w:World) (x:Str) (t:Tok):(bU prog w).is (.inr x) (.str x t)=true:=uC x t
inductive V where
 | non | bl (b:Bool) | int (i:Int) | str (x:Str) | byt (b:Array UInt8) | flt (b:UInt64) | ref (a:Addr) | ty (n:String)
 deriving DecidableEq
noncomputable def aA:V->Value->Prop
 | .non,u=>u=Value.none
 | .bl b,u=>u=Value.bool b
 | .int i,u=>∃ t,u=Value.int i t
 | .str x,u=>∃ t,u=Value.str x t
 | .byt b,u=>∃ t,u=Value.bytes b t
 | .flt b,u=>∃ t,u=Value.float b t
 | .ref a,u=>u=Value.ref a
 | .ty n,u=>u=Value.type n
abbrev av:List V->List Value->Prop:=Paired aA
theorem av.length {xs:List V}{us:List Value} (r:av xs us):xs.length=us.length:=qen r
theorem av.get:∀ {xs:List V}{us:List Value}{i:Nat}{x:V},av xs us->xs[i]?=some x->∃ u,us[i]?=some u/\aA x u
 | _,_,_,_,.nil,e=>by simp at e
 | _,_,0,_,.cons r _,e=>by simp at e;subst e;exact⟨_,rfl,r⟩
 | _,_,i+1,x,.cons _ t,e=>by
  obtain⟨u,h1,h2⟩:=av.get (i:=i) (x:=x) t (by simpa using e)
  exact⟨u,by simpa using h1,h2⟩
theorem av.set {x:V}{u:Value} (r:aA x u):∀ {xs:List V}{us:List Value} (i:Nat),av xs us->av (xs.set i x) (us.set i u)
 | _,_,_,.nil=>.nil
 | _,_,0,.cons _ t=>.cons r t
 | _,_,i+1,.cons q t=>.cons q (av.set r i t)
theorem av.append:∀ {xs ys:List V}{us ws:List Value},av xs us->av ys ws->av (xs++ys) (us++ws)
 | _,_,_,_,.nil,s=>s
 | _,_,_,_,.cons r t,s=>.cons r (av.append t s)
theorem av.take:∀ {xs:List V}{us:List Value} (n:Nat),av xs us->av (xs.take n) (us.take n)
 | _,_,0,_=>.nil
 | _,_,_+1,.nil=>.nil
 | _,_,n+1,.cons r t=>.cons r (av.take n t)
theorem av.drop:∀ {xs:List V}{us:List Value} (n:Nat),av xs us->av (xs.drop n) (us.drop n)
 | _,_,0,r=>r
 | _,_,_+1,.nil=>.nil
 | _,_,n+1,.cons _ t=>av.drop n t
noncomputable def jC:Option V->Option Value->Prop
 | some v,some u=>aA v u
 | none,none=>True
 | _,_=>False
noncomputable def KV {κ:Type}:List (κ×V)->List (κ×Value)->Prop:=Paired λ(p:κ×V) (q:κ×Value)=>p.1=q.1/\aA p.2 q.2
noncomputable def kV:Key->V
 | .inl i=>.int i
 | .inr x=>.str x
inductive HO where
 | lst (xs:List V)
 | tup (xs:List V)
 | dK (kvs:List (Key×V)) | dT (kvs:List (List Key×V))
 | set (S:Int->Bool) (n:Nat)
 | ins (C dx:Addr) (fs:List (Str×V))
 | own (x:Addr)
 | xd (fs:List (Str×V))
 | met (f x:Addr)
 | rng (lo hi:Int)
 | frz (o:Obj) (u:HO)
 | tbl (ps:Array Value)
 | ext (φ:Heap->Prop)
abbrev Hp:=Addr->Option HO
noncomputable def upd (H:Hp) (a:Addr) (o:HO):Hp:=λb=>if b=a then some o else H b
theorem aI {H:Hp}{a:Addr}{o:HO}:upd H a o a=some o:=by unfold upd;rw [if_pos rfl]
theorem aw {H:Hp}{a b:Addr}{o:HO} (h:b≠a):upd H a o b=H b:=by unfold upd;rw [if_neg h]
theorem Ck {H:Hp}{a b:Addr}{o u:HO} (h:H a=some o) (h':H b=some u) (d:o≠u):a≠b:=by
 intro e;subst e;rw [h] at h';exact d (qaD h')
theorem ax {H:Hp}{a b:Addr}{o:HO} (h:H a=some o) (h':H b=none):a≠b:=by
 intro e;subst e;rw [h] at h';cases h'
noncomputable def di (h:Heap) (a:Addr) (its:Array Value):Prop:=∃ o:Obj,h.get? a=some o/\o.cls=.type "tuple"/\(∃ n,o.data=.seq its n)/\o.dict=none
theorem di.tup {h:Heap}{a:Addr}{its:Array Value} (x:di h a its):IsTup h a its:=let ⟨o,e,c,n,_⟩:=x;⟨o,e,c,n⟩
theorem di.new (h:Heap) (its:Array Value):di (h.push { cls:=.type "tuple",data:=.seq its }) h.objs.size its:=⟨_,qao _ rfl,rfl,⟨_,rfl⟩,rfl⟩
section
variable (P:Program) (w:World)
noncomputable def bT (H:Hp) (h:Heap) (a:Addr):HO->Prop
 | .lst xs=>xs.length<=sizeLine/\∃ (its:List Value) (n:Nat),av xs its/\h.get? a=some { cls:=.type "list",data:=.seq its.toArray n }
 | .tup xs=>xs.length<=sizeLine/\∃ its:List Value,av xs its/\di h a its.toArray
 | .dK kvs=>kvs.length<=sizeLine/\(a==sysModules)=false/\∃ vs,KV kvs vs/\h.DictOf (bU P w) a vs
 | .dT kvs=>kvs.length<=sizeLine/\(a==sysModules)=false/\∃ xs:List (List Key×Addr×Value),
   Paired (λ(p:List Key×V) (q:List Key×Addr×Value)=>p.1=q.1/\H q.2.1=some (.tup (p.1.map kV))/\aA p.2 q.2.2) kvs xs/\
   ∃ o es ep,h.get? a=some o/\o.ExactDict/\o.data=.dict es ep/\es.toList=xs.map (entryOfKey (tupleKind (bU P w)))/\(xs.map (·.1)).Nodup
 | .set S n=>h.SetOf (intKind P w) a S n
 | .ins C dx fs=>H dx=some (.own a)/\fs.length<=1000/\dx≠a/\h.get? a=some (PySem.W.instObj C dx)/\
   ∃ mA,h.Ns1 dx mA/\(∀ f,jC (fs.lookup f) (mA f))/\PySem.Within mA (fs.map (·.1))
 | .own _=>∃ o,h.get? a=some o
 | .xd fs=>∃ mA,h.Ns1 a mA/\∀ f,jC (fs.lookup f) (mA f)
 | .rng lo hi=>∃ t u v,h.get? a=some { cls:=.type "range",data:=.fields #[.int lo t,.int hi u,.int 1 v] }
 | .frz o u=>h.get? a=some o/\bT H h a u
 | .tbl ps=>h.get? a=some { cls:=.none,data:=.fields ps }
 | .met f x=>h.get? a=some (PySem.W.methodObj (.ref f) (.ref x))
 | .ext φ=>φ h/\(∃ o,h.get? a=some o)/\∀ h1 h2:Heap,φ h1->(∀ o,h1.get? a=some o->h2.get? a=some o)->φ h2
noncomputable def HOk (H:Hp) (h:Heap):Prop:=∀ a o,H a=some o->bT P w H h a o
end
section
variable {P:Program}{w:World}{H H':Hp}{h h':Heap}{a:Addr}{o:HO}
theorem bT.lt (x:bT P w H h a o):a < h.objs.size:=by
 cases o with
 | lst xs=>obtain⟨_,_,_,_,e⟩:=x;exact qak e
 | tup xs=>obtain⟨_,_,_,p⟩:=x;exact p.tup.lt
 | dK kvs=>obtain⟨_,_,_,_,o,_,_,e,_⟩:=x;exact qak e
 | dT kvs=>obtain⟨_,_,_,_,o,_,_,e,_⟩:=x;exact qak e
 | set S n=>obtain⟨o,_,_,_,e,_⟩:=x;exact qak e
 | ins C dx fs=>obtain⟨_,_,_,e,_⟩:=x;exact qak e
 | own y=>obtain⟨_,e⟩:=x;exact qak e
 | xd fs=>obtain⟨_,⟨_,_,_,e,_⟩,_⟩:=x;exact qak e
 | rng lo hi=>obtain⟨_,_,_,e⟩:=x;exact qak e
 | frz ob u=>obtain⟨e,_⟩:=x;exact qak e
 | tbl ps=>exact qak (show h.get? a=some _ from x)
 | met f y=>exact qak (show h.get? a=some _ from x)
 | ext φ=>obtain⟨_,⟨_,e⟩,_⟩:=x;exact qak e
theorem Paired.mapP {α β:Type}{F G:α->β->Prop}:∀ {l₁:List α}{l₂:List β},Paired F l₁ l₂->(∀ a b,F a b->G a b)->Paired G l₁ l₂
 | _,_,.nil,_=>.nil
 | _,_,.cons r t,f=>.cons (f _ _ r) (Paired.mapP t f)
theorem bT.stay (x:bT P w H h a o) (k:∀ b u,(b=a\/H b=some (.own a))->h.get? b=some u->h'.get? b=some u)
  (ho:∀ b,H b=some (.own a)->H' b=some (.own a)) (ht:∀ b xs,H b=some (.tup xs)->H' b=some (.tup xs)):bT P w H' h' a o:=by
 induction o with
 | lst xs=>obtain⟨z,its,n,r,e⟩:=x;exact⟨z,its,n,r,k _ _ (.inl rfl) e⟩
 | tup xs=>obtain⟨z,its,r,ob,e,c⟩:=x;exact⟨z,its,r,ob,k _ _ (.inl rfl) e,c⟩
 | dK kvs=>obtain⟨z,y,vs,r,ob,es,ep,e,c⟩:=x;exact⟨z,y,vs,r,ob,es,ep,k _ _ (.inl rfl) e,c⟩
 | dT kvs=>
  obtain⟨z,y,xs,r,ob,es,ep,e,c⟩:=x
  exact⟨z,y,xs,Paired.mapP r λp q z=>⟨z.1,ht _ _ z.2.1,z.2.2⟩,ob,es,ep,k _ _ (.inl rfl) e,c⟩
 | set S n=>obtain⟨ob,es,ep,t,e,c⟩:=x;exact⟨ob,es,ep,t,k _ _ (.inl rfl) e,c⟩
 | ins C dx fs=>
  obtain⟨d,z,ne,e,mA,⟨od,es,ep,e2,c⟩,r⟩:=x
  exact⟨ho _ d,z,ne,k _ _ (.inl rfl) e,mA,⟨od,es,ep,k _ _ (.inr d) e2,c⟩,r⟩
 | own y=>obtain⟨ob,e⟩:=x;exact⟨ob,k _ _ (.inl rfl) e⟩
 | xd fs=>obtain⟨mA,⟨od,es,ep,e,c⟩,r⟩:=x;exact⟨mA,⟨od,es,ep,k _ _ (.inl rfl) e,c⟩,r⟩
 | rng lo hi=>obtain⟨t,u,v,e⟩:=x;exact⟨t,u,v,k _ _ (.inl rfl) e⟩
 | frz ob u ih=>obtain⟨e,q⟩:=x;exact⟨k _ _ (.inl rfl) e,ih q⟩
 | tbl ps=>
  have e:h.get? a=some { cls:=.none,data:=.fields ps }:=x
  show h'.get? a=some { cls:=.none,data:=.fields ps }
  exact k a _ (.inl rfl) e
 | met f y=>
  have e:h.get? a=some (PySem.W.methodObj (.ref f) (.ref y)):=x
  show h'.get? a=some (PySem.W.methodObj (.ref f) (.ref y))
  exact k a _ (.inl rfl) e
 | ext φ=>obtain⟨p,⟨o,e⟩,st⟩:=x;exact⟨st _ _ p λo q=>k _ _ (.inl rfl) q,⟨o,k _ _ (.inl rfl) e⟩,st⟩
theorem HOk.lt (x:HOk P w H h) (e:H a=some o):a < h.objs.size:=(x a o e).lt
theorem HOk.fresh (x:HOk P w H h) (e:h.objs.size<=a):H a=none:=by
 cases q:H a with
 | none=>rfl
 | some u=>exact absurd (qaE (x.lt q) e) (qbH _)
theorem HOk.kept (x:HOk P w H h) (k:∀ b u,h.get? b=some u->h'.get? b=some u):HOk P w H h':=λa o e=>
 (x a o e).stay (λb u _ q=>k b u q) (λ_ q=>q) λ_ _ q=>q
theorem HOk.laid (x:HOk P w H h) (k:∀ b u,h.get? b=some u->h'.get? b=some u) (hp:h.objs.size<=a) (new:bT P w (upd H a o) h' a o):HOk P w (upd H a o) h':=λb u e=>by
 have hn:=x.fresh hp
 by_cases hb:b=a
 ·subst hb;rw [aI] at e;cases e;exact new
 ·rw [aw hb] at e
  exact (x b u e).stay (λc v _ q=>k c v q) (λc q=>by rw [aw (ax q hn)];exact q) λc xs q=>by rw [aw (ax q hn)];exact q
end
noncomputable def Rd (H:Hp) (a:Addr) (u:HO):Prop:=H a=some u\/∃ o,H a=some (.frz o u)
theorem Rd.of {H:Hp}{a:Addr}{u:HO} (h:H a=some u):Rd H a u:=.inl h
theorem Rd.ok {P:Program}{w:World}{H:Hp}{h:Heap}{a:Addr}{u:HO} (r:Rd H a u) (x:HOk P w H h):bT P w H h a u:=by
 rcases r with r | ⟨o,r⟩
 ·exact x a u r
 ·obtain⟨_,q⟩:=x a _ r
  exact q
noncomputable def Mut:Option HO->Prop
 | some (.lst _)=>True
 | some (.dK _)=>True
 | some (.dT _)=>True
 | some (.set _ _)=>True
 | some (.ins _ _ _)=>True
 | some (.ext _)=>True
 | _=>False
section
variable {P:Program}{w:World}{H:Hp}{h h':Heap}{x e:Addr}{o':HO}
theorem HOk.write (ok:HOk P w H h) (mu:Mut (H x)) (he:e=x\/H e=some (.own x)) (k:∀ b u,b≠e->h.get? b=some u->h'.get? b=some u) (heo:∃ u,h'.get? e=some u)
  (new:bT P w (upd H x o') h' x o'):HOk P w (upd H x o') h':=λb u q=>by
 have nown:∀ c y,H c=some (.own y)->c≠x:=λc y r z=>by subst z;rw [r] at mu;exact mu
 have ntup:∀ c xs,H c=some (.tup xs)->c≠x:=λc xs r z=>by subst z;rw [r] at mu;exact mu
 by_cases hb:b=x
 ·subst hb;rw [aI] at q;cases q;exact new
 ·rw [aw hb] at q
  by_cases hbe:b=e
  ·have q':H b=some (.own x):=by
    rcases he with z | z
    ·exact absurd (hbe.trans z) hb
    ·rw [hbe];exact z
   rw [q] at q';cases q'
   obtain⟨v,hv⟩:=heo
   exact⟨v,by rw [hbe];exact hv⟩
  ·refine (ok b u q).stay (λc v hc r=>k c v ?_ r) (λc r=>by rw [aw (nown c b r)];exact r) λc xs r=>by rw [aw (ntup c xs r)];exact r
   rcases hc with rfl | hc
   ·exact hbe
   ·rintro rfl
    rcases he with z | z
    ·exact nown c b hc z
    ·rw [hc] at z;cases z;exact hb rfl
end
structure Un (fs ex:List Addr) (H H':Hp) (h h':Heap):Prop where
 keep:∀ b o,h.get? b=some o->H b=none->b ∉ fs->b ∉ ex->h'.get? b=some o
 slot:∀ b o,h.get? b=some o->H b=none->b ∈ fs->b ∉ ex->∃ sl,h'.get? b=some { o with slots:=sl }
 free:∀ b o,h.get? b=some o->H b=none->b ∉ ex->H' b=none
 there:∀ b o,h.get? b=some o->b ∉ ex->∃ o',h'.get? b=some o'
 tups:∀ b xs,H b=some (.tup xs)->H' b=some (.tup xs)
 frzs:∀ b o u,H b=some (.frz o u)->H' b=some (.frz o u)
 tbls:∀ b ps,H b=some (.tbl ps)->∃ more,H' b=some (.tbl (ps++more))
section
variable {fs fs' ex ex':List Addr}{H H1 H2:Hp}{h h1 h2 h':Heap}{a x e:Addr}{o:HO}
theorem Un.any (u:Un fs ex H H1 h h1) {b:Addr}{ob:Obj} (q:h.get? b=some ob) (n:H b=none) (hx:b ∉ ex):∃ sl,h1.get? b=some { ob with slots:=sl }:=by
 by_cases hb:b ∈ fs
 ·exact u.slot b ob q n hb hx
 ·exact⟨ob.slots,u.keep b ob q n hb hx⟩
theorem Un.kept (k:∀ b u,h.get? b=some u->h'.get? b=some u):Un fs ex H H h h':=
 ⟨λb ob q _ _ _=>k b ob q,λb ob q _ _ _=>⟨ob.slots,k b ob q⟩,λ_ _ _ n _=>n,λb ob q _=>⟨ob,k b ob q⟩,λ_ _ q=>q,λ_ _ _ q=>q,λ_ ps q=>⟨#[],by rw [q];simp⟩⟩
theorem Un.refl:Un fs ex H H h h:=Un.kept λ_ _ q=>q
theorem Un.laid (k:∀ b u,h.get? b=some u->h'.get? b=some u) (hp:h.objs.size<=a) (hn:H a=none):Un fs ex H (upd H a o) h h' where
 keep:=λb u q _ _ _=>k b u q
 slot:=λb u q _ _ _=>⟨u.slots,k b u q⟩
 free:=λb u q n _=>by rw [aw (qam (qaE (qak q) hp))];exact n
 there:=λb u q _=>⟨u,k b u q⟩
 tups:=λb xs q=>by rw [aw (ax q hn)];exact q
 frzs:=λb u xs q=>by rw [aw (ax q hn)];exact q
 tbls:=λb ps q=>⟨#[],by rw [aw (ax q hn),q];simp⟩
theorem Un.write (mu:Mut (H x)) (he:e=x\/H e=some (.own x)) (k:∀ b u,b≠e->h.get? b=some u->h'.get? b=some u) (heo:∃ u,h'.get? e=some u):Un fs ex H (upd H x o) h h':=by
 have hx:∀ b,H b=none->b≠x:=λb n z=>by subst z;rw [n] at mu;exact mu
 have hb:∀ b,H b=none->b≠e:=λb n z=>by
  subst z
  rcases he with r | r
  ·exact hx b n r
  ·rw [n] at r;cases r
 have hm:∀ b u,H b=some u->¬ Mut (some u)->b≠x:=λb u q nm z=>by subst z;rw [q] at mu;exact nm mu
 refine⟨λb u q n _ _=>k b u (hb b n) q,λb u q n _ _=>⟨u.slots,k b u (hb b n) q⟩,λb u q n _=>by rw [aw (hx b n)];exact n,λb u q _=>?_,
  λb xs q=>by rw [aw (hm b _ q λz=>z)];exact q,λb u xs q=>by rw [aw (hm b _ q λz=>z)];exact q,λb ps q=>⟨#[],by rw [aw (hm b _ q λz=>z),q];simp⟩⟩
 by_cases hbe:b=e
 ·subst hbe;exact heo
 ·exact⟨u,k b u hbe q⟩
end
noncomputable def trk (h:Heap) (H:Hp):List Addr:=(List.range h.objs.size).filter λa=>(H a).isSome
noncomputable def om (h:Heap) (H:Hp):Heap:=PySem.W.hideAll h (trk h H)
theorem vE (h:Heap) (H:Hp):(om h H).objs.size=h.objs.size:=PySem.W.hideAll_size _ _
theorem vI {h:Heap}{H:Hp}{b:Addr}{o:Obj} (e:h.get? b=some o) (n:H b=none):(om h H).get? b=some o:=
 PySem.W.hideAll_get _ e λhm=>by
  have q:(H b).isSome=true:=(qcf.mp hm).2
  rw [n] at q;simp at q
theorem zH {h:Heap}{H:Hp}{b:Addr}{o:Obj} (e:(om h H).get? b=some o):h.get? b=some o/\H b=none:=by
 have e':h.get? b=some o:=PySem.W.of_hideAll (trk h H) e
 refine⟨e',?_⟩
 cases q:H b with
 | none=>rfl
 | some x=>
  have hm:b ∈ trk h H:=qcf.mpr ⟨qaP.mpr (qak e'),by simp [q]⟩
  have z:(om h H).get? b=none:=PySem.W.hideAll_none (trk h H) hm
  rw [z] at e;cases e
structure Mod (K:PySem.W.Frag) (mg:Str->Option Value) (base:Heap):Prop where
 kin:K.In base
 glob:base.Ns mainGlobals mg
 blt:∃ mb,base.Ns builtinsNs mb/\∀ x:Str,x≠"__name__"->mb x=bootBuiltins x
 nolimit:base.NoLimit
structure Cx where
 prog:Program
 w:World
 K:PySem.W.Frag
 mg:Str->Option Value
 base:Heap
 A:Around
 N:List Str
 s₀:Shared
 H₀:Hp
 env:Env
 outer:List Env
 stack:List Env
 ex:List Addr
 fn:Str->Bool
 calm:Bool
 pn:List (Addr×Obj)
 xe:Value->Shared->Prop
noncomputable def frs (l:List Env):List Addr:=l.filterMap (·.frame)
abbrev Cx.fs (X:Cx):List Addr:=frs X.outer
noncomputable def Vis (sc:Scope) (x:Str):Prop:=sc.names.lookup x=some .local\/sc.names.lookup x=some .cell\/sc.names.lookup x=some .free
noncomputable def Loc (sc:Scope) (x:Str):Prop:=sc.names.lookup x=some .local\/sc.names.lookup x=some .cell
noncomputable def DE (env:Env) (h:Heap) (m:Str->Option Value) (x:Str) (u:Value):Prop:=
 (env.kindOf x=some .local/\m x=some u)\/((env.kindOf x=some .cell\/env.kindOf x=some .free)/\∃ c,env.cells.lookup x=some c/\h.IsCell c (some u))
structure Cx.Ok (X:Cx):Prop where
 mod:Mod X.K X.mg X.base
 kind:X.env.scope.kind=.function
 glob:X.env.globals=mainGlobals
 blt:X.env.builtins=builtinsNs
 above:X.s₀.heap.objs.size<=X.env.locals
 inj:∀ x y c,X.env.cells.lookup x=some c->X.env.cells.lookup y=some c->x=y
 has:∀ x,(X.env.kindOf x=some .cell\/X.env.kindOf x=some .free)->∃ c,X.env.cells.lookup x=some c
 cab:∀ x c,X.fn x=true->X.env.cells.lookup x=some c->X.s₀.heap.objs.size<=c
 hd:X.calm=true->X.A.handled=none
 frames:X.A.frames=some X.stack
 stk:X.stack=X.outer\/(X.stack=X.env::X.outer/\X.env.frame=some X.env.locals)
 exf:∀ b ∈ X.ex,b≠X.env.locals/\∀ x c,X.env.cells.lookup x=some c->c≠b
 bs:∀ b o,X.base.get? b=some o->X.s₀.heap.get? b=some o/\X.H₀ b=none
 bsz:X.base.objs.size<=X.s₀.heap.objs.size
 noex:∀ b o,X.base.get? b=some o->b ∉ X.ex
 exfs:∀ b ∈ X.ex,b ∉ X.fs
 funs:X.s₀.heap.FunFrames X.base X.outer
 frf:∀ b ∈ X.fs,X.H₀ b=none
structure Inv (X:Cx) (pins:List (Addr×Obj)) (σ:List (Option V)) (H:Hp) (s:Shared):Prop where
 ok:X.Ok
 os:s.os=X.s₀.os
 bare:AllBare s.gens
 base:Un X.fs X.ex X.H₀ H X.s₀.heap s.heap
 loc:∃ m,s.heap.Ns X.env.locals m/\∀ (i:Nat) (x:Str) (v:V),X.N[i]?=some x->σ[i]?=some (some v)->Vis X.env.scope x->∃ u,aA v u/\DE X.env s.heap m x u
 cell:∀ x c,X.env.cells.lookup x=some c->∃ v,s.heap.IsCell c v
 free:H X.env.locals=none
 freeC:∀ x c,X.env.cells.lookup x=some c->H c=none
 pin:∀ p ∈ X.pn++pins,s.heap.get? p.1=some p.2/\H p.1=none/\p.1≠X.env.locals/\p.1 ∉ X.fs/\∀ v,p.2.data≠.cell v
 hok:HOk X.prog X.w H s.heap
 len:σ.length=X.N.length
section
variable {X:Cx}{pins:List (Addr×Obj)}{σ:List (Option V)}{H H':Hp}{s:Shared}{h':Heap}
theorem Cx.Ok.nofr (ok:X.Ok) {b:Addr}{o:Obj} (e:X.base.get? b=some o):b ∉ X.fs:=λhb=>by
 have:=(ok.funs.mem hb).1
 rw [e] at this;cases this
theorem Inv.bs (I:Inv X pins σ H s):∀ b o,X.base.get? b=some o->s.heap.get? b=some o/\H b=none:=λb o e=>
 ⟨I.base.keep b o (I.ok.bs b o e).1 (I.ok.bs b o e).2 (I.ok.nofr e) (I.ok.noex b o e),I.base.free b o (I.ok.bs b o e).1 (I.ok.bs b o e).2 (I.ok.noex b o e)⟩
theorem Inv.bk (I:Inv X pins σ H s):∀ b o,X.base.get? b=some o->s.heap.get? b=some o:=λb o e=>(I.bs b o e).1
theorem Inv.mod (I:Inv X pins σ H s):Mod X.K X.mg X.base:=I.ok.mod
theorem Inv.kIn (I:Inv X pins σ H s):X.K.In s.heap:=I.ok.mod.kin.keeps I.bk
theorem Inv.fr (I:Inv X pins σ H s):∃ m,Fr X.base X.env.locals s.heap m:=
 let ⟨m,hn,_⟩:=I.loc
 ⟨m,hn,I.bk,qaQ I.ok.bsz I.ok.above⟩
theorem Inv.lt (I:Inv X pins σ H s):X.env.locals < s.heap.objs.size:=let ⟨_,hn,_⟩:=I.loc;hn.lt
theorem Inv.sz (I:Inv X pins σ H s):X.s₀.heap.objs.size<=s.heap.objs.size:=qaQ I.ok.above (qcA I.lt)
theorem Inv.nofs (I:Inv X pins σ H s) {a:Addr} (h:s.heap.objs.size<=a):a ∉ X.fs:=λhb=>by
 obtain⟨_,o,ho,_⟩:=I.ok.funs.mem hb
 exact absurd (qaE (qak ho) (qaQ I.sz h)) (qbH _)
theorem Inv.cne (I:Inv X pins σ H s):∀ x c,X.env.cells.lookup x=some c->c≠X.env.locals:=λx c e z=>by
 obtain⟨v,o,ho,hd⟩:=I.cell x c e
 obtain⟨m,⟨o',es,ep,ho',hd',_⟩,_⟩:=I.loc
 rw [z,ho'] at ho;cases ho;rw [hd'] at hd;cases hd
theorem Inv.funs (I:Inv X pins σ H s):s.heap.FunFrames X.base X.outer:=by
 have all:∀ (l:List Env),(∀ b ∈ frs l,b ∈ X.fs)->X.s₀.heap.FunFrames X.base l->s.heap.FunFrames X.base l:=by
  intro l
  induction l with
  | nil=>intro _ _;trivial
  | cons env r ih=>
   intro hs hl
   obtain⟨hk,⟨L,o,hf,hn,ho,hd⟩,hr⟩:=hl
   have hL:L ∈ X.fs:=hs L (by unfold frs;rw [qcj,hf];exact qah)
   obtain⟨sl,e⟩:=I.base.slot L o ho (I.ok.frf L hL) hL λz=>I.ok.exfs L z hL
   exact⟨hk,⟨L,_,hf,hn,e,hd⟩,ih (λb hb=>hs b (by unfold frs;rw [qcj,hf];exact qaf _ hb)) hr⟩
 exact all X.outer (λ_ hb=>hb) I.ok.funs
theorem Inv.stack (I:Inv X pins σ H s):s.heap.FunFrames X.base X.stack:=by
 rcases I.ok.stk with e | ⟨e,hf⟩
 ·rw [e];exact I.funs
 ·rw [e]
  obtain⟨m,hn,_⟩:=I.loc
  refine .cons (by rw [I.ok.kind];decide) hf hn ?_ I.funs
  exact Heap.get?_none_of_le (qaQ I.ok.bsz I.ok.above)
theorem Inv.stkSub (I:Inv X pins σ H s):∀ b ∈ frs X.stack,b ∈ X.env.locals::X.fs:=λb hb=>by
 rcases I.ok.stk with e | ⟨e,hf⟩
 ·rw [e] at hb;exact qaf _ hb
 ·rw [e] at hb
  unfold frs at hb
  rw [qcj,hf] at hb
  exact hb
theorem Inv.stkFree (I:Inv X pins σ H s):∀ b ∈ frs X.stack,H b=none:=λb hb=>by
 rcases qaz.mp (I.stkSub b hb) with e | hb
 ·rw [e];exact I.free
 ·obtain⟨_,o,ho,_⟩:=I.ok.funs.mem hb
  exact I.base.free b o ho (I.ok.frf b hb) λz=>I.ok.exfs b z hb
theorem Inv.step {g':Array GenState}{t':Nat}{d':Drawn}{ch:List Addr} (I:Inv X pins σ H s)
  (hch:∀ b ∈ ch,(b ∈ X.ex\/X.s₀.heap.objs.size<=b)/\b≠X.env.locals/\(∀ x c,X.env.cells.lookup x=some c->c≠b)/\∀ p ∈ X.pn++pins,p.1≠b)
  (keep:∀ b o,b≠X.env.locals->b ∉ X.fs->b ∉ ch->s.heap.get? b=some o->H b=none->h'.get? b=some o)
  (slot:∀ b o,b≠X.env.locals->b ∈ X.fs->b ∉ ch->s.heap.get? b=some o->H b=none->∃ sl,h'.get? b=some { o with slots:=sl }) (free:∀ b o,b ∉ ch->s.heap.get? b=some o->H b=none->H' b=none)
  (there:∀ b o,b ∉ ch->s.heap.get? b=some o->∃ o',h'.get? b=some o')
  (tups:∀ b xs,H b=some (.tup xs)->H' b=some (.tup xs)) (frzs:∀ b o u,H b=some (.frz o u)->H' b=some (.frz o u)) (tbls:∀ b ps,H b=some (.tbl ps)->∃ more,H' b=some (.tbl (ps++more)))
  (ns:∀ m,s.heap.Ns X.env.locals m->h'.Ns X.env.locals m) (hok:HOk X.prog X.w H' h') (hg:AllBare g') :
  Inv X pins σ H' { s with heap:=h',gens:=g',drawn:=d',toks:=t' }:=by
 have neL:∀ b o,X.s₀.heap.get? b=some o->b≠X.env.locals:=λb o e=>qam (qaE (qak e) I.ok.above)
 have neC:∀ b o,X.s₀.heap.get? b=some o->b ∉ X.ex->b ∉ ch:=λb o e hx hb=>by
  rcases (hch b hb).1 with z | z
  ·exact hx z
  ·exact absurd (qaE (qak e) z) (qbH _)
 have cellK:∀ x c,X.env.cells.lookup x=some c->∀ v,s.heap.IsCell c v->h'.IsCell c v:=λx c e v ⟨o,ho,hd⟩=>by
  have nch:c ∉ ch:=λz=>(hch c z).2.2.1 x c e rfl
  by_cases hc:c ∈ X.fs
  ·obtain⟨sl,q⟩:=slot c o (I.cne x c e) hc nch ho (I.freeC x c e)
   exact⟨_,q,hd⟩
  ·exact⟨o,keep c o (I.cne x c e) hc nch ho (I.freeC x c e),hd⟩
 refine⟨I.ok,I.os,hg,⟨λb o e n hb hx=>?_,λb o e n hb hx=>?_,λb o e n hx=>?_,λb o e hx=>?_,λb xs e=>tups b xs (I.base.tups b xs e),λb o xs e=>frzs b o xs (I.base.frzs b o xs e),λb ps e=>?_⟩,?_,λx c e=>?_,?_,λx c e=>?_,λp hp=>?_,hok,I.len⟩
 ·exact keep b o (neL b o e) hb (neC b o e hx) (I.base.keep b o e n hb hx) (I.base.free b o e n hx)
 ·obtain⟨sl,e1⟩:=I.base.slot b o e n hb hx
  obtain⟨sl',e2⟩:=slot b _ (neL b o e) hb (neC b o e hx) e1 (I.base.free b o e n hx)
  exact⟨sl',e2⟩
 ·obtain⟨o',e1⟩:=I.base.there b o e hx
  exact free b o' (neC b o e hx) e1 (I.base.free b o e n hx)
 ·obtain⟨o',e1⟩:=I.base.there b o e hx
  exact there b o' (neC b o e hx) e1
 ·obtain⟨m1,e1⟩:=I.base.tbls b ps e
  obtain⟨m2,e2⟩:=tbls b _ e1
  exact⟨m1++m2,by rw [e2,Array.append_assoc]⟩
 ·obtain⟨m,hn,hl⟩:=I.loc
  refine⟨m,ns m hn,λi x v e1 e2 e3=>?_⟩
  obtain⟨u,r,l⟩:=hl i x v e1 e2 e3
  refine⟨u,r,?_⟩
  rcases l with l | ⟨k,c,e,z⟩
  ·exact .inl l
  ·exact .inr ⟨k,c,e,cellK x c e _ z⟩
 ·obtain⟨v,z⟩:=I.cell x c e
  exact⟨v,cellK x c e v z⟩
 ·obtain⟨m,⟨o,_,_,ho,_⟩,_⟩:=I.loc
  exact free _ o (λz=>(hch _ z).2.1 rfl) ho I.free
 ·obtain⟨v,o,ho,hd⟩:=I.cell x c e
  exact free c o (λz=>(hch c z).2.2.1 x c e rfl) ho (I.freeC x c e)
 ·obtain⟨e,n,ne,nf,d⟩:=I.pin p hp
  have nch:p.1 ∉ ch:=λz=>(hch p.1 z).2.2.2 p hp rfl
  exact⟨keep p.1 p.2 ne nf nch e n,free p.1 p.2 nch e n,ne,nf,d⟩
theorem Inv.un {t':Nat} (I:Inv X pins σ H s) (u:Un X.fs [] H H' s.heap h') (hok:HOk X.prog X.w H' h'):Inv X pins σ H' { s with heap:=h',toks:=t' }:=by
 obtain⟨m,⟨o,es,ep,ho,r⟩,_⟩:=id I.loc
 obtain⟨sl,hL⟩:=u.any ho I.free (by simp)
 exact I.step (g':=s.gens) (d':=s.drawn) (ch:=[]) (λ_ z=>nomatch z) (λb o _ hb _ e n=>u.keep b o e n hb (by simp)) (λb o _ hb _ e n=>u.slot b o e n hb (by simp)) (λb o _ e n=>u.free b o e n (by simp)) (λb o _ e=>u.there b o e (by simp)) u.tups u.frzs u.tbls (λm' hm=>by
  obtain⟨o',es',ep',ho',r'⟩:=hm
  rw [ho] at ho';cases ho'
  exact⟨_,es',ep',hL,r'⟩) hok I.bare
theorem Inv.call {g':Array GenState}{t':Nat}{d':Drawn}{ch:List Addr} (I:Inv X pins σ H s) (u:Un (frs X.stack) ch H H' s.heap h') (hok:HOk X.prog X.w H' h') (hg:AllBare g')
  (hch:∀ b ∈ ch,(b ∈ X.ex\/X.s₀.heap.objs.size<=b)/\b≠X.env.locals/\(∀ x c,X.env.cells.lookup x=some c->c≠b)/\∀ p ∈ X.pn++pins,p.1≠b) :
  Inv X pins σ H' { s with heap:=h',gens:=g',drawn:=d',toks:=t' }:=by
 obtain⟨m,⟨o,es,ep,ho,r⟩,_⟩:=id I.loc
 obtain⟨sl,hL⟩:=u.any ho I.free λz=>(hch _ z).2.1 rfl
 exact I.step (ch:=ch) hch (λb o hL hb hc e n=>u.keep b o e n (λz=>(qaz.mp (I.stkSub b z)).elim hL hb) hc) (λb o _ _ hc e n=>u.any e n hc) (λb o hc e n=>u.free b o e n hc) (λb o hc e=>u.there b o e hc) u.tups u.frzs u.tbls (λm' hm=>by
  obtain⟨o',es',ep',ho',r'⟩:=hm
  rw [ho] at ho';cases ho'
  exact⟨_,es',ep',hL,r'⟩) hok hg
theorem Inv.turned {t':Nat}{it:Addr} (I:Inv X pins σ H s) (k:∀ b o,b≠it->s.heap.get? b=some o->h'.get? b=some o) (hn:H it=none) (hL:it≠X.env.locals)
  (h1:it ∈ X.ex\/X.s₀.heap.objs.size<=it) (h2:∀ x c,X.env.cells.lookup x=some c->c≠it) (h3:∀ p ∈ X.pn++pins,p.1≠it):Inv X pins σ H { s with heap:=h',toks:=t' }:=by
 have nit:∀ b u,H b=some u->b≠it:=λb u e z=>by rw [z,hn] at e;cases e
 refine I.step (g':=s.gens) (d':=s.drawn) (ch:=[it]) (λb hb=>?_) (λb o _ _ hc e _=>k b o (λz=>hc (by simp [z])) e) (λb o _ _ hc e _=>⟨o.slots,k b o (λz=>hc (by simp [z])) e⟩) (λ_ _ _ _ n=>n)
  (λb o hc e=>⟨o,k b o (λz=>hc (by simp [z])) e⟩) (λ_ _ e=>e) (λ_ _ _ e=>e) (λb ps e=>⟨#[],by rw [e];simp⟩) (λm hm=>?_) (λb u e=>?_) I.bare
 ·have e:b=it:=by simpa using hb
  subst e
  exact⟨h1,hL,h2,h3⟩
 ·obtain⟨o,es,ep,ho,r⟩:=hm
  exact⟨o,es,ep,k _ o (qbR hL) ho,r⟩
 ·refine (I.hok b u e).stay (λc v hc q=>k c v ?_ q) (λ_ q=>q) λ_ _ q=>q
  rcases hc with z | z
  ·rw [z];exact nit b u e
  ·exact nit c _ z
theorem Inv.tok (I:Inv X pins σ H s) (t:Nat):Inv X pins σ H { s with toks:=t }:=I.un (h':=s.heap) (t':=t) Un.refl I.hok
theorem Inv.kept {t':Nat} (I:Inv X pins σ H s) (k:∀ b u,s.heap.get? b=some u->h'.get? b=some u):Inv X pins σ H { s with heap:=h',toks:=t' }:=I.un (Un.kept k) (I.hok.kept k)
theorem Inv.laid {a:Addr}{o:HO}{t':Nat} (I:Inv X pins σ H s) (k:∀ b u,s.heap.get? b=some u->h'.get? b=some u) (hp:s.heap.objs.size<=a) (new:bT X.prog X.w (upd H a o) h' a o) :
  Inv X pins σ (upd H a o) { s with heap:=h',toks:=t' }:=I.un (Un.laid k hp (I.hok.fresh hp)) (I.hok.laid k hp new)
theorem Inv.write {x e:Addr}{o:HO}{t':Nat} (I:Inv X pins σ H s) (mu:Mut (H x)) (he:e=x\/H e=some (.own x)) (k:∀ b u,b≠e->s.heap.get? b=some u->h'.get? b=some u) (heo:∃ u,h'.get? e=some u)
  (new:bT X.prog X.w (upd H x o) h' x o):Inv X pins σ (upd H x o) { s with heap:=h',toks:=t' }:=I.un (Un.write mu he k heo) (I.hok.write mu he k heo new)
theorem Inv.weak {σ':List (Option V)} (I:Inv X pins σ H s) (hl:σ'.length=σ.length) (w:∀ (i:Nat) v,σ'[i]?=some (some v)->σ[i]?=some (some v)):Inv X pins σ' H s:=
 ⟨I.ok,I.os,I.bare,I.base,let ⟨m,hn,hl'⟩:=I.loc;⟨m,hn,λi x v e1 e2 e3=>hl' i x v e1 (w i v e2) e3⟩,I.cell,I.free,I.freeC,I.pin,I.hok,hl.trans I.len⟩
theorem Inv.pins_of {pins':List (Addr×Obj)} (I:Inv X pins σ H s) (h:∀ p ∈ pins',s.heap.get? p.1=some p.2/\H p.1=none/\p.1≠X.env.locals/\p.1 ∉ X.fs/\∀ v,p.2.data≠.cell v):Inv X pins' σ H s:=
 ⟨I.ok,I.os,I.bare,I.base,I.loc,I.cell,I.free,I.freeC,λp hp=>(qbx.mp hp).elim (λz=>I.pin p (qbJ _ z)) (h p),I.hok,I.len⟩
theorem qQ {N:List Str} (hN:N.Nodup) {i j:Nat}{x:Str} (a:N[i]?=some x) (b:N[j]?=some x):i=j:=by
 obtain⟨h1,e1⟩:=qax.mp a
 obtain⟨h2,e2⟩:=qax.mp b
 exact (qe4 hN).mp (e1.trans e2.symm)
theorem uQ {M:Model}{A:Around}{E:Value->Shared->Prop}{i:Nat}{x:Str}{v:V}{u:Value}{Q:Unit->Shared->Prop} (I:Inv X pins σ H s) (hN:X.N.Nodup) (hi:X.N[i]?=some x) (hx:Loc X.env.scope x) (r:aA v u)
  (h:∀ s',Inv X pins (σ.set i (some v)) H s'->(∃ a,Heap.SameBut a s.heap s'.heap/\(a=X.env.locals\/X.env.cells.lookup x=some a))->Q () s') (hf:X.fn x=true\/X.env.scope.names.lookup x=some .local:=by first | exact .inl rfl | exact .inr rfl | assumption):wpAny M A (storeName X.env x u) Q E s:=by
 obtain⟨m,hn,hl⟩:=id I.loc
 have hcls:(X.env.scope.kind==.class || (X.env.scope.kind==.module && X.env.locals != X.env.globals))=false:=by rw [I.ok.kind];rfl
 have hiσ:i < σ.length:=by rw [I.len];exact (qax.mp hi).1
 have cne:=I.cne
 have tracked:∀ {a:Addr}{h':Heap},(∃ o,s.heap.get? a=some o/\H a=none)->Heap.SameBut a s.heap h'->HOk X.prog X.w H h':=λ{a h'} ha hs b ob e=>by
  obtain⟨_,_,hfree⟩:=ha
  refine (I.hok b ob e).stay (λc w' hc q=>(hs.2 c ?_).trans q) (λ_ q=>q) λ_ _ q=>q
  rintro rfl
  rcases hc with rfl | hc
  ·rw [hfree] at e;cases e
  ·rw [hfree] at hc;cases hc
 rcases hx with hk | hk
 ·refine wpAny_storeName_local hk hn (λh' hn' hs=>?_) hcls
  obtain⟨oL,_,_,hoL,_⟩:=id hn
  refine h _ ⟨I.ok,I.os,I.bare,⟨λb o e n hb hx=>?_,λb o e n hb hx=>?_,I.base.free,λb o e hx=>?_,I.base.tups,I.base.frzs,I.base.tbls⟩,⟨_,hn',λj y v' e1 e2 e3=>?_⟩,λy c e=>?_,I.free,I.freeC,λp hp=>?_,tracked ⟨oL,hoL,I.free⟩ hs,by simpa using I.len⟩ ⟨_,hs,.inl rfl⟩
  ·exact (hs.2 b (qam (qaE (qak e) I.ok.above))).trans (I.base.keep b o e n hb hx)
  ·obtain⟨sl,e1⟩:=I.base.slot b o e n hb hx
   exact⟨sl,(hs.2 b (qam (qaE (qak e) I.ok.above))).trans e1⟩
  ·obtain⟨o',e1⟩:=I.base.there b o e hx
   exact⟨o',(hs.2 b (qam (qaE (qak e) I.ok.above))).trans e1⟩
  ·by_cases hj:j=i
   ·subst hj
    rw [hi] at e1;cases e1
    rw [qco hiσ] at e2
    cases e2
    exact⟨u,r,.inl ⟨hk,by simp⟩⟩
   ·rw [qbS (qbR hj)] at e2
    obtain⟨u',r',q⟩:=hl j y v' e1 e2 e3
    refine⟨u',r',?_⟩
    rcases q with⟨k,e⟩ | ⟨k,c,e,z⟩
    ·refine .inl ⟨k,?_⟩
     have:y≠x:=λe=>hj (qQ hN e1 (e ▸ hi))
     simp [this,e]
    ·exact .inr ⟨k,c,e,z.sameBut hs (cne y c e)⟩
  ·obtain⟨w',z⟩:=I.cell y c e
   exact⟨w',z.sameBut hs (cne y c e)⟩
  ·obtain⟨e,n,ne,nf,d⟩:=I.pin p hp
   exact⟨(hs.2 p.1 ne).trans e,n,ne,nf,d⟩
 ·have hfn:X.fn x=true:=by
   rcases hf with z | z
   ·exact z
   ·rw [z] at hk;cases hk
  obtain⟨c,hc⟩:=I.ok.has x (.inl hk)
  obtain⟨w',z⟩:=I.cell x c hc
  refine wpAny_storeName_cell I.ok.kind hk hc z (λh' hc' hs=>?_)
  obtain⟨oc,hoc,hocd⟩:=id z
  refine h { s with heap:=h' } ⟨I.ok,I.os,I.bare,⟨λb o e n hb hx=>?_,λb o e n hb hx=>?_,I.base.free,λb o e hx=>?_,I.base.tups,I.base.frzs,I.base.tbls⟩,⟨m,hn.sameBut hs (qbR (cne x c hc)),λj y v' e1 e2 e3=>?_⟩,λy c' e=>?_,I.free,I.freeC,λp hp=>?_,tracked ⟨oc,hoc,I.freeC x c hc⟩ hs,by simpa using I.len⟩ ⟨c,hs,.inr hc⟩
  ·exact (hs.2 b (qam (qaE (qak e) (I.ok.cab x c hfn hc)))).trans (I.base.keep b o e n hb hx)
  ·obtain⟨sl,e1⟩:=I.base.slot b o e n hb hx
   exact⟨sl,(hs.2 b (qam (qaE (qak e) (I.ok.cab x c hfn hc)))).trans e1⟩
  ·obtain⟨o',e1⟩:=I.base.there b o e hx
   exact⟨o',(hs.2 b (qam (qaE (qak e) (I.ok.cab x c hfn hc)))).trans e1⟩
  ·by_cases hj:j=i
   ·subst hj
    rw [hi] at e1;cases e1
    rw [qco hiσ] at e2
    cases e2
    exact⟨u,r,.inr ⟨.inl hk,c,hc,hc'⟩⟩
   ·rw [qbS (qbR hj)] at e2
    obtain⟨u',r',q⟩:=hl j y v' e1 e2 e3
    refine⟨u',r',?_⟩
    rcases q with q | ⟨k,c',e,z'⟩
    ·exact .inl q
    ·refine .inr ⟨k,c',e,z'.sameBut hs ?_⟩
     rintro rfl
     exact hj (qQ hN e1 (I.ok.inj _ _ _ e hc ▸ hi))
  ·by_cases hcc:c'=c
   ·subst hcc;exact⟨_,hc'⟩
   ·obtain⟨w2,z2⟩:=I.cell y c' e
    exact⟨w2,z2.sameBut hs hcc⟩
  ·obtain⟨e,n,ne,nf,d⟩:=I.pin p hp
   refine⟨(hs.2 p.1 ?_).trans e,n,ne,nf,d⟩
   intro q
   rw [q,hoc] at e
   have q':oc=p.2:=qaD e
   exact d w' (by rw [<-q'];exact hocd)
theorem e8 {M:Model}{A:Around}{E:Value->Shared->Prop}{i:Nat}{x:Str}{v:V}{u:Value}{Q:Unit->Shared->Prop} (I:Inv X pins σ H s) (hN:X.N.Nodup) (hi:X.N[i]?=some x) (hx:Loc X.env.scope x) (r:aA v u)
  (h:∀ s',Inv X pins (σ.set i (some v)) H s'->Q () s') (hf:X.fn x=true\/X.env.scope.names.lookup x=some .local:=by first | exact .inl rfl | exact .inr rfl | assumption):wpAny M A (storeName X.env x u) Q E s:=
 uQ I hN hi hx r (λs' I' _=>h s' I') hf
theorem Inv.call' {s':Shared}{ch:List Addr} (I:Inv X pins σ H s) (ho:s'.os=s.os) (u:Un (frs X.stack) ch H H' s.heap s'.heap) (hok:HOk X.prog X.w H' s'.heap) (hg:AllBare s'.gens)
  (hch:∀ b ∈ ch,(b ∈ X.ex\/X.s₀.heap.objs.size<=b)/\b≠X.env.locals/\(∀ x c,X.env.cells.lookup x=some c->c≠b)/\∀ p ∈ X.pn++pins,p.1≠b):Inv X pins σ H' s':=by
 obtain⟨h',g',d',t',o'⟩:=s'
 have e:o'=s.os:=ho
 subst e
 exact I.call (g':=g') (t':=t') (d':=d') u hok hg hch
end
abbrev XK:=Value->Option Addr->Hp->Prop
abbrev St:=List (Option V)
abbrev VK:=V->Hp->Prop
abbrev TE:=St->Hp->VK->Prop
abbrev TT:=St->Hp->(Bool->Hp->Prop)->Prop
abbrev TA:=St->Hp->(List V->Hp->Prop)->Prop
structure pI where
 nx:St->Hp->Prop
 rt:VK
 bk:St->Hp->Prop:=λ_ _=>False
 ct:St->Hp->Prop:=λ_ _=>False
abbrev TS:=pI->St->Hp->Prop
noncomputable def EP (X:Cx) (pins:List (Addr×Obj)) (σ:St) (Q:VK) (u:Value) (s':Shared):Prop:=∃ v H',Inv X pins σ H' s'/\aA v u/\Q v H'
noncomputable def TP (X:Cx) (pins:List (Addr×Obj)) (σ:St) (Q:Bool->Hp->Prop) (b:Bool) (s':Shared):Prop:=∃ H',Inv X pins σ H' s'/\Q b H'
noncomputable def AP (X:Cx) (pins:List (Addr×Obj)) (σ:St) (Q:List V->Hp->Prop) (us:List Value) (s':Shared):Prop:=∃ vs H',Inv X pins σ H' s'/\av vs us/\Q vs H'
noncomputable def SP (X:Cx) (pins:List (Addr×Obj)) (D:pI) (f:Flow) (s':Shared):Prop:=
 match f with
 | .next=>∃ σ' H',Inv X pins σ' H' s'/\D.nx σ' H'
 | .brk=>∃ σ' H',Inv X pins σ' H' s'/\D.bk σ' H'
 | .cont=>∃ σ' H',Inv X pins σ' H' s'/\D.ct σ' H'
 | .ret u=>∃ v σ' H',Inv X pins σ' H' s'/\aA v u/\D.rt v H'
noncomputable def PE (X:Cx) (e:Expr) (t:TE):Prop:=
 ∀ (pins:List (Addr×Obj)) (s:Shared) (σ:St) (H:Hp) (Q:VK),Inv X pins σ H s->t σ H Q->wpAny (model X.prog X.w) X.A (eval e X.env) (EP X pins σ Q) X.xe s
noncomputable def PT (X:Cx) (e:Expr) (t:TT):Prop:=
 ∀ (pins:List (Addr×Obj)) (s:Shared) (σ:St) (H:Hp) (Q:Bool->Hp->Prop),Inv X pins σ H s->t σ H Q->wpAny (model X.prog X.w) X.A (isTrue e X.env (eval e X.env)) (TP X pins σ Q) X.xe s
noncomputable def PW (X:Cx) (e:Expr) (t:TT):Prop:=
 ∀ (whole:Sem Value) (pins:List (Addr×Obj)) (s:Shared) (σ:St) (H:Hp) (Q:Bool->Hp->Prop),Inv X pins σ H s->t σ H Q->wpAny (model X.prog X.w) X.A (isTrue e X.env whole) (TP X pins σ Q) X.xe s
theorem PW.pt {X:Cx}{e:Expr}{t:TT} (h:PW X e t):PT X e t:=h _
noncomputable def PA (X:Cx) (es:List Expr) (t:TA):Prop:=
 ∀ (pos:Pos) (pins:List (Addr×Obj)) (s:Shared) (σ:St) (H:Hp) (Q:List V->Hp->Prop),Inv X pins σ H s->t σ H Q->wpAny (model X.prog X.w) X.A (spliced (backTo pos (starEach es X.env))) (AP X pins σ Q) X.xe s
noncomputable def PS (X:Cx) (st:Stmt) (t:TS):Prop:=
 ∀ (pins:List (Addr×Obj)) (s:Shared) (σ:St) (H:Hp) (D:pI),Inv X pins σ H s->t D σ H->wpAny (model X.prog X.w) X.A (exec st X.env) (SP X pins D) X.xe s
noncomputable def PSs (X:Cx) (st:List Stmt) (t:TS):Prop:=
 ∀ (pins:List (Addr×Obj)) (s:Shared) (σ:St) (H:Hp) (D:pI),Inv X pins σ H s->t D σ H->wpAny (model X.prog X.w) X.A (execs st X.env) (SP X pins D) X.xe s
theorem thn {α:Type}{t:Sem α}{Q Q':α->Shared->Prop}{M:Model}{A:Around}{E:Value->Shared->Prop}{s:Shared} (h:wpAny M A t Q E s) (hQ:∀ a s,Q a s->Q' a s):wpAny M A t Q' E s:=qb1 h hQ λ_ _ x=>x
section
variable {X:Cx}
theorem bin {a b:Expr}{ta tb:TE} (ha:PE X a ta) (hb:PE X b tb) {pins:List (Addr×Obj)}{s:Shared}{σ:St}{H:Hp}{R:V->V->Hp->Prop} (I:Inv X pins σ H s) (h:ta σ H λx H1=>tb σ H1 λy H2=>R x y H2)
  {α:Type}{Q:α->Shared->Prop}{f:Value->Value->Sem α}
  (hf:∀ v u s2 x y H2,Inv X pins σ H2 s2->aA x v->aA y u->R x y H2->wpAny (model X.prog X.w) X.A (f v u) Q X.xe s2) :
  wpAny (model X.prog X.w) X.A (eval a X.env) (λv s₁=>wpAny (model X.prog X.w) X.A (eval b X.env) (λu s₂=>wpAny (model X.prog X.w) X.A (f v u) Q X.xe s₂) X.xe s₁) X.xe s:=by
 refine thn (ha pins s σ H _ I h) λv s1 ⟨x,H1,I1,r1,q1⟩=>?_
 refine thn (hb pins s1 σ H1 _ I1 q1) λu s2 ⟨y,H2,I2,r2,q2⟩=>?_
 exact hf v u s2 x y H2 I2 r1 r2 q2
noncomputable def Az (i:Nat):TE:=λσ H Q=>∃ v,σ[i]?=some (some v)/\Q v H
noncomputable def tC (v:V):TE:=λ_ H Q=>Q v H
theorem Bi {i:Nat}{x:Str}{pos:Pos} (hN:X.N[i]?=some x) (hv:Vis X.env.scope x) (hd:(x==("__debug__" : Str))=false:=by decide) (hcd:(x==("__classdict__" : Str))=false:=by decide):PE X (.Name x pos) (Az i):=by
 intro pins s σ H Q I h
 obtain⟨v,e,h⟩:=h
 obtain⟨m,hn,hl⟩:=I.loc
 obtain⟨u,r,l⟩:=hl i x v hN e hv
 have fin:EP X pins σ Q u s:=⟨v,H,I,r,h⟩
 rcases l with⟨hk,hm⟩ | ⟨hk,c,hc,hcell⟩
 ·exact qhn (wpAny_loadName_local I.ok.kind hk hn hm fin) hd
 ·rcases hk with hk | hk
  ·exact qhn (wpAny_loadName_cell I.ok.kind hk hc hcell fin) hd
  ·exact qhn (wpAny_loadName_free I.ok.kind hk hc hcell fin hcd) hd
theorem Bz {i j pos}:PE X (.Constant (.int i) j pos) (tC (.int i)):=λ_ _ _ H _ I h=>wpAny_Constant_int ⟨.int i,H,I.tok _,⟨_,rfl⟩,h⟩
theorem Cl {b j pos}:PE X (.Constant (.bool b) j pos) (tC (.bl b)):=λ_ _ _ H _ I h=>Constant_bool ⟨.bl b,H,I,rfl,h⟩
theorem Ar {x j pos}:PE X (.Constant (.str x) j pos) (tC (.str x)):=λ_ _ _ H _ I h=>Calls.Constant_str ⟨.str x,H,I.tok _,⟨_,rfl⟩,h⟩
noncomputable def Gl (X:Cx) (x:Str):Prop:=X.env.kindOf x=some .globalImplicit
theorem zV {E:Value->Shared->Prop}{pins:List (Addr×Obj)}{s:Shared}{σ:St}{H:Hp}{x:Str}{u:Value}{pos:Pos}{Q:Value->Shared->Prop} (I:Inv X pins σ H s) (hg:Gl X x) (hm:X.mg x=some u) (h:Q u s)
  (hd:(x==("__debug__" : Str))=false:=by decide):wpAny (model X.prog X.w) X.A (eval (.Name x pos) X.env) Q E s:=
 qfi I.ok.kind hg (Calls.loadGlobal_global (by rw [I.ok.glob];exact I.mod.glob.keeps I.bk) hm h) hd
theorem ef {E:Value->Shared->Prop}{pins:List (Addr×Obj)}{s:Shared}{σ:St}{H:Hp}{x:Str}{u:Value}{pos:Pos}{Q:Value->Shared->Prop} (I:Inv X pins σ H s) (hg:Gl X x) (hm:X.mg x=none) (hv:bootBuiltins x=some u) (h:Q u s)
  (hn:x≠"__name__":=by decide) (hd:(x==("__debug__" : Str))=false:=by decide):wpAny (model X.prog X.w) X.A (eval (.Name x pos) X.env) Q E s:=by
 obtain⟨mb,h1,h2⟩:=I.mod.blt
 exact qfi I.ok.kind hg (Calls.loadGlobal_builtin (by rw [I.ok.glob];exact I.mod.glob.keeps I.bk) hm (by rw [I.ok.blt];exact h1.keeps I.bk) ((h2 x hn).trans hv) h) hd
theorem zK {x:Str}{v:V}{u:Value}{pos:Pos} (hg:Gl X x) (hm:X.mg x=none) (hv:bootBuiltins x=some u) (r:aA v u) (hn:x≠"__name__":=by decide) (hd:(x==("__debug__" : Str))=false:=by decide):PE X (.Name x pos) (tC v):=
 λ_ _ _ H _ I h=>ef I hg hm hv ⟨v,H,I,r,h⟩ hn hd
variable {a b:Expr}{ta tb:TE}{pos:Pos}
variable {tA tB':TT}{rest:List Expr}
noncomputable def DC (t u:TT):TT:=λσ H Q=>t σ H λc H1=>if c=true then u σ H1 Q else Q false H1
noncomputable def tOr (t u:TT):TT:=λσ H Q=>t σ H λc H1=>if c=true then Q true H1 else u σ H1 Q
noncomputable def DL (t:TT):TT:=λσ H Q=>t σ H λc H1=>Q (!c) H1
theorem yS (ha:PT X a tA):PW X (.BoolOp .And [a] pos) tA:=by
 intro wh pins s σ H Q I h
 refine isTrue_and (thn (ha pins s σ H Q I h) λc s1 e=>?_)
 cases c with
 | true=>exact isTrue_and_nil e
 | false=>exact e
theorem Av (ha:PT X a tA):PW X (.BoolOp .Or [a] pos) tA:=by
 intro wh pins s σ H Q I h
 refine isTrue_or (thn (ha pins s σ H Q I h) λc s1 e=>?_)
 cases c with
 | false=>exact isTrue_or_nil e
 | true=>exact e
theorem wn (ha:PT X a tA) (hb:PW X (.BoolOp .And (b::rest) pos) tB'):PW X (.BoolOp .And (a::b::rest) pos) (DC tA tB'):=by
 intro wh pins s σ H Q I h
 refine isTrue_and (thn (ha pins s σ H _ I h) λc s1 ⟨H1,I1,q1⟩=>?_)
 cases c with
 | true=>exact hb wh pins s1 σ H1 Q I1 q1
 | false=>exact⟨H1,I1,q1⟩
theorem z0 (ha:PT X a tA) (hb:PW X (.BoolOp .Or (b::rest) pos) tB'):PW X (.BoolOp .Or (a::b::rest) pos) (tOr tA tB'):=by
 intro wh pins s σ H Q I h
 refine isTrue_or (thn (ha pins s σ H _ I h) λc s1 ⟨H1,I1,q1⟩=>?_)
 cases c with
 | true=>exact⟨H1,I1,q1⟩
 | false=>exact hb wh pins s1 σ H1 Q I1 q1
theorem A6 (ha:PT X a tA):PT X (.UnaryOp .Not a pos) (DL tA):=by
 intro pins s σ H Q I h
 exact isTrue_not (ha pins s σ H (λc H1=>Q (!c) H1) I h)
noncomputable def Cp (ta tb:TE):TE:=λσ H Q=>ta σ H λx H1=>∃ c,x=.bl c/\if c=true then tb σ H1 Q else Q (.bl false) H1
theorem Au {op}{t:TE} (h:PE X a t):PE X (.BoolOp op [a] pos) t:=λpins s σ H Q I hw=>BoolOp_one (h pins s σ H Q I hw)
theorem xi (ha:PE X a ta) (hb:PE X (.BoolOp .And (b::rest) pos) tb):PE X (.BoolOp .And (a::b::rest) pos) (Cp ta tb):=by
 intro pins s σ H Q I h
 refine BoolOp_and (thn (ha pins s σ H _ I h) λv s1 ⟨x,H1,I1,r1,q1⟩=>?_)
 obtain⟨c,rfl,q1⟩:=q1
 cases r1
 refine qcL ?_
 cases c with
 | true=>exact hb pins s1 σ H1 Q I1 q1
 | false=>exact⟨.bl false,H1,I1,rfl,q1⟩
noncomputable def tIf (t:TT) (ta tb:TE):TE:=λσ H Q=>t σ H λc H1=>if c=true then ta σ H1 Q else tb σ H1 Q
theorem qH {c:Expr} (hc:PT X c tA) (ha:PE X a ta) (hb:PE X b tb):PE X (.IfExp c a b pos) (tIf tA ta tb):=by
 intro pins s σ H Q I h
 refine wpAny_IfExp (thn (hc pins s σ H _ I h) λd s1 ⟨H1,I1,q1⟩=>?_)
 cases d with
 | true=>exact ha pins s1 σ H1 Q I1 q1
 | false=>exact hb pins s1 σ H1 Q I1 q1
end
noncomputable def SqL (K:PySem.W.Frag) (H:Hp) (a:Addr) (xs:List V):Prop:=
 Rd H a (.lst xs)\/
  ∃ (o:Obj) (its:Array Value) (n:Nat),K.lookup a=some o/\o.cls=.type "list"/\o.dict=none/\o.data=.seq its n/\its.size<=sizeLine/\av xs its.toList
noncomputable def SqT (K:PySem.W.Frag) (H:Hp) (a:Addr) (xs:List V):Prop:=
 H a=some (.tup xs)\/
  ∃ (o:Obj) (its:Array Value) (n:Nat),K.lookup a=some o/\o.cls=.type "tuple"/\o.data=.seq its n/\its.size<=sizeLine/\av xs its.toList/\o.dict=none
noncomputable def DG:Value->Option V
 | .none=>some .non
 | .bool b=>some (.bl b)
 | .int i _=>some (.int i)
 | .str x _=>some (.str x)
 | .bytes b _=>some (.byt b)
 | .float b _=>some (.flt b)
 | .ref a=>some (.ref a)
 | .type n=>some (.ty n)
 | _=>none
theorem aA.abs {x:V}{u:Value} (r:aA x u):DG u=some x:=by
 cases x with
 | non=>cases r;rfl
 | bl _=>cases r;rfl
 | int _=>obtain⟨t,rfl⟩:=r;rfl
 | str _=>obtain⟨t,rfl⟩:=r;rfl
 | byt _=>obtain⟨t,rfl⟩:=r;rfl
 | flt _=>obtain⟨t,rfl⟩:=r;rfl
 | ref _=>cases r;rfl
 | ty _=>cases r;rfl
theorem aA.inj {x y:V}{u:Value} (r:aA x u) (q:aA y u):x=y:=qaD (r.abs.symm.trans q.abs)
theorem av.inj:∀ {xs ys:List V}{us:List Value},av xs us->av ys us->xs=ys
 | _,_,_,.nil,.nil=>rfl
 | _,_,_,.cons r t,.cons r' t'=>by rw [r.inj r',av.inj t t']
section
variable {X:Cx}{pins:List (Addr×Obj)}{σ:St}{H:Hp}{s:Shared}{a:Addr}{xs ys:List V}
theorem SqL.of {K:PySem.W.Frag} (h:H a=some (.lst xs)):SqL K H a xs:=.inl (.inl h)
theorem SqT.of {K:PySem.W.Frag} (h:H a=some (.tup xs)):SqT K H a xs:=.inl h
theorem Inv.list (I:Inv X pins σ H s) (h:SqL X.K H a xs):∃ its:List Value,av xs its/\PlainL s.heap a its.toArray/\xs.length<=sizeLine:=by
 rcases h with h | ⟨o,its,n,hk,hc,hd,hs,hz,r⟩
 ·obtain⟨z,its,n,r,e⟩:=h.ok I.hok
  exact⟨its,r,⟨_,n,e,rfl,rfl,rfl⟩,z⟩
 ·refine⟨its.toList,r,⟨o,n,I.kIn a o hk,hc,hd,by simpa using hs⟩,?_⟩
  have e:=r.length
  simp only [qav] at e
  lia
theorem Inv.tuple (I:Inv X pins σ H s) (h:SqT X.K H a xs):∃ its:List Value,av xs its/\IsTup s.heap a its.toArray/\xs.length<=sizeLine:=by
 rcases h with h | ⟨o,its,n,hk,hc,hs,hz,r,_⟩
 ·obtain⟨z,its,r,p⟩:=(Rd.of h).ok I.hok
  exact⟨its,r,p.tup,z⟩
 ·refine⟨its.toList,r,⟨o,I.kIn a o hk,hc,n,by simpa using hs⟩,?_⟩
  have e:=r.length
  simp only [qav] at e
  lia
theorem Inv.tuple1 (I:Inv X pins σ H s) (h:SqT X.K H a xs):∃ o:Obj,s.heap.get? a=some o/\o.cls=.type "tuple"/\o.dict=none:=by
 rcases h with h | ⟨o,its,n,hk,hc,hs,hz,r,hd⟩
 ·obtain⟨z,its,r,o,e,c,_,hd⟩:=(Rd.of h).ok I.hok
  exact⟨o,e,c,hd⟩
 ·exact⟨o,I.kIn a o hk,hc,hd⟩
theorem Inv.list_inj (I:Inv X pins σ H s) (h:SqL X.K H a xs) (h':SqL X.K H a ys):xs=ys:=by
 obtain⟨its,r,⟨o,n,e,_,_,d⟩,_⟩:=I.list h
 obtain⟨its',r',⟨o',n',e',_,_,d'⟩,_⟩:=I.list h'
 rw [e] at e';cases e'
 rw [d] at d'
 injection d' with d1 _
 have:its=its':=by simpa using congrArg Array.toList d1
 subst this
 exact r.inj r'
theorem Inv.tuple_inj (I:Inv X pins σ H s) (h:SqT X.K H a xs) (h':SqT X.K H a ys):xs=ys:=by
 obtain⟨its,r,⟨o,e,_,n,d⟩,_⟩:=I.tuple h
 obtain⟨its',r',⟨o',e',_,n',d'⟩,_⟩:=I.tuple h'
 rw [e] at e';cases e'
 rw [d] at d'
 injection d' with d1 _
 have:its=its':=by simpa using congrArg Array.toList d1
 subst this
 exact r.inj r'
end
abbrev Cx.wish (X:Cx) (E:Value->Shared->Prop):Cx:={ X with xe:=E }
abbrev Cx.nox (X:Cx):Cx:=X.wish λ_ _=>False
theorem Cx.Ok.wish {X:Cx} (ok:X.Ok) (E:Value->Shared->Prop):(X.wish E).Ok:=
 ⟨ok.mod,ok.kind,ok.glob,ok.blt,ok.above,ok.inj,ok.has,ok.cab,ok.hd,ok.frames,ok.stk,ok.exf,ok.bs,ok.bsz,ok.noex,ok.exfs,ok.funs,ok.frf⟩
theorem Cx.Ok.unwish {X:Cx}{E:Value->Shared->Prop} (ok:(X.wish E).Ok):X.Ok:=
 ⟨ok.mod,ok.kind,ok.glob,ok.blt,ok.above,ok.inj,ok.has,ok.cab,ok.hd,ok.frames,ok.stk,ok.exf,ok.bs,ok.bsz,ok.noex,ok.exfs,ok.funs,ok.frf⟩
section
variable {X:Cx}{pins:List (Addr×Obj)}{σ:St}{H:Hp}{s:Shared}{E:Value->Shared->Prop}
theorem Inv.wish (I:Inv X pins σ H s) (E:Value->Shared->Prop):Inv (X.wish E) pins σ H s:=⟨I.ok.wish E,I.os,I.bare,I.base,I.loc,I.cell,I.free,I.freeC,I.pin,I.hok,I.len⟩
theorem Inv.unwish (I:Inv (X.wish E) pins σ H s):Inv X pins σ H s:=⟨I.ok.unwish,I.os,I.bare,I.base,I.loc,I.cell,I.free,I.freeC,I.pin,I.hok,I.len⟩
theorem SP.unwish {D:pI}{f:Flow}{s':Shared} (h:SP (X.wish E) pins D f s'):SP X pins D f s':=by
 cases f with
 | next=>obtain⟨σ',H',I,q⟩:=h;exact⟨σ',H',I.unwish,q⟩
 | brk=>obtain⟨σ',H',I,q⟩:=h;exact⟨σ',H',I.unwish,q⟩
 | cont=>obtain⟨σ',H',I,q⟩:=h;exact⟨σ',H',I.unwish,q⟩
 | ret u=>obtain⟨v,σ',H',I,r,q⟩:=h;exact⟨v,σ',H',I.unwish,r,q⟩
theorem PSs.nox {st:List Stmt}{t:TS} (h:PSs X.nox st t):PSs X st t:=λpins s σ H D I hw=>
 qb1 (h pins s σ H D (I.wish _) hw) (λ_ _ q=>q.unwish) λ_ _ z=>False.elim z
end
section
variable {X:Cx}{st:Stmt}{rest:List Stmt}{t u:TS}{e:Expr}{te:TE}{pos:Pos}
noncomputable def Cf:TS:=λD σ H=>D.nx σ H
noncomputable def DR (t u:TS):TS:=λD σ H=>t { D with nx:=u D } σ H
theorem yU:PSs X [] Cf:=λ_ _ σ H _ I h=>qev ⟨σ,H,I,h⟩
theorem iG (h1:PS X st t) (h2:PSs X rest u):PSs X (st::rest) (DR t u):=by
 intro pins s σ H D I h
 refine qhz (thn (h1 pins s σ H { D with nx:=u D } I h) λf s1 q=>?_)
 cases f with
 | next=>
  obtain⟨σ',H',I',q⟩:=q
  exact h2 pins s1 σ' H' D I' q
 | ret v=>exact q
 | brk=>exact q
 | cont=>exact q
theorem zv (h1:PS X st t):PSs X [st] t:=by
 intro pins s σ H D I h
 refine qhz (thn (h1 pins s σ H D I h) λf s1 q=>?_)
 cases f with
 | next=>exact qev q
 | ret v=>exact q
 | brk=>exact q
 | cont=>exact q
theorem Inv.quiet {pins:List (Addr×Obj)}{σ:St}{H:Hp}{s:Shared} (I:Inv X pins σ H s):interactive X.env=false:=by simp [interactive,I.ok.kind]
noncomputable def C6 (te:TE):TS:=λD σ H=>te σ H λ_ H1=>D.nx σ H1
theorem zt (he:PE X e te) (hs:swapsWith e none pos.line X.env=pure false:=by rfl):PS X (.Expr e pos) (C6 te):=by
 intro pins s σ H D I h
 exact wpAny_Expr_any (thn (he pins s σ H _ I h) λv s1 ⟨x,H1,I1,r1,q1⟩=>⟨σ,H1,I1,q1⟩) I.quiet hs
noncomputable def DH (te:TE):TS:=λD σ H=>te σ H D.rt
theorem AN (he:PE X e te):PS X (.Return (some e) pos) (DH te):=by
 intro pins s σ H D I h
 exact wpAny_Return_some (thn (he pins s σ H _ I h) λv s1 ⟨x,H1,I1,r1,q1⟩=>⟨x,σ,H1,I1,r1,q1⟩)
noncomputable def DS (c:TT) (t u:TS):TS:=λD σ H=>c σ H λb H1=>if b=true then t D σ H1 else u D σ H1
theorem Ad {c:Expr}{a b:List Stmt}{tc:TT} (hc:PT X c tc) (ha:PSs X a t) (hb:PSs X b u):PS X (.If c a b pos) (DS tc t u):=by
 intro pins s σ H D I h
 refine wpAny_If (thn (hc pins s σ H _ I h) λd s1 ⟨H1,I1,q1⟩=>?_)
 cases d with
 | true=>exact ha pins s1 σ H1 D I1 q1
 | false=>exact hb pins s1 σ H1 D I1 q1
noncomputable def B0:TS:=λ_ _ _=>False
theorem eZ {sts:List Stmt}:PSs X sts B0:=λ_ _ _ _ _ _ h=>h.elim
end
abbrev TG:=V->St->Hp->(St->Hp->Prop)->Prop
abbrev TGs:=List V->St->Hp->(St->Hp->Prop)->Prop
noncomputable def PG (X:Cx) (target:Expr) (t:TG):Prop:=
 ∀ (pins:List (Addr×Obj)) (s:Shared) (σ:St) (H:Hp) (v:V) (u:Value) (Q:St->Hp->Prop),Inv X pins σ H s->aA v u->t v σ H Q->
  wpAny (model X.prog X.w) X.A (assign target X.env u) (λ_ s'=>∃ σ' H',Inv X pins σ' H' s'/\Q σ' H') X.xe s
noncomputable def PGs (X:Cx) (ts:List Expr) (t:TGs):Prop:=
 ∀ (pins:List (Addr×Obj)) (s:Shared) (σ:St) (H:Hp) (vs:List V) (us:List Value) (Q:St->Hp->Prop),Inv X pins σ H s->av vs us->t vs σ H Q->
  wpAny (model X.prog X.w) X.A (assignInOrder ((assignEach ts X.env).map (·.2)) us) (λ_ s'=>∃ σ' H',Inv X pins σ' H' s'/\Q σ' H') X.xe s
abbrev BR:=V->V->V->Hp->(Hp->Prop)->Prop
noncomputable def Dh (X:Cx) (t:BR):Prop:=
 ∀ (pins:List (Addr×Obj)) (s:Shared) (σ:St) (H:Hp) (o i v:V) (ov iv u:Value) (Q:Hp->Prop),Inv X pins σ H s->aA o ov->aA i iv->aA v u->t o i v H Q->
  wpAny (model X.prog X.w) X.A (setItem ov iv u) (λ_ s'=>∃ H',Inv X pins σ H' s'/\Q H') X.xe s
section
variable {X:Cx}{pos:Pos}
noncomputable def o9 (i:Nat):TG:=λv σ H Q=>Q (σ.set i (some v)) H
theorem aD {i:Nat}{x:Str} (hN:X.N.Nodup) (hi:X.N[i]?=some x) (hx:Loc X.env.scope x) (hf:X.fn x=true\/X.env.scope.names.lookup x=some .local:=by first | exact .inl rfl | exact .inr rfl | assumption):PG X (.Name x pos) (o9 i):=by
 intro pins s σ H v u Q I r h
 exact qhm (e8 I hN hi hx r (λs' I'=>⟨_,H,I',h⟩) hf)
noncomputable def Dp:TGs:=λvs σ H Q=>vs=[]/\Q σ H
noncomputable def C1 (t:TG) (u:TGs):TGs:=λvs σ H Q=>∃ v r,vs=v::r/\t v σ H λσ' H'=>u r σ' H' Q
theorem ym:PGs X [] Dp:=by
 intro pins s σ H vs us Q I r h
 obtain⟨e,h⟩:=h
 subst e
 cases r
 exact qhq ⟨σ,H,I,h⟩
theorem vK {e:Expr}{es:List Expr}{t:TG}{u:TGs} (h1:PG X e t) (h2:PGs X es u)
  (hs:(assignEach (e::es) X.env).map (·.2)=assign e X.env::(assignEach es X.env).map (·.2):=by rfl):PGs X (e::es) (C1 t u):=by
 intro pins s σ H vs us Q I r h
 obtain⟨v,vr,e1,h⟩:=h
 subst e1
 cases r with
 | cons r rr=>
  rw [hs]
  refine qdN (thn (h1 pins s σ H _ _ _ I r h) λ_ s1 ⟨σ1,H1,I1,q1⟩=>?_)
  exact h2 pins s1 σ1 H1 _ _ Q I1 rr q1
noncomputable def Ds (K:PySem.W.Frag) (n:Nat) (t:TGs):TG:=λv σ H Q=>∃ a xs,v=.ref a/\SqT K H a xs/\xs.length=n/\t xs σ H Q
theorem BO {es:List Expr}{k:Nat}{t:TGs}{n:Nat} (hc:X.calm=true) (h:PGs X es t)
  (hn:(assignEach es X.env).length=n:=by rfl) (hst:(assignEach es X.env).findIdx? (·.1)=none:=by rfl):PG X (.Tuple es k pos) (Ds X.K n t):=by
 intro pins s σ H v u Q I r hw
 obtain⟨a,xs,e1,hq,hl,hw⟩:=hw
 subst e1
 cases r
 obtain⟨its,rv,ht,hz⟩:=I.tuple hq
 refine assign_Tuple_tuple (I.ok.hd hc) ht (by simp [hn,<-hl,rv.length]) hst λh' hx=>?_
 have I1:Inv X pins σ H { s with heap:=h' }:=I.kept (t':=s.toks) λb o e=>hx b o (qam (qak e)) e
 exact h pins _ σ H xs _ Q I1 (by simpa using rv) hw
noncomputable def DV (to ti:TE) (t:BR):TG:=λv σ H Q=>to σ H λo H1=>ti σ H1 λi H2=>t o i v H2 λH3=>Q σ H3
theorem vQ {o i:Expr}{to ti:TE}{t:BR} (ho:PE X o to) (hi:PE X i ti) (hs:Dh X t)
  (ha:∀ v,assign (.Subscript o i pos) X.env v=(do
    let ov <-holding [v] (eval o X.env)
    let iv <-holding [v,ov] (eval i X.env)
    standAt pos
    holding [v,ov,iv] (setItem ov iv v)
    release [v,ov,iv] []):=by intro _;rfl):PG X (.Subscript o i pos) (DV to ti t):=by
 intro pins s σ H v u Q I r h
 rw [ha]
 refine qaa (qaT (thn (ho pins s σ H _ I h) λov s1 ⟨x,H1,I1,r1,q1⟩=>?_))
 refine qaa (qaT (thn (hi pins s1 σ H1 _ I1 q1) λiv s2 ⟨y,H2,I2,r2,q2⟩=>?_))
 refine qaa (qdu (qaa (qaT (thn (hs pins s2 σ H2 x y v ov iv u _ I2 r1 r2 r q2) λ_ s3 ⟨H3,I3,q3⟩=>?_))))
 exact wpAny_release ⟨σ,H3,I3,q3⟩
noncomputable def Bh (te:TE) (g:TG):TS:=λD σ H=>te σ H λx H1=>g x σ H1 D.nx
theorem wL {tg e:Expr}{te:TE}{g:TG} (he:PE X e te) (hg:PG X tg g) (hs:swapsWithSole [tg] e pos.line X.env=pure false:=by rfl) (hw:swappedStores [tg] e X.env=pure none:=by rfl)
  (h1:(assignEach [tg] X.env).map (·.2)=[assign tg X.env]:=by rfl):PS X (.Assign [tg] e pos) (Bh te g):=by
 intro pins s σ H D I h
 refine wpAny_Assign_stores (thn (he pins s σ H _ I h) λv s1 ⟨x,H1,I1,r1,q1⟩=>?_) hs hw
 rw [h1]
 exact thn (hg pins s1 σ H1 x v _ I1 r1 q1) λ_ s2 q=>q
theorem BF {i:Nat}{x:Str}{e:Expr}{te:TE}{pos':Pos} (hN:X.N.Nodup) (hi:X.N[i]?=some x) (hx:Loc X.env.scope x) (he:PE X e te) (hs:swapsWith e (some (.Name x pos')) pos.line X.env=pure false:=by rfl) (hf:X.fn x=true\/X.env.scope.names.lookup x=some .local:=by first | exact .inl rfl | exact .inr rfl | assumption) :
  PS X (.Assign [.Name x pos'] e pos) (Bh te (o9 i)):=by
 intro pins s σ H D I h
 refine wpAny_Assign_Name (thn (he pins s σ H _ I h) λv s1 ⟨y,H1,I1,r1,q1⟩=>?_) hs
 exact e8 I1 hN hi hx r1 (λs2 I2=>⟨_,H1,I2,q1⟩) hf
end
section
variable {X:Cx}{pos:Pos}
noncomputable def BX (c:TT) (tb:TS):TS:=λD σ H=>∃ W:Nat->St->Hp->Prop,(∃ m,W m σ H)/\∀ m σ H,W m σ H->
 c σ H λb H1=>if b=true then ∃ N:St->Hp->Prop,(∀ σ' H',N σ' H'->∃ m',m' < m/\W m' σ' H')/\tb { D with nx:=N,ct:=N,bk:=D.nx } σ H1 else D.nx σ H1
theorem wk {c:Expr}{body:List Stmt}{tc:TT}{tb:TS} (hp:PassesOwn (model X.prog X.w) X.A X.env X.xe) (hc:PT X c tc) (hb:PSs X body tb):PS X (.While c body [] pos) (BX tc tb):=by
 intro pins s σ H D I h
 obtain⟨W,⟨m0,w0⟩,turn⟩:=h
 refine wpAny_While (codeAny_whileLoop (λn s'=>∃ σ' H',Inv X pins σ' H' s'/\W n σ' H') ?_ m0 ⟨σ,H,I,w0⟩)
 rintro n s1 ⟨σ1,H1,I1,w1⟩
 refine qcG hp (thn (hc pins s1 σ1 H1 _ I1 (turn n σ1 H1 w1)) λb s2 ⟨H2,I2,q2⟩=>?_)
 cases b with
 | true=>
  obtain⟨N,hN,q2⟩:=q2
  rw [if_pos rfl]
  refine qcG hp (thn (hb pins s2 σ1 H2 _ I2 q2) λf s3 q3=>?_)
  cases f with
  | next=>
   obtain⟨σ3,H3,I3,n3⟩:=q3
   obtain⟨m',hm,w3⟩:=hN σ3 H3 n3
   exact⟨m',hm,σ3,H3,I3,w3⟩
  | cont=>
   obtain⟨σ3,H3,I3,n3⟩:=q3
   obtain⟨m',hm,w3⟩:=hN σ3 H3 n3
   exact⟨m',hm,σ3,H3,I3,w3⟩
  | brk=>exact q3
  | ret v=>exact q3
 | false=>
  rw [if_neg qal]
  exact qev ⟨σ1,H2,I2,q2⟩
end
structure It where
 go:Nat->Hp->Prop
 yld:Nat->Hp->V->Hp->Prop
 stop:Nat->Hp->Prop
noncomputable def gR (X:Cx) (pins:List (Addr×Obj)) (H:Hp) (b:Addr):Prop:=
 H b=none/\b≠X.env.locals/\b ∉ X.fs/\(b ∈ X.ex\/X.s₀.heap.objs.size<=b)/\(∀ x c,X.env.cells.lookup x=some c->c≠b)/\∀ p ∈ X.pn++pins,p.1≠b
theorem Inv.fpOk {X:Cx}{pins:List (Addr×Obj)}{σ:St}{H H':Hp}{s:Shared}{b:Addr} (I:Inv X pins σ H s) (hb:s.heap.objs.size<=b) (hn:H' b=none):gR X pins H' b:=by
 refine⟨hn,qa4 (qaE I.lt hb),I.nofs hb,.inr (qaQ I.sz hb),λx c e z=>?_,λp hp z=>?_⟩
 ·obtain⟨v,q⟩:=I.cell x c e
  exact absurd (qaE q.lt (by rw [z];exact hb)) (qbH _)
 ·exact absurd (qaE (qak (I.pin p hp).1) (by rw [z];exact hb)) (qbH _)
structure vm (P:Program) (w:World) (K:PySem.W.Frag) (tg:Expr) (J:It) (fp:List Addr) (it:Addr) (tn:Nat->Heap->Prop):Prop where
 mem:it ∈ fp
 obj:∀ i h,tn i h->∀ b ∈ fp,∃ o,h.get? b=some o/\∀ v,o.data≠.cell v
 keep:∀ i h h',tn i h->(∀ b ∈ fp,∀ o,h.get? b=some o->h'.get? b=some o)->tn i h'
 item:∀ (X:Cx),X.prog=P->X.w=w->X.K=K->X.calm=true->∀ (i:Nat) (pins:List (Addr×Obj)) (s:Shared) (σ:St) (H:Hp) (E:Value->Shared->Prop),Inv X pins σ H s->(∀ b ∈ fp,gR X pins H b)->tn i s.heap->J.go i H->
  wpAny (model P w) X.A (pyNext (.ref it)) (λr s1=>∃ u,r=some u/\
   wpAny (model P w) X.A (letOwnedTupleGo tg (.ref it) u) (λ_ s2=>∃ x H',Inv X pins σ H' s2/\aA x u/\J.yld i H x H'/\tn (i+1) s2.heap/\∀ b ∈ fp,H' b=none) E s1) E s
 done:∀ (X:Cx),X.prog=P->X.w=w->X.K=K->X.calm=true->∀ (i:Nat) (pins:List (Addr×Obj)) (s:Shared) (σ:St) (H:Hp) (E:Value->Shared->Prop),Inv X pins σ H s->(∀ b ∈ fp,gR X pins H b)->tn i s.heap->J.stop i H->
  wpAny (model P w) X.A (pyNext (.ref it)) (λr s1=>r=none/\Inv X pins σ H s1) E s
 self:∀ (A:Around) (i:Nat) (s:Shared) (Q:Value->Shared->Prop) (E:Value->Shared->Prop),tn i s.heap->Q (.ref it) s->wpAny (model P w) A (pyIter (.ref it)) Q E s
abbrev TI:=St->Hp->(It->Hp->Prop)->Prop
noncomputable def PIE (X:Cx) (pins:List (Addr×Obj)) (σ:St) (tg:Expr) (R:It->Hp->Prop) (itv:Value) (s2:Shared):Prop:=
 ∃ (it:Addr) (fp:List Addr) (tn:Nat->Heap->Prop) (J:It) (H':Hp),itv=.ref it/\Inv X pins σ H' s2/\vm X.prog X.w X.K tg J fp it tn/\tn 0 s2.heap/\(∀ b ∈ fp,gR X pins H' b)/\R J H'
noncomputable def PI (X:Cx) (tg iter:Expr) (wi:TI):Prop:=
 ∀ (pins:List (Addr×Obj)) (s:Shared) (σ:St) (H:Hp) (R:It->Hp->Prop),Inv X pins σ H s->wi σ H R->
  wpAny (model X.prog X.w) X.A (eval iter X.env) (λv s1=>wpAny (model X.prog X.w) X.A (pyIter v) (PIE X pins σ tg R) X.xe s1) X.xe s
theorem wq {M:Model}{A:Around}{E:Value->Shared->Prop}{s:Shared}{tg:Expr}{it:Addr}{u:Value}{o:Obj}{n:String}{vs:Array Value}{Q:Unit->Shared->Prop} (ho:s.heap.get? it=some o) (hc:o.cls=.type n) (hd:o.data=.fields vs)
  (hn:["enumerate","zip","dict_itemiterator","dict_reverseitemiterator","odict_iterator","itertools.zip_longest","itertools.pairwise"].contains n=false) (hQ:Q () s):wpAny M A (letOwnedTupleGo tg (.ref it) u) Q E s:=by
 unfold letOwnedTupleGo
 cases tg<;>first
  | exact qab hQ
  | (cases u<;>first
      | exact qab hQ
      | (refine qaa (qdy ho ?_)
         rw [hc,hd]
         show wpAny M A (if (["enumerate","zip","dict_itemiterator","dict_reverseitemiterator","odict_iterator","itertools.zip_longest","itertools.pairwise"].contains n && vs[0]?==some (rawInt _))=true then _ else _) Q E s
         rw [if_neg (by intro h;rw [hn,qdD] at h;cases h)]
         exact qab hQ))
noncomputable def Itl (K:PySem.W.Frag) (a:Addr):It:=
 ⟨λi H=>∃ xs x,SqL K H a xs/\xs[i]?=some x,λi H x H'=>H'=H/\∀ xs,SqL K H a xs->xs[i]?=some x,λi H=>∃ xs,SqL K H a xs/\xs.length<=i⟩
noncomputable def Itt (K:PySem.W.Frag) (a:Addr):It:=
 ⟨λi H=>∃ xs x,SqT K H a xs/\xs[i]?=some x,λi H x H'=>H'=H/\∀ xs,SqT K H a xs->xs[i]?=some x,λi H=>∃ xs,SqT K H a xs/\xs.length<=i⟩
noncomputable def Itr (lo:Int) (n:Nat):It:=⟨λi _=>i < n,λi H x H'=>H'=H/\x=.int (lo+i),λi _=>n<=i⟩
theorem uF {P:Program}{w:World}{K:PySem.W.Frag}{tg:Expr} (a it:Addr):vm P w K tg (Itl K a) [it] it (λi h=>h.IsListIter it a i) where
 mem:=by simp
 obj:=λi h st b hb=>by
  have e:b=it:=by simpa using hb
  subst e
  obtain⟨o,e,c,d⟩:=st
  exact⟨o,e,λv z=>by rw [d] at z;cases z⟩
 keep:=λi h h' st k=>st.at λo e=>k it (by simp) o e
 item:=by
  intro X hP hw hK hc i pins s σ H E I hf st hg
  subst hP hw hK
  obtain⟨xs,x,hq,hx⟩:=hg
  obtain⟨its,rv,p,hz⟩:=I.list hq
  obtain⟨u,hu,ru⟩:=rv.get hx
  obtain⟨f0,f1,f2,f3,f4,f5⟩:=hf it (by simp)
  refine qeh st p.isList (x:=u) (by simpa using hu) λh' st' sb=>?_
  have I1:Inv X pins σ H { s with heap:=h' }:=I.turned (t':=s.toks) (λb o hb e=>(sb.2 b hb).trans e) f0 f1 f3 f4 f5
  obtain⟨o,e,c,d⟩:=id st'
  exact⟨u,rfl,wq (s:={ s with heap:=h' }) e c d (by decide) ⟨x,H,I1,ru,⟨rfl,λys hy=>by rw [I.list_inj hy hq];exact hx⟩,st',λb hb=>(hf b hb).1⟩⟩
 done:=by
  intro X hP hw hK hc i pins s σ H E I hf st hg
  subst hP hw hK
  obtain⟨xs,hq,hx⟩:=hg
  obtain⟨its,rv,p,hz⟩:=I.list hq
  obtain⟨f0,f1,f2,f3,f4,f5⟩:=hf it (by simp)
  have hl:=rv.length
  exact qet (I.ok.hd hc) st p.isList (by simp;lia) λh' eb=>⟨rfl,I.turned (t':=s.toks) (λb o hb e=>eb b o hb e) f0 f1 f3 f4 f5⟩
 self:=λ_ _ _ _ _ st h=>wpAny_pyIter_listiter st h
theorem rW {P:Program}{w:World}{K:PySem.W.Frag}{tg:Expr} (a it:Addr):vm P w K tg (Itt K a) [it] it (λi h=>h.IsTupleIter it a i) where
 mem:=by simp
 obj:=λi h st b hb=>by
  have e:b=it:=by simpa using hb
  subst e
  obtain⟨o,e,c,d⟩:=st
  exact⟨o,e,λv z=>by rw [d] at z;cases z⟩
 keep:=λi h h' st k=>st.at λo e=>k it (by simp) o e
 item:=by
  intro X hP hw hK hc i pins s σ H E I hf st hg
  subst hP hw hK
  obtain⟨xs,x,hq,hx⟩:=hg
  obtain⟨its,rv,p,hz⟩:=I.tuple hq
  obtain⟨u,hu,ru⟩:=rv.get hx
  obtain⟨f0,f1,f2,f3,f4,f5⟩:=hf it (by simp)
  refine wpAny_pyNext_tuple_item st (show s.heap.IsTuple a its.toArray from p) (x:=u) (by simpa using hu) λh' st' sb=>?_
  have I1:Inv X pins σ H { s with heap:=h' }:=I.turned (t':=s.toks) (λb o hb e=>(sb.2 b hb).trans e) f0 f1 f3 f4 f5
  obtain⟨o,e,c,d⟩:=id st'
  exact⟨u,rfl,wq (s:={ s with heap:=h' }) e c d (by decide) ⟨x,H,I1,ru,⟨rfl,λys hy=>by rw [I.tuple_inj hy hq];exact hx⟩,st',λb hb=>(hf b hb).1⟩⟩
 done:=by
  intro X hP hw hK hc i pins s σ H E I hf st hg
  subst hP hw hK
  obtain⟨xs,hq,hx⟩:=hg
  obtain⟨its,rv,p,hz⟩:=I.tuple hq
  obtain⟨f0,f1,f2,f3,f4,f5⟩:=hf it (by simp)
  have hl:=rv.length
  exact wpAny_pyNext_tuple_end (I.ok.hd hc) st (show s.heap.IsTuple a its.toArray from p) (by simp;lia) λh' eb=>⟨rfl,I.turned (t':=s.toks) (λb o hb e=>eb b o hb e) f0 f1 f3 f4 f5⟩
 self:=λ_ _ _ _ _ st h=>wpAny_pyIter_tupleiter st h
theorem rO {P:Program}{w:World}{K:PySem.W.Frag}{tg:Expr} (it:Addr) (lo:Int) (n:Nat):vm P w K tg (Itr lo n) [it] it (λi h=>IsRangeIter h it (lo+(i:Nat)*1) ((n:Int) - (i:Nat)) 1) where
 mem:=by simp
 obj:=λi h st b hb=>by
  have e:b=it:=by simpa using hb
  subst e
  exact⟨_,st,λv z=>by
   have z':Data.fields _=Data.cell v:=z
   cases z'⟩
 keep:=λi h h' st k=>k it (by simp) _ st
 item:=by
  intro X hP hw hK hc i pins s σ H E I hf st hg
  subst hP hw hK
  obtain⟨f0,f1,f2,f3,f4,f5⟩:=hf it (by simp)
  have W:=Walks.range (prog:=X.prog) (w:=X.w) (I.ok.hd hc) it lo 1 n
  refine W.item i s _ _ hg st λv h' tk hv st' kk=>?_
  obtain⟨t,rfl⟩:=hv
  have I1:Inv X pins σ H { s with heap:=h',toks:=tk }:=I.turned (λb o hb e=>kk b o (by simpa using hb) e) f0 f1 f3 f4 f5
  refine⟨_,rfl,wq (s:={ s with heap:=h',toks:=tk }) (n:="range_iterator") st' rfl rfl (by decide) ⟨.int (lo+i),H,I1,⟨t,?_⟩,⟨rfl,rfl⟩,st',λb hb=>(hf b hb).1⟩⟩
  rw [Int.mul_one]
 done:=by
  intro X hP hw hK hc i pins s σ H E I hf st hg
  subst hP hw hK
  obtain⟨f0,f1,f2,f3,f4,f5⟩:=hf it (by simp)
  exact wpAny_pyNext_range_end (I.ok.hd hc) st (by have:n<=i:=hg;lia) λh' eb=>⟨rfl,I.turned (t':=s.toks) (λb o hb e=>eb b o hb e) f0 f1 f3 f4 f5⟩
 self:=λ_ _ _ _ _ st h=>wpAny_pyIter_rangeiter st h
section
variable {X:Cx}{tg:Expr}
noncomputable def CD (K:PySem.W.Frag) (tl:TE):TI:=λσ H R=>tl σ H λx H1=>∃ a,x=.ref a/\(∃ xs,SqL K H1 a xs)/\R (Itl K a) H1
noncomputable def DB (K:PySem.W.Frag) (tl:TE):TI:=λσ H R=>tl σ H λx H1=>∃ a,x=.ref a/\(∃ xs,SqT K H1 a xs)/\R (Itt K a) H1
theorem ud {l:Expr}{tl:TE} (hl:PE X l tl):PI X tg l (CD X.K tl):=by
 intro pins s σ H R I h
 refine thn (hl pins s σ H _ I h) λv s1 ⟨x,H1,I1,r1,q1⟩=>?_
 obtain⟨a,e,⟨xs,hq⟩,q⟩:=q1
 subst e
 cases r1
 obtain⟨its,rv,p,hz⟩:=I1.list hq
 refine qdg p.isList ?_
 refine⟨s1.heap.objs.size,[s1.heap.objs.size],_,_,H1,rfl,I1.kept (t':=s1.toks) λb o e=>qad _ e,uF a _,⟨_,qao _ rfl,rfl,rfl⟩,λb hb=>?_,q⟩
 have e:b=s1.heap.objs.size:=by simpa using hb
 subst e
 exact I1.fpOk (qan _) (I1.hok.fresh (qan _))
theorem B3 {l:Expr}{tl:TE} (hl:PE X l tl):PI X tg l (DB X.K tl):=by
 intro pins s σ H R I h
 refine thn (hl pins s σ H _ I h) λv s1 ⟨x,H1,I1,r1,q1⟩=>?_
 obtain⟨a,e,⟨xs,hq⟩,q⟩:=q1
 subst e
 cases r1
 obtain⟨its,rv,p,hz⟩:=I1.tuple hq
 refine qc9 (show s1.heap.IsTuple a its.toArray from p) ?_
 refine⟨s1.heap.objs.size,[s1.heap.objs.size],_,_,H1,rfl,I1.kept (t':=s1.toks) λb o e=>qad _ e,rW a _,⟨_,qao _ rfl,rfl,rfl⟩,λb hb=>?_,q⟩
 have e:b=s1.heap.objs.size:=by simpa using hb
 subst e
 exact I1.fpOk (qan _) (I1.hok.fresh (qan _))
theorem xx {pins:List (Addr×Obj)}{σ:St}{H:Hp}{s:Shared}{R:It->Hp->Prop}{E:Value->Shared->Prop}{lo hi:Int}{t u v:Tok}{tk:Nat} (I:Inv X pins σ H s) (h1:-(2 ^ 62)<=lo) (h2:lo < 2 ^ 62) (h3:-(2 ^ 62)<=hi) (h4:hi < 2 ^ 62)
  (q:R (Itr lo (hi - lo).toNat) H):wpAny (model X.prog X.w) X.A (pyIter (.ref s.heap.objs.size)) (PIE X pins σ tg R) E { s with heap:=s.heap.push { cls:=.type "range",data:=.fields #[.int lo t,.int hi u,.int 1 v] },toks:=tk }:=by
 refine wpAny_pyIter_range (IsRange.new ..) (small_one h1 h2 h3 h4) ?_
 have I1:Inv X pins σ H { s with heap:=s.heap.push { cls:=.type "range",data:=.fields #[.int lo t,.int hi u,.int 1 v] },toks:=tk }:=I.kept λb o e=>qad _ e
 refine⟨(s.heap.push { cls:=.type "range",data:=.fields #[.int lo t,.int hi u,.int 1 v] }).objs.size,[(s.heap.push { cls:=.type "range",data:=.fields #[.int lo t,.int hi u,.int 1 v] }).objs.size],_,_,H,rfl,
  I1.kept (t':=tk) λb o e=>qad _ e,rO _ lo (hi - lo).toNat,?_,λb hb=>?_,q⟩
 ·have e1:lo+((0:Nat):Int)*1=lo:=by simp
  have e2:(((hi - lo).toNat:Nat):Int) - ((0:Nat):Int)=Builtin.Range.rangeSize lo hi 1:=by rw [rangeSize_one];split<;>lia
  show IsRangeIter _ _ (lo+((0:Nat):Int)*1) ((((hi - lo).toNat:Nat):Int) - ((0:Nat):Int)) 1
  rw [e1,e2]
  exact qao _ rfl
 ·have e:b=(s.heap.push { cls:=.type "range",data:=.fields #[.int lo t,.int hi u,.int 1 v] }).objs.size:=by simpa using hb
  subst e
  exact I1.fpOk (qan _) (I1.hok.fresh (qan _))
noncomputable def Dc (ta:TA):TI:=λσ H R=>ta σ H λvs H1=>∃ j:Int,vs=[.int j]/\-(2 ^ 62)<=j/\j < 2 ^ 62/\R (Itr 0 j.toNat) H1
theorem vA {a:Expr}{ta:TA}{p pos:Pos} (hg:Gl X "range") (hm:X.mg "range" = none) (ha:PA X [a] ta) (hs:starEach [a] X.env=[(false,eval a X.env)]:=by rfl):PI X tg (.Call (.Name "range" p) [a] [] pos) (Dc ta):=by
 intro pins s σ H R I h
 refine Call_ (ef I hg hm boot_range (qbB (thn (ha pos pins s σ H _ I h) λus s1 ⟨vs,H1,I1,r1,q1⟩=>?_) hs rfl))
 obtain⟨j,e,q1,q2,q⟩:=q1
 subst e
 cases r1 with
 | cons r rr=>
  cases rr
  obtain⟨t,rfl⟩:=r
  exact call_range_1 (xx I1 (by lia) (by lia) q1 q2 (by simpa using q))
noncomputable def DA (wi:TI) (g:TG) (tb:TS):TS:=λD σ H=>wi σ H λJ H1=>∃ W:Nat->Nat->St->Hp->Prop,(∃ m,W 0 m σ H1)/\∀ i m σ H,W i m σ H->
 (J.stop i H/\D.nx σ H)\/(J.go i H/\∃ N:St->Hp->Prop,(∀ σ' H',N σ' H'->∃ m',m' < m/\W (i+1) m' σ' H')/\∀ x H',J.yld i H x H'->g x σ H' λσ2 H2=>tb { D with nx:=N,ct:=N,bk:=D.nx } σ2 H2)
noncomputable def jk (fp:List Addr) (h:Heap):List (Addr×Obj):=fp.filterMap λb=>(h.get? b).map λo=>(b,o)
theorem cL {fp:List Addr}{h:Heap}{b:Addr}{o:Obj} (hb:b ∈ fp) (e:h.get? b=some o):(b,o) ∈ jk fp h:=qeH.mpr ⟨b,hb,by rw [e];rfl⟩
theorem uX {fp:List Addr}{h:Heap}{p:Addr×Obj} (hp:p ∈ jk fp h):p.1 ∈ fp/\h.get? p.1=some p.2:=by
 obtain⟨b,hb,e⟩:=qeH.mp hp
 cases q:h.get? b with
 | none=>rw [q] at e;cases e
 | some o=>
  rw [q] at e
  have e':(b,o)=p:=qaD e
  subst e'
  exact⟨hb,q⟩
theorem Inv.pinned {pins:List (Addr×Obj)}{σ:St}{H:Hp}{s:Shared}{fp:List Addr} (I:Inv X pins σ H s) (hf:∀ b ∈ fp,gR X pins H b) (ho:∀ b ∈ fp,∃ o,s.heap.get? b=some o/\∀ v,o.data≠.cell v):Inv X (pins++jk fp s.heap) σ H s:=
 I.pins_of λp hp=>(qbx.mp hp).elim (λz=>I.pin p (qat _ z)) λz=>by
  obtain⟨hb,e⟩:=uX z
  obtain⟨f0,f1,f2,_⟩:=hf p.1 hb
  obtain⟨o,e',d⟩:=ho p.1 hb
  rw [e] at e';cases e'
  exact⟨e,f0,f1,f2,d⟩
theorem Inv.unpinned {pins pl:List (Addr×Obj)}{σ:St}{H:Hp}{s:Shared} (I:Inv X (pins++pl) σ H s):Inv X pins σ H s:=I.pins_of λp hp=>I.pin p (qat _ (qbJ _ hp))
theorem x3 {iter:Expr}{body:List Stmt}{wi:TI}{g:TG}{tb:TS}{pos:Pos} (hp:PassesOwn (model X.prog X.w) X.A X.env X.xe) (hc:X.calm=true) (hi:PI X tg iter wi) (hg:PG X tg g) (hb:PSs X body tb)
  (hs:∀ x,foldedSetIterable iter X.env x=pure x:=by intro _;rfl):PS X (.For tg iter body [] pos) (DA wi g tb):=by
 intro pins s σ H D I h
 refine wpAny_For (thn (hi pins s σ H _ I h) λv s1 h1=>thn h1 λitv s2 h2=>?_) hs
 obtain⟨it,fp,tn,J,H2,e,I2,T,st2,f2,W,⟨m0,w0⟩,turn⟩:=h2
 subst e
 -- what stays true of the iterator's objects through the loop
 have stat:∀ {H':Hp},(∀ b ∈ fp,H' b=none)->∀ b ∈ fp,gR X pins H' b:=λhn b hb=>⟨hn b hb,(f2 b hb).2⟩
 refine codeAny_forLoop_any (λn s'=>∃ i σ' H',Inv X pins σ' H' s'/\tn i s'.heap/\(∀ b ∈ fp,H' b=none)/\W i n σ' H') ?_ m0 ⟨0,σ,H2,I2,st2,λb hb=>(f2 b hb).1,w0⟩
 rintro n s3 ⟨i,σ3,H3,I3,st3,fr3,w3⟩
 rcases turn i n σ3 H3 w3 with⟨stop,qn⟩ | ⟨go,N,hN,step⟩
 ·refine qcG hp (thn (T.done X rfl rfl rfl hc i pins s3 σ3 H3 X.xe I3 (stat fr3) st3 stop) λr s4 ⟨hr,I4⟩=>?_)
  subst hr
  exact qev ⟨σ3,H3,I4,qn⟩
 ·refine qcG hp (thn (T.item X rfl rfl rfl hc i pins s3 σ3 H3 X.xe I3 (stat fr3) st3 go) λr s4 ⟨u,hr,h4⟩=>?_)
  subst hr
  refine qcG hp (thn h4 λ_ s5 ⟨x,H5,I5,r5,y5,st5,fr5⟩=>?_)
  have I5':=I5.pinned (stat fr5) (T.obj _ _ st5)
  refine qcG hp (thn (hg _ s5 σ3 H5 x u _ I5' r5 (step x H5 y5)) λ_ s6 ⟨σ6,H6,I6,q6⟩=>?_)
  refine qcG hp (thn (hb _ s6 σ6 H6 _ I6 q6) λf s7 q7=>?_)
  have again:∀ {σ7:St}{H7:Hp},Inv X (pins++jk fp s5.heap) σ7 H7 s7->N σ7 H7->∃ m,m < n/\∃ i σ' H',Inv X pins σ' H' s7/\tn i s7.heap/\(∀ b ∈ fp,H' b=none)/\W i m σ' H':=λ{σ7 H7} I7 n7=>by
   obtain⟨m',hm,w7⟩:=hN σ7 H7 n7
   refine⟨m',hm,i+1,σ7,H7,I7.unpinned,T.keep _ _ _ st5 λb hb o e=>(I7.pin (b,o) (qat _ (qat _ (cL hb e)))).1,λb hb=>?_,w7⟩
   obtain⟨o,e,d⟩:=T.obj _ _ st5 b hb
   exact (I7.pin (b,o) (qat _ (qat _ (cL hb e)))).2.1
  cases f with
  | next=>obtain⟨σ7,H7,I7,n7⟩:=q7;exact again I7 n7
  | cont=>obtain⟨σ7,H7,I7,n7⟩:=q7;exact again I7 n7
  | brk=>obtain⟨σ7,H7,I7,q7⟩:=q7;exact⟨σ7,H7,I7.unpinned,q7⟩
  | ret v=>obtain⟨x7,σ7,H7,I7,r7,q7⟩:=q7;exact⟨x7,σ7,H7,I7.unpinned,r7,q7⟩
end
abbrev R2:=V->V->Hp->VK->Prop
noncomputable def OpR (X:Cx) (f:Value->Value->Sem Value) (r:R2):Prop:=
 ∀ (pins:List (Addr×Obj)) (s:Shared) (σ:St) (H:Hp) (x y:V) (v u:Value) (Q:VK),Inv X pins σ H s->aA x v->aA y u->r x y H Q->
  wpAny (model X.prog X.w) X.A (f v u) (EP X pins σ Q) X.xe s
noncomputable def UnR (X:Cx) (f:Value->Sem Value) (r:V->Hp->VK->Prop):Prop:=
 ∀ (pins:List (Addr×Obj)) (s:Shared) (σ:St) (H:Hp) (x:V) (v:Value) (Q:VK),Inv X pins σ H s->aA x v->r x H Q->
  wpAny (model X.prog X.w) X.A (f v) (EP X pins σ Q) X.xe s
noncomputable def bS (X:Cx) (f:Value) (r:List V->Hp->VK->Prop):Prop:=
 ∀ (pins:List (Addr×Obj)) (s:Shared) (σ:St) (H:Hp) (xs:List V) (us:List Value) (Q:VK),Inv X pins σ H s->av xs us->r xs H Q->
  wpAny (model X.prog X.w) X.A (call f us) (EP X pins σ Q) X.xe s
noncomputable def DO (X:Cx) (r:V->Hp->(Bool->Hp->Prop)->Prop):Prop:=
 ∀ (pins:List (Addr×Obj)) (s:Shared) (σ:St) (H:Hp) (x:V) (v:Value) (Q:Bool->Hp->Prop),Inv X pins σ H s->aA x v->r x H Q->
  wpAny (model X.prog X.w) X.A (truthy v) (TP X pins σ Q) X.xe s
noncomputable def tOp (r:R2) (ta tb:TE):TE:=λσ H Q=>ta σ H λx H1=>tb σ H1 λy H2=>r x y H2 Q
noncomputable def tUn (r:V->Hp->VK->Prop) (ta:TE):TE:=λσ H Q=>ta σ H λx H1=>r x H1 Q
noncomputable def rI (C:Int->Int->Prop) (g:Int->Int->V):R2:=λx y H Q=>∃ i j,x=.int i/\y=.int j/\C i j/\Q (g i j) H
noncomputable def rI0 (g:Int->Int->V):R2:=λx y H Q=>∃ i j,x=.int i/\y=.int j/\Q (g i j) H
noncomputable def rU (g:Int->V):V->Hp->VK->Prop:=λx H Q=>∃ i,x=.int i/\Q (g i) H
section
variable {X:Cx}{a b c:Expr}{ta tb tc:TE}{pos:Pos}
theorem BC (ha:PE X a ta) (hb:PE X b tb) {pins:List (Addr×Obj)}{s:Shared}{σ:St}{H:Hp}{R:V->V->Hp->Prop} (I:Inv X pins σ H s)
  (h:ta σ H λx H1=>tb σ H1 λy H2=>R x y H2) {Q:Value->Shared->Prop}{f:Value->Value->Sem Value}
  (hf:∀ v u s2 x y H2,Inv X pins σ H2 s2->aA x v->aA y u->R x y H2->wpAny (model X.prog X.w) X.A (f v u) Q X.xe s2) :
  wpAny (model X.prog X.w) X.A (eval a X.env) (λv s₁=>wpAny (model X.prog X.w) X.A (eval b X.env) (λu s₂=>wpAny (model X.prog X.w) X.A (f v u) Q X.xe s₂) X.xe s₁) X.xe s:=by
 refine thn (ha pins s σ H _ I h) λv s1 ⟨x,H1,I1,r1,q1⟩=>?_
 refine thn (hb pins s1 σ H1 _ I1 q1) λu s2 ⟨y,H2,I2,r2,q2⟩=>?_
 exact hf v u s2 x y H2 I2 r1 r2 q2
theorem Dg {op:Operator}{r:R2} (ho:OpR X (binaryOp op) r) (ha:PE X a ta) (hb:PE X b tb):PE X (.BinOp a op b pos) (tOp r ta tb):=by
 intro pins s σ H Q I h
 exact wpAny_BinOp (BC ha hb I h λv u s2 x y H2 I2 rx ry q=>ho pins s2 σ H2 x y v u Q I2 rx ry q)
theorem Dm {op:UnaryOp}{r:V->Hp->VK->Prop} (ho:UnR X (unaryOp op) r) (ha:PE X a ta):PE X (.UnaryOp op a pos) (tUn r ta):=by
 intro pins s σ H Q I h
 exact UnaryOp_ (thn (ha pins s σ H _ I h) λv s1 ⟨x,H1,I1,r1,q1⟩=>ho pins s1 σ H1 x v Q I1 r1 q1)
theorem opI {f:Value->Value->Sem Value}{C:Int->Int->Prop}{g:Int->Int->Int}
  (rule:∀ (i j:Int) (t u:Tok) (s:Shared) (Q:Value->Shared->Prop) (E:Value->Shared->Prop),C i j->Q (.int (g i j) s.toks) { s with toks:=s.toks+1 }->wpAny (model X.prog X.w) X.A (f (.int i t) (.int j u)) Q E s) :
  OpR X f (rI C λi j=>.int (g i j)):=by
 intro pins s σ H x y v u Q I rx ry h
 obtain⟨i,j,rfl,rfl,hc,q⟩:=h
 obtain⟨t,rfl⟩:=rx
 obtain⟨t',rfl⟩:=ry
 exact rule i j t t' s _ _ hc ⟨.int (g i j),H,I.tok _,⟨_,rfl⟩,q⟩
theorem A3 {f:Value->Value->Sem Value}{g:Int->Int->Int}
  (rule:∀ (i j:Int) (t u:Tok) (s:Shared) (Q:Value->Shared->Prop) (E:Value->Shared->Prop),Q (.int (g i j) s.toks) { s with toks:=s.toks+1 }->wpAny (model X.prog X.w) X.A (f (.int i t) (.int j u)) Q E s) :
  OpR X f (rI0 λi j=>.int (g i j)):=by
 intro pins s σ H x y v u Q I rx ry h
 obtain⟨i,j,rfl,rfl,q⟩:=h
 obtain⟨t,rfl⟩:=rx
 obtain⟨t',rfl⟩:=ry
 exact rule i j t t' s _ _ ⟨.int (g i j),H,I.tok _,⟨_,rfl⟩,q⟩
theorem yI {f:Value->Value->Sem Value}{g:Int->Int->Bool}
  (rule:∀ (i j:Int) (t u:Tok) (s:Shared) (Q:Value->Shared->Prop) (E:Value->Shared->Prop),Q (.bool (g i j)) s->wpAny (model X.prog X.w) X.A (f (.int i t) (.int j u)) Q E s) :
  OpR X f (rI0 λi j=>.bl (g i j)):=by
 intro pins s σ H x y v u Q I rx ry h
 obtain⟨i,j,rfl,rfl,q⟩:=h
 obtain⟨t,rfl⟩:=rx
 obtain⟨t',rfl⟩:=ry
 exact rule i j t t' s _ _ ⟨.bl (g i j),H,I,rfl,q⟩
noncomputable def Dw (i j:Int):Prop:=0 < j/\j < 1073741824
noncomputable def pJ (i j:Int):Prop:=0<=j/\j<=1000000/\i.natAbs < 2 ^ 64
noncomputable def zr (i j:Int):Prop:=(-(2 ^ 64) < i/\i < 2 ^ 64)\/(-(2 ^ 64) < j/\j < 2 ^ 64)
theorem zr.ok {i j:Int} (h:zr i j):IntMulOk i j:=by
 rcases h with⟨h1,h2⟩ | ⟨h1,h2⟩
 ·exact .of_left (intBits_le_64 h1 h2)
 ·exact .of_right (intBits_le_64 h1 h2)
theorem rV (k:Nat):(0:Int)<=2 ^ k:=by
 rw [two_pow_cast]
 exact Int.natCast_nonneg _
theorem Ca:OpR X (binaryOp .Add) (rI0 λi j=>.int (i+j)):=A3 λ_ _ _ _ _ _ _ q=>add_int q
theorem BT:OpR X (binaryOp .Sub) (rI0 λi j=>.int (i - j)):=A3 λ_ _ _ _ _ _ _ q=>sub_int q
theorem zS:OpR X (binaryOp .FloorDiv) (rI Dw λi j=>.int (i / j)):=opI λi j _ _ _ _ _ hc q=>by
 have h1:(0:Int) < j:=hc.1
 have h2:j < 1073741824:=hc.2
 exact floordiv_int (by lia) (by rw [qfB i (by lia)];exact q) (.inl (PyProof.noPylong_small (by lia)))
theorem AU:OpR X (binaryOp .Mod) (rI (λ_ j=>0 < j) λi j=>.int (i % j)):=opI λi j _ _ _ _ _ hc q=>by
 have h1:(0:Int) < j:=hc
 exact mod_int' (by lia) (by rw [Int.fmod_eq_emod_of_nonneg i (by lia)];exact q)
theorem As:OpR X (binaryOp .Pow) (rI pJ λi j=>.int (i ^ j.toNat)):=opI λ_ _ _ _ _ _ _ hc q=>pow_int_small hc.1 hc.2.1 hc.2.2 q
theorem B7:OpR X (binaryOp .LShift) (rI pJ λi j=>.int (i*2 ^ j.toNat)):=opI λ_ _ _ _ _ _ _ hc q=>lshift_int_small hc.1 hc.2.1 hc.2.2 q
theorem BL:OpR X (binaryOp .RShift) (rI (λ_ j=>0<=j) λi j=>.int (i / 2 ^ j.toNat)):=opI λi j _ _ _ _ _ hc q=>
 rshift_int hc (by rw [qfB i (rV _)];exact q)
theorem AV:OpR X (binaryOp .BitAnd) (rI0 λi j=>.int (Builtin.bitAnd i j)):=A3 λ_ _ _ _ _ _ _ q=>and_int q
theorem unI {f:Value->Sem Value}{g:Int->Int}
  (rule:∀ (i:Int) (t:Tok) (s:Shared) (Q:Value->Shared->Prop) (E:Value->Shared->Prop),Q (.int (g i) s.toks) { s with toks:=s.toks+1 }->wpAny (model X.prog X.w) X.A (f (.int i t)) Q E s) :
  UnR X f (rU λi=>.int (g i)):=by
 intro pins s σ H x v Q I rx h
 obtain⟨i,rfl,q⟩:=h
 obtain⟨t,rfl⟩:=rx
 exact rule i t s _ _ ⟨.int (g i),H,I.tok _,⟨_,rfl⟩,q⟩
theorem BS:UnR X (unaryOp .USub) (rU λi=>.int (-i)):=unI λ_ _ _ _ _ q=>neg_int q
end
section
variable {X:Cx}{a b c:Expr}{ta tb tc:TE}{pos:Pos}
theorem C0:OpR X (compareOp .Lt) (rI0 λi j=>.bl (decide (i < j))):=yI λ_ _ _ _ _ _ _ q=>lt_int q
theorem CN:OpR X (compareOp .LtE) (rI0 λi j=>.bl (decide (i<=j))):=yI λ_ _ _ _ _ _ _ q=>le_int q
theorem CK:OpR X (compareOp .Gt) (rI0 λi j=>.bl (decide (j < i))):=yI λ_ _ _ _ _ _ _ q=>gt_int q
theorem Cj:OpR X (compareOp .GtE) (rI0 λi j=>.bl (decide (j<=i))):=yI λ_ _ _ _ _ _ _ q=>ge_int q
theorem bf (b:Expr) {op:CmpOp} (h:op≠.In:=by decide) (h2:op≠.NotIn:=by decide):behindInMarks op b=false:=by
 have e1:(op==CmpOp.In)=false:=by cases op<;>first | rfl | exact absurd rfl h
 have e2:(op==CmpOp.NotIn)=false:=by cases op<;>first | rfl | exact absurd rfl h2
 cases b<;>simp [behindInMarks,e1,e2]
theorem yr {op:CmpOp}{r:R2} (ho:OpR X (compareOp op) r) (ha:PE X a ta) (hb:PE X b tb) (hm:behindInMarks op b=false):PE X (.Compare a [op] [b] pos) (tOp r ta tb):=by
 intro pins s σ H Q I h
 exact wpAny_Compare1 (BC ha hb I h λv u s2 x y H2 I2 rx ry q=>ho pins s2 σ H2 x y v u Q I2 rx ry q) hm
noncomputable def Dj (t:TE):TT:=λσ H Q=>t σ H λx H'=>∃ k,x=.bl k/\Q k H'
theorem zk {op:CmpOp}{r:R2} (ho:OpR X (compareOp op) r) (ha:PE X a ta) (hb:PE X b tb) (hm:behindInMarks op b=false):PT X (.Compare a [op] [b] pos) (Dj (tOp r ta tb)):=by
 intro pins s σ H Q I h
 refine wpAny_isTrue_Compare1 (thn (ha pins s σ H _ I h) λv s1 ⟨x,H1,I1,r1,q1⟩=>thn (hb pins s1 σ H1 _ I1 q1) λu s2 ⟨y,H2,I2,r2,q2⟩=>
  thn (ho pins s2 σ H2 x y v u _ I2 r1 r2 q2) λc s3 ⟨z,H3,I3,r3,k,e,q3⟩=>?_) hm
 subst e
 cases r3
 exact qcL ⟨H3,I3,q3⟩
noncomputable def yR (K:PySem.W.Frag) (x:V) (H:Hp) (k:Bool):Prop:=
 match x with
 | .non=>k=false
 | .bl b=>k=b
 | .int i=>k=(i != 0)
 | .str y=>y.length<=sizeLine/\k=((y.length:Int) != 0)
 | .byt y=>y.size<=sizeLine/\k=((y.size:Int) != 0)
 | .ref p=>(∃ xs,SqL K H p xs/\k=!xs.isEmpty)\/(∃ xs,SqT K H p xs/\k=!xs.isEmpty)\/∃ kvs,H p=some (.dK kvs)/\k=!kvs.isEmpty
 | _=>False
theorem si {κ:Type}{kvs:List (κ×V)}{vs:List (κ×Value)} (r:KV kvs vs):(!vs.isEmpty)=!kvs.isEmpty:=by
 cases r<;>rfl
theorem kM {xs:List V}{its:List Value} (r:av xs its):(!its.toArray.isEmpty)=!xs.isEmpty:=by
 cases r<;>simp
theorem hX:(sizeLine:Nat) < 2 ^ 63:=by rw [qbi];decide
theorem BH:DO X (λx H Q=>∃ k,yR X.K x H k/\Q k H):=by
 intro pins s σ H x v Q I rx h
 obtain⟨k,e,q⟩:=h
 have hl:=hX
 have hs:sizeLine=16777216:=qbi
 cases x with
 | non=>
  cases rx
  have e':k=false:=e
  subst e'
  exact truthy_none ⟨H,I,q⟩
 | bl b=>
  cases rx
  have e':k=b:=e
  subst e'
  exact qcL ⟨H,I,q⟩
 | int i=>
  obtain⟨t,rfl⟩:=rx
  have e':k=(i != 0):=e
  subst e'
  exact PySem.P.truthy_int ⟨H,I,q⟩
 | str y=>
  obtain⟨t,rfl⟩:=rx
  obtain⟨hy,e'⟩:y.length<=sizeLine/\k=((y.length:Int) != 0):=e
  subst e'
  exact PySem.P.truthy_str (by lia) ⟨H,I.tok _,q⟩
 | byt y=>
  obtain⟨t,rfl⟩:=rx
  obtain⟨hy,e'⟩:y.size<=sizeLine/\k=((y.size:Int) != 0):=e
  subst e'
  exact PySem.W.truthy_bytes (by lia) ⟨H,I.tok _,q⟩
 | ref p=>
  cases rx
  have e':(∃ xs,SqL X.K H p xs/\k=!xs.isEmpty)\/(∃ xs,SqT X.K H p xs/\k=!xs.isEmpty)\/∃ kvs,H p=some (.dK kvs)/\k=!kvs.isEmpty:=e
  rcases e' with⟨xs,hx,e'⟩ | ⟨xs,hx,e'⟩ | ⟨kvs,hx,e'⟩
  ·subst e'
   obtain⟨its,r,pl,hz⟩:=I.list hx
   have hlen:=r.length
   exact wpAny_truthy_list pl.isList (by simp only [qas];lia) ⟨H,I.tok _,by rw [kM r];exact q⟩
  ·subst e'
   obtain⟨its,r,pl,hz⟩:=I.tuple hx
   have hlen:=r.length
   exact truthy_tuple pl (by simp only [qas];lia) ⟨H,I.tok _,by rw [kM r];exact q⟩
  ·subst e'
   obtain⟨hz,hS,vs,r,m⟩:kvs.length<=sizeLine/\(p==sysModules)=false/\∃ vs,KV kvs vs/\s.heap.DictOf (bU X.prog X.w) p vs:=I.hok p _ hx
   have hlen:kvs.length=vs.length:=qen r
   exact wpAny_truthy_dict hS m (by lia) ⟨H,I.tok _,by rw [si r];exact q⟩
 | _=>exact (show False from e).elim
theorem wI (ha:PE X a ta) (he:∀ whole,isTrue a X.env whole=(do let v <-whole;standAt a.pos;holding [v] (truthy v))) :
  PT X a (λσ H Q=>ta σ H λx H'=>∃ k,yR X.K x H' k/\Q k H'):=by
 intro pins s σ H Q I h
 exact isTrue_plain (thn (ha pins s σ H _ I h) λv s1 ⟨x,H1,I1,r1,q1⟩=>BH pins s1 σ H1 x v Q I1 r1 q1) (he _)
theorem sh:OpR X (binaryOp .Add) (λx y H Q=>∃ i j,x=.str i/\y=.str j/\i.length+j.length<=sizeLine/\Q (.str (i++j)) H):=by
 intro pins s σ H x y v u Q I rx ry h
 obtain⟨i,j,rfl,rfl,hz,q⟩:=h
 obtain⟨t,rfl⟩:=rx
 obtain⟨t',rfl⟩:=ry
 exact add_str (λt' tk=>⟨.str (i++j),H,I.tok _,⟨_,rfl⟩,q⟩) hz
theorem gD {x:V}{us:List Value} (r:av [x] us):∃ u,us=[u]/\aA x u:=by
 cases r with
 | cons r1 r2=>cases r2;exact⟨_,rfl,r1⟩
theorem xb:bS X (.builtin "abs") (λxs H Q=>∃ i,xs=[.int i]/\Q (.int (if i < 0 then -i else i)) H):=by
 intro pins s σ H xs us Q I r h
 obtain⟨i,rfl,q⟩:=h
 obtain⟨u,rfl,t,rfl⟩:=gD r
 exact call_abs_int λu tk=>⟨.int (if i < 0 then -i else i),H,I.tok _,⟨_,rfl⟩,q⟩
theorem m6:bS X (.type "int") (λxs H Q=>(∃ i,xs=[.int i]/\Q (.int i) H)\/∃ k,xs=[.bl k]/\Q (.int (if k then 1 else 0)) H):=by
 intro pins s σ H xs us Q I r h
 rcases h with⟨i,rfl,q⟩ | ⟨k,rfl,q⟩
 ·obtain⟨u,rfl,t,rfl⟩:=gD r
  exact call_int_int ⟨.int i,H,I,⟨_,rfl⟩,q⟩
 ·obtain⟨u,rfl,r1⟩:=gD r
  cases r1
  exact call_int_bool ⟨.int (if k then 1 else 0),H,I.tok _,⟨_,rfl⟩,q⟩
end
structure AQ (h:Heap) (x dx C:Addr) (mA:Str->Option Value):Prop where
 obj:h.get? x=some (PySem.W.instObj C dx)
 ns:h.Ns1 dx mA
 ne:dx≠x
theorem uI {h:Heap}{dx:Addr}{mA:Str->Option Value} (n:h.Ns1 dx mA):∃ od,h.get? dx=some od/\∀ name,PySem.W.lookIn name od=some (mA name):=by
 obtain⟨o,es,ep,ho,hd,hk,_,hm⟩:=n
 refine⟨o,ho,λname=>?_⟩
 have e:=hm name
 unfold nsFind findBy at e
 rw [<-Array.find?_toList] at e
 unfold PySem.W.lookIn
 rw [hd]
 dsimp only
 split
 ·rename_i y q
  rw [q] at e
  exact congrArg some e
 ·rename_i q
  rw [q] at e
  have a:es.toList.any (·.refKey)=false:=by
   rw [qgP]
   intro y hy
   obtain⟨z,t,hkey⟩:=hk y (Array.mem_toList_iff.mp hy)
   simp [DictEntry.refKey,hkey]
  have a':¬ es.toList.any (·.refKey)=true:=by rw [a];exact qal
  rw [if_neg a']
  exact congrArg some e
theorem AQ.look {h:Heap}{x dx C:Addr}{mA:Str->Option Value} (I:AQ h x dx C mA):∃ od,PySem.W.InstAt h x (PySem.W.instObj C dx) C (some od)/\∀ name,PySem.W.lookIn name od=some (mA name):=
 let ⟨od,ho,hl⟩:=uI I.ns
 ⟨od,⟨I.obj,rfl,rfl,ho⟩,hl⟩
section
variable {prog:Program}{w:World}{A:Around}{E:Value->Shared->Prop}{s:Shared}{K:PySem.W.Frag}{x dx C f:Addr}{mA:Str->Option Value}{name:Str}{v:Value}
end
theorem jC.some_of {v:V}{o:Option Value} (r:jC (some v) o):∃ u,o=some u/\aA v u:=by
 cases o with
 | none=>exact (show False from r).elim
 | some u=>exact⟨u,rfl,r⟩
section
variable {P:Program}{w:World}{H H':Hp}{h h':Heap}{a C dx:Addr}{fs fs':List (Str×V)}
theorem yH (hok:HOk P w H h) (e:H a=some (.ins C dx fs)):∃ mA,AQ h a dx C mA/\(∀ f,jC (fs.lookup f) (mA f))/\PySem.Within mA (fs.map (·.1))/\fs.length<=1000/\H dx=some (.own a):=by
 obtain⟨d,z,ne,ob,mA,n,r,q⟩:=(show bT P w H h a (.ins C dx fs) from hok a _ e)
 exact⟨mA,⟨ob,n,ne⟩,r,q,z,d⟩
end
structure Cls (K:PySem.W.Frag) (C:Addr):Prop where
 pg:PySem.W.plainGet K C Str.empty=true
 hd:PySem.W.hasDictIn K C=true
 po:PySem.W.plainOver K C=true
 sa:PySem.W.findIn K (.ref C) "__setattr__" = some (some (.builtin "object.__setattr__"))
theorem Cls.get {K:PySem.W.Frag}{C:Addr} (c:Cls K C) (f:Str):PySem.W.plainGet K C f=true:=c.pg
section
variable {X:Cx}{pins:List (Addr×Obj)}{σ:St}{H:Hp}{s:Shared}{a C dx:Addr}{fs:List (Str×V)}{f:Str}{v:V}{A:Around}{E:Value->Shared->Prop}
end
section
variable {X:Cx}{o e value:Expr}{f:Str}{pos pos' tpos:Pos}{ta tv:TE}
end
section
variable {X:Cx}{pins:List (Addr×Obj)}{σ:St}{H:Hp}{s:Shared}{A:Around}{E:Value->Shared->Prop}{Q:Value->Shared->Prop}{c:Value}{b:Bool}
inductive j8 (K:PySem.W.Frag) (H:Hp):V->Value->Prop where
 | non:j8 K H .non (.type "NoneType")
 | bl (x:Bool):j8 K H (.bl x) (.type "bool")
 | int (i:Int):j8 K H (.int i) (.type "int")
 | str (x:Str):j8 K H (.str x) (.type "str")
 | flt (x:UInt64):j8 K H (.flt x) (.type "float")
 | lst {a:Addr}{xs:List V} (e:H a=some (.lst xs)):j8 K H (.ref a) (.type "list")
 | frz {a:Addr}{o:Obj}{xs:List V} (e:H a=some (.frz o (.lst xs))):j8 K H (.ref a) (.type "list")
 | tup {a:Addr}{xs:List V} (e:H a=some (.tup xs)):j8 K H (.ref a) (.type "tuple")
 | dK {a:Addr}{kvs:List (Key×V)} (e:H a=some (.dK kvs)):j8 K H (.ref a) (.type "dict")
 | dT {a:Addr}{kvs:List (List Key×V)} (e:H a=some (.dT kvs)):j8 K H (.ref a) (.type "dict")
 | ins {a C dx:Addr}{fs:List (Str×V)} (e:H a=some (.ins C dx fs)) (cl:Cls K C) (ha:PySem.W.findIn K (.ref C) "__class__" = some (some (.builtin "object.__class__")))
   (hn:PySem.W.specialIn K (.builtin "object.__class__") "__get__" = some (some (.builtin "getset_descriptor.__get__"))) (htk:PySem.W.takesIn K (.builtin "object.__class__")=some true)
   (hm:PySem.W.mroIn K C (.type "object")=some true):j8 K H (.ref a) (.ref C)
theorem cz {x:V}{u t:Value} (I:Inv X pins σ H s) (rx:aA x u) (ty:j8 X.K H x t) (e:PySem.W.kitOne X.K t c=some b) (h:∀ tk,Q (.bool b) { s with toks:=tk }) :
  wpAny (model X.prog X.w) A (call (.builtin "isinstance") [u,c]) Q E s:=by
 cases ty with
 | non=>cases (show u=Value.none from rx);exact qbv PySem.W.kitx_none I.kIn True.intro e (λz=>nomatch z) h
 | bl y=>cases (show u=Value.bool y from rx);exact qbv PySem.W.kitx_bool I.kIn True.intro e (λz=>nomatch z) h
 | int i=>obtain⟨t,q⟩:=(show ∃ t,u=Value.int i t from rx);cases q;exact qbv PySem.W.kitx_int I.kIn True.intro e (λz=>nomatch z) h
 | str y=>obtain⟨t,q⟩:=(show ∃ t,u=Value.str y t from rx);cases q;exact qbv PySem.W.kitx_str I.kIn True.intro e (λz=>nomatch z) h
 | flt y=>obtain⟨t,q⟩:=(show ∃ t,u=Value.float y t from rx);cases q;exact qbv PySem.W.kitx_float I.kIn True.intro e (λz=>nomatch z) h
 | @lst a xs ea=>
  cases (show u=Value.ref a from rx)
  obtain⟨_,_,n,_,h1⟩:=(show bT X.prog X.w H s.heap a (.lst xs) from I.hok a _ ea)
  exact qbv qgh I.kIn ⟨_,h1,rfl⟩ e (λz=>nomatch z) h
 | @frz a ob xs ea=>
  cases (show u=Value.ref a from rx)
  obtain⟨_,_,_,n,_,h1⟩:=(show bT X.prog X.w H s.heap a (.frz ob (.lst xs)) from I.hok a _ ea)
  exact qbv qgh I.kIn ⟨_,h1,rfl⟩ e (λz=>nomatch z) h
 | @tup a xs ea=>
  cases (show u=Value.ref a from rx)
  obtain⟨_,_,_,p⟩:=(show bT X.prog X.w H s.heap a (.tup xs) from I.hok a _ ea)
  obtain⟨o,h1,h2,_⟩:=p
  exact qbv qf7 I.kIn ⟨o,h1,h2⟩ e (λz=>nomatch z) h
 | @dK a kvs ea=>
  cases (show u=Value.ref a from rx)
  obtain⟨_,_,vs,_,p⟩:=(show bT X.prog X.w H s.heap a (.dK kvs) from I.hok a _ ea)
  obtain⟨o,es,ep,h1,h2,_⟩:=p
  exact qbv qgi I.kIn ⟨o,h1,h2.1⟩ e (λz=>nomatch z) h
 | @dT a kvs ea=>
  cases (show u=Value.ref a from rx)
  obtain⟨_,_,xs,_,o,es,ep,h1,h2,_⟩:=(show bT X.prog X.w H s.heap a (.dT kvs) from I.hok a _ ea)
  exact qbv qgi I.kIn ⟨o,h1,h2.1⟩ e (λz=>nomatch z) h
 | @ins a C dx fs ea cl ha hn htk hm=>
  cases (show u=Value.ref a from rx)
  obtain⟨mA,O,_⟩:=yH I.hok ea
  obtain⟨od,J,_⟩:=O.look
  exact qbv (PySem.W.kitx_own (cl.get _) cl.hd ha hn htk hm) I.kIn J e (λz=>nomatch z) h
end
structure bn (k:Nat) (A:Around):Prop where
 hd:A.handled=none
 dp:A.depth+3*k+5 < recursionLimit
 un:A.units+16*k+200 < cLine
 gd:A.guards=some []
theorem bn.mono {j k:Nat}{A:Around} (r:bn k A) (h:j<=k):bn j A:=⟨r.hd,by have:=r.dp;lia,by have:=r.un;lia,r.gd⟩
theorem bn.deeper {k:Nat}{A:Around} (r:bn (k+1) A) (env:Env):bn k (A.deeper env):=
 ⟨r.hd,by have:=r.dp;show A.depth+1+3*k+5 < _;lia,by have:=r.un;show A.units+3+16*k+200 < _;lia,r.gd⟩
theorem bn.depth {k:Nat}{A:Around} (r:bn k A):A.depth < recursionLimit:=by have:=r.dp;lia
theorem bn.units {k:Nat}{A:Around} (r:bn k A):A.units+64 < cLine:=by have:=r.un;lia
theorem bn.units0 {k:Nat}{A:Around} (r:bn k A):A.units < cLine:=by have:=r.un;lia
noncomputable def CV:TA:=λ_ H Q=>Q [] H
noncomputable def z9 (ta:TE) (tr:TA):TA:=λσ H Q=>ta σ H λx H1=>tr σ H1 λxs H2=>Q (x::xs) H2
section
variable {X:Cx}{e:Expr}{es:List Expr}{te:TE}{t:TA}{pos:Pos}
theorem BZ:PA X [] CV:=λ_ _ _ _ H Q I h=>qcB ⟨[],H,I,.nil,h⟩
theorem yq (ha:PE X e te) (hr:PA X es t) (hs:starEach (e::es) X.env=(false,eval e X.env)::starEach es X.env:=by rfl):PA X (e::es) (z9 te t):=by
 intro pos pins s σ H Q I h
 rw [hs]
 show wpAny _ _ (spliced ((false,eval e X.env)::backTo pos (starEach es X.env))) _ _ s
 refine qb6 (thn (ha pins s σ H _ I h) λu s1 ⟨x,H1,I1,r1,q1⟩=>?_)
 exact thn (hr pos pins s1 σ H1 _ I1 q1) λus s2 ⟨xs,H2,I2,r2,q2⟩=>⟨x::xs,H2,I2,.cons r1 r2,q2⟩
noncomputable def DK (t:TA):TE:=λσ H Q=>t σ H λxs H1=>xs.length<=sizeLine/\∀ p,H1 p=none->Q (.ref p) (upd H1 p (.tup xs))
noncomputable def DM (t:TA):TE:=λσ H Q=>t σ H λxs H1=>xs.length<=sizeLine/\∀ p,H1 p=none->Q (.ref p) (upd H1 p (.lst xs))
theorem BY {x1} (h:PA X es t):PE X (.Tuple es x1 pos) (DK t):=by
 intro pins s σ H Q I hq
 refine wpAny_Tuple_spliced (thn (h pos pins s σ H _ I hq) λus s1 ⟨xs,H1,I1,r,z,q⟩=>⟨by rw [<-r.length];exact z,?_⟩)
 have hf:H1 s1.heap.objs.size=none:=I1.hok.fresh (qan _)
 refine⟨.ref s1.heap.objs.size,upd H1 s1.heap.objs.size (.tup xs),I1.laid (t':=s1.toks) (λb u e=>qad _ e) (qan _) ?_,rfl,q _ hf⟩
 exact⟨z,us,r,di.new _ _⟩
theorem wX (h:PA X es t):PE X (.List es pos) (DM t):=by
 intro pins s σ H Q I hq
 refine wpAny_List_spliced (thn (h pos pins s σ H _ I hq) λus s1 ⟨xs,H1,I1,r,z,q⟩=>⟨by rw [<-r.length];exact z,?_⟩)
 have hf:H1 s1.heap.objs.size=none:=I1.hok.fresh (qan _)
 refine⟨.ref s1.heap.objs.size,upd H1 s1.heap.objs.size (.lst xs),I1.laid (t':=s1.toks) (λb u e=>qad _ e) (qan _) ?_,rfl,q _ hf⟩
 exact⟨z,us,0,r,qao _ rfl⟩
end
abbrev Sp:=List V->Hp->VK->XK->Prop
abbrev CXT:=List Env->Hp->Shared->XK->Value->Shared->Prop
structure zM (P:Program) (w:World) (K:PySem.W.Frag) (mg:Str->Option Value) (base:Heap) (A:Around) (outer:List Env) (s:Shared) (H:Hp):Prop where
 frames:A.frames=some outer
 mod:Mod K mg base
 bs:∀ b o,base.get? b=some o->s.heap.get? b=some o/\H b=none
 bsz:base.objs.size<=s.heap.objs.size
 funs:s.heap.FunFrames base outer
 frf:∀ b ∈ frs outer,H b=none
 hok:HOk P w H s.heap
 bare:AllBare s.gens
noncomputable def CE (outer:List Env) (P:Program) (w:World) (H:Hp) (s:Shared) (Q:VK) (u:Value) (s':Shared):Prop:=
 ∃ v H',s'.os=s.os/\AllBare s'.gens/\Un (frs outer) [] H H' s.heap s'.heap/\HOk P w H' s'.heap/\aA v u/\Q v H'
noncomputable def CR (CX:CXT) (outer:List Env) (P:Program) (w:World) (H:Hp) (s:Shared) (Q:VK) (E:XK) (r:Result) (s':Shared):Prop:=
 match r with
 | .ok (.ret u)=>CE outer P w H s Q u s'
 | .ok _=>False
 | .error e=>CX outer H s E e s'
structure bB (P:Program) (w:World) (K:PySem.W.Frag) (mg:Str->Option Value) (base:Heap) (CX:CXT) (k:Nat) (f:Addr) (fd:FuncData) (ps:List Str) (sp:Sp):Prop where
 len:∀ vs H Q E,sp vs H Q E->vs.length=ps.length
 run:∀ (A:Around) (outer:List Env) (s:Shared) (H:Hp) (args:Args) (us:List Value) (vs:List V) (Q:VK) (E:XK),bn k A->zM P w K mg base A outer s H->BindsTo s fd args (ps.zip us)->av vs us->sp vs H Q E->
  codeAny (model P w) A (.call (.ref f) args) (CR CX outer P w H s Q E) s
theorem bB.mono {P:Program}{w:World}{K:PySem.W.Frag}{mg:Str->Option Value}{base:Heap}{CX:CXT}{j k:Nat}{f:Addr}{fd:FuncData}{ps:List Str}{sp:Sp} (F:bB P w K mg base CX j f fd ps sp) (h:j<=k) :
  bB P w K mg base CX k f fd ps sp:=⟨F.len,λA outer s H args us vs Q E hr=>F.run A outer s H args us vs Q E (hr.mono h)⟩
section
variable {X:Cx}{pins:List (Addr×Obj)}{σ:St}{H:Hp}{s s':Shared}
theorem Inv.env0 (I:Inv X pins σ H s):zM X.prog X.w X.K X.mg X.base X.A X.stack s H:=
 ⟨I.ok.frames,I.ok.mod,I.bs,qaQ I.ok.bsz I.sz,I.stack,I.stkFree,I.hok,I.bare⟩
theorem Inv.after {Q:VK}{u:Value} (I:Inv X pins σ H s) (h:CE X.stack X.prog X.w H s Q u s'):EP X pins σ Q u s':=by
 obtain⟨v,H',os,bare,un,hok,r,q⟩:=h
 obtain⟨hh,g,d,t,os'⟩:=s'
 obtain rfl:os'=s.os:=os
 exact⟨v,H',I.call (h':=hh) (g':=g) (d':=d) (t':=t) (ch:=[]) un hok bare (λb z=>absurd z (by simp)),r,q⟩
end
noncomputable def Dk (sp:Sp) (dvs:List V) (E:XK) (t:TA):TE:=λσ H Q=>t σ H λvs H1=>sp (vs++dvs) H1 Q E
noncomputable def cm (K:PySem.W.Frag) (fd:FuncData) (ps:List Str) (ds:List Value):Prop:=
 ∀ (s:Shared) (us:List Value),K.In s.heap->(us++ds).length=ps.length->BindsTo s fd ⟨us,[]⟩ (ps.zip (us++ds))
theorem cm.all {K:PySem.W.Frag}{fd:FuncData}{ps:List Str} (h:∀ us:List Value,us.length=ps.length->bindArgs fd ⟨us,[]⟩=pure (ps.zip us)):cm K fd ps []:=λs us _ hl=>by
 rw [qcZ] at hl ⊢
 exact .of_eq (h us hl)
noncomputable def rf (CX:CXT) (X:Cx) (E:XK):Prop:=∀ (pins:List (Addr×Obj)) (σ:St) (H:Hp) (s:Shared) (e:Value) (s':Shared),Inv X pins σ H s->CX X.stack H s E e s'->X.xe e s'
section
variable {X:Cx}{CX:CXT}{k:Nat}{f C:Addr}{fd:FuncData}{ps:List Str}{sp:Sp}{dvs:List V}{ds:List Value}{E:XK}{x m:Str}{p pos apos:Pos}{e o:Expr}{es:List Expr}{ta:TE}{t:TA}
theorem BK {pins:List (Addr×Obj)}{σ:St}{H:Hp}{s:Shared}{Q:VK}{us:List Value}{vs:List V} (F:bB X.prog X.w X.K X.mg X.base CX k f fd ps sp) (hr:bn k X.A) (hb:cm X.K fd ps ds) (hd:av dvs ds) (hx:rf CX X E)
  (I:Inv X pins σ H s) (r:av vs us) (h:sp (vs++dvs) H Q E):wpAny (model X.prog X.w) X.A (call (.ref f) us) (EP X pins σ Q) X.xe s:=by
 have r2:av (vs++dvs) (us++ds):=r.append hd
 have hl:(us++ds).length=ps.length:=by rw [<-r2.length];exact F.len _ _ _ _ h
 refine qfk (qcI (F.run X.A X.stack s H ⟨us,[]⟩ (us++ds) (vs++dvs) Q E hr I.env0 (hb s us I.kIn hl) r2 h) λr s' hq=>?_)
 cases r with
 | error e=>exact hx pins σ H s e s' I hq
 | ok fl=>
  cases fl with
  | ret u=>exact I.after hq
  | next=>exact False.elim hq
  | brk=>exact False.elim hq
  | cont=>exact False.elim hq
theorem zq (F:bB X.prog X.w X.K X.mg X.base CX k f fd ps sp) (hr:bn k X.A) (hg:Gl X x) (hm:X.mg x=some (.ref f)) (hk:PySem.W.keepIn X.K (.ref f)=true) (hb:cm X.K fd ps ds) (hd:av dvs ds) (hx:rf CX X E)
  (ha:PA X (e::es) t) (hdb:(x==("__debug__" : Str))=false:=by decide) (he:starEach (e::es) X.env=(false,eval e X.env)::starEach es X.env:=by rfl) (hpl:(backTo pos (starEach es X.env)).any (·.1)=false:=by rfl) :
  PE X (.Call (.Name x p) (e::es) [] pos) (Dk sp dvs E t):=by
 intro pins s σ H Q I h
 refine qbT (zV I hg hm ?_ hdb)
 refine PySem.W.callWith_K (h₀:=X.base) I.ok.mod.kin hk (thn (ha pos pins s σ H _ I h) λus s1 ⟨vs,H1,I1,r,q⟩=>⟨I1.kIn,?_⟩) he hpl
 exact BK F hr hb hd hx I1 r q
end
noncomputable def PK (X:Cx) (kws:List Keyword) (t:TA):Prop:=
 ∀ (pos:Pos) (pins:List (Addr×Obj)) (s:Shared) (σ:St) (H:Hp) (Q:List V->Hp->Prop),Inv X pins σ H s->t σ H Q->wpAny (model X.prog X.w) X.A (evalAll ((backToKw pos (keywordEach kws X.env)).map (·.2))) (AP X pins σ Q) X.xe s
section
variable {X:Cx}{CX:CXT}{k:Nat}{f C:Addr}{fd:FuncData}{ps ks:List Str}{sp:Sp}{E:XK}{x m:Str}{p pos apos kpos:Pos}{e o:Expr}{es:List Expr}{kws:List Keyword}{te ta:TE}{t tk:TA}{nm:Option Str}
theorem Bu:PK X [] CV:=λ_ _ _ _ H Q I h=>wpAny_evalAll_nil ⟨[],H,I,.nil,h⟩
theorem zz (ha:PE X e te) (hr:PK X kws t):PK X (⟨nm,e,kpos⟩::kws) (z9 te t):=by
 intro pos pins s σ H Q I h
 show wpAny _ _ (evalAll ((do let v <-eval e X.env;standAt pos;pure v)::(backToKw pos (keywordEach kws X.env)).map (·.2))) _ _ s
 refine wpAny_evalAll_cons (qaa (thn (ha pins s σ H _ I h) λu s1 ⟨x,H1,I1,r1,q1⟩=>qaa (qdu (qab ?_))))
 exact thn (hr pos pins s1 σ H1 _ I1 q1) λus s2 ⟨xs,H2,I2,r2,q2⟩=>⟨x::xs,H2,I2,.cons r1 r2,q2⟩
variable {g:List Value->List Value->List Value}{gV:List V->List V->List V}
end
structure bg (N P:List Str) (sc:Scope):Prop where
 kind:sc.kind=.function
 co:sc.isCoroutine=false
 gen:sc.isGenerator=false
 nd:N.Nodup
 pre:N.take P.length=P
 par:∀ x ∈ P,sc.names.lookup x=some .local\/sc.names.lookup x=some .cell
 nofree:∀ y ∈ sc.names,y.2≠.free
theorem no {kindOf:Str->Option NameKind}{x:Str}:∀ {binds:List (Str×Value)}{m:Str->Option Value},(∀ v,(x,v) ∉ binds)->bindL kindOf binds m x=m x
 | [],_,_=>rfl
 | (n,v)::r,m,h=>by
  unfold bindL
  rw [no λw hw=>h w (qaf _ hw)]
  split
  ·have:x≠n:=by rintro rfl;exact h v qah
   simp [this]
  ·rfl
theorem mZ {kindOf:Str->Option NameKind}{x:Str}:∀ {binds:List (Str×Value)}{m:Str->Option Value},(∀ v,(x,v) ∉ binds)->bindC kindOf binds m x=m x
 | [],_,_=>rfl
 | (n,v)::r,m,h=>by
  unfold bindC
  rw [mZ λw hw=>h w (qaf _ hw)]
  split
  ·rfl
  ·have:x≠n:=by rintro rfl;exact h v qah
   simp [this]
theorem nD {kindOf:Str->Option NameKind}{x:Str}{v:Value}:∀ {P:List Str}{vs:List Value}{i:Nat}{m:Str->Option Value},P.Nodup->P[i]?=some x->vs[i]?=some v->kindOf x=some .local->
  bindL kindOf (P.zip vs) m x=some v
 | [],_,_,_,_,h,_,_=>by simp at h
 | _::_,[],_,_,_,_,h,_=>by simp at h
 | p::P,w::vs,0,m,nd,h1,h2,hk=>by
  simp at h1 h2;subst h1;subst h2
  show bindL kindOf ((p,w)::P.zip vs) m p=_
  unfold bindL
  rw [no λv hv=>(qbs.mp nd).1 (qfg hv).1,if_pos hk]
  simp
 | p::P,w::vs,i+1,m,nd,h1,h2,hk=>by
  show bindL kindOf ((p,w)::P.zip vs) m x=_
  unfold bindL
  exact nD (i:=i) (qbs.mp nd).2 (by simpa using h1) (by simpa using h2) hk
theorem nh {kindOf:Str->Option NameKind}{x:Str}{v:Value}:∀ {P:List Str}{vs:List Value}{i:Nat}{m:Str->Option Value},P.Nodup->P[i]?=some x->vs[i]?=some v->kindOf x≠some .local->
  bindC kindOf (P.zip vs) m x=some v
 | [],_,_,_,_,h,_,_=>by simp at h
 | _::_,[],_,_,_,_,h,_=>by simp at h
 | p::P,w::vs,0,m,nd,h1,h2,hk=>by
  simp at h1 h2;subst h1;subst h2
  show bindC kindOf ((p,w)::P.zip vs) m p=_
  unfold bindC
  rw [mZ λv hv=>(qbs.mp nd).1 (qfg hv).1,if_neg hk]
  simp
 | p::P,w::vs,i+1,m,nd,h1,h2,hk=>by
  show bindC kindOf ((p,w)::P.zip vs) m x=_
  unfold bindC
  exact nh (i:=i) (qbs.mp nd).2 (by simpa using h1) (by simpa using h2) hk
noncomputable def start (N:List Str) (vs:List V):St:=vs.map some++List.replicate (N.length - vs.length) none
noncomputable def dz (CX:CXT) (P:Program) (w:World) (K:PySem.W.Frag) (mg:Str->Option Value) (base:Heap) (N:List Str) (qual:Str) (scope:Scope) (f:Addr) (cd:Value) (A:Around) (outer:List Env) (s:Shared) (H:Hp) (E:XK):Cx where
 prog:=P
 w:=w
 K:=K
 mg:=mg
 base:=base
 A:=A.deeper (envOfC qual scope s.heap.objs.size f cd)
 N:=N
 s₀:=s
 H₀:=H
 env:=envOfC qual scope s.heap.objs.size f cd
 outer:=outer
 stack:=envOfC qual scope s.heap.objs.size f cd::outer
 ex:=[]
 calm:=true
 fn:=λ_=>true
 pn:=[]
 xe:=λe s'=>wpAny (model P w) (A.deeper (envOfC qual scope s.heap.objs.size f cd)) (leaving (envOfC qual scope s.heap.objs.size f cd) e) (λ_ s''=>CX outer H s E e s'') (λe' s''=>CX outer H s E e' s'') s'
theorem qK {sc:Scope}{n:Nat}{x:Str} (h:sc.names.lookup x=some .cell):∃ c,(cellsFrom n sc.names []).lookup x=some c:=by
 have q:=qcV sc.names n [] (.inl h)
 exact qcb.mp q
theorem vn {CX:CXT}{P:Program}{w:World}{K:PySem.W.Frag}{mg:Str->Option Value}{base:Heap}{N ps:List Str}{qual:Str}{scope:Scope}{f:Addr}{cd:Value}{A:Around}{outer:List Env}{s s1:Shared}{H:Hp}{E:XK}{us:List Value}{vs:List V}
  (S:bg N ps scope) (hd:A.handled=none) (e0:zM P w K mg base A outer s H) (hl:vs.length=ps.length) (r:av vs us)
  (x:InCallC s s.heap.objs.size (bindL (envOfC qual scope s.heap.objs.size f cd).kindOf (ps.zip us) λ_=>none) (cellsFrom (s.heap.objs.size+1) scope.names []) (bindC (envOfC qual scope s.heap.objs.size f cd).kindOf (ps.zip us) λ_=>none) s1) :
  Inv (dz CX P w K mg base N qual scope f cd A outer s H E) [] (start N vs) H s1:=by
 have hpl:ps.length<=N.length:=by have:=congrArg List.length S.pre;rw [qcQ] at this;lia
 obtain⟨h1,tk,rfl,hk⟩:=x.done
 have noA:∀ b:Addr,b ∉ (dz CX P w K mg base N qual scope f cd A outer s H E).ex:=λb z=>absurd (show b ∈ ([]:List Addr) from z) (by simp)
 refine⟨⟨e0.mod,S.kind,rfl,rfl,qan _,λy z c h1 h2=>?_,λy hy=>?_,λy c _ h=>?_,λ_=>hd,Around.frames_deeper e0.frames,.inr ⟨rfl,rfl⟩,λb z=>absurd z (noA b),e0.bs,e0.bsz,λb _ _=>noA b,λb z=>absurd z (noA b),e0.funs,e0.frf⟩,
  rfl,e0.bare,Un.kept hk,⟨_,x.toInCall.ns,λi y v h1 h2 h3=>?_⟩,λy c h=>⟨_,x.cell y c h⟩,e0.hok.fresh (qan _),λy c h=>?_,λp hp=>absurd (show p ∈ ([]:List (Addr×Obj)) from hp) (by simp),e0.hok.kept hk,?_⟩
 ·exact name_of_addr x.apart (qbj h1) (qbj h2)
 ·have hy:scope.names.lookup y=some .cell\/scope.names.lookup y=some .free:=hy
  rcases hy with hy | hy
  ·exact qK hy
  ·exact absurd rfl (S.nofree _ (qbj hy))
 ·exact qcA (x.above y c (qbj h))
 ·have hi:i < vs.length:=by
   unfold start at h2
   by_cases hi:i < vs.length
   ·exact hi
   ·rw [qa1 (by simpa using hi)] at h2
    rw [qcX] at h2
    split at h2<;>cases h2
  have ha:vs[i]?=some v:=by
   unfold start at h2
   rw [qaM (by simpa using hi),qaW] at h2
   cases e:vs[i]? with
   | none=>rw [e] at h2;cases h2
   | some a=>rw [e] at h2;cases h2;rfl
  obtain⟨u,hu,rv⟩:=r.get ha
  have hp:ps[i]?=some y:=by
   rw [<-S.pre,qfP (by lia)];exact h1
  have ndP:ps.Nodup:=by rw [<-S.pre];exact S.nd.sublist (List.take_sublist _ _)
  refine⟨u,rv,?_⟩
  rcases S.par y (qbI hp) with k | k
  ·exact .inl ⟨k,nD ndP hp hu k⟩
  ·obtain⟨c,e⟩:=qK (n:=s.heap.objs.size+1) k
   refine .inr ⟨.inl k,c,e,?_⟩
   have q:=x.cell y c e
   rw [nh ndP hp hu (by show scope.names.lookup y≠_;rw [k];decide)] at q
   exact q
 ·exact e0.hok.fresh (qcA (x.above y c (qbj h)))
 ·unfold start
  show _=N.length
  rw [qaK,qai,qcx]
  lia
theorem C4 {CX:CXT}{P:Program}{w:World}{K:PySem.W.Frag}{mg:Str->Option Value}{base:Heap}{k:Nat}{f:Addr}{name qual:Str}{params:Arguments}{body:List Stmt}{scope:Scope}{dV kV doc pm cdv ct oc:Value}{an od:Option Addr}
  {osl:Array (Option Value)}{N ps:List Str}{sp:Sp} (lk:K.lookup f=some ⟨oc,od,.func (PySem.W.fnOf name qual params body scope dV kV doc pm an cdv ct),osl⟩) (hcd:PySem.W.codeIn K cdv qual=true) (S:bg N ps scope)
  (len:∀ vs H Q E,sp vs H Q E->vs.length=ps.length)
  (hbody:∀ (A:Around) (outer:List Env) (s:Shared) (H:Hp) (vs:List V) (Q:VK) (E:XK),bn k (A.deeper (envOfC qual scope s.heap.objs.size f cdv))->sp vs H Q E->
    ∃ t,PSs (dz CX P w K mg base N qual scope f cdv A outer s H E) body t/\t { nx:=λ_ H'=>Q .non H',rt:=Q } (start N vs) H) :
  bB P w K mg base CX (k+1) f (PySem.W.fnOf name qual params body scope dV kV doc pm an cdv ct) ps sp:=by
 refine⟨len,λA outer s H args us vs Q E hr e0 hb r hsp=>?_⟩
 have hl:=len _ _ _ _ hsp
 have KX:K.In s.heap:=e0.mod.kin.keeps λb o e=>(e0.bs b o e).1
 have lim:s.heap.NoLimit:=e0.mod.nolimit.keeps λb o e=>(e0.bs b o e).1
 have hkind:∀ y ∈ ps.zip us,scope.names.lookup y.1=some .local\/(scope.names.lookup y.1=some .cell/\((cellsFrom (s.heap.objs.size+1) scope.names []).lookup y.1).isSome=true):=λ⟨n,v⟩ hy=>by
  rcases S.par n (qfg hy).1 with q | q
  ·exact .inl q
  ·exact .inr ⟨q,qcV _ _ _ (.inl q)⟩
 refine codeAny_call_function hr.depth (KX _ _ lk) rfl S.co S.gen rfl (PySem.W.codeRec_of KX hcd) (hb _ _ _ _ ?_)
 refine wpAny_newFunctionEnv_cells S.kind hkind λenv he s1 x=>?_
 subst he
 refine⟨lim.keeps x.toInCall.keep,codeAny_func ?_⟩
 obtain⟨t,ht,hq⟩:=hbody A outer s H vs Q E (hr.deeper _) hsp
 have I:Inv (dz CX P w K mg base N qual scope f cdv A outer s H E) [] (start N vs) H s1:=vn S hr.hd e0 hl r x
 refine qb1 (ht [] s1 (start N vs) H _ I hq) (λfl s' hs=>?_) λe s' hs=>hs
 have fin:∀ {σ':St}{H':Hp}{v:V}{u:Value},Inv (dz CX P w K mg base N qual scope f cdv A outer s H E) [] σ' H' s'->aA v u->Q v H'->CE outer P w H s Q u s':=
  λ{σ' H' v u} J rv q=>⟨v,H',J.os,J.bare,J.base,J.hok,rv,q⟩
 cases fl with
 | ret u=>
  obtain⟨v,σ',H',J,rv,q⟩:=hs
  exact fin J rv q
 | next=>
  obtain⟨σ',H',J,q⟩:=hs
  exact fin (v:=V.non) (u:=Value.none) J rfl q
 | brk=>
  obtain⟨_,_,_,q⟩:=hs
  exact False.elim q
 | cont=>
  obtain⟨_,_,_,q⟩:=hs
  exact False.elim q
section
variable {X:Cx}{x:Str}{p pos:Pos}{e:Expr}{es:List Expr}{t:TA}{id T:String}{r:List V->Hp->VK->Prop}
noncomputable def tCB (r:List V->Hp->VK->Prop) (t:TA):TE:=λσ H Q=>t σ H λvs H1=>r vs H1 Q
theorem ly (hc:bS X (.builtin id) r) (hg:Gl X x) (hm:X.mg x=none) (hv:bootBuiltins x=some (.builtin id)) (ha:PA X (e::es) t) (hn:x≠"__name__":=by decide) (hdb:(x==("__debug__" : Str))=false:=by decide)
  (he:starEach (e::es) X.env=(false,eval e X.env)::starEach es X.env:=by rfl) (hpl:(backTo pos (starEach es X.env)).any (·.1)=false:=by rfl):PE X (.Call (.Name x p) (e::es) [] pos) (tCB r t):=by
 intro pins s σ H Q I h
 refine qbT (ef I hg hm hv ?_ hn hdb)
 exact qcT (thn (ha pos pins s σ H _ I h) λus s1 ⟨vs,H1,I1,r1,q1⟩=>hc pins s1 σ H1 vs us Q I1 r1 q1) he hpl
theorem vi (hc:bS X (.type T) r) (hg:Gl X x) (hm:X.mg x=none) (hv:bootBuiltins x=some (.type T)) (ha:PA X (e::es) t) (hn:x≠"__name__":=by decide) (hdb:(x==("__debug__" : Str))=false:=by decide)
  (he:starEach (e::es) X.env=(false,eval e X.env)::starEach es X.env:=by rfl) (hpl:(backTo pos (starEach es X.env)).any (·.1)=false:=by rfl):PE X (.Call (.Name x p) (e::es) [] pos) (tCB r t):=by
 intro pins s σ H Q I h
 refine qbT (ef I hg hm hv ?_ hn hdb)
 exact qbB (thn (ha pos pins s σ H _ I h) λus s1 ⟨vs,H1,I1,r1,q1⟩=>hc pins s1 σ H1 vs us Q I1 r1 q1) he hpl
end
end L2
namespace HT
open PySem PyProof.Rows
section
open PySem.SeqAt
open PySem.AutoSeq1 (wpAny_loadPart')
open PySem.MeetsSeq PySem.MeetsSeq2 PySem.MeetsSeq3
end
section
variable {prog:Program}{w:World}{A:Around}{E:Value->Shared->Prop}{s:Shared}
theorem cat_tup {t b:Addr}{vs ws:List Value}{Q:Value->Shared->Prop} (ht:IsTup s.heap t vs.toArray) (hb:IsTup s.heap b ws.toArray) (hv:vs≠[])
  (h1:ws=[]->Q (.ref t) s) (h2:ws≠[]->Q (.ref s.heap.objs.size) { s with heap:=s.heap.push { cls:=.type "tuple",data:=.seq (vs++ws).toArray } })
  (hsz:vs.length+ws.length<=sizeLine):wpAny (model prog w) A (binaryOp .Add (.ref t) (.ref b)) Q E s:=by
 obtain⟨⟨cls,dd,data,sl⟩,ho,hc,n,hd⟩:=id ht
 obtain⟨⟨cls2,dd2,data2,sl2⟩,ho2,hc2,n2,hd2⟩:=id hb
 simp only at hc hd hc2 hd2
 subst hc hd hc2 hd2
 have e:vs.toArray++ws.toArray=(vs++ws).toArray:=by simp
 by_cases hw:ws=[]
 ·exact qgU ⟨_,ho,rfl⟩ ⟨_,ho2,rfl⟩ qfG qgA qdL qdH (qdv _ _)
   (tuple_addW1 t b vs.toArray ws.toArray n n2 dd dd2 sl sl2 (by simpa using hv) (by simp [hw])) ⟨ho,ho2,h1 hw⟩
 ·refine qgU ⟨_,ho,rfl⟩ ⟨_,ho2,rfl⟩ qfG qgA qdL qdH (qdv _ _)
   (tuple_addW2 t b vs.toArray ws.toArray n n2 dd dd2 sl sl2 (by simpa using hv) (by simpa using hw) (by rw [qas,qas];exact hsz)) ⟨ho,ho2,?_⟩
  rw [e]
  exact h2 hw
noncomputable def sIx (n d:Nat):Option Int->Nat
 | none=>d
 | some v=>if v < 0 then (v+(n:Int)).toNat else min v.toNat n
theorem B9 (n d:Nat) (hd:d<=n) (o:Option Int):sIx n d o<=n:=by
 cases o with
 | none=>exact hd
 | some v=>
  show (if v < 0 then (v+(n:Int)).toNat else min v.toNat n)<=n
  by_cases hv:v < 0
  ·rw [if_pos hv];lia
  ·rw [if_neg hv];exact Nat.min_le_right _ _
theorem tR (v:Int) (n d:Nat):(if v < 0 then max (v+(n:Int)) 0 else min v (n:Int))=((sIx n d (some v):Nat):Int):=by
 show (if v < 0 then max (v+(n:Int)) 0 else min v (n:Int))=(((if v < 0 then (v+(n:Int)).toNat else min v.toNat n):Nat):Int)
 by_cases hv:v < 0
 ·simp only [if_pos hv];lia
 ·simp only [if_neg hv];lia
theorem sf (lo hi:Option Int) (n:Nat):Builtin.Slice.sliceAdjust lo hi 1 (n:Int)=(((sIx n 0 lo:Nat):Int),((sIx n n hi:Nat):Int)):=by
 have h1:¬ ((1:Int) < 0):=by lia
 unfold Builtin.Slice.sliceAdjust
 simp only [h1,if_false]
 refine Prod.ext ?_ ?_
 ·cases lo with
  | none=>rfl
  | some v=>exact tR v n 0
 ·cases hi with
  | none=>rfl
  | some v=>exact tR v n n
theorem sk (i j:Nat):Builtin.Slice.slicePlaces (i:Int) (j:Int) 1=j - i:=by
 unfold Builtin.Slice.slicePlaces
 have h1:(1:Int) > 0:=by lia
 simp only [h1,if_true,Int.ediv_one]
 split<;>lia
theorem lB {v:Value}{o:Option Int}{Q:Option Int->Shared->Prop} (p:IsPart v o) (h:Q o s):wpAny (model prog w) A (Builtin.Slice.slicePartIndex v) Q E s:=by
 cases p with
 | none=>exact qiy h
 | int i t=>exact slicePart_int h
theorem eW {sl:Addr}{vl vu:Value}{lo hi:Option Int}{n:Nat}{Q:Int×Int×Nat->Shared->Prop} (hs:s.heap.IsSliceOf sl vl vu .none) (pl:IsPart vl lo) (pu:IsPart vu hi)
  (h:Q (((sIx n 0 lo:Nat):Int),1,sIx n n hi - sIx n 0 lo) s):wpAny (model prog w) A (Builtin.Slice.sliceApplied (.ref sl) (pure (n:Int))) Q E s:=by
 obtain⟨os,hos,hcs,hds⟩:=id hs
 unfold Builtin.Slice.sliceApplied Builtin.Slice.sliceFields
 refine qaa (qaa (qdF hos hds (x:=vl) rfl (qaa (qdF hos hds (x:=vu) rfl (qaa (qdF hos hds (x:=.none) rfl (qab ?_)))))))
 refine qaa (qiy ?_)
 show wpAny _ _ (if ((1:Int)==0)=true then _ else _) _ _ s
 rw [if_neg (by decide)]
 refine qaa (lB pl (qaa (lB pu (qaa (qab ?_)))))
 show wpAny _ _ (match Builtin.Slice.sliceAdjust lo hi 1 (n:Int) with | (lo,hi)=>pure (lo,(1:Int),Builtin.Slice.slicePlaces lo hi 1)) _ _ s
 rw [sf lo hi n]
 show wpAny _ _ (pure (((sIx n 0 lo:Nat):Int),(1:Int),Builtin.Slice.slicePlaces ((sIx n 0 lo:Nat):Int) ((sIx n n hi:Nat):Int) 1)) _ _ s
 rw [sk]
 exact qab h
theorem wN (xs:Array Value) (i k:Nat):((List.range k).filterMap λ(m:Nat)=>xs[((i:Int)+(m:Int)*1).toNat]?).toArray=((xs.toList.drop i).take k).toArray:=by
 have e:(λ(m:Nat)=>xs[((i:Int)+(m:Int)*1).toNat]?)=λm=>xs[i+m]?:=by
  funext m
  have:((i:Int)+(m:Int)*1).toNat=i+m:=by lia
  rw [this]
 rw [e]
 have:=pick_run xs i k
 rw [List.filterMap_map] at this
 have e2:((λx=>xs[x]?) ∘ λx=>i+x)=λm=>xs[i+m]?:=rfl
 rw [e2] at this
 rw [this]
theorem getItem_tuple_cut {t sl:Addr}{items:Array Value}{vl vu:Value}{lo hi:Option Int}{Q:Value->Shared->Prop} (ht:IsTup s.heap t items) (hs:s.heap.IsSliceOf sl vl vu .none) (pl:IsPart vl lo) (pu:IsPart vu hi)
  (hw:¬ (sIx items.size 0 lo=0/\sIx items.size items.size hi=items.size))
  (h:Q (.ref s.heap.objs.size) { s with heap:=s.heap.push { cls:=.type "tuple",data:=.seq ((items.toList.drop (sIx items.size 0 lo)).take (sIx items.size items.size hi - sIx items.size 0 lo)).toArray } })
  (hsz:items.size<=sizeLine):wpAny (model prog w) A (getItem (.ref t) (.ref sl)) Q E s:=by
 have htake:sizeOk (.seq ((items.toList.drop (sIx items.size 0 lo)).take (sIx items.size items.size hi - sIx items.size 0 lo)).toArray):=by
  show ((items.toList.drop (sIx items.size 0 lo)).take (sIx items.size items.size hi - sIx items.size 0 lo)).toArray.size<=sizeLine
  rw [qas,qcQ,qe3,qav]
  lia
 have hj:sIx items.size items.size hi<=items.size:=B9 _ _ (qan _) hi
 obtain⟨os,hos,hcs,hds⟩:=id hs
 have hTs:s.TypeIs (.ref sl) "slice":=⟨os,hos,hcs⟩
 unfold getItem
 try with_reducible refine qaT ?_
 first | refine qaa (qab ?_) | skip
 refine qaa (qhl ht.typeIs (by decide) ?_)
 refine qaa (qbc (name:=Str.ofString "__getitem__") ht.typeIs qbp
  (qaU qbp ht.typeIs qg8 ?_ (qhd _ _)))
 show wpAny _ _ (Builtin.Tuple.tupleItemsOf (.ref t) >>= _) _ _ s
 refine qaa (tupleItemsOf_ ht ?_)
 refine qaa (qes hTs ?_)
 rw [if_pos (by decide)]
 refine qaa (eW hs pl pu ?_)
 have hno:¬ ((((sIx items.size 0 lo:Nat):Int)==0 && (1:Int)==1 && (sIx items.size items.size hi - sIx items.size 0 lo)==items.size)=true):=by
  intro q
  rw [qaL,qaL] at q
  have q1:((sIx items.size 0 lo:Nat):Int)=0:=eq_of_beq q.1.1
  have q2:sIx items.size items.size hi - sIx items.size 0 lo=items.size:=eq_of_beq q.2
  exact hw ⟨by lia,by lia⟩
 show wpAny _ _ (if (((sIx items.size 0 lo:Nat):Int)==0 && (1:Int)==1 && (sIx items.size items.size hi - sIx items.size 0 lo)==items.size)=true then _ else _) _ _ s
 rw [if_neg hno,wN]
 first
  | exact qaa (m:=Builtin.Tuple.tupleExact _) (qaS (qab ⟨_,rfl,qab h⟩) htake)
  | exact qaa (m:=Builtin.Tuple.tupleExact _) (qaS (qaa (qab (qab ⟨_,rfl,qab h⟩))) htake)
  | exact qaa (qaa (m:=Builtin.Tuple.tupleExact _) (qaS (qab (qab ⟨_,rfl,qab h⟩)) htake))
  | exact qaa (qaa (m:=Builtin.Tuple.tupleExact _) (qaS (qab ⟨_,rfl,qab h⟩) htake))
end
end HT
namespace L2
open PySem PySem.Spec PyProof.Rows
abbrev TO:=St->Hp->(Option Int->Hp->Prop)->Prop
noncomputable def PO (X:Cx) (e:Option Expr) (t:TO):Prop:=
 ∀ (pins:List (Addr×Obj)) (s:Shared) (σ:St) (H:Hp) (Q:Option Int->Hp->Prop),Inv X pins σ H s->t σ H Q->
  wpAny (model X.prog X.w) X.A (evalPart e X.env) (λu s'=>∃ o H',Inv X pins σ H' s'/\IsPart u o/\Q o H') X.xe s
noncomputable def yX:TO:=λ_ H Q=>Q none H
noncomputable def Cb (t:TE):TO:=λσ H Q=>t σ H λx H1=>∃ i,x=.int i/\Q (some i) H1
theorem en {ns:List Int}:∀ {us:List Value},av (ns.map V.int) us->IntsAre us ns:=by
 induction ns with
 | nil=>intro us r;rw [qcw] at r;cases r;exact .nil
 | cons n ns ih=>
  intro us r
  rw [qaj] at r
  cases r with
  | cons r1 r2=>
   obtain⟨t,e⟩:=r1
   subst e
   exact .cons n t (ih r2)
section
variable {X:Cx}{e:Expr}{te:TE}{lo hi:Option Expr}{tl th:TO}{pos p2:Pos}
theorem yc:PO X none yX:=by
 intro pins s σ H Q I h
 rw [evalPart_none]
 exact qab ⟨none,H,I,.none,h⟩
theorem ze (h:PE X e te):PO X (some e) (Cb te):=by
 intro pins s σ H Q I hw
 rw [evalPart_some]
 refine thn (h pins s σ H _ I hw) λu s1 ⟨x,H1,I1,r1,q1⟩=>?_
 obtain⟨i,rfl,q⟩:=q1
 obtain⟨t,rfl⟩:=r1
 exact⟨some i,H1,I1,.int i t,q⟩
noncomputable def SlR (X:Cx) (r:V->Option Int->Option Int->Hp->VK->Prop):Prop:=
 ∀ (pins:List (Addr×Obj)) (s:Shared) (σ:St) (H:Hp) (x:V) (v vl vu:Value) (lo hi:Option Int) (sl:Addr) (Q:VK),Inv X pins σ H s->aA x v->s.heap.IsSliceOf sl vl vu .none->IsPart vl lo->IsPart vu hi->r x lo hi H Q->
  ∃ T id,typeLookup (.type T) "__getitem__" = pure (some (.builtin id))/\s.TypeIs v T/\wpAny (model X.prog X.w) X.A (getItem v (.ref sl)) (EP X pins σ Q) X.xe s
noncomputable def tSl (r:V->Option Int->Option Int->Hp->VK->Prop) (te:TE) (tl th:TO):TE:=λσ H Q=>te σ H λx H1=>tl σ H1 λl H2=>th σ H2 λu H3=>r x l u H3 Q
theorem qw {r:V->Option Int->Option Int->Hp->VK->Prop} (hr:SlR X r) (he:PE X e te) (hl:PO X lo tl) (hu:PO X hi th):PE X (.Subscript e (.Slice lo hi none p2) pos) (tSl r te tl th):=by
 intro pins s σ H Q I h
 refine qhr (thn (he pins s σ H _ I h) λv s1 ⟨x,H1,I1,r1,q1⟩=>?_)
 refine wpAny_Slice (thn (hl pins s1 σ H1 _ I1 q1) λvl s2 ⟨l,H2,I2,pl,q2⟩=>thn (hu pins s2 σ H2 _ I2 q2) λvu s3 ⟨u,H3,I3,pu,q3⟩=>?_)
 rw [evalPart_none]
 refine qab ?_
 have I4:Inv X pins σ H3 { s3 with heap:=s3.heap.push { cls:=.type "slice",data:=.fields #[vl,vu,.none] } }:=I3.kept (t':=s3.toks) λb ob q=>qad _ q
 obtain⟨T,id,hT,ht,hg⟩:=hr pins { s3 with heap:=s3.heap.push { cls:=.type "slice",data:=.fields #[vl,vu,.none] } } σ H3 x v vl vu l u s3.heap.objs.size Q I4 r1 (qhi ..) pl pu q3
 show wpAny (model X.prog X.w) X.A (subscriptTail e (.Slice lo hi none p2) v (.ref s3.heap.objs.size)) (EP X pins σ Q) X.xe { s3 with heap:=s3.heap.push { cls:=.type "slice",data:=.fields #[vl,vu,.none] } }
 exact tail_any (ops:=[.ref s3.heap.objs.size,v]) ht hT hg (by with_unfolding_all rfl)
noncomputable def oI (xs:List V) (lo hi:Option Int):List V:=(xs.drop (HT.sIx xs.length 0 lo)).take (HT.sIx xs.length xs.length hi - HT.sIx xs.length 0 lo)
theorem jE (xs:List V) (lo hi:Option Int):(oI xs lo hi).length<=xs.length:=by
 unfold oI
 rw [qcQ,qe3]
 lia
noncomputable def Dx (K:PySem.W.Frag):V->Option Int->Option Int->Hp->VK->Prop:=λx lo hi H Q=>∃ a xs,x=.ref a/\SqT K H a xs/\
 ¬ (HT.sIx xs.length 0 lo=0/\HT.sIx xs.length xs.length hi=xs.length)/\∀ p,H p=none->Q (.ref p) (upd H p (.tup (oI xs lo hi)))
theorem AY:SlR X (Dx X.K):=by
 intro pins s σ H x v vl vu lo hi sl Q I rx hs pl pu h
 obtain⟨a,xs,rfl,hx,hw,q⟩:=h
 cases rx
 obtain⟨its,r,ht,hz⟩:=I.tuple hx
 have hlen:its.toArray.size=xs.length:=by rw [qas];exact r.length.symm
 refine⟨"tuple",_,qbp.lookup,ht.typeIs,?_⟩
 refine HT.getItem_tuple_cut ht hs pl pu (by rw [hlen];exact hw) ?_ (by rw [hlen];exact hz)
 rw [hlen]
 refine⟨.ref s.heap.objs.size,_,I.laid (t':=s.toks) (o:=.tup (oI xs lo hi)) (λb ob q=>qad _ q) (qan _) ?_,rfl,q _ (I.hok.fresh (qan _))⟩
 exact⟨qaQ (jE xs lo hi) hz,_,(r.drop (HT.sIx xs.length 0 lo)).take (HT.sIx xs.length xs.length hi - HT.sIx xs.length 0 lo),di.new _ _⟩
noncomputable def C8 (K:PySem.W.Frag):R2:=λx y H Q=>∃ a b xs ys,x=.ref a/\y=.ref b/\SqT K H a xs/\SqT K H b ys/\xs≠[]/\xs.length+ys.length<=sizeLine/\
 (ys=[]->Q (.ref a) H)/\(ys≠[]->∀ p,H p=none->Q (.ref p) (upd H p (.tup (xs++ys))))
theorem av.nil_iff {xs:List V}{us:List Value} (r:av xs us):us=[]↔xs=[]:=by
 cases r with
 | nil=>simp
 | cons _ _=>simp
theorem yD:OpR X (binaryOp .Add) (C8 X.K):=by
 intro pins s σ H x y v u Q I rx ry h
 obtain⟨a,b,xs,ys,rfl,rfl,ha,hb,hx,hz,q1,q2⟩:=h
 cases rx
 cases ry
 obtain⟨its,r1,p1,_⟩:=I.tuple ha
 obtain⟨its2,r2,p2,_⟩:=I.tuple hb
 refine HT.cat_tup p1 p2 (λz=>hx (r1.nil_iff.mp z)) (λz=>⟨.ref a,H,I,rfl,q1 (r2.nil_iff.mp z)⟩) (λz=>?_) (by rw [<-r1.length,<-r2.length];exact hz)
 refine⟨.ref s.heap.objs.size,_,I.laid (t':=s.toks) (o:=.tup (xs++ys)) (λb ob q=>qad _ q) (qan _) ?_,rfl,q2 (λw=>z (r2.nil_iff.mpr w)) _ (I.hok.fresh (qan _))⟩
 exact⟨by rw [qaK];exact hz,_,r1.append r2,di.new _ _⟩
end
noncomputable def ixN (n:Nat) (i:Int):Option Nat:=if 0<=i then (if i < n then some i.toNat else none) else if -(n:Int)<=i then some (i+n).toNat else none
noncomputable def atI {α:Type} (xs:List α) (i:Int):Option α:=(ixN xs.length i).bind λj=>xs[j]?
theorem oJ {n:Nat}{i:Int}{j:Nat} (h:ixN n i=some j):seqIndex? i n=some j/\j < n/\-(n:Int)<=i/\i < n:=by
 unfold ixN at h
 by_cases h0:0<=i
 ·rw [if_pos h0] at h
  by_cases h1:i < n
  ·rw [if_pos h1] at h
   have e:i.toNat=j:=qaD h
   exact⟨by rw [qg4 h0 h1,e],by lia,by lia,h1⟩
  ·rw [if_neg h1] at h;cases h
 ·rw [if_neg h0] at h
  by_cases h1:-(n:Int)<=i
  ·rw [if_pos h1] at h
   have e:(i+n).toNat=j:=qaD h
   exact⟨by rw [qgS (by lia) h1,e],by lia,h1,by lia⟩
  ·rw [if_neg h1] at h;cases h
theorem oN {α:Type}{xs:List α}{i:Int}{v:α} (h:atI xs i=some v):∃ j,seqIndex? i xs.length=some j/\xs[j]?=some v/\j < xs.length/\-(xs.length:Int)<=i/\i < xs.length:=by
 unfold atI at h
 cases e:ixN xs.length i with
 | none=>rw [e] at h;cases h
 | some j=>
  rw [e] at h
  obtain⟨h1,h2,h3,h4⟩:=oJ e
  exact⟨j,h1,h,h2,h3,h4⟩
theorem kj {α:Type}{xs:List α}{j:Nat}{v:α} (h:xs[j]?=some v):atI xs (j:Int)=some v:=by
 have hj:j < xs.length:=(qax.mp h).1
 have e:ixN xs.length (j:Int)=some j:=by
  unfold ixN
  rw [if_pos (by lia),if_pos (by lia)];simp
 unfold atI;rw [e];exact h
theorem xz {α:Type} (xs:List α) (v:α):atI (xs++[v]) (-1)=some v:=by
 have hl:(xs++[v]).length=xs.length+1:=by simp
 have e:ixN (xs++[v]).length (-1)=some xs.length:=by
  unfold ixN
  rw [hl,if_neg (by decide),if_pos (by lia)]
  congr 1
  lia
 unfold atI
 rw [e]
 show (xs++[v])[xs.length]?=some v
 simp
noncomputable def ur (b:Expr):Prop:=∀ o i,subscripted b false o i=operate [o,i] (getItem o i)
noncomputable def IxR (X:Cx) (r:R2):Prop:=
 ∀ (value slice:Expr) (pins:List (Addr×Obj)) (s:Shared) (σ:St) (H:Hp) (x y:V) (v u:Value) (Q:VK),Inv X pins σ H s->aA x v->aA y u->r x y H Q->
  subscripted slice false v u=operate [v,u] (getItem v u)->wpAny (model X.prog X.w) X.A (subscriptTail value slice v u) (EP X pins σ Q) X.xe s
noncomputable def MtR (X:Cx) (id:String) (r:V->List V->Hp->VK->Prop):Prop:=
 ∀ (pins:List (Addr×Obj)) (s:Shared) (σ:St) (H:Hp) (x:V) (xs:List V) (v:Value) (us:List Value) (Q:VK),Inv X pins σ H s->aA x v->av xs us->r x xs H Q->
  wpAny (model X.prog X.w) X.A (call (.builtin id) (v::us)) (EP X pins σ Q) X.xe s
section
variable {X:Cx}{a b:Expr}{ta tb:TE}{pos:Pos}
theorem IxR.or {r r':R2} (h:IxR X r) (h':IxR X r'):IxR X (λx y H Q=>r x y H Q\/r' x y H Q):=by
 intro value slice pins s σ H x y v u Q I rx ry q hs
 rcases q with q | q
 ·exact h value slice pins s σ H x y v u Q I rx ry q hs
 ·exact h' value slice pins s σ H x y v u Q I rx ry q hs
theorem Ah {r:R2} (hr:IxR X r) (ha:PE X a ta) (hb:PE X b tb) (hs:ur b):PE X (.Subscript a b pos) (tOp r ta tb):=by
 intro pins s σ H Q I h
 exact qhr (BC ha hb I h λv u s2 x y H2 I2 rx ry q=>hr a b pins s2 σ H2 x y v u Q I2 rx ry q (hs _ _))
noncomputable def CP (K:PySem.W.Frag):R2:=λx y H Q=>∃ p xs i v,x=.ref p/\y=.int i/\SqL K H p xs/\atI xs i=some v/\Q v H
noncomputable def CT (K:PySem.W.Frag):R2:=λx y H Q=>∃ p xs i v,x=.ref p/\y=.int i/\SqT K H p xs/\atI xs i=some v/\Q v H
noncomputable def C3:R2:=λx y H Q=>∃ z i c,x=.str z/\y=.int i/\z.length<=sizeLine/\atI z.cps.toList i=some c/\Q (.str ⟨#[c]⟩) H
theorem yG:IxR X (CP X.K):=by
 intro value slice pins s σ H x y v u Q I rx ry h hs
 obtain⟨p,xs,i,z,rfl,rfl,hq,he,q⟩:=h
 cases rx
 obtain⟨t,rfl⟩:=ry
 obtain⟨its,r,pl,hz⟩:=I.list hq
 obtain⟨j,h1,h2,h3,h4,h5⟩:=oN he
 obtain⟨w,ew,rw'⟩:=r.get h2
 have hl:=r.length
 have hn:=hX
 have fin:EP X pins σ Q w s:=⟨z,H,I,rw',q⟩
 by_cases h0:0<=i
 ·have hj:i.toNat=j:=by
   rw [qg4 h0 h5] at h1
   exact qaD h1
  exact item_listR pl.isList h0 (by lia) (by rw [hj];simpa using ew) fin hs
 ·have hj:(i+(its.toArray.size:Int)).toNat=j:=by
   rw [qgS (by lia) h4] at h1
   rw [qas,<-hl]
   exact qaD h1
  exact qgK (x:=w) pl.isList.typeIs qho.lookup
   (wpAny_getItem_list_neg (Q:=λr s'=>r=w/\EP X pins σ Q r s') pl.isList (by lia) (by rw [qas]<;>lia) (by lia) (by rw [hj];simpa using ew) ⟨rfl,fin⟩) hs
theorem BE:IxR X (CT X.K):=by
 intro value slice pins s σ H x y v u Q I rx ry h hs
 obtain⟨p,xs,i,z,rfl,rfl,hq,he,q⟩:=h
 cases rx
 obtain⟨t,rfl⟩:=ry
 obtain⟨its,r,pl,hz⟩:=I.tuple hq
 obtain⟨j,h1,h2,h3,h4,h5⟩:=oN he
 obtain⟨w,ew,rw'⟩:=r.get h2
 have hl:=r.length
 have hn:=hX
 have fin:EP X pins σ Q w s:=⟨z,H,I,rw',q⟩
 exact qgK (x:=w) pl.typeIs slot_tuple_getitem.lookup
  (getItem_tuple (j:=j) (Q:=λr s'=>r=w/\EP X pins σ Q r s') pl (by lia) (by lia) (by rw [qas,<-hl];exact h1) (by simpa using ew) ⟨rfl,fin⟩) hs
theorem B1:IxR X C3:=by
 intro value slice pins s σ H x y v u Q I rx ry h hs
 obtain⟨z,i,c,rfl,rfl,hz,he,q⟩:=h
 obtain⟨t,rfl⟩:=rx
 obtain⟨t',rfl⟩:=ry
 obtain⟨j,h1,h2,h3,h4,h5⟩:=oN he
 have hl:z.cps.toList.length=z.length:=by simp [Str.length]
 rw [hl] at h1 h4 h5
 have hn:=hX
 exact tail_any (typeIs_str s z t) slot_str_getitem.lookup (getItem_str (c:=c) (by
  have e1:decide (i < -(2 ^ 63:Int))=false:=decide_eq_false (by lia)
  have e2:decide (i>=2 ^ 63)=false:=decide_eq_false (by lia)
  rw [e1,e2,qdl]) (by rw [h1];simpa using h2) ⟨.str ⟨#[c]⟩,H,I.tok _,⟨_,rfl⟩,q⟩) hs
noncomputable def rIx (K:PySem.W.Frag):R2:=λx y H Q=>CP K x y H Q\/CT K x y H Q\/C3 x y H Q
theorem sE:IxR X (rIx X.K):=yG.or (BE.or B1)
theorem rB (its:List Value) (n j:Nat) (u:Value):Obj.mapSeq (·.setIfInBounds j u) { cls:=.type "list",data:=.seq its.toArray n }={ cls:=.type "list",data:=.seq (its.set j u).toArray n }:=by
 simp [Obj.mapSeq]
theorem Inv.lst {pins:List (Addr×Obj)}{σ:St}{H:Hp}{s:Shared}{p:Addr}{xs:List V} (I:Inv X pins σ H s) (h:H p=some (.lst xs)) :
  ∃ (its:List Value) (n:Nat),av xs its/\s.heap.get? p=some { cls:=.type "list",data:=.seq its.toArray n }/\xs.length<=sizeLine:=by
 obtain⟨z,its,n,r,e⟩:=I.hok p _ h
 exact⟨its,n,r,e,z⟩
theorem Inv.lstUpd {pins:List (Addr×Obj)}{σ:St}{H:Hp}{s:Shared}{p:Addr}{xs ys:List V}{its its':List Value}{n n':Nat}{f:Obj->Obj} (I:Inv X pins σ H s) (h:H p=some (.lst xs))
  (ho:s.heap.get? p=some { cls:=.type "list",data:=.seq its.toArray n }) (hf:f { cls:=.type "list",data:=.seq its.toArray n }={ cls:=.type "list",data:=.seq its'.toArray n' }) (r:av ys its') (hz:ys.length<=sizeLine) (t:Nat) :
  Inv X pins σ (upd H p (.lst ys)) { s with heap:=s.heap.update p f,toks:=t }:=by
 have e:(s.heap.update p f).get? p=some { cls:=.type "list",data:=.seq its'.toArray n' }:=by
  rw [qbb f ho (by rw [hf]<;>rfl),hf]
 refine I.write (x:=p) (e:=p) (by rw [h];trivial) (.inl rfl) (λb u hb q=>(qa6 _ _ (qbR hb)).trans q) ⟨_,e⟩ ?_
 exact⟨hz,its',n',r,e⟩
noncomputable def CB:V->V->V->Hp->(Hp->Prop)->Prop:=λo i v H Q=>∃ p xs k j,o=.ref p/\i=.int k/\H p=some (.lst xs)/\ixN xs.length k=some j/\Q (upd H p (.lst (xs.set j v)))
theorem pY:Dh X CB:=by
 intro pins s σ H o i v ov iv u Q I ro ri rv h
 obtain⟨p,xs,k,j,rfl,rfl,hp,hj,q⟩:=h
 cases ro
 obtain⟨t,rfl⟩:=ri
 obtain⟨its,n,r,ho,hz⟩:=I.lst hp
 obtain⟨h1,h2,h3,h4⟩:=oJ hj
 have hl:=r.length
 have hn:=hX
 have I':Inv X pins σ (upd H p (.lst (xs.set j v))) { s with heap:=s.heap.update p (Obj.mapSeq (·.setIfInBounds j u)) }:=
  I.lstUpd hp ho (rB its n j u) (r.set rv j) (by rw [qcg];exact hz) s.toks
 by_cases h0:0<=k
 ·have hk:k.toNat=j:=by
   rw [qg4 h0 h4] at h1
   exact qaD h1
  exact PySem.W.ki_setAt ho h0 (by lia) (by rw [qas,<-hl];exact h4) (by rw [hk];exact⟨_,I',q⟩)
 ·have hk:(k+(its.toArray.size:Int)).toNat=j:=by
   rw [qgS (by lia) h3] at h1
   rw [qas,<-hl]
   exact qaD h1
  exact PySem.W.ki_setBack ho (by lia) (by rw [qas,<-hl];exact h3) (by lia) (by rw [hk];exact⟨_,I',q⟩)
theorem oH (lo hi:Option Int) (n:Nat):(sliceBounds lo hi none n).1=((HT.sIx n 0 lo:Nat):Int)/\(sliceBounds lo hi none n).2.1=((HT.sIx n n hi:Nat):Int)/\(sliceBounds lo hi none n).2.2=1:=by
 refine⟨?_,?_,rfl⟩
 ·cases lo with
  | none=>simp [sliceBounds,HT.sIx]
  | some i=>
   simp only [sliceBounds,HT.sIx,qgD,show (1:Int) > 0 by decide,if_true]
   by_cases h:i < 0
   ·simp only [h,if_true]<;>lia
   ·simp only [h,if_false]<;>lia
 ·cases hi with
  | none=>simp [sliceBounds,HT.sIx]
  | some i=>
   simp only [sliceBounds,HT.sIx,qgD,show (1:Int) > 0 by decide,if_true]
   by_cases h:i < 0
   ·simp only [h,if_true]<;>lia
   ·simp only [h,if_false]<;>lia
theorem mR (its:List Value) (lo hi:Option Int):slicePick its.toArray lo hi none=((its.drop (HT.sIx its.length 0 lo)).take (HT.sIx its.length its.length hi - HT.sIx its.length 0 lo)).toArray:=by
 obtain⟨h1,h2,h3⟩:=oH lo hi its.toArray.size
 unfold slicePick
 rw [h1,h2,h3]
 simp only [sliceRange_one,pick_run,qas]<;>rfl
noncomputable def DQ (K:PySem.W.Frag):V->Option Int->Option Int->Hp->VK->Prop:=λx lo hi H Q=>∃ a xs,x=.ref a/\SqL K H a xs/\∀ p,H p=none->Q (.ref p) (upd H p (.lst (oI xs lo hi)))
theorem zd:SlR X (DQ X.K):=by
 intro pins s σ H x v vl vu lo hi sl Q I rx hs pl pu h
 obtain⟨a,xs,rfl,hx,q⟩:=h
 cases rx
 obtain⟨its,r,ht,hz⟩:=I.list hx
 have hlen:=r.length
 refine⟨"list",_,qho.lookup,ht.isList.typeIs,?_⟩
 refine wpAny_getItem_list_slice ht.isList hs pl pu .none (by simp) ?_ (by rw [qas]<;>lia)
 rw [mR,<-hlen]
 refine⟨.ref s.heap.objs.size,_,I.laid (t':=s.toks) (o:=.lst (oI xs lo hi)) (λb ob q=>qad _ q) (qan _) ?_,rfl,q _ (I.hok.fresh (qan _))⟩
 exact⟨qaQ (jE xs lo hi) hz,_,0,(r.drop (HT.sIx xs.length 0 lo)).take (HT.sIx xs.length xs.length hi - HT.sIx xs.length 0 lo),qao _ rfl⟩
noncomputable def d5:V->Bool
 | .non=>true
 | .bl _=>true
 | .int _=>true
 | .str _=>true
 | _=>false
noncomputable def eqV:V->V->Bool
 | .non,.non=>true
 | .bl a,.bl b=>a==b
 | .bl a,.int b=>(if a then 1 else 0)==b
 | .int a,.bl b=>a==(if b then 1 else 0)
 | .int a,.int b=>a==b
 | .str a,.str b=>a==b
 | _,_=>false
theorem r8 {A:Around}{s:Shared}{y x:V}{u v:Value} (ry:aA y u) (rx:aA x v) (fy:d5 y=true) (fx:d5 x=true):SeqAt.EqAt A s u v (eqV y x):=by
 cases y with
 | non=>
  cases ry
  cases x with
  | non=>cases rx;exact qeG _
  | bl b=>cases rx;exact qjo b
  | int b=>obtain⟨t,rfl⟩:=rx;exact qjn b t
  | str b=>obtain⟨t,rfl⟩:=rx;exact qjl b t
  | _=>exact absurd (show false=true from fx) qal
 | bl a=>
  cases ry
  cases x with
  | non=>cases rx;exact qjB a
  | bl b=>cases rx;exact qjE a b
  | int b=>obtain⟨t,rfl⟩:=rx;exact qjD a b t
  | str b=>obtain⟨t,rfl⟩:=rx;exact qjA a b t
  | _=>exact absurd (show false=true from fx) qal
 | int a=>
  obtain⟨t',rfl⟩:=ry
  cases x with
  | non=>cases rx;exact qjv a t'
  | bl b=>cases rx;exact qjy a t' b
  | int b=>obtain⟨t,rfl⟩:=rx;exact qjx a t' b t
  | str b=>obtain⟨t,rfl⟩:=rx;exact qfK a t' b t
  | _=>exact absurd (show false=true from fx) qal
 | str a=>
  obtain⟨t',rfl⟩:=ry
  cases x with
  | non=>cases rx;exact qjh a t'
  | bl b=>cases rx;exact qjj a t' b
  | int b=>obtain⟨t,rfl⟩:=rx;exact qfJ a t' b t
  | str b=>obtain⟨t,rfl⟩:=rx;exact qjg a t' b t
  | _=>exact absurd (show false=true from fx) qal
 | _=>exact absurd (show false=true from fy) qal
noncomputable def eqU (x:V) (u:Value):Bool:=match u with
 | .none=>eqV .non x
 | .bool b=>eqV (.bl b) x
 | .int i _=>eqV (.int i) x
 | .str z _=>eqV (.str z) x
 | _=>false
theorem xk {x y:V}{u:Value} (r:aA y u) (f:d5 y=true):eqU x u=eqV y x:=by
 cases y with
 | non=>cases r;rfl
 | bl b=>cases r;rfl
 | int i=>obtain⟨t,rfl⟩:=r;rfl
 | str z=>obtain⟨t,rfl⟩:=r;rfl
 | _=>exact absurd (show false=true from f) qal
theorem oj {x:V}:∀ {xs:List V}{us:List Value},av xs us->xs.all d5=true->us.any (eqU x)=xs.any λy=>eqV y x
 | _,_,.nil,_=>rfl
 | y::xs,u::us,.cons r t,f=>by
  rw [qbg,qaL] at f
  rw [qbU,qbU,xk r f.1,oj t f.2]
theorem lw {A:Around}{s:Shared}{x:V}{v:Value} (rx:aA x v) (fx:d5 x=true):∀ {xs:List V}{us:List Value},av xs us->xs.all d5=true->∀ u ∈ us,SeqAt.EqAt A s u v (eqU x u)
 | _,_,.nil,_=>λu hu=>by cases hu
 | y::xs,u::us,.cons r t,f=>λu' hu=>by
  rw [qbg,qaL] at f
  rcases qaz.mp hu with rfl | hu
  ·rw [xk r f.1];exact r8 r rx f.1 fx
  ·exact lw rx fx t f.2 u' hu
noncomputable def inV (x:V) (xs:List V):Bool:=xs.any λy=>eqV y x
noncomputable def rIn (K:PySem.W.Frag) (neg:Bool):R2:=λx y H Q=>∃ p xs,y=.ref p/\(SqL K H p xs\/SqT K H p xs)/\d5 x=true/\xs.all d5=true/\Q (.bl (if neg then !inV x xs else inV x xs)) H
theorem oR:OpR X (compareOp .NotIn) (rIn X.K true):=by
 intro pins s σ H x y v u Q I rx ry h
 obtain⟨p,xs,rfl,hq,fx,fs,q⟩:=h
 cases ry
 rcases hq with hq | hq
 ·obtain⟨its,r,pl,hz⟩:=I.list hq
  refine SeqAt.notIn_listAt (eqU x) pl.isList (λw hw=>lw rx fx r fs w (by simpa using hw)) ⟨.bl _,H,I,rfl,?_⟩
  rw [show its.toArray.any (eqU x)=its.any (eqU x) by simp,oj r fs]
  exact q
 ·obtain⟨its,r,pl,hz⟩:=I.tuple hq
  refine SeqAt.notIn_tupleAt (eqU x) pl (λw hw=>lw rx fx r fs w (by simpa using hw)) ⟨.bl _,H,I,rfl,?_⟩
  rw [show its.toArray.any (eqU x)=its.any (eqU x) by simp,oj r fs]
  exact q
theorem nS:bS X (.builtin "len") (λxs H Q=>∃ p ys,xs=[.ref p]/\(SqL X.K H p ys\/SqT X.K H p ys)/\Q (.int ys.length) H):=by
 intro pins s σ H xs us Q I r h
 obtain⟨p,ys,rfl,hq,q⟩:=h
 obtain⟨u,rfl,rx⟩:=gD r
 cases rx
 have hn:=hX
 rcases hq with hq | hq
 ·obtain⟨its,r',pl,hz⟩:=I.list hq
  have hlen:=r'.length
  exact Calls.call_len_list pl.isList (by simp only [qas]<;>lia) ⟨.int ys.length,H,I.tok _,⟨s.toks+1,by rw [qas,hlen]⟩,q⟩
 ·obtain⟨its,r',pl,hz⟩:=I.tuple hq
  have hlen:=r'.length
  exact len_tuple pl (by simp only [qas]<;>lia) ⟨.int ys.length,H,I.tok _,⟨s.toks+1,by rw [qas,hlen]⟩,q⟩
theorem oi:bS X (.builtin "len") (λxs H Q=>∃ z,xs=[.str z]/\z.length<=sizeLine/\Q (.int z.length) H):=by
 intro pins s σ H xs us Q I r h
 obtain⟨z,rfl,hz,q⟩:=h
 obtain⟨u,rfl,t,rfl⟩:=gD r
 have hn:=hX
 exact len_str (by lia) ⟨.int z.length,H,I.tok _,⟨_,rfl⟩,q⟩
theorem bS.or {f:Value}{r r':List V->Hp->VK->Prop} (h:bS X f r) (h':bS X f r'):bS X f (λxs H Q=>r xs H Q\/r' xs H Q):=by
 intro pins s σ H xs us Q I rs q
 rcases q with q | q
 ·exact h pins s σ H xs us Q I rs q
 ·exact h' pins s σ H xs us Q I rs q
theorem mL:bS X (.type "tuple") (λxs H Q=>∃ p ys,xs=[.ref p]/\((SqL X.K H p ys/\∀ l,H l=none->Q (.ref l) (upd H l (.tup ys)))\/(SqT X.K H p ys/\Q (.ref p) H))):=by
 intro pins s σ H xs us Q I r h
 obtain⟨p,ys,rfl,h⟩:=h
 obtain⟨u,rfl,rx⟩:=gD r
 cases rx
 rcases h with⟨hq,q⟩ | ⟨hq,q⟩
 ·obtain⟨its,r',pl,hz⟩:=I.list hq
  have hlen:=r'.length
  refine call_tuple_list pl.isList (λh' kp=>?_) (by simp only [qas]<;>lia)
  have I1:Inv X pins σ H { s with heap:=h' }:=I.kept (t':=s.toks) kp
  have I2:Inv X pins σ (upd H h'.objs.size (.tup ys)) { s with heap:=h'.push { cls:=.type "tuple",data:=.seq its.toArray } }:=
   I1.laid (t':=s.toks) (λb o e=>qad _ e) (qan _) (show bT X.prog X.w _ _ _ (.tup ys) from ⟨hz,its,r',di.new _ _⟩)
  exact⟨.ref h'.objs.size,_,I2,rfl,q _ (I1.hok.fresh (qan _))⟩
 ·obtain⟨its,r',pl,hz⟩:=I.tuple hq
  exact call_tuple_same pl ⟨.ref p,H,I,rfl,q⟩
noncomputable def tyV (K:PySem.W.Frag) (T:String) (x:V) (H:Hp):Prop:=match x with
 | .str _=>T = "str"
 | .int _=>T = "int"
 | .ref p=>(T = "list"/\∃ xs,SqL K H p xs)\/(T = "tuple"/\((∃ o,K.lookup p=some o/\o.cls=.type "tuple"/\o.dict=none)\/∃ xs,SqT K H p xs))\/
   (T = "dict"/\((∃ kvs,H p=some (.dK kvs))\/∃ kvs,H p=some (.dT kvs)))\/(T = "set"/\∃ S n,H p=some (.set S n))
 | _=>False
theorem Be {pins:List (Addr×Obj)}{σ:St}{H:Hp}{s:Shared}{T:String}{x:V}{v:Value} (I:Inv X pins σ H s) (r:aA x v) (ty:tyV X.K T x H) :
  s.TypeIs v T/\∀ a,v=.ref a->∃ ob,s.heap.get? a=some ob/\ob.dict=none:=by
 cases x with
 | str z=>
  obtain⟨t,rfl⟩:=r
  cases (show T = "str" from ty)
  exact⟨typeIs_str s z t,λ_ e=>nomatch e⟩
 | int i=>
  obtain⟨t,rfl⟩:=r
  cases (show T = "int" from ty)
  exact⟨qeE s i t,λ_ e=>nomatch e⟩
 | ref p=>
  cases r
  rcases ty with⟨rfl,xs,hq⟩ | ⟨rfl,ht⟩ | ⟨rfl,hk⟩ | ⟨rfl,S,n,hk⟩
  ·obtain⟨its,_,pl,_⟩:=I.list hq
   refine⟨pl.isList.typeIs,λa e=>?_⟩
   cases e
   obtain⟨o,n,e,c,hd,_⟩:=pl
   exact⟨o,e,hd⟩
  ·have z:∃ o:Obj,s.heap.get? p=some o/\o.cls=.type "tuple"/\o.dict=none:=by
    rcases ht with⟨o,hk,hc,hd⟩ | ⟨xs,hq⟩
    ·exact⟨o,I.kIn p o hk,hc,hd⟩
    ·exact I.tuple1 hq
   obtain⟨o,e1,hc,hd⟩:=z
   refine⟨⟨o,e1,hc⟩,λa e=>?_⟩
   cases e
   exact⟨o,e1,hd⟩
  ·have z:∃ o,s.heap.get? p=some o/\o.ExactDict:=by
    rcases hk with⟨kvs,hk⟩ | ⟨kvs,hk⟩
    ·obtain⟨_,_,_,_,o,_,_,e,ex,_⟩:=I.hok p _ hk
     exact⟨o,e,ex⟩
    ·obtain⟨_,_,_,_,o,_,_,e,ex,_⟩:=I.hok p _ hk
     exact⟨o,e,ex⟩
   obtain⟨o,e,ex⟩:=z
   refine⟨⟨o,e,ex.1⟩,λa e2=>?_⟩
   cases e2
   exact⟨o,e,ex.2.1⟩
  ·obtain⟨o,_,_,_,e,ex,_⟩:=I.hok p _ hk
   refine⟨⟨o,e,ex.1⟩,λa e2=>?_⟩
   cases e2
   exact⟨o,e,ex.2.1⟩
 | _=>exact False.elim ty
noncomputable def tBM (K:PySem.W.Frag) (T:String) (r:V->List V->Hp->VK->Prop) (to:TE) (t:TA):TE:=λσ H Q=>to σ H λx H1=>tyV K T x H1/\t σ H1 λxs H2=>r x xs H2 Q
variable {o e:Expr}{es:List Expr}{to:TE}{t:TA}{name:Str}{apos cpos:Pos}{T id:String}{r:V->List V->Hp->VK->Prop}
theorem Dd (pa:PlainAttrs T) (slot:Slot T name id) (hty:typeOf (.builtin id)=pure (.type "method_descriptor")) (hm:MtR X id r) (ho:PE X o to) (ha:PA X (e::es) t)
  (hbase:attributeBase o name X.env (eval o X.env)=eval o X.env:=by rfl)
  (hfew:((backTo cpos (starEach (e::es) X.env)).all (λx=>!x.1) && (backToKw cpos (keywordEach [] X.env)).all (λx=>x.1.isSome)
    && decide ((e::es).length+([]:List Keyword).length+(if ([]:List Keyword).isEmpty then 0 else 1) < 30))=true:=by rfl)
  (hline:(apos.endLine==cpos.line)=true:=by rfl) (hs:starEach (e::es) X.env=(false,eval e X.env)::starEach es X.env:=by rfl) (hplain:(backTo cpos (starEach es X.env)).any (·.1)=false:=by rfl) :
  PE X (.Call (.Attribute o name apos) (e::es) [] cpos) (tBM X.K T r to t):=by
 intro pins s σ H Q I h
 refine wpAny_Call_method_late hbase hfew hline rfl (thn (ho pins s σ H _ I h) λv s1 ⟨x,H1,I1,r1,ty,q1⟩=>?_)
 obtain⟨h1,h2⟩:=Be I1 r1 ty
 refine⟨T,id,pa,slot,hty,h1,h2,?_⟩
 have hA:=ha cpos pins s1 σ H1 _ I1 q1
 rw [hs] at hA ⊢
 refine qfV (by show (false || (backTo cpos (starEach es X.env)).any (·.1))=false;rw [hplain]<;>rfl) (qgc ?_)
 exact thn hA λus s2 ⟨vs,H2,I2,r2,q2⟩=>hm pins s2 σ H2 x vs v us Q I2 r1 r2 q2
end
noncomputable def MtM (X:Cx) (id:String) (r:V->List V->Hp->VK->Prop):Prop:=
 ∀ (pins:List (Addr×Obj)) (s:Shared) (σ:St) (H:Hp) (x:V) (xs:List V) (v:Value) (us:List Value) (Q:VK),Inv X pins σ H s->aA x v->av xs us->r x xs H Q->
  wpAny (model X.prog X.w) X.A (call (.builtin id) (v::us)) (EP X pins σ Q) X.xe s
theorem av.one {x:V}{us:List Value} (h:av [x] us):∃ u,us=[u]/\aA x u:=by
 cases h with
 | cons r t=>cases t;exact⟨_,rfl,r⟩
theorem av.two {x y:V}{us:List Value} (h:av [x,y] us):∃ u v,us=[u,v]/\aA x u/\aA y v:=by
 cases h with
 | cons r t=>cases t with
  | cons q t2=>cases t2;exact⟨_,_,rfl,r,q⟩
theorem av.eraseIdx:∀ {xs:List V}{us:List Value} (i:Nat),av xs us->av (xs.eraseIdx i) (us.eraseIdx i)
 | _,_,_,.nil=>.nil
 | _,_,0,.cons _ t=>t
 | _,_,i+1,.cons r t=>.cons r (av.eraseIdx i t)
theorem av.rep {xs:List V}{us:List Value} (h:av xs us):∀ k:Nat,av (List.replicate k xs).flatten (List.replicate k us).flatten
 | 0=>.nil
 | k+1=>by
  rw [qbr,qbr,qbW,qbW]
  exact av.append h (av.rep h k)
theorem mW {α:Type}:∀ (l:List α) (i:Nat),(l.eraseIdx i).length<=l.length
 | [],_=>qan _
 | _::_,0=>qcm _
 | _::r,i+1=>Nat.succ_le_succ (mW r i)
theorem jz (its:List Value):∀ (k:Nat) (acc:List Value),
  List.foldl (λx1 x2=>x1++x2) acc.toArray (List.replicate k its.toArray)=(acc++(List.replicate k its).flatten).toArray
 | 0,acc=>by simp
 | k+1,acc=>by
  have e:acc.toArray++its.toArray=(acc++its).toArray:=by simp
  have e2:(acc++its)++(List.replicate k its).flatten=acc++(List.replicate (k+1) its).flatten:=by
   rw [qbr,qbW,qbD]
  rw [<-e2,<-jz its k (acc++its),<-e,qbr,qbG]
section
variable {X:Cx}{pins:List (Addr×Obj)}{σ:St}{H:Hp}{s:Shared}{l b:Addr}{xs ys zs:List V}
theorem Inv.lset {its its':List Value}{n:Nat}{f:Array Value->Array Value}{t':Nat} (I:Inv X pins σ H s) (hH:H l=some (.lst xs))
  (e:s.heap.get? l=some { cls:=.type "list",data:=.seq its.toArray n }) (hf:f its.toArray=its'.toArray) (hv:av ys its') (hz:ys.length<=sizeLine) :
  Inv X pins σ (upd H l (.lst ys)) { s with heap:=s.heap.update l (Obj.mapSeq f),toks:=t' }:=by
 have q:=qez e f
 rw [hf] at q
 refine I.write (x:=l) (e:=l) (by rw [hH];exact trivial) (.inl rfl) (λb' u hb hu=>(qa6 s.heap (Obj.mapSeq f) (qbR hb)).trans hu) ⟨_,q⟩ ?_
 exact⟨hz,its',_,hv,q⟩
theorem Inv.lnew {its:List Value}{t':Nat} (I:Inv X pins σ H s) (hv:av ys its) (hz:ys.length<=sizeLine) :
  Inv X pins σ (upd H s.heap.objs.size (.lst ys)) { s with heap:=s.heap.push { cls:=.type "list",data:=.seq its.toArray },toks:=t' }:=
 I.laid (λ_ _ q=>qad _ q) (qan _) ⟨hz,its,0,hv,qao _ rfl⟩
theorem Inv.fresh (I:Inv X pins σ H s):H s.heap.objs.size=none:=I.hok.fresh (qan _)
theorem Inv.lstM (I:Inv X pins σ H s) (hH:H l=some (.lst xs)):xs.length<=sizeLine/\∃ (its:List Value) (n:Nat),av xs its/\xs.length=its.length/\s.heap.get? l=some { cls:=.type "list",data:=.seq its.toArray n }:=by
 obtain⟨z,its,n,r,e⟩:=I.hok l _ hH
 exact⟨z,its,n,r,r.length,e⟩
theorem o0 {n:Nat} (h:n<=sizeLine):Builtin.List.listTooLong n=false:=by
 unfold Builtin.List.listTooLong
 exact decide_eq_false (by lia)
end
section
variable {X:Cx}
noncomputable def yN:V->List V->Hp->VK->Prop:=λx vs H Q=>∃ l xs y,x=.ref l/\vs=[y]/\H l=some (.lst xs)/\xs.length < sizeLine/\Q .non (upd H l (.lst (xs++[y])))
theorem vc:MtM X "list.append" yN:=by
 intro pins s σ H x vs v us Q I rx rv h
 obtain⟨l,xs,y,rfl,rfl,hH,hz,q⟩:=h
 cases rx
 obtain⟨u,rfl,ru⟩:=rv.one
 obtain⟨z,its,n,r,hl,e⟩:=I.lstM hH
 refine qcN qeW ⟨_,e,rfl⟩ qeO (qeC _ _) (qeL l its.toArray n u (by rw [qas];lia)) ⟨e,?_⟩
 refine⟨.non,_,I.lset (its':=its++[u]) hH e (by simp) (r.append (.cons ru .nil)) ?_,rfl,q⟩
 rw [qaK,qd4]
 lia
noncomputable def By:V->List V->Hp->VK->Prop:=λx vs H Q=>∃ l xs i k y,x=.ref l/\vs=[.int i]/\H l=some (.lst xs)/\-(2 ^ 63)<=i/\i < 2 ^ 63/\seqIndex? i xs.length=some k/\xs[k]?=some y/\Q y (upd H l (.lst (xs.eraseIdx k)))
theorem xB:MtM X "list.pop" By:=by
 intro pins s σ H x vs v us Q I rx rv h
 obtain⟨l,xs,i,k,y,rfl,rfl,hH,h1,h2,hk,hy,q⟩:=h
 cases rx
 obtain⟨u,rfl,ru⟩:=rv.one
 obtain⟨t,rfl⟩:=ru
 obtain⟨z,its,n,r,hl,e⟩:=I.lstM hH
 obtain⟨w,hw,rw'⟩:=r.get hy
 refine qcN F.slot_list_pop ⟨_,e,rfl⟩ F.entry_list_pop (F.args_list_pop_2 _ _)
  (MeetsSeq.list_pop_at l its.toArray n i t k w (qiA h1 h2) (by rw [qas,<-hl];exact hk) (by rw [<-qa8];exact hw) (by rw [qas];lia)) ⟨e,?_⟩
 refine⟨y,_,I.lset (its':=its.eraseIdx k) hH e ?_ (r.eraseIdx k) ?_,rw',q⟩
 ·show its.toArray.eraseIdxIfInBounds k=(its.eraseIdx k).toArray
  rw [List.eraseIdxIfInBounds_toArray]
 ·have:=mW xs k
  lia
theorem oq {α:Type} (xs:List α) (k:Nat):(List.replicate k xs).flatten.length=k*xs.length:=by
 induction k with
 | zero=>simp
 | succ k ih=>rw [qbr,qbW,qaK,ih,Nat.succ_mul,qgk]
end
section
variable {prog:Program}{w:World}{A:Around}{E:Value->Shared->Prop}{s:Shared}
end
section
variable {X:Cx}
end
end L2
namespace Att
open PySem PySem.W PySem.Calls PyProof.Rows
theorem j7 {P:Params}{h:Heap}:∀ (ns:List Int) (vs:List Value),WellAll P h vs (ns.map WData.int)->IntsAre vs ns:=by
 intro ns
 induction ns with
 | nil=>
  intro vs w
  rw [qcw] at w
  cases w
  exact .nil
 | cons n ns ih=>
  intro vs w
  rw [qaj] at w
  cases w with
  | cons a b=>
   cases a
   exact .cons _ _ (ih _ b)
theorem u6 {l:OpenLaw}{n:Nat} (hn:l.most=some n) {P:Params}{h:Heap}{args:List WData}{vals:List Value}
  (hpre:l.row.toRowW.claim.pre args=true) (hwl:WellAll P h vals args) :
  ∃ a vs ns,vals=[Value.ref a]/\args=[WData.list (ns.map WData.int)]/\h.get? a=some { cls:=.type "list",data:=.seq vs.toArray }/\IntsAre vs ns/\ns.length<=n:=by
 have hsh:WShape.hasAll [] args [.list .int]=true:=(pre_splitW hpre).1
 have hc:l.pre.holds [] { args:=args }=true:=(pre_splitW hpre).2
 obtain⟨d,r,rfl,h1,h2⟩:=hasAllW_cons hsh
 obtain rfl:=hasAllW_nil h2
 obtain⟨xs,rfl,h3⟩:=hasW_list h1
 obtain⟨ns,rfl⟩:=items_int h3
 have hlen:ns.length<=n:=by
  unfold OpenLaw.pre at hc
  have h4:(WTm.not (.lt (.lit (.int (n:Int))) (.len (.arg 0)))).holds [] { args:=[.list (ns.map .int)] }=true:=by
   have h4:=(holds_andW hc).1
   rw [hn] at h4
   exact h4
  have h5:=condW_of h4 (w_not (w_lt w_lit (w_len_list (w_arg rfl))))
  rw [qai] at h5
  refine qfb λq=>?_
  have q':(n:Int) < ((ns.length:Nat):Int):=by lia
  first
   | (rw [decide_eq_true q'] at h5;exact absurd h5 (by decide))
   | (simp at h5;lia)
 cases hwl with
 | cons w1 w2=>
  cases w2
  cases w1 with
  | list ho hall=>exact⟨_,_,ns,rfl,rfl,ho,j7 ns _ hall,hlen⟩
theorem vq (l:OpenLaw) (args:List WData):l.row.toRowW.claim.post args (.bool true) args=true:=
 postW_of (r:=l.row.toRowW) (X:=(true==true))
  (show WShape.has [] (.bool true) .bool=true by first | rfl | decide | simp [WShape.has,WShape.arms,WShape.armsAll])
  (show (WTm.eq .res (.lit (.bool true))).value [] { args:=args,res:=some (.bool true),after:=args }=some (.bool (true==true)) from w_eq_bool (w_res rfl) w_lit) rfl
theorem attach_call {l:OpenLaw}{n:Nat}{q:Program}{loose:List Str}{XP:(Str->Option Value)->Heap->Prop}{YP:World->Heap->Prop}{d:DefRec}
  (hn:l.most=some n) (hdf:d.params.defaults=[])
  (call:∀ (w:World) (s₀ s₁:Shared) (mg mb:Str->Option Value) (fa:Addr) (o:Obj) (pm cd doc:Value) (a:Addr) (vs:List Value) (ns:List Int),
    Ground q loose [] XP w s₀ mg mb s₁.heap->YP w s₁.heap->
    s₁.heap.get? fa=some o->o.data=.func (docDef d.name d.params d.body d.scope pm cd doc)->s₁.heap.CodeRec cd d.name->mg d.name=some (.ref fa)->
    s₁.heap.get? a=some { cls:=.type "list",data:=.seq vs.toArray }->IntsAre vs ns->ns.length<=n->s₁.gens=#[]->
    codeAny (model l.prog w) callerA (.call (.ref fa) ⟨[.ref a],[]⟩) (λr s'=>r=.ok (.ret (.bool true))/\OldK s₁.heap s'.heap/\s'.os=s₁.os/\AllBare s'.gens) s₁) :
  WalkO q loose XP YP l.row.toRowW d [] (λf vs=>PySem.call f vs):=by
 intro w s₀ s₁ mg mb G Y fa o pm cd doc dV kV ho hd hcd hD hmg hg args vals as hpre hlay hrd hwl hlo
 obtain rfl:dV=.none:=Dflts.none hD hdf
 obtain rfl:kV=.none:=Dflts.noKw hD
 obtain⟨a,vs,ns,rfl,rfl,hobj,hints,hlen⟩:=u6 hn hpre hwl
 refine enter_call (qcI (call w s₀ s₁ mg mb fa o pm cd doc a vs ns G Y ho (fd_plain hd) hcd hmg hobj hints hlen hg) λr s' hq=>?_)
 obtain⟨rfl,h2,h3,h4⟩:=hq
 exact⟨.inl ⟨.bool true,.bool true,[],rfl,λ_=>rfl,.bool true,vq l _,λ_=>⟨List.Pairwise.nil,λ_ hm=>(nomatch hm)⟩⟩,h2,h3,h4⟩
section
variable {prog:Program}{w:World}{A:Around}{E:Value->Shared->Prop}{s:Shared}{K:Frag}
end
end Att
namespace L2
open PySem PySem.Spec PyProof.Rows
theorem nE:∀ {vs:List Value}{ns:List Int},IntsAre vs ns->av (ns.map V.int) vs
 | _,_,.nil=>.nil
 | _,_,.cons n t h=>.cons ⟨t,rfl⟩ (nE h)
noncomputable def yg (H:Hp):Prop:=∀ b,H b=none\/∃ o xs,H b=some (.frz o (.lst xs))
theorem xj {P:Program}{w:World}{K:PySem.W.Frag}{mg mb:Str->Option Value}{CX:CXT}{k:Nat}{fa a:Addr}{fd:FuncData}{x:Str}{sp:Sp}{s₁:Shared}{vs:List Value}{ns:List Int}
  (KX:K.In s₁.heap) (hns:s₁.heap.Ns mainGlobals mg) (hb:s₁.heap.Ns builtinsNs mb) (hbb:∀ x:Str,x≠"__name__"->mb x=bootBuiltins x) (hlim:s₁.heap.NoLimit) (hg:s₁.gens=#[])
  (ha:s₁.heap.get? a=some { cls:=.type "list",data:=.seq vs.toArray }) (hi:IntsAre vs ns) (hl:ns.length<=sizeLine) (hr:bn k callerA)
  (F:∀ base:Heap,K.In base->base.Ns mainGlobals mg->bB P w K mg base CX k fa fd [x] sp) (hbind:∀ (s:Shared) (u:Value),BindsTo s fd ⟨[u],[]⟩ [(x,u)])
  (hsp:∀ H:Hp,yg H->SqL K H a (ns.map V.int)->sp [.ref a] H (λv _=>v=.bl true) λ_ _ _=>False)
  (hCX:∀ H e s',CX [] H s₁ (λ_ _ _=>False) e s'->False) :
  codeAny (model P w) callerA (.call (.ref fa) ⟨[.ref a],[]⟩) (λr s'=>r=.ok (.ret (.bool true))/\OldK s₁.heap s'.heap/\s'.os=s₁.os/\AllBare s'.gens) s₁:=by
 have rv:=nE hi
 have lenV:=hi.length
 -- from an abstract heap in which nothing but the script may be tracked
 have core:∀ H:Hp,yg H->SqL K H a (ns.map V.int)->HOk P w H s₁.heap->(∀ b,H b≠none->b=a)->(H a≠none->K.lookup a=none)->
   codeAny (model P w) callerA (.call (.ref fa) ⟨[.ref a],[]⟩) (λr s'=>r=.ok (.ret (.bool true))/\OldK s₁.heap s'.heap/\s'.os=s₁.os/\AllBare s'.gens) s₁:=by
  intro H hO hS hok hA hK
  have base_of:∀ {b:Addr}{o:Obj},s₁.heap.get? b=some o->H b=none->(om s₁.heap H).get? b=some o:=λe n=>vI e n
  have noA:∀ {b:Addr}{o:Obj}{es:Array DictEntry}{ep:Nat},s₁.heap.get? b=some o->o.data=.dict es ep->H b=none:=λ{b o es ep} e d=>by
   cases q:H b with
   | none=>rfl
   | some u=>
    have e':b=a:=hA b (by rw [q];simp)
    subst e'
    rw [ha] at e;cases e
    have d':Data.seq vs.toArray _=Data.dict es ep:=d
    cases d'
  have nsK:∀ {b:Addr}{m:Str->Option Value},s₁.heap.Ns b m->(om s₁.heap H).Ns b m:=λ{b m} ⟨o,es,ep,e,d,r⟩=>⟨o,es,ep,base_of e (noA e d),d,r⟩
  have hKb:K.In (om s₁.heap H):=λb o e=>base_of (KX b o e) (by
   cases q:H b with
   | none=>rfl
   | some u=>
    have e':b=a:=hA b (by rw [q];simp)
    subst e'
    rw [hK (by rw [q];simp)] at e;cases e)
  have hM:Mod K mg (om s₁.heap H):=⟨hKb,nsK hns,⟨mb,nsK hb,hbb⟩,let ⟨mc,h1,h2⟩:=hlim;⟨mc,nsK h1,h2⟩⟩
  have e0:zM P w K mg (om s₁.heap H) callerA [] s₁ H:=⟨rfl,hM,λb o e=>zH e,qdf (vE _ _),trivial,λb hb=>absurd (show b ∈ ([]:List Addr) from hb) (by simp),hok,.of_eq hg⟩
  refine qcI ((F _ hKb (nsK hns)).run callerA [] s₁ H ⟨[.ref a],[]⟩ [.ref a] [.ref a] _ _ hr e0 (hbind s₁ (.ref a)) (.cons rfl .nil) (hsp H hO hS)) λr s' h=>?_
  cases r with
  | error e=>exact (hCX H e s' h).elim
  | ok fl=>
   cases fl with
   | next=>exact False.elim h
   | brk=>exact False.elim h
   | cont=>exact False.elim h
   | ret u=>
    obtain⟨v,H',os,bare,un,hok',r',q⟩:=h
    have q':v=.bl true:=q
    subst q'
    obtain rfl:u=Value.bool true:=r'
    refine⟨rfl,OldK.of_keep λb o e=>?_,os,bare⟩
    cases q:H b with
    | none=>exact un.keep b o e q (by intro z;exact absurd (show b ∈ ([]:List Addr) from z) (by simp)) (by simp)
    | some u=>
     rcases hO b with z | ⟨ob,xs,z⟩
     ·rw [q] at z;cases z
     ·have z2:=un.frzs b ob _ z
      obtain⟨e1,_⟩:=hok b _ z
      obtain⟨e2,_⟩:=hok' b _ z2
      rw [e] at e1;cases e1
      exact e2
 cases hk:K.lookup a with
 | some o=>
  -- the script is one of the module's own objects
  have e:=KX a o hk
  rw [ha] at e
  cases e
  refine core (λ_=>none) (λ_=>.inl rfl) (.inr ⟨_,vs.toArray,_,hk,rfl,rfl,rfl,by rw [qas,lenV];exact hl,by simpa using rv⟩) (λb u z=>by have z':(none:Option HO)=some u:=z;cases z') (λb z=>absurd rfl z) λz=>absurd rfl z
 | none=>
  refine core (λb=>if b=a then some (.frz { cls:=.type "list",data:=.seq vs.toArray } (.lst (ns.map V.int))) else none) (λb=>?_) (.inl (.inr ⟨{ cls:=.type "list",data:=.seq vs.toArray },if_pos rfl⟩)) (λb u z=>?_) (λb z=>?_) λ_=>hk
  ·by_cases hb:b=a
   ·exact .inr ⟨_,_,if_pos hb⟩
   ·exact .inl (if_neg hb)
  ·by_cases hb:b=a
   ·have z':=(if_pos hb).symm.trans z
    cases z'
    subst hb
    exact⟨ha,by rw [qai];exact hl,vs,_,rv,ha⟩
   ·have z':=(if_neg hb).symm.trans z
    cases z'
  ·by_cases hb:b=a
   ·exact hb
   ·exact absurd (if_neg hb) z
theorem walk_of {l:PySem.W.OpenLaw}{n k:Nat}{q:Program}{loose:List Str}{XP:(Str->Option Value)->Heap->Prop}{YP:World->Heap->Prop}{d:DefRec}{K:Params->PySem.W.Frag}{CX:World->CXT}{sp:World->Sp}{x:Str}
  (hn:l.most=some n) (hn2:n<=sizeLine) (hdf:d.params.defaults=[]) (hr:bn k callerA)
  (hY:∀ (w:World) (h:Heap),YP w h->(K w.params).In h)
  (F:∀ (w:World) (mg:Str->Option Value) (fa:Addr) (h:Heap),(K w.params).In h->h.Ns mainGlobals mg->mg d.name=some (.ref fa)->
    ∃ fd:FuncData,(∀ (s:Shared) (u:Value),BindsTo s fd ⟨[u],[]⟩ [(x,u)])/\
     ∀ base:Heap,(K w.params).In base->base.Ns mainGlobals mg->bB l.prog w (K w.params) mg base (CX w) k fa fd [x] (sp w))
  (hsp:∀ (w:World) (H:Hp) (a:Addr) (ns:List Int),ns.length<=n->yg H->SqL (K w.params) H a (ns.map V.int)->sp w [.ref a] H (λv _=>v=.bl true) λ_ _ _=>False)
  (hCX:∀ (w:World) (H:Hp) (s:Shared) (e:Value) (s':Shared),CX w [] H s (λ_ _ _=>False) e s'->False) :
  PySem.W.WalkO q loose XP YP l.row.toRowW d [] (λf vs=>PySem.call f vs):=by
 refine Att.attach_call hn hdf λw s₀ s₁ mg mb fa o pm cd doc a vs ns G Y ho hd hcd hmg hobj hints hlen hg=>?_
 have KX:=hY w _ Y
 obtain⟨fd,hb,hF⟩:=F w mg fa _ KX G.T.g hmg
 exact xj KX G.T.g G.T.b G.T.builtins G.T.nolimit hg hobj hints (qaQ hlen hn2) hr hF hb (λH hO hS=>hsp w H a ns hlen hO hS) λH e s'=>hCX w H s₁ e s'
noncomputable def bj (s:Stmt):Arguments:=match s with
 | .FunctionDef _ a _ _ _ _ _ _ _ _=>a
 | _=>{ posonlyargs:=[],args:=[],vararg:=none,kwonlyargs:=[],kw_defaults:=[],kwarg:=none,defaults:=[] }
noncomputable def ap (s:Stmt):List Stmt:=match s with
 | .FunctionDef _ _ b _ _ _ _ _ _ _=>b
 | _=>[]
noncomputable def ab (s:Stmt):Scope:=match s with
 | .FunctionDef _ _ _ _ _ _ sc _ _ _=>sc
 | _=>{ kind:=.function,names:=[],isGenerator:=false,isCoroutine:=false }
abbrev CX0:CXT:=λ_ _ _ _ _ _=>False
abbrev E0:XK:=λ_ _ _=>False
theorem Do {X:Cx}:rf CX0 X E0:=λ_ _ _ _ _ _ _ h=>h.elim
structure Fun (K:PySem.W.Frag) (x qual:Str) (st:Stmt) (f:Addr) (fd:FuncData):Prop where
 ex:∃ (oc:Value) (od:Option Addr) (kV doc pm:Value) (an:Option Addr) (cdv ct:Value) (osl:Array (Option Value)),
  fd=PySem.W.fnOf x qual (bj st) (ap st) (ab st) .none kV doc pm an cdv ct/\K.lookup f=some ⟨oc,od,.func fd,osl⟩/\PySem.W.codeIn K cdv qual=true
 kp:PySem.W.keepIn K (.ref f)=true
section
variable {P:Program}{w:World}{K:PySem.W.Frag}{mg:Str->Option Value}{base:Heap}
theorem Fun.ok {x qual:Str}{st:Stmt}{f:Addr}{fd:FuncData}{N ps:List Str}{k:Nat}{sp:Sp} (F:Fun K x qual st f fd) (S:bg N ps (ab st)) (len:∀ vs H Q E,sp vs H Q E->vs.length=ps.length)
  (hbody:∀ (cdv:Value) (A:Around) (outer:List Env) (s:Shared) (H:Hp) (vs:List V) (Q:VK) (E:XK),bn k (A.deeper (envOfC qual (ab st) s.heap.objs.size f cdv))->sp vs H Q E->
    ∃ t,PSs (dz CX0 P w K mg base N qual (ab st) f cdv A outer s H E).nox (ap st) t/\t { nx:=λ_ H'=>Q .non H',rt:=Q } (start N vs) H):bB P w K mg base CX0 (k+1) f fd ps sp:=by
 obtain⟨oc,od,kV,doc,pm,an,cdv,ct,osl,rfl,lk,hcd⟩:=F.ex
 refine C4 lk hcd S len λA outer s H vs Q E hr hsp=>?_
 obtain⟨t,h,q⟩:=hbody cdv A outer s H vs Q E hr hsp
 exact⟨t,h.nox,q⟩
theorem Fun.binds {x qual:Str}{st:Stmt}{f:Addr}{fd:FuncData}{ps:List Str} (F:Fun K x qual st f fd)
  (h:∀ (kV doc pm:Value) (an:Option Addr) (cdv ct:Value) (us:List Value),us.length=ps.length->bindArgs (PySem.W.fnOf x qual (bj st) (ap st) (ab st) .none kV doc pm an cdv ct) ⟨us,[]⟩=pure (ps.zip us)):cm K fd ps []:=by
 obtain⟨oc,od,kV,doc,pm,an,cdv,ct,osl,rfl,lk,hcd⟩:=F.ex
 exact .all (h kV doc pm an cdv ct)
theorem ci {x qual:Str}{st:Stmt}{f:Addr}{oc:Value}{od an:Option Addr}{osl:Array (Option Value)}{kV doc pm cdv ct:Value} (l:K.lookup f=some ⟨oc,od,.func (PySem.W.fnOf x qual (bj st) (ap st) (ab st) .none kV doc pm an cdv ct),osl⟩)
  (c:PySem.W.codeIn K cdv qual=true) (k:PySem.W.keepIn K (.ref f)=true):Fun K x qual st f (PySem.W.fnOf x qual (bj st) (ap st) (ab st) .none kV doc pm an cdv ct):=⟨⟨oc,od,kV,doc,pm,an,cdv,ct,osl,rfl,l,c⟩,k⟩
end
theorem wF {A:Around}{k:Nat} (hr:bn k A):A.units+1 < cLine:=qeM (Nat.add_le_add_left (by decide:1<=64) _) hr.units
theorem uZ {n:Nat} (h:n<=1000):n < sizeLine:=qeM h (by decide)
section
variable {X:Cx}
end
theorem u9 {A B:Prop} (h:B):if false=true then A else B:=by
 rw [if_neg qal]
 exact h
theorem uH {A B:Prop} (h:A):if true=true then A else B:=by
 rw [if_pos rfl]
 exact h
noncomputable def bm (H H':Hp):Prop:=∀ b o,H b=some o->H' b=some o
theorem bm.refl (H:Hp):bm H H:=λ_ _ h=>h
noncomputable def bL (cells:List (Str×Addr)):List (Str×NameKind)->List (Str×Addr)->List (Str×Addr)
 | [],acc=>acc
 | (n,k)::r,acc=>if k==.free then bL cells r ((n,(cells.lookup n).getD 0)::acc) else bL cells r acc
theorem hW {env:Env} (f:Str×NameKind->List (Str×Addr)->Sem (ForInStep (List (Str×Addr))))
  (hf:∀ n k cs,f (n,k) cs=if k==.free then (do let c <-cellOf env n;pure (.yield ((n,c)::cs))) else pure (.yield cs)) :
  ∀ (names:List (Str×NameKind)) (acc:List (Str×Addr)),(∀ x ∈ names,x.2=.free->∃ c,env.cells.lookup x.1=some c)->
   forIn names acc f=pure (bL env.cells names acc)
 | [],acc,_=>by rw [qel];rfl
 | (n,k)::r,acc,h=>by
  rw [qfh,hf]
  unfold bL
  by_cases hk:(k==.free)=true
  ·obtain⟨c,hc⟩:=h (n,k) qah (beq_iff_eq.mp hk)
   have hc':env.cells.lookup n=some c:=hc
   rw [if_pos hk,if_pos hk]
   have:cellOf env n=pure c:=by unfold cellOf;rw [hc']
   rw [this,hc']
   simp only [pure_bind,Option.getD_some]
   exact hW f hf r _ λx hx=>h x (qaf _ hx)
  ·rw [if_neg hk,if_neg hk]
   simp only [pure_bind]
   exact hW f hf r _ λx hx=>h x (qaf _ hx)
theorem gW {scope:Scope}{env:Env} (h:∀ x ∈ scope.names,x.2=.free->∃ c,env.cells.lookup x.1=some c) :
  closureFor scope env=pure (bL env.cells scope.names []):=by
 simp only [closureFor]
 rw [hW (env:=env) _ (λn k cs=>by cases hk:k==NameKind.free<;>simp [hk]) scope.names [] h]
 simp
theorem eP {cells:List (Str×Addr)}:∀ (names:List (Str×NameKind)) (acc:List (Str×Addr)) {x:Str}{c:Addr},(bL cells names acc).lookup x=some c->
  acc.lookup x=some c\/((x,NameKind.free) ∈ names/\c=(cells.lookup x).getD 0)
 | [],_,_,_,h=>.inl h
 | (n,k)::r,acc,x,c,h=>by
  unfold bL at h
  by_cases hk:(k==.free)=true
  ·rw [if_pos hk] at h
   rcases eP r _ h with q | ⟨q1,q2⟩
   ·rw [qbA] at q
    cases hx:x==n with
    | true=>
     rw [hx] at q
     have e:=beq_iff_eq.mp hx
     subst e
     exact .inr ⟨by rw [<-beq_iff_eq.mp hk];exact qah,(qaD q).symm⟩
    | false=>rw [hx] at q;exact .inl q
   ·exact .inr ⟨qaf _ q1,q2⟩
  ·rw [if_neg hk] at h
   rcases eP r _ h with q | ⟨q1,q2⟩
   ·exact .inl q
   ·exact .inr ⟨qaf _ q1,q2⟩
theorem eG {cells:List (Str×Addr)}{x:Str}:∀ (names:List (Str×NameKind)) (acc:List (Str×Addr)),((x,NameKind.free) ∈ names\/(acc.lookup x).isSome=true)->((bL cells names acc).lookup x).isSome=true
 | [],_,h=>h.elim (λz=>nomatch z) id
 | (n,k)::r,acc,h=>by
  unfold bL
  by_cases hk:(k==.free)=true
  ·rw [if_pos hk]
   refine eG r _ ?_
   rcases h with h | h
   ·rcases qaz.mp h with e | h
    ·cases e
     exact .inr (by rw [qbA,beq_self_eq_true];rfl)
    ·exact .inl h
   ·refine .inr ?_
    rw [qbA]
    cases x==n
    ·exact h
    ·rfl
  ·rw [if_neg hk]
   refine eG r _ ?_
   rcases h with h | h
   ·rcases qaz.mp h with e | h
    ·cases e;exact absurd rfl hk
    ·exact .inl h
   ·exact .inr h
theorem dr:∀ (names:List (Str×NameKind)) (n:Nat) (acc:List (Str×Addr)) {x:Str}{c:Addr},(cellsFrom n names acc).lookup x=some c->acc.lookup x=some c\/((x,NameKind.cell) ∈ names/\n<=c)
 | [],_,_,_,_,h=>.inl h
 | (m,k)::r,n,acc,x,c,h=>by
  unfold cellsFrom at h
  by_cases hk:(k==.cell)=true
  ·rw [if_pos hk] at h
   rcases dr r _ _ h with q | ⟨q1,q2⟩
   ·rw [qbA] at q
    cases hx:x==m with
    | true=>
     rw [hx] at q
     have e:=beq_iff_eq.mp hx
     subst e
     exact .inr ⟨by rw [<-beq_iff_eq.mp hk];exact qah,by rw [qaD q];exact qan _⟩
    | false=>rw [hx] at q;exact .inl q
   ·exact .inr ⟨qaf _ q1,Nat.le_of_succ_le q2⟩
  ·rw [if_neg hk] at h
   rcases dr r _ _ h with q | ⟨q1,q2⟩
   ·exact .inl q
   ·exact .inr ⟨qaf _ q1,q2⟩
theorem my:∀ (names:List (Str×NameKind)) (n:Nat) (acc:List (Str×Addr)),(∀ p ∈ acc,p.2 < n)->∀ {x y:Str}{c:Addr},(cellsFrom n names acc).lookup x=some c->(cellsFrom n names acc).lookup y=some c->n<=c->x=y:=by
 have key:∀ (names:List (Str×NameKind)) (n:Nat) (acc:List (Str×Addr)) (lo:Nat),lo<=n->(∀ p ∈ acc,p.2 < n)->(∀ p ∈ acc,∀ q ∈ acc,lo<=p.2->p.2=q.2->p.1=q.1)->
   ∀ p ∈ cellsFrom n names acc,∀ q ∈ cellsFrom n names acc,lo<=p.2->p.2=q.2->p.1=q.1:=by
  intro names
  induction names with
  | nil=>intro n acc lo _ _ h;exact h
  | cons z r ih=>
   intro n acc lo hlo hlt h
   obtain⟨m,k⟩:=z
   unfold cellsFrom
   by_cases hk:(k==.cell)=true
   ·rw [if_pos hk]
    refine ih _ _ lo (Nat.le_succ_of_le hlo) (λp hp=>?_) (λp hp q hq l e=>?_)
    ·rcases qaz.mp hp with e | hp
     ·rw [e];exact qbt _
     ·exact qaF (hlt p hp)
    ·rcases qaz.mp hp with e1 | hp<;>rcases qaz.mp hq with e2 | hq
     ·rw [e1,e2]
     ·rw [e1] at e;exact absurd (hlt q hq) (by rw [<-e];exact qbH _)
     ·rw [e2] at e;exact absurd (hlt p hp) (by rw [e];exact qbH _)
     ·exact h p hp q hq l e
   ·rw [if_neg hk]
    exact ih _ _ lo hlo hlt h
 intro names n acc hlt x y c hx hy hc
 exact key names n acc n (qan _) hlt (λp hp q hq l _=>absurd (hlt p hp) (Nat.not_lt.mpr l)) _ (qbj hx) _ (qbj hy) hc rfl
theorem dG:∀ (names:List (Str×NameKind)) (h:Heap) (acc:List (Str×Addr)),(∀ p ∈ acc,∃ v,h.IsCell p.2 v)->∀ p ∈ cellsFrom h.objs.size names acc,∃ v,(pushCells h names).IsCell p.2 v
 | [],_,_,h=>h
 | (m,k)::r,h,acc,hc=>by
  unfold cellsFrom pushCells
  by_cases hk:(k==.cell)=true
  ·rw [if_pos hk,if_pos hk]
   have:=dG r (h.push { cls:=.type "cell",data:=.cell none }) ((m,h.objs.size)::acc) (λp hp=>by
    rcases qaz.mp hp with e | hp
    ·rw [e];exact⟨none,_,qao _ rfl,rfl⟩
    ·obtain⟨v,z⟩:=hc p hp
     exact⟨v,z.keeps λb o e=>qad _ e⟩)
   rwa [qa0] at this
  ·rw [if_neg hk,if_neg hk]
   exact dG r h acc hc
theorem dO {names:List (Str×NameKind)} (nd:(names.map (·.1)).Nodup):∀ {x:Str}{k:NameKind},(x,k) ∈ names->names.lookup x=some k:=by
 induction names with
 | nil=>intro x k h;cases h
 | cons z r ih=>
  intro x k h
  obtain⟨m,k'⟩:=z
  rw [qaj,qbs] at nd
  rw [qbA]
  rcases qaz.mp h with e | h
  ·cases e;rw [beq_self_eq_true]
  ·have:(x==m)=false:=beq_eq_false_iff_ne.mpr λe=>nd.1 (e ▸ qaB.mpr ⟨(x,k),by assumption,rfl⟩)
   rw [this]
   exact ih nd.2 h
theorem cU {env:Env}:∀ {names:List (Str×NameKind)}{x:Str}{k:NameKind},
  (names.map λ(n,k)=>if (k==NameKind.free && env.scope.kind==.function && env.kindOf n==some .cell) then (n,NameKind.cell) else (n,k)).lookup x=some k->
  ∃ k0,names.lookup x=some k0/\(k=k0\/(k0=.free/\k=.cell))
 | [],_,_,h=>by cases h
 | (n,k0)::r,x,k,h=>by
  rw [qaj] at h
  dsimp only at h
  rw [qbA]
  by_cases hc:(k0==NameKind.free && env.scope.kind==.function && env.kindOf n==some .cell)=true
  ·rw [if_pos hc,qbA] at h
   cases hx:x==n with
   | true=>
    rw [hx] at h
    refine⟨k0,rfl,.inr ⟨?_,(qaD h).symm⟩⟩
    simp only [qaL] at hc
    exact beq_iff_eq.mp hc.1.1
   | false=>rw [hx] at h;exact cU h
  ·rw [if_neg hc,qbA] at h
   cases hx:x==n with
   | true=>rw [hx] at h;exact⟨k0,rfl,.inl (qaD h).symm⟩
   | false=>rw [hx] at h;exact cU h
theorem fG {env:Env}:∀ {names:List (Str×NameKind)}{x:Str},names.lookup x=some .free->
  (names.map λ(n,k)=>if (k==NameKind.free && env.scope.kind==.function && env.kindOf n==some .cell) then (n,NameKind.cell) else (n,k)).lookup x=some .free\/
  (names.map λ(n,k)=>if (k==NameKind.free && env.scope.kind==.function && env.kindOf n==some .cell) then (n,NameKind.cell) else (n,k)).lookup x=some .cell
 | [],_,h=>by cases h
 | (n,k0)::r,x,h=>by
  rw [qaj]
  dsimp only
  rw [qbA] at h
  by_cases hc:(k0==NameKind.free && env.scope.kind==.function && env.kindOf n==some .cell)=true
  ·rw [if_pos hc,qbA]
   cases hx:x==n with
   | true=>exact .inr rfl
   | false=>rw [hx] at h;exact fG h
  ·rw [if_neg hc,qbA]
   cases hx:x==n with
   | true=>rw [hx] at h;exact .inl h
   | false=>rw [hx] at h;exact fG h
theorem iW {M:Model}{A:Around}{E:Value->Shared->Prop}{s:Shared}{scope:Scope}{env:Env}{cl:List (Str×Addr)}{Q:Env->Shared->Prop}
  (hQ:Q (newEnv scope s.heap.objs.size env.globals (cellsFrom (s.heap.objs.size+1) scope.names cl) env.qual none .none (some env) builtinsNs)
    { s with heap:=pushCells (s.heap.push { cls:=.type "dict",data:=.dict #[] }) scope.names }) :
  wpAny M A (newFunctionEnv scope env.globals cl [] env.qual none .none (some env)) Q E s:=by
 simp only [newFunctionEnv,qgj,if_true]
 refine qaa (qg3 ?_)
 refine qaa (wpAny_layCells _ (λname kind cells=>by cases hkc:kind==NameKind.cell<;>simp [hkc]) _ _ _ _ ?_)
 rw [show ({ s with heap:=s.heap.push { cls:=.type "dict",data:=.dict #[] } }:Shared).heap.objs.size=s.heap.objs.size+1 from qa0 ..]
 refine qaa ?_
 rw [qel]
 exact qab (qab hQ)
theorem dD {prog:Program}{w:World}{A:Around}{R:Result->Shared->Prop}{s:Shared}{elt target iter:Expr}{ifs:List Expr}{scope:Scope}{pos:Pos}{it acc:Value}{env:Env} (I:Nat->Shared->Prop)
  (turn:∀ n s,I n s->wpAny (model prog w) A (pyNext it) (λr s₁=>match r with
    | none=>R (.ok .next) s₁
    | some v=>wpAny (model prog w) A (letOwnedTupleGo target it v) (λ_ s₁'=>wpAny (model prog w) A (assign target env v) (λ_ s₂=>
      wpAny (model prog w) A (forIn ifs true λc r=>if r=true then do let ok <-isTrue c env (eval c env);pure (ForInStep.yield ok) else pure (ForInStep.yield r)) (λok s₃=>
       if ok=true then wpAny (model prog w) A (eval elt env) (λx s₄=>
        wpAny (model prog w) A (call (.builtin "list.append") [acc,x]) (λ_ s₅=>∃ m,m < n/\I m s₅) (λ_ _=>False) s₄) (λ_ _=>False) s₃
       else ∃ m,m < n/\I m s₃) (λ_ _=>False) s₂) (λ_ _=>False) s₁') (λ_ _=>False) s₁) (λ_ _=>False) s)
  (n:Nat) (h:I n s) :
  codeAny (model prog w) A (.compLoop (.ListComp elt [⟨target,iter,ifs,0⟩] scope pos) 0 it acc env) R s:=by
 refine codeAny_loop rfl I (λn s hI=>?_) n h
 show wpAny _ A ((compTurn (.ListComp elt [⟨target,iter,ifs,0⟩] scope pos) 0 it acc env).onRaise (λx=>do noteFrame x env;theTreesLotGoes x)) _ _ s
 refine wpAny_noted ?_
 rw [compTurn_list]
 refine qaa (qdu (qaa (qb1 (turn n s hI) (λr s₁ h₁=>?_) λ_ _ h'=>h'.elim)))
 cases r with
 | none=>exact qab h₁
 | some v=>
  refine qaa (qb1 h₁ (λ_ s₁' h₁'=>?_) λ_ _ h'=>h'.elim)
  refine qaa (qb1 h₁' (λ_ s₂ h₂=>qaa (qb1 h₂ (λok s₃ h₃=>?_) λ_ _ h'=>h'.elim)) λ_ _ h'=>h'.elim)
  cases ok with
  | false=>exact qab ⟨rfl,h₃⟩
  | true=>
   exact qaa (qaa (qb1 h₃ (λx s₄ h₄=>qaa (qb1 h₄ (λ_ s₅ h₅=>qab (qab ⟨rfl,h₅⟩)) λ_ _ h'=>h'.elim)) λ_ _ h'=>h'.elim))
noncomputable def lcX (X:Cx) (scope:Scope) (cells:List (Str×Addr)) (Nc:List Str) (s:Shared) (H:Hp) (C:Addr) (fp:List Addr):Cx where
 prog:=X.prog
 w:=X.w
 K:=X.K
 mg:=X.mg
 base:=X.base
 A:=X.A
 N:=Nc
 s₀:=s
 H₀:=H
 env:=compEnvC scope cells C X.env
 outer:=X.stack
 stack:=X.stack
 ex:=fp
 fn:=λx=>scope.names.lookup x==some .cell
 calm:=X.calm
 pn:=[]
 xe:=λ_ _=>False
structure eL (X:Cx) (scope:Scope) (Nc:List Str) (emb:St->St):Prop where
 kind:scope.kind=.function
 nd:(scope.names.map (·.1)).Nodup
 nN:Nc.Nodup
 free:∀ x ∈ scope.names,x.2=.free->X.env.kindOf x.1=some .cell\/X.env.kindOf x.1=some .free
 len:∀ σ:St,σ.length=X.N.length->(emb σ).length=Nc.length
 emb:∀ σ:St,σ.length=X.N.length->∀ (i:Nat) (x:Str) (v:V),Nc[i]?=some x->(emb σ)[i]?=some (some v)->∃ j:Nat,X.N[j]?=some x/\σ[j]?=some (some v)/\scope.names.lookup x=some .free
section
variable {X:Cx}{pins:List (Addr×Obj)}{σ:St}{H:Hp}{s:Shared}{scope:Scope}{Nc:List Str}{emb:St->St}
theorem eL.clos (S:eL X scope Nc emb) (ok:X.Ok):∀ x ∈ scope.names,x.2=.free->∃ c,X.env.cells.lookup x.1=some c:=λx hx h=>ok.has x.1 (S.free x hx h)
theorem qu (S:eL X scope Nc emb) (I:Inv X pins σ H s) {fp:List Addr} (hf:∀ b ∈ fp,gR X pins H b) (hfo:∀ b ∈ fp,∃ o,s.heap.get? b=some o) {lo:Obj} (hlo:∀ v,lo.data≠.cell v) (hfr:lo.isFreed=false) :
  Inv (lcX X scope (cellsFrom (s.heap.objs.size+2) scope.names (bL X.env.cells scope.names [])) Nc s H (s.heap.objs.size+1) fp) [(s.heap.objs.size,lo)] (emb σ) H
   { s with heap:=pushCells ((s.heap.push lo).push { cls:=.type "dict",data:=.dict #[] }) scope.names }:=by
 have hsz2:((s.heap.push lo).push { cls:=.type "dict",data:=.dict #[] }).objs.size=s.heap.objs.size+2:=by rw [qa0,qa0]
 have hsz1:(s.heap.push lo).objs.size=s.heap.objs.size+1:=by rw [qa0]
 have hk:∀ b o,s.heap.get? b=some o->(pushCells ((s.heap.push lo).push { cls:=.type "dict",data:=.dict #[] }) scope.names).get? b=some o:=λb o e=>
  qcH _ _ b o (qad _ (qad _ e))
 have has:=S.clos I.ok
 have cl_old:∀ {x:Str}{c:Addr},(bL X.env.cells scope.names []).lookup x=some c->X.env.cells.lookup x=some c/\(x,NameKind.free) ∈ scope.names:=λ{x c} h=>by
  rcases eP _ _ h with q | ⟨q1,q2⟩
  ·cases q
  ·obtain⟨c',hc'⟩:=has _ q1 rfl
   have hc'':X.env.cells.lookup x=some c':=hc'
   rw [hc''] at q2
   exact⟨by rw [hc'',q2];rfl,q1⟩
 have cells_cases:∀ {x:Str}{c:Addr},(cellsFrom (s.heap.objs.size+2) scope.names (bL X.env.cells scope.names [])).lookup x=some c->
   (X.env.cells.lookup x=some c/\(x,NameKind.free) ∈ scope.names)\/((x,NameKind.cell) ∈ scope.names/\s.heap.objs.size+2<=c):=λ{x c} h=>by
  rcases dr _ _ _ h with q | q
  ·exact .inl (cl_old q)
  ·exact .inr q
 have oldlt:∀ {x:Str}{c:Addr},X.env.cells.lookup x=some c->c < s.heap.objs.size:=λ{x c} h=>by
  obtain⟨v,z⟩:=I.cell x c h
  exact z.lt
 have fplt:∀ b ∈ fp,b < s.heap.objs.size:=λb hb=>by obtain⟨o,e⟩:=hfo b hb;exact qak e
 have accmem:∀ p ∈ bL X.env.cells scope.names [],∃ x,X.env.cells.lookup x=some p.2:=by
  have key:∀ (names:List (Str×NameKind)) (acc:List (Str×Addr)),(∀ x ∈ names,x.2=.free->∃ c,X.env.cells.lookup x.1=some c)->(∀ p ∈ acc,∃ x,X.env.cells.lookup x=some p.2)->∀ p ∈ bL X.env.cells names acc,∃ x,X.env.cells.lookup x=some p.2:=by
   intro names
   induction names with
   | nil=>intro acc _ h;exact h
   | cons z r ih=>
    intro acc hn h
    obtain⟨m,k⟩:=z
    unfold bL
    by_cases hk:(k==.free)=true
    ·rw [if_pos hk]
     refine ih _ (λx hx=>hn x (qaf _ hx)) λp hp=>?_
     rcases qaz.mp hp with e | hp
     ·obtain⟨c,hc⟩:=hn _ qah (beq_iff_eq.mp hk)
      have hc':X.env.cells.lookup m=some c:=hc
      exact⟨m,by rw [e,hc'];rfl⟩
     ·exact h p hp
    ·rw [if_neg hk]
     exact ih _ (λx hx=>hn x (qaf _ hx)) h
  exact key _ _ has λp hp=>nomatch hp
 refine⟨⟨I.ok.mod,S.kind,I.ok.glob,I.ok.blt,qcm _,λx y c h1 h2=>?_,λx hx=>?_,λx c hx h=>?_,I.ok.hd,I.ok.frames,.inl rfl,λb hb=>?_,I.bs,qaQ I.ok.bsz I.sz,λb o e hb=>?_,λb hb=>?_,I.stack,I.stkFree⟩,
  rfl,I.bare,Un.kept hk,⟨_,(Heap.Ns.new (s.heap.push lo) (.type "dict")).keeps (qcH _ _) |> λq=>by rw [hsz1] at q;exact q,λi x v h1 h2 _=>?_⟩,λx c h=>?_,I.hok.fresh (qcm _),λx c h=>?_,λp hp=>?_,I.hok.kept hk,S.len σ I.len⟩
 ·-- inj
  have h1':(cellsFrom (s.heap.objs.size+2) scope.names (bL X.env.cells scope.names [])).lookup x=some c:=h1
  have h2':(cellsFrom (s.heap.objs.size+2) scope.names (bL X.env.cells scope.names [])).lookup y=some c:=h2
  rcases cells_cases h1' with⟨q1,_⟩ | ⟨_,q1⟩
  ·rcases cells_cases h2' with⟨q2,_⟩ | ⟨_,q2⟩
   ·exact I.ok.inj x y c q1 q2
   ·exact absurd (qaE (qaF (qaF (oldlt q1))) q2) (qbH _)
  ·refine my scope.names _ _ (λp hp=>?_) h1' h2' q1
   obtain⟨z,hz⟩:=accmem p hp
   exact qaF (qaF (oldlt hz))
 ·-- has
  have hx':(relabel scope X.env).names.lookup x=some .cell\/(relabel scope X.env).names.lookup x=some .free:=hx
  have:∃ k0,scope.names.lookup x=some k0/\(k0=.cell\/k0=.free):=by
   rcases hx' with q | q
   ·obtain⟨k0,h1,h2⟩:=cU q
    exact⟨k0,h1,h2.elim (λe=>.inl e.symm) λe=>.inr e.1⟩
   ·obtain⟨k0,h1,h2⟩:=cU q
    exact⟨k0,h1,h2.elim (λe=>.inr e.symm) λe=>by cases e.2⟩
  obtain⟨k0,h1,h2⟩:=this
  refine qcb.mp (qcV scope.names _ _ ?_)
  rcases h2 with rfl | rfl
  ·exact .inl h1
  ·exact .inr (eG _ _ (.inl (qbj h1)))
 ·-- cab
  have hx':scope.names.lookup x=some .cell:=beq_iff_eq.mp hx
  rcases cells_cases h with⟨_,q⟩ | ⟨_,q⟩
  ·have:=dO S.nd q
   rw [hx'] at this;cases this
  ·exact qaQ (qfc _ 2) q
 ·-- exf
  refine⟨qam (qaF (fplt b hb)),λx c h=>?_⟩
  rcases cells_cases h with⟨q,_⟩ | ⟨_,q⟩
  ·exact (hf b hb).2.2.2.2.1 x c q
  ·intro e
   exact absurd (qaE (qaF (qaF (fplt b hb))) (e ▸ q)) (qbH _)
 ·-- noex
  have hb':b ∈ fp:=hb
  rcases (hf b hb').2.2.2.1 with q | q
  ·exact I.ok.noex b o e q
  ·exact absurd (qaE (qak (I.ok.bs b o e).1) q) (qbH _)
 ·-- exfs
  intro hb2
  rcases qaz.mp (I.stkSub b hb2) with q | q
  ·exact (hf b hb).2.1 q
  ·exact (hf b hb).2.2.1 q
 ·-- loc
  obtain⟨j,e1,e2,e3⟩:=S.emb σ I.len i x v h1 h2
  have kx:=S.free (x,.free) (qbj e3) rfl
  have kx':X.env.kindOf x=some .cell\/X.env.kindOf x=some .free:=kx
  obtain⟨m,hn,hl⟩:=I.loc
  obtain⟨u,ru,lk⟩:=hl j x v e1 e2 (.inr kx')
  refine⟨u,ru,.inr ⟨?_,?_⟩⟩
  ·rcases fG (env:=X.env) e3 with q | q
   ·exact .inr q
   ·exact .inl q
  ·rcases lk with⟨z,_⟩ | ⟨_,c,hc,hcell⟩
   ·rcases kx' with q | q<;>(rw [z] at q;cases q)
   ·obtain⟨c',hc'⟩:=qcb.mp (qcV scope.names (s.heap.objs.size+2) (bL X.env.cells scope.names []) (x:=x) (.inr (eG _ _ (.inl (qbj e3)))))
    rcases cells_cases hc' with⟨q,_⟩ | ⟨q,_⟩
    ·rw [hc] at q
     cases q
     exact⟨c,hc',hcell.keeps hk⟩
    ·have:=dO S.nd q
     rw [e3] at this;cases this
 ·-- cell
  have h':(cellsFrom (s.heap.objs.size+2) scope.names (bL X.env.cells scope.names [])).lookup x=some c:=h
  have:=dG scope.names ((s.heap.push lo).push { cls:=.type "dict",data:=.dict #[] }) (bL X.env.cells scope.names []) (λp hp=>by
   obtain⟨z,hz⟩:=accmem p hp
   obtain⟨v,q⟩:=I.cell z p.2 hz
   exact⟨v,q.keeps λb o e=>qad _ (qad _ e)⟩) (x,c) (by rw [hsz2];exact qbj h')
  exact this
 ·-- freeC
  rcases cells_cases h with⟨q,_⟩ | ⟨_,q⟩
  ·exact I.freeC x c q
  ·exact I.hok.fresh (qaQ (qfc _ 2) q)
 ·-- pin
  have hp':p=(s.heap.objs.size,lo):=by
   have:p ∈ ([]:List (Addr×Obj))++[(s.heap.objs.size,lo)]:=hp
   simpa using this
  subst hp'
  refine⟨qcH _ _ _ _ (qad _ (qao _ hfr)),I.hok.fresh (qan _),qam (qbt _),λhb=>?_,hlo⟩
  rcases qaz.mp (I.stkSub _ hb) with q | q
  ·exact absurd I.lt (by rw [<-q];exact qbH _)
  ·exact I.nofs (qan _) q
end
noncomputable def PTs (X:Cx) (ifs:List Expr) (t:TT):Prop:=
 ∀ (pins:List (Addr×Obj)) (s:Shared) (σ:St) (H:Hp) (Q:Bool->Hp->Prop),Inv X pins σ H s->t σ H Q->
  wpAny (model X.prog X.w) X.A (forIn ifs true λc r=>if r=true then do let ok <-isTrue c X.env (eval c X.env);pure (ForInStep.yield ok) else pure (ForInStep.yield r)) (TP X pins σ Q) X.xe s
noncomputable def DT:TT:=λ_ H Q=>Q true H
theorem zN {X:Cx}:PTs X [] DT:=λ_ _ _ H _ I h=>wpAny_tests_nil ⟨H,I,h⟩
theorem yW {X:Cx}{c:Expr}{t:TT} (hc:PT X c t):PTs X [c] t:=λpins s σ H Q I h=>wpAny_tests_one (hc pins s σ H Q I h)
noncomputable def Sub (σ σ':St):Prop:=σ.length=σ'.length/\∀ (i:Nat) (v:V),σ[i]?=some (some v)->σ'[i]?=some (some v)
noncomputable def C5 (J:It) (σe:St) (g:TG) (tt:TT) (te:TE) (H1:Hp) (Q:VK):Prop:=∃ W:Nat->Nat->List V->Hp->Prop,(∃ m,W 0 m [] H1)/\∀ i m ys H,W i m ys H->
 (J.stop i H/\∀ D,H D=none->Q (.ref D) (upd H D (.lst ys)))\/
 (J.go i H/\ys.length < sizeLine/\∃ N:List V->Hp->Prop,(∀ ys' H',N ys' H'->∃ m',m' < m/\W (i+1) m' ys' H')/\∀ x H',J.yld i H x H'->g x σe H' λσ2 H2=>Sub σe σ2/\tt σ2 H2 λb H3=>if b=true then te σ2 H3 λv H4=>N (ys++[v]) H4 else N ys H3)
noncomputable def tLc (emb:St->St) (wi:TI) (g:TG) (tt:TT) (te:TE):TE:=λσ H Q=>wi σ H λJ H1=>C5 J (emb σ) g tt te H1 Q
section
variable {X:Cx}{scope:Scope}{Nc:List Str}{emb:St->St}{elt iter tg:Expr}{ifs:List Expr}{pos:Pos}{wi:TI}{g:TG}{tt:TT}{te:TE}
theorem C2 (S:eL X scope Nc emb) (hc:X.calm=true) (hi:PI X tg iter wi)
  (hg:∀ cells s H C fp,PG (lcX X scope cells Nc s H C fp) tg g) (ht:∀ cells s H C fp,PTs (lcX X scope cells Nc s H C fp) ifs tt) (he:∀ cells s H C fp,PE (lcX X scope cells Nc s H C fp) elt te)
  (hs:∀ x,foldedSetIterable iter X.env x=pure x:=by intro _;rfl):PE X (.ListComp elt [⟨tg,iter,ifs,0⟩] scope pos) (tLc emb wi g tt te):=by
 intro pins s σ H Q I h
 rw [eval_ListComp]
 refine qgq (use:=none) rfl hs (gW (S.clos I.ok)) S.kind (λx hx hl=>dO S.nd (by rw [<-hl];exact hx)) ?_
 refine thn (hi pins s σ H _ I h) λv s1 h1=>thn h1 λitv s2 h2=>?_
 obtain⟨it,fp,tn,J,H2,e,I2,T,st2,f2,W,⟨m0,w0⟩,turn⟩:=h2
 subst e
 refine qaS (iW ?_)
 rw [show (s2.heap.push { cls:=.type "list",dict:=none,data:=.seq ([]:List Value).toArray }).objs.size=s2.heap.objs.size+1 from qa0 ..]
 generalize hD:s2.heap.objs.size=D
 generalize hlo:({ cls:=.type "list",dict:=none,data:=.seq ([]:List Value).toArray }:Obj)=lo
 have fplt:∀ b ∈ fp,b < s2.heap.objs.size:=λb hb=>by obtain⟨o,e,_⟩:=T.obj _ _ st2 b hb;exact qak e
 have I3:=qu (lo:=lo) S I2 f2 (λb hb=>by obtain⟨o,e,_⟩:=T.obj _ _ st2 b hb;exact⟨o,e⟩) (by rw [<-hlo];intro v z;cases z) (by rw [<-hlo];rfl)
 rw [hD] at I3
 generalize hcells:cellsFrom (D+2) scope.names (bL X.env.cells scope.names [])=cells at I3
 generalize hX':lcX X scope cells Nc s2 H2 (D+1) fp=X' at I3
 have hfpX:∀ {H':Hp}{ps:List (Addr×Obj)},(∀ b ∈ fp,H' b=none)->(∀ p ∈ ps,p.1=D)->∀ b ∈ fp,gR X' ps H' b:=λ{H' ps} hn hps b hb=>by
  have ok:=I3.ok
  refine⟨hn b hb,?_,?_,.inl (by rw [<-hX'];exact hb),?_,λp hp=>?_⟩
  ·exact (ok.exf b (by rw [<-hX'];exact hb)).1
  ·exact ok.exfs b (by rw [<-hX'];exact hb)
  ·exact (ok.exf b (by rw [<-hX'];exact hb)).2
  ·have hp':p ∈ ([]:List (Addr×Obj))++ps:=by rw [<-hX'] at hp;exact hp
   have e:p.1=D:=hps p (by simpa using hp')
   rw [e,<-hD]
   exact qa4 (fplt b hb)
 have Dex:D ∈ X'.ex\/X'.s₀.heap.objs.size<=D:=.inr (by rw [<-hX',<-hD];exact qan _)
 have Dloc:D≠X'.env.locals:=by rw [<-hX'];exact qam (qbt _)
 have pD:=I3.pin (D,lo) (by rw [<-hX'];exact qat _ qah)
 have Dfs:D ∉ X'.fs:=pD.2.2.2.1
 have Dcell:∀ x c,X'.env.cells.lookup x=some c->c≠D:=λx c hc' e=>by
  obtain⟨v,o,ho,hd⟩:=I3.cell x c hc'
  rw [e,pD.1] at ho
  cases ho
  exact pD.2.2.2.2 v hd
 -- the loop
 have loop:∀ s3:Shared,s3={ s2 with heap:=pushCells ((s2.heap.push lo).push { cls:=.type "dict",data:=.dict #[] }) scope.names }->
   codeAny (model X.prog X.w) X.A (.compLoop (.ListComp elt [⟨tg,iter,ifs,0⟩] scope pos) 0 (.ref it) (.ref D) (compEnvC scope cells (D+1) X.env))
    (compPost (model X.prog X.w) X.A X.xe none (EP X pins σ Q) (.ref D) (D+1)) s3:=by
  rintro s3 rfl
  refine dD (λn s'=>∃ i ys its k H',Inv X' [(D,{ cls:=.type "list",data:=.seq its.toArray k })] (emb σ) H' s'/\av ys its/\tn i s'.heap/\(∀ b ∈ fp,H' b=none)/\ys.length<=sizeLine/\W i n ys H') ?_ m0
   ⟨0,[],[],0,H2,?_,.nil,?_,λb hb=>(f2 b hb).1,qaI _,w0⟩
  ·rintro n s4 ⟨i,ys,its,k,H4,I4,rv,st4,fr4,hlen,w4⟩
   have hps:∀ p ∈ [(D,({ cls:=.type "list",data:=.seq its.toArray k }:Obj))],p.1=D:=λp hp=>by
    have:=qay.mp hp
    rw [this]
   rcases turn i n ys H4 w4 with⟨stop,qn⟩ | ⟨go,hlt,N,hN,step⟩
   ·-- the end
    have TD:=T.done X' (by rw [<-hX'];rfl) (by rw [<-hX'];rfl) (by rw [<-hX'];rfl) (by rw [<-hX'];exact hc) i _ s4 (emb σ) H4 (λ_ _=>False) I4 (hfpX fr4 hps) st4 stop
    rw [show X'.A=X.A by rw [<-hX'];rfl] at TD
    refine thn TD λr s5 ⟨hr,I5⟩=>?_
    subst hr
    obtain⟨m5,hn5,_⟩:=id I5.loc
    have eC:X'.env.locals=D+1:=by rw [<-hX'];rfl
    rw [eC] at hn5
    refine⟨m5,hn5,λh' hsb=>?_⟩
    have pD5:=I5.pin (D,{ cls:=.type "list",data:=.seq its.toArray k }) (by rw [<-hX'];exact qat _ qah)
    have neC:∀ b u,H4 b=some u->b≠D+1:=λb u e z=>by
     have:=I5.free
     rw [eC,<-z,e] at this
     cases this
    have hD4:H4 D=none:=pD5.2.1
    have un:=I5.base
    have un':Un (frs X.stack) fp H2 H4 s2.heap s5.heap:=by rw [<-hX'] at un;exact un
    have old_ne:∀ b o,s2.heap.get? b=some o->b≠D/\b≠D+1:=λb o e=>by
     have q:=qak e
     rw [hD] at q
     exact⟨qam q,qam (qaF q)⟩
    have h2D:H2 D=none:=by rw [<-hD];exact I2.fresh
    have hok':HOk X.prog X.w H4 h':=λb u e=>by
     have ob:bT X.prog X.w H4 s5.heap b u:=by have:=I5.hok b u e;rw [<-hX'] at this;exact this
     refine ob.stay (λc v hcv q=>(hsb.2 c ?_).trans q) (λ_ q=>q) λ_ _ q=>q
     rcases hcv with z | z
     ·rw [z];exact neC b u e
     ·exact neC c _ z
    have hokD:HOk X.prog X.w (upd H4 D (.lst ys)) h':=λb u e=>by
     by_cases hb:b=D
     ·subst hb
      rw [aI] at e
      cases e
      exact⟨hlen,its,k,rv,(hsb.2 b (qam (qbt _))).trans pD5.1⟩
     ·rw [aw hb] at e
      refine (hok' b u e).stay (λ_ _ _ q=>q) (λc q=>?_) λc z q=>?_
      all_goals first
       | (rw [aw (ax q hD4)];exact q)
       | (rw [aw (ax z hD4)];exact z)
    refine⟨.ref D,upd H4 D (.lst ys),?_,rfl,qn D hD4⟩
    refine I2.call' (s':={ s5 with heap:=h' }) (ch:=fp) ?_ ⟨λb o e nb hb hx=>?_,λb o e nb hb hx=>?_,λb o e nb hx=>?_,λb o e hx=>?_,λb xs e=>?_,λb o u e=>?_,λb ps e=>?_⟩ hokD I5.bare (λb hb=>?_)
    ·have:=I5.os
     rw [<-hX'] at this
     exact this
    ·exact (hsb.2 b (old_ne b o e).2).trans (un'.keep b o e nb hb hx)
    ·obtain⟨sl,q⟩:=un'.slot b o e nb hb hx
     exact⟨sl,(hsb.2 b (old_ne b o e).2).trans q⟩
    ·rw [aw (old_ne b o e).1]
     exact un'.free b o e nb hx
    ·obtain⟨o',q⟩:=un'.there b o e hx
     exact⟨o',(hsb.2 b (old_ne b o e).2).trans q⟩
    ·rw [aw (ax e h2D)]
     exact un'.tups b xs e
    ·rw [aw (ax e h2D)]
     exact un'.frzs b o u e
    ·obtain⟨m,q⟩:=un'.tbls b ps e
     exact⟨m,by rw [aw (ax e h2D)];exact q⟩
    ·obtain⟨q0,q1,q2,q3,q4,q5⟩:=f2 b hb
     exact⟨q3,q1,q4,q5⟩
   ·-- a turn
    have hA:X'.A=X.A:=by rw [<-hX'];rfl
    have hP:X'.prog=X.prog:=by rw [<-hX'];rfl
    have hw:X'.w=X.w:=by rw [<-hX'];rfl
    have hE:X'.env=compEnvC scope cells (D+1) X.env:=by rw [<-hX'];rfl
    have hxe:X'.xe=λ_ _=>False:=by rw [<-hX'];rfl
    have TI':=T.item X' hP hw (by rw [<-hX'];rfl) (by rw [<-hX'];exact hc) i _ s4 (emb σ) H4 (λ_ _=>False) I4 (hfpX fr4 hps) st4 go
    rw [hA] at TI'
    refine thn TI' λr s5 ⟨u,hr,h5⟩=>?_
    subst hr
    refine thn h5 λ_ s6 ⟨x,H6,I6,r6,y6,st6,fr6⟩=>?_
    have I6':=I6.pinned (hfpX fr6 hps) (T.obj _ _ st6)
    have G:=hg cells s2 H2 (D+1) fp
    have TT':=ht cells s2 H2 (D+1) fp
    have EE:=he cells s2 H2 (D+1) fp
    rw [hX'] at G TT' EE
    have G':=G _ s6 (emb σ) H6 x u _ I6' r6 (step x H6 y6)
    rw [hA,hP,hw,hE,hxe] at G'
    refine thn G' λ_ s7 ⟨σ7,H7,I7,sb7,q7⟩=>?_
    have T':=TT' _ s7 σ7 H7 _ I7 q7
    rw [hA,hP,hw,hE,hxe] at T'
    refine thn T' λok s8 ⟨H8,I8,q8⟩=>?_
    -- what is pinned
    have pin_fp:∀ {σ9:St}{H9:Hp}{s9:Shared},Inv X' ([(D,({ cls:=.type "list",data:=.seq its.toArray k }:Obj))]++jk fp s6.heap) σ9 H9 s9->tn (i+1) s9.heap/\∀ b ∈ fp,H9 b=none:=λ{σ9 H9 s9} I9=>
     ⟨T.keep _ _ _ st6 λb hb o e=>(I9.pin (b,o) (qat _ (qat _ (cL hb e)))).1,λb hb=>by
      obtain⟨o,e,_⟩:=T.obj _ _ st6 b hb
      exact (I9.pin (b,o) (qat _ (qat _ (cL hb e)))).2.1⟩
    cases ok with
    | false=>
     rw [if_neg (by decide)] at q8
     rw [if_neg (by decide)]
     obtain⟨m',hm,w8⟩:=hN _ _ q8
     exact⟨m',hm,i+1,ys,its,k,H8,I8.unpinned.weak sb7.1 sb7.2,rv,(pin_fp I8).1,(pin_fp I8).2,hlen,w8⟩
    | true=>
     rw [if_pos rfl] at q8
     rw [if_pos rfl]
     have E':=EE _ s8 σ7 H8 _ I8 q8
     rw [hA,hP,hw,hE,hxe] at E'
     refine thn E' λy s9 ⟨v9,H9,I9,r9,n9⟩=>?_
     obtain⟨m',hm,w9⟩:=hN _ _ n9
     have pD9:=I9.pin (D,{ cls:=.type "list",data:=.seq its.toArray k }) (qat _ (qbJ _ qah))
     have hl:=rv.length
     have I9n:Inv X' [] σ7 H9 s9:=I9.pins_of λp hp=>nomatch hp
     refine qcN qeW ⟨_,pD9.1,rfl⟩ qeO (qeC _ _) (qeL D its.toArray k y (by rw [qas];lia)) ⟨pD9.1,?_⟩
     have up:∃ k':Nat,(s9.heap.update D (Obj.mapSeq λxs=>xs.push y)).get? D=some { cls:=.type "list",data:=.seq (its++[y]).toArray k' }:=by
      have q:=qez pD9.1 (λxs:Array Value=>xs.push y)
      simp only [qgN] at q
      exact⟨_,q⟩
     obtain⟨k',up⟩:=up
     have hoth:∀ b o,b≠D->s9.heap.get? b=some o->(s9.heap.update D (Obj.mapSeq λxs=>xs.push y)).get? b=some o:=λb o hb e=>(qa6 s9.heap _ (qbR hb)).trans e
     have I10:=I9n.turned (t':=s9.toks) hoth pD9.2.1 Dloc Dex Dcell (λp hp=>absurd (show p ∈ ([]:List (Addr×Obj)) by rw [<-hX'] at hp;exact hp) (by simp))
     refine⟨m',hm,i+1,ys++[v9],its++[y],k',H9,(I10.weak sb7.1 sb7.2).pins_of (λp hp=>?_),rv.append (.cons r9 .nil),T.keep _ _ _ (pin_fp I9).1 (λb hb o e=>hoth b o (by rw [<-hD];exact qam (fplt b hb)) e),(pin_fp I9).2,?_,w9⟩
     ·have:=qay.mp hp
      subst this
      exact⟨up,pD9.2.1,Dloc,Dfs,λv z=>by cases z⟩
     ·rw [qaK,qd4]
      lia
  ·have q:lo={ cls:=.type "list",data:=.seq ([]:List Value).toArray 0 }:=hlo.symm
   rw [<-q]
   exact I3
  ·exact T.keep _ _ _ st2 λb hb o e=>qcH _ _ b o (qad _ (qad _ e))
 refine qgL ?_ ?_
 ·exact loop _ rfl
 ·refine T.self X.A 0 _ _ _ (T.keep _ _ _ st2 λb hb o e=>qcH _ _ b o (qad _ (qad _ e))) ?_
  exact loop _ rfl
end
end L2
namespace L2
open PySem PySem.Spec PyProof.Rows
open PySem.AutoSeq1 (wpAny_loadPart')
section
variable {prog:Program}{w:World}{A:Around}{E:Value->Shared->Prop}{s:Shared}
theorem iR {it l:Addr}{i:Nat}{items}{x:Value}{Q:Value->Shared->Prop} (hit:s.heap.IsTupleIter it l i)
  (hl:s.heap.IsTuple l items) (hx:items[i]?=some x)
  (hQ:∀ h',h'.IsTupleIter it l (i+1)->Heap.SameBut it s.heap h'->Q x { s with heap:=h' }) :
  wpAny (model prog w) A (Builtin.SmallTypes.nextOf (.ref it)) Q E s:=by
 obtain⟨o,ho,hc,hd⟩:=id hit
 obtain⟨ol,hol,_,nl,hdl⟩:=hl
 unfold Builtin.SmallTypes.nextOf
 refine qaa (qbc (name:=Str.ofString "__next__") hit.typeIs qcK
  (qaU qcK hit.typeIs qfQ ?_ (qfC _)))
 show wpAny _ _ (field (.ref it) 0 >>= _) _ _ s
 refine qaa (qdF ho hd (x:=.ref l) rfl ?_)
 show wpAny _ _ (if (Value.ref l==Value.none)=true then _ else _) _ _ s
 rw [if_neg (show ¬ ((Value.ref l==Value.none)=true) from qal)]
 show wpAny _ _ (field (.ref it) 1 >>= _) _ _ s
 refine qaa (qdF ho hd (x:=.int i 0) rfl ?_)
 show wpAny _ _ (seqItems? (.ref l) >>= _) _ _ s
 refine qaa (qdh hol hdl ?_)
 simp only [qaX,hx]
 refine qaa (qbZ ho hd (by simp) (qab ⟨x,rfl,qab (hQ _ ?_ (qaN ..))⟩))
 exact⟨_,qbb _ ho (qb8 (qbh hd _)),(qcC ..).trans hc,by
  rw [qbh hd];simp [rawInt]⟩
theorem jx {it l:Addr}{i:Nat}{items}{Q:Value->Shared->Prop} (hh:A.handled=none)
  (hit:s.heap.IsTupleIter it l i) (hl:s.heap.IsTuple l items) (hx:items[i]?=none)
  (hE:∀ h' e,Heap.ExtBut it s.heap h'->(∃ o,h'.get? e=some o/\o.cls=.type "StopIteration")->E (.ref e) { s with heap:=h' }) :
  wpAny (model prog w) A (Builtin.SmallTypes.nextOf (.ref it)) Q E s:=by
 obtain⟨o,ho,hc,hd⟩:=id hit
 obtain⟨ol,hol,_,nl,hdl⟩:=hl
 unfold Builtin.SmallTypes.nextOf
 refine qaa (qbc (name:=Str.ofString "__next__") hit.typeIs qcK
  (qaU qcK hit.typeIs qfQ ?_ (qfC _)))
 show wpAny _ _ (field (.ref it) 0 >>= _) _ _ s
 refine qaa (qdF ho hd (x:=.ref l) rfl ?_)
 show wpAny _ _ (if (Value.ref l==Value.none)=true then _ else _) _ _ s
 rw [if_neg (show ¬ ((Value.ref l==Value.none)=true) from qal)]
 show wpAny _ _ (field (.ref it) 1 >>= _) _ _ s
 refine qaa (qdF ho hd (x:=.int i 0) rfl ?_)
 show wpAny _ _ (seqItems? (.ref l) >>= _) _ _ s
 refine qaa (qdh hol hdl ?_)
 simp only [qaX,hx]
 refine qaa (qcu (qaa (qbZ ho hd (by simp) ?_)))
 show wpAny _ _ (newExc (.type "StopIteration") [] >>= _) _ _ _
 refine qaa ?_
 simp only [newExc,newTuple]
 refine qaa (qaS ?_ (by size_fits))
 refine qaa (m:=firstArgMember _ _) (qdE (a:=Value.none) (by first | rfl | (simp only [firstArgMember];rfl)) ?_)
 refine qaS ?_ (by size_fits)
 simp only [raiseNew]
 refine qaa (qe8 ?_)
 first | rw [show A.in1.handled=none from hh] | rw [hh]
 refine qaa (qab (qfX ?_))
 exact hE _ _ (((qaN ..).extBut.push _).push _) ⟨_,qao _ rfl,rfl⟩
theorem fU (hh:A.handled=none) (it l:Addr) (hne:l≠it) (items:Array Value) :
  Draws prog w A it [it,l] items.size (λi v=>items[i]?=some v) (λi h=>h.IsTupleIter it l i/\h.IsTuple l items) where
 live:=λ_ _ st=>let ⟨o,ho,_⟩:=st.1;⟨o,ho⟩
 frame:=λ_ _ _ st hk=>⟨st.1.at λo e=>hk it (by simp) o e,by
  obtain⟨o,e,r⟩:=st.2
  exact⟨o,hk l (by simp) o e,r⟩⟩
 item:=λi s Q E hi st hQ=>by
  refine iR st.1 st.2 (x:=items[i]) (by simp [hi]) λh' hit' hs'=>?_
  refine hQ _ h' s.toks (by simp [hi]) ⟨hit',?_⟩ hs'
  obtain⟨o,e,r⟩:=st.2
  exact⟨o,(hs'.2 l hne).trans e,r⟩
 done:=λs Q E st hE=>jx hh st.1 st.2 (by simp) hE
end
theorem gz (l:Addr) (items:Array Value) (n:Nat) (dct:Option Addr) (sl:Array (Option Value)) :
  Meets (Builtin.«enumerate.__new__» ⟨[.type "enumerate",.ref l],[]⟩) (λ_ R s=>s.heap.get? l=some { cls:=.type "tuple",dict:=dct,data:=.seq items n,slots:=sl }/\
   R (.ok (.ret (.ref (s.heap.push { cls:=.type "tuple_iterator",data:=.fields #[.ref l,.int 0 0] }).objs.size)))
    { s with heap:=(s.heap.push { cls:=.type "tuple_iterator",data:=.fields #[.ref l,.int 0 0] }).push { cls:=.type "enumerate",data:=.fields #[.none,.bool false,.ref s.heap.objs.size,rawInt 0,.none,.none] } }):=
 .of_wp λprog w A R s h=>by
  obtain⟨hp,g,d,tk,os⟩:=s;obtain⟨hl,h⟩:=h
  have hsub:=sub_enumerate
  have hL:Heap.IsTuple (Shared.heap ⟨hp,g,d,tk,os⟩) l items:=⟨_,hl,rfl,n,rfl⟩
  wp_walk using wpAny_loadPart' hl
  refine wpAny_stack_any λst=>qab ?_
  split
  ·rename_i c _ _ _ _ _
   cases (c==Value.type "enumerate")
   ·wp_walk using wpAny_loadPart' hl,qc9 hL
    exact⟨_,rfl,h⟩
   ·wp_walk using wpAny_loadPart' hl,qc9 hL
    exact⟨_,rfl,h⟩
  ·wp_walk using wpAny_loadPart' hl,qc9 hL
   exact⟨_,rfl,h⟩
theorem gr {prog:Program}{w:World}{A:Around}{E:Value->Shared->Prop}{s:Shared}{l:Addr}{items:Array Value}{Q:Value->Shared->Prop} (hL:s.heap.IsTuple l items)
  (h:∀ h',IsEnum h' (s.heap.objs.size+1) s.heap.objs.size 0 .none->h'.IsTupleIter s.heap.objs.size l 0->h'.objs.size=s.heap.objs.size+2->
    (∀ b o,s.heap.get? b=some o->h'.get? b=some o)->Q (.ref (s.heap.objs.size+1)) { s with heap:=h' }) :
  wpAny (model prog w) A (call (.type "enumerate") [.ref l]) Q E s:=by
 obtain⟨⟨c,dct,dt,sl⟩,hl,hc,n,hd⟩:=hL
 replace hc:c=.type "tuple":=hc
 replace hd:dt=.seq items n:=hd
 subst hc hd
 refine callType_new F.called_enumerate (by decide) (F.typeCall_enumerate_1 _) (F.newCall_enumerate_1 _) (λobj=>F.args_object_init_2 obj _) F.entry_enumerate_new
  (gz l items n dct sl) ⟨hl,?_⟩
 have hz:(s.heap.push { cls:=.type "tuple_iterator",data:=.fields #[.ref l,.int 0 0] }).objs.size=s.heap.objs.size+1:=qa0 ..
 show _/\_
 rw [hz]
 have he:IsEnum ((s.heap.push { cls:=.type "tuple_iterator",data:=.fields #[.ref l,.int 0 0] }).push
   { cls:=.type "enumerate",data:=.fields #[.none,.bool false,.ref s.heap.objs.size,rawInt 0,.none,.none] }) (s.heap.objs.size+1) s.heap.objs.size 0 .none:=by
  have:=qao (s.heap.push { cls:=.type "tuple_iterator",data:=.fields #[.ref l,.int 0 0] })
   (o:={ cls:=.type "enumerate",data:=.fields #[.none,.bool false,.ref s.heap.objs.size,rawInt 0,.none,.none] }) rfl
  rw [hz] at this;exact this
 refine⟨⟨_,he,rfl⟩,h _ he ⟨_,qad _ (qao _ rfl),rfl,rfl⟩ (by rw [qa0,hz]) λb o x=>qad _ (qad _ x)⟩
section
variable {X:Cx}{pins:List (Addr×Obj)}{σ:St}{H:Hp}{s:Shared}{h':Heap}{fp:List Addr}
theorem gR.ch (hf:∀ b ∈ fp,gR X pins H b):∀ b ∈ fp,(b ∈ X.ex\/X.s₀.heap.objs.size<=b)/\b≠X.env.locals/\(∀ x c,X.env.cells.lookup x=some c->c≠b)/\∀ p ∈ X.pn++pins,p.1≠b:=λb hb=>
 let ⟨_,f1,_,f3,f4,f5⟩:=hf b hb
 ⟨f3,f1,f4,f5⟩
theorem Inv.turns {t':Nat} (I:Inv X pins σ H s) (hf:∀ b ∈ fp,gR X pins H b) (k:∀ b o,b ∉ fp->s.heap.get? b=some o->h'.get? b=some o):Inv X pins σ H { s with heap:=h',toks:=t' }:=by
 have nit:∀ b u,H b=some u->b ∉ fp:=λb u e z=>by have:=(hf b z).1;rw [e] at this;cases this
 refine I.step (g':=s.gens) (d':=s.drawn) (ch:=fp) (gR.ch hf) (λb o _ _ hc e _=>k b o hc e) (λb o _ _ hc e _=>⟨o.slots,k b o hc e⟩) (λ_ _ _ _ n=>n)
  (λb o hc e=>⟨o,k b o hc e⟩) (λ_ _ e=>e) (λ_ _ _ e=>e) (λb ps e=>⟨#[],by rw [e];simp⟩) (λm hm=>?_) (λb u e=>?_) I.bare
 ·obtain⟨o,es,ep,ho,r⟩:=hm
  exact⟨o,es,ep,k _ o (λz=>(hf _ z).2.1 rfl) ho,r⟩
 ·refine (I.hok b u e).stay (λc v hc q=>k c v ?_ q) (λ_ q=>q) λ_ _ q=>q
  rcases hc with z | z
  ·rw [z];exact nit b u e
  ·exact nit c _ z
theorem Inv.turnsT {t':Nat}{T:Addr}{xs:List V}{its:Array Value} (I:Inv X pins σ H s) (hf:∀ b ∈ fp,gR X pins H b) (k:∀ b o,b ∉ fp->s.heap.get? b=some o->h'.get? b=some o)
  (hT:s.heap.objs.size<=T) (ht:di h' T its) (rv:av xs its.toList) (hz:xs.length<=sizeLine):Inv X pins σ (upd H T (.tup xs)) { s with heap:=h',toks:=t' }:=by
 have nit:∀ b u,H b=some u->b ∉ fp:=λb u e z=>by have:=(hf b z).1;rw [e] at this;cases this
 have hTn:H T=none:=I.hok.fresh hT
 have lt:∀ b o,s.heap.get? b=some o->b≠T:=λb o e=>qam (qaE (qak e) hT)
 refine I.step (g':=s.gens) (d':=s.drawn) (ch:=fp) (gR.ch hf) (λb o _ _ hc e _=>k b o hc e) (λb o _ _ hc e _=>⟨o.slots,k b o hc e⟩) (λb o _ e n=>by rw [aw (lt b o e)];exact n)
  (λb o hc e=>⟨o,k b o hc e⟩) (λb _ e=>by rw [aw (ax e hTn)];exact e) (λb _ _ e=>by rw [aw (ax e hTn)];exact e) (λb ps e=>⟨#[],by rw [aw (ax e hTn),e];simp⟩) (λm hm=>?_) (λb u e=>?_) I.bare
 ·obtain⟨o,es,ep,ho,r⟩:=hm
  exact⟨o,es,ep,k _ o (λz=>(hf _ z).2.1 rfl) ho,r⟩
 ·by_cases hb:b=T
  ·subst hb
   rw [aI] at e
   cases e
   refine⟨hz,its.toList,rv,?_⟩
   show di h' b its.toList.toArray
   simpa using ht
  ·rw [aw hb] at e
   refine (I.hok b u e).stay (λc v hc q=>k c v ?_ q) (λc q=>?_) λc z q=>?_
   ·rcases hc with z | z
    ·rw [z];exact nit b u e
    ·exact nit c _ z
   all_goals first
    | (rw [aw (ax q hTn)];exact q)
    | (rw [aw (ax z hTn)];exact z)
end
noncomputable def Ite (S:Hp->List V->Prop):It:=
 ⟨λi H=>∃ xs x,S H xs/\xs[i]?=some x,λi H x H'=>∃ T v,(∀ xs,S H xs->xs[i]?=some v)/\H T=none/\x=.ref T/\H'=upd H T (.tup [.int i,v]),λi H=>∃ xs,S H xs/\xs.length=i⟩
theorem sL {P:Program}{w:World}{K:PySem.W.Frag}{elts:List Expr}{k:Nat}{pos:Pos} (a it e:Addr) (hei:e≠it) (hae:a≠e) (hai:a≠it) :
  vm P w K (.Tuple elts k pos) (Ite λH xs=>SqL K H a xs) [e,it] e (λi h=>(∃ old,IsEnum h e it i old)/\h.IsListIter it a i) where
 mem:=by simp
 obj:=λi h st b hb=>by
  rcases qaz.mp hb with rfl | hb
  ·obtain⟨⟨old,q⟩,_⟩:=st
   exact⟨_,q,λv z=>by cases z⟩
  ·rw [qay.mp hb]
   obtain⟨_,o,e,c,d⟩:=st
   exact⟨o,e,λv z=>by rw [d] at z;cases z⟩
 keep:=λi h h' st kk=>⟨let ⟨old,q⟩:=st.1;⟨old,kk e (by simp) _ q⟩,st.2.at λo q=>kk it (by simp) o q⟩
 item:=by
  intro X hP hw hK hc i pins s σ H E I hf st hg
  subst hP hw hK
  obtain⟨xs,x,hq,hx⟩:=hg
  obtain⟨its,rv,p,hz⟩:=I.list hq
  obtain⟨u,hu,ru⟩:=rv.get hx
  have W:=qeF (qio (prog:=X.prog) (w:=X.w) (A:=X.A.in1) (I.ok.hd hc) it a hai its.toArray) e hei (by simp [hei,qbR hae]) (by simp)
  have hi:i < its.toArray.size:=by
   have:=(qax.mp hu).1
   simpa using this
  obtain⟨⟨ol,he0⟩,hit0⟩:=st
  refine qgy (qio (prog:=X.prog) (w:=X.w) (A:=X.A.in1) (I.ok.hd hc) it a hai its.toArray) he0 ⟨hit0,p.isList⟩ hi hei (by simp [hei,qbR hae]) λy h1 t hy ho hs' ht hsz hk=>⟨_,rfl,?_⟩
  have hm:(λ(i:Nat) (T:Addr) (h:Heap)=>(∃ x,IsEnumOut h e it ((i:Int)+1) x T)/\_/\T≠e/\T≠it) i s.heap.objs.size h1:=⟨⟨_,ho⟩,hs',qa4 (qak he0),qa4 (let ⟨_,q,_⟩:=hit0;qak q)⟩
  have kk:∀ b o,b ∉ [e,it]->s.heap.get? b=some o->h1.get? b=some o:=λb o hb q=>hk b o (λz=>hb (by simp [z])) (λz=>hb (by simp [z])) q
  generalize eT:s.heap.objs.size=T at ht ho hm ⊢
  have hT:s.heap.objs.size<=T:=qdf eT
  have etk:∃ tk,tk=t+1:=⟨_,rfl⟩
  obtain⟨tk,etk⟩:=etk
  rw [<-etk]
  have ey:y=u:=by
   have hy':its[i]?=some y:=by simpa using hy
   rw [hu] at hy'
   exact (qaD hy').symm
  subst ey
  refine W.go elts k pos i T _ _ _ hm λh2 hst kk2=>?_
  have nT:T ∉ [e,it]:=W.apart i T _ hm
  refine⟨.ref T,upd H T (.tup [.int i,x]),?_,rfl,⟨T,x,λys hy=>by rw [I.list_inj hy hq];exact hx,I.hok.fresh hT,rfl,rfl⟩,⟨hst.1,hst.2.1⟩,λb hb=>?_⟩
  ·have ht2:di h2 T #[.int i t,y]:=⟨_,kk2 T _ nT ht,rfl,⟨_,rfl⟩,rfl⟩
   have I2:Inv X pins σ (upd H T (.tup [.int i,x])) { s with heap:=h2,toks:=tk }:=
    I.turnsT (fp:=[e,it]) (h':=h2) (t':=tk) (its:=#[.int i t,y]) hf (λb o hb q=>kk2 b o hb (kk b o hb q)) hT ht2 (.cons ⟨t,rfl⟩ (.cons ru .nil)) (by show 2<=sizeLine;decide)
   exact I2
  ·rw [aw (show b≠T from λz=>nT (z ▸ hb))]
   exact (hf b hb).1
 done:=by
  intro X hP hw hK hc i pins s σ H E I hf st hg
  subst hP hw hK
  obtain⟨xs,hq,hx⟩:=hg
  obtain⟨its,rv,p,hz⟩:=I.list hq
  have hl:=rv.length
  have hx':its.toArray[i]?=none:=by simp;lia
  obtain⟨⟨old,he⟩,hit⟩:=st
  -- the end at place i
  obtain⟨f0,f1,f2,f3,f4,f5⟩:=hf e (by simp)
  refine wpAny_pyNext_enum_end (I.ok.hd hc) he hit p.isList hx' λh' eb=>⟨rfl,?_⟩
  exact I.turns (t':=s.toks) (fp:=[e,it]) hf λb o hb q=>eb b o (by simp at hb;exact hb.2) q
 self:=λ_ _ _ _ _ st h=>let ⟨⟨_,he⟩,_⟩:=st;qd1 he h
theorem sK {P:Program}{w:World}{K:PySem.W.Frag}{elts:List Expr}{k:Nat}{pos:Pos} (a it e:Addr) (hei:e≠it) (hae:a≠e) (hai:a≠it) :
  vm P w K (.Tuple elts k pos) (Ite λH xs=>SqT K H a xs) [e,it] e (λi h=>(∃ old,IsEnum h e it i old)/\h.IsTupleIter it a i) where
 mem:=by simp
 obj:=λi h st b hb=>by
  rcases qaz.mp hb with rfl | hb
  ·obtain⟨⟨old,q⟩,_⟩:=st
   exact⟨_,q,λv z=>by cases z⟩
  ·rw [qay.mp hb]
   obtain⟨_,o,e,c,d⟩:=st
   exact⟨o,e,λv z=>by rw [d] at z;cases z⟩
 keep:=λi h h' st kk=>⟨let ⟨old,q⟩:=st.1;⟨old,kk e (by simp) _ q⟩,st.2.at λo q=>kk it (by simp) o q⟩
 item:=by
  intro X hP hw hK hc i pins s σ H E I hf st hg
  subst hP hw hK
  obtain⟨xs,x,hq,hx⟩:=hg
  obtain⟨its,rv,p,hz⟩:=I.tuple hq
  obtain⟨u,hu,ru⟩:=rv.get hx
  have W:=qeF (fU (prog:=X.prog) (w:=X.w) (A:=X.A.in1) (I.ok.hd hc) it a hai its.toArray) e hei (by simp [hei,qbR hae]) (by simp)
  have hi:i < its.toArray.size:=by
   have:=(qax.mp hu).1
   simpa using this
  obtain⟨⟨ol,he0⟩,hit0⟩:=st
  refine qgy (fU (prog:=X.prog) (w:=X.w) (A:=X.A.in1) (I.ok.hd hc) it a hai its.toArray) he0 ⟨hit0,p⟩ hi hei (by simp [hei,qbR hae]) λy h1 t hy ho hs' ht hsz hk=>⟨_,rfl,?_⟩
  have hm:(λ(i:Nat) (T:Addr) (h:Heap)=>(∃ x,IsEnumOut h e it ((i:Int)+1) x T)/\_/\T≠e/\T≠it) i s.heap.objs.size h1:=⟨⟨_,ho⟩,hs',qa4 (qak he0),qa4 (let ⟨_,q,_⟩:=hit0;qak q)⟩
  have kk:∀ b o,b ∉ [e,it]->s.heap.get? b=some o->h1.get? b=some o:=λb o hb q=>hk b o (λz=>hb (by simp [z])) (λz=>hb (by simp [z])) q
  generalize eT:s.heap.objs.size=T at ht ho hm ⊢
  have hT:s.heap.objs.size<=T:=qdf eT
  have etk:∃ tk,tk=t+1:=⟨_,rfl⟩
  obtain⟨tk,etk⟩:=etk
  rw [<-etk]
  have ey:y=u:=by
   have hy':its[i]?=some y:=by simpa using hy
   rw [hu] at hy'
   exact (qaD hy').symm
  subst ey
  refine W.go elts k pos i T _ _ _ hm λh2 hst kk2=>?_
  have nT:T ∉ [e,it]:=W.apart i T _ hm
  refine⟨.ref T,upd H T (.tup [.int i,x]),?_,rfl,⟨T,x,λys hy=>by rw [I.tuple_inj hy hq];exact hx,I.hok.fresh hT,rfl,rfl⟩,⟨hst.1,hst.2.1⟩,λb hb=>?_⟩
  ·have ht2:di h2 T #[.int i t,y]:=⟨_,kk2 T _ nT ht,rfl,⟨_,rfl⟩,rfl⟩
   have I2:Inv X pins σ (upd H T (.tup [.int i,x])) { s with heap:=h2,toks:=tk }:=
    I.turnsT (fp:=[e,it]) (h':=h2) (t':=tk) (its:=#[.int i t,y]) hf (λb o hb q=>kk2 b o hb (kk b o hb q)) hT ht2 (.cons ⟨t,rfl⟩ (.cons ru .nil)) (by show 2<=sizeLine;decide)
   exact I2
  ·rw [aw (show b≠T from λz=>nT (z ▸ hb))]
   exact (hf b hb).1
 done:=by
  intro X hP hw hK hc i pins s σ H E I hf st hg
  subst hP hw hK
  obtain⟨xs,hq,hx⟩:=hg
  obtain⟨its,rv,p,hz⟩:=I.tuple hq
  have hl:=rv.length
  have W:=qeF (fU (prog:=X.prog) (w:=X.w) (A:=X.A.in1) (I.ok.hd hc) it a hai its.toArray) e hei (by simp [hei,qbR hae]) (by simp)
  have hi:i=its.toArray.size:=by simp;lia
  subst hi
  refine W.done s _ _ ⟨st.1,st.2,p⟩ λh' tk kk=>⟨rfl,I.turns (fp:=[e,it]) hf kk⟩
 self:=λ_ _ _ _ _ st h=>let ⟨⟨_,he⟩,_⟩:=st;qd1 he h
end L2
namespace L2
open PySem PySem.Spec PyProof.Rows
section
variable {X:Cx}
noncomputable def Bv (K:PySem.W.Frag) (ta:TA):TI:=λσ H R=>ta σ H λvs H1=>∃ a,vs=[.ref a]/\(∃ xs,SqL K H1 a xs)/\R (Ite λH xs=>SqL K H a xs) H1
theorem wD {elts:List Expr}{k:Nat}{tpos:Pos}{a:Expr}{ta:TA}{p pos:Pos} (hg:Gl X "enumerate") (hm:X.mg "enumerate" = none) (ha:PA X [a] ta) (hs:starEach [a] X.env=[(false,eval a X.env)]:=by rfl) :
  PI X (.Tuple elts k tpos) (.Call (.Name "enumerate" p) [a] [] pos) (Bv X.K ta):=by
 intro pins s σ H R I h
 refine Call_ (ef I hg hm qiB (qbB (thn (ha pos pins s σ H _ I h) λus s1 ⟨vs,H1,I1,r1,q1⟩=>?_) hs rfl))
 obtain⟨l,e,⟨xs,hq⟩,q⟩:=q1
 subst e
 cases r1 with
 | cons r rr=>
  cases rr
  cases r
  obtain⟨its,rv,p',hz⟩:=I1.list hq
  refine call_enumerate_list p'.isList λh' he hit hsz hk=>qd1 he ?_
  have hlt:l < s1.heap.objs.size:=by obtain⟨_,_,e,_⟩:=p';exact qak e
  refine⟨_,[s1.heap.objs.size+1,s1.heap.objs.size],_,_,H1,rfl,I1.kept (t':=s1.toks) hk,sL l s1.heap.objs.size (s1.heap.objs.size+1) (qfa _) (qam (qaF hlt)) (qam hlt),⟨⟨_,he⟩,hit⟩,λb hb=>?_,q⟩
  have hb':s1.heap.objs.size<=b:=by
   rcases qaz.mp hb with e | hb
   ·rw [e];exact qcm _
   ·rw [qay.mp hb];exact qan _
  exact I1.fpOk hb' (I1.hok.fresh hb')
noncomputable def BJ (K:PySem.W.Frag) (ta:TA):TI:=λσ H R=>ta σ H λvs H1=>∃ a,vs=[.ref a]/\(∃ xs,SqT K H1 a xs)/\R (Ite λH xs=>SqT K H a xs) H1
theorem xO {elts:List Expr}{k:Nat}{tpos:Pos}{a:Expr}{ta:TA}{p pos:Pos} (hg:Gl X "enumerate") (hm:X.mg "enumerate" = none) (ha:PA X [a] ta) (hs:starEach [a] X.env=[(false,eval a X.env)]:=by rfl) :
  PI X (.Tuple elts k tpos) (.Call (.Name "enumerate" p) [a] [] pos) (BJ X.K ta):=by
 intro pins s σ H R I h
 refine Call_ (ef I hg hm qiB (qbB (thn (ha pos pins s σ H _ I h) λus s1 ⟨vs,H1,I1,r1,q1⟩=>?_) hs rfl))
 obtain⟨l,e,⟨xs,hq⟩,q⟩:=q1
 subst e
 cases r1 with
 | cons r rr=>
  cases rr
  cases r
  obtain⟨its,rv,p',hz⟩:=I1.tuple hq
  refine gr p' λh' he hit hsz hk=>qd1 he ?_
  have hlt:l < s1.heap.objs.size:=by obtain⟨_,e,_⟩:=p';exact qak e
  refine⟨_,[s1.heap.objs.size+1,s1.heap.objs.size],_,_,H1,rfl,I1.kept (t':=s1.toks) hk,sK l s1.heap.objs.size (s1.heap.objs.size+1) (qfa _) (qam (qaF hlt)) (qam hlt),⟨⟨_,he⟩,hit⟩,λb hb=>?_,q⟩
  have hb':s1.heap.objs.size<=b:=by
   rcases qaz.mp hb with e | hb
   ·rw [e];exact qcm _
   ·rw [qay.mp hb];exact qan _
  exact I1.fpOk hb' (I1.hok.fresh hb')
theorem rj {ns:List Int}:∀ {us:List Value},av (ns.map V.int) us->∃ xs:Array (Int×Tok),us.toArray=intItems xs/\xs.toList.map (·.1)=ns:=by
 induction ns with
 | nil=>intro us r;cases r;exact⟨#[],by simp [intItems],rfl⟩
 | cons n ns ih=>
  intro us r
  rw [qaj] at r
  cases r with
  | cons r rr=>
   obtain⟨t,rfl⟩:=r
   obtain⟨xs,e,e2⟩:=ih rr
   refine⟨#[(n,t)]++xs,?_,by simp [e2]⟩
   apply qaY.mp
   have e':=congrArg Array.toList e
   simp [intItems] at e' ⊢
   exact e'
theorem xG:bS X (.builtin "sum") (λxs H Q=>X.calm=true/\∃ (a:Addr) (ns:List Int),xs=[.ref a]/\SqL X.K H a (ns.map V.int)/\Q (.int ns.sum) H):=by
 intro pins s σ H xs us Q I rv h
 obtain⟨hc,a,ns,rfl,hq,q⟩:=h
 cases rv with
 | cons r rr=>
  cases rr
  cases r
  obtain⟨its,rv,p,hz⟩:=I.list hq
  obtain⟨ps,e1,e2⟩:=rj rv
  have hl:=p.isList
  rw [e1] at hl
  refine sum_intListG (I.ok.hd hc) hl λh' tk t' hk=>?_
  refine⟨.int ns.sum,H,I.kept (t':=tk) hk,⟨t',?_⟩,q⟩
  rw [preSum_eq,qbY (by simp),e2]
theorem v8:bS X (.builtin "all") (λxs H Q=>X.calm=true/\∃ (a:Addr) (bs:List Bool),xs=[.ref a]/\SqL X.K H a (bs.map V.bl)/\Q (.bl (bs.all id)) H):=by
 intro pins s σ H xs us Q I rv h
 obtain⟨hc,a,bs,rfl,hq,q⟩:=h
 cases rv with
 | cons r rr=>
  cases rr
  cases r
  obtain⟨its,rv,p,hz⟩:=I.list hq
  have hlt:a < s.heap.objs.size:=by obtain⟨_,_,e,_⟩:=p;exact qak e
  have hlen:its.length=bs.length:=by have:=rv.length;simpa using this.symm
  refine call_all_walk (qdg p.isList ?_)
  refine⟨s.heap.objs.size,_,_,_,_,_,λi=>(bs[i]?).getD true,rfl,qgC (A:=X.A.in1) (I.ok.hd hc) s.heap.objs.size a (qam hlt) its.toArray,⟨⟨_,qao _ rfl,rfl,rfl⟩,p.isList.push _⟩,?_,λh' tk hk=>?_⟩
  ·intro i v s' Q' E' hv hQ'
   have hv':its[i]?=some v:=by simpa using hv
   have hi:i < its.length:=(qax.mp hv').1
   obtain⟨b,hb⟩:∃ b,bs[i]?=some b:=⟨bs[i]'(by lia),by simp [show i < bs.length by lia]⟩
   have:(bs.map V.bl)[i]?=some (.bl b):=by rw [qaW,hb];rfl
   obtain⟨u,hu,ru⟩:=rv.get this
   rw [hv'] at hu
   cases hu
   cases ru
   have hQ2:Q' ((bs[i]?).getD true) s':=hQ'
   rw [hb] at hQ2
   exact qcL hQ2
  ·refine⟨.bl (bs.all id),H,I.kept (t':=tk) (λb o e=>hk b o (λz=>absurd (qak e) (by rw [qay.mp z];exact qbH _)) (qad _ e)),?_,q⟩
   show Value.bool _=Value.bool _
   congr 1
   have:∀ n,n=bs.length->((List.range n).all λi=>(bs[i]?).getD true)=bs.all id:=by
    intro n hn
    rw [qdp,qaw,qaw]
    constructor
    ·intro h b hb
     obtain⟨i,hi,e⟩:=qcc.mp hb
     have:=h i (qaP.mpr (by lia))
     simp [hi,e] at this
     exact this
    ·intro h i hi
     have hi':=qaP.mp hi
     have hlt':i < bs.length:=by lia
     simp [hlt']
     exact h _ (qdU _)
   exact this _ (by simpa using hlen)
noncomputable def dM:V->PyData
 | .non=>.none
 | .bl b=>.bool b
 | .int i=>.int i
 | .str x=>.str x
 | _=>.none
noncomputable def on (ys:List V):Str:=(PyData.tuple (ys.map dM)).shown
noncomputable def d6 (y:V):Prop:=y=.non\/∃ i:Int,y=.int i/\0<=i/\i < 1024
theorem sv:bS X (.builtin "repr") (λxs H Q=>∃ i:Int,xs=[.int i]/\i.natAbs.log2 < 1920/\Q (.str (toString i)) H):=by
 intro pins s σ H xs us Q I rv h
 obtain⟨i,rfl,hi,q⟩:=h
 cases rv with
 | cons r rr=>
  cases rr
  obtain⟨t,rfl⟩:=r
  exact call_repr_gives (qeE s i t) F.slot_int_repr F.entry_int_repr (F.args_int_repr_1 _) (gives_int_repr i t hi) ⟨.str _,H,I.tok _,⟨_,rfl⟩,q⟩ (hx:=int_text_fits hi)
theorem fV {h:Heap}:∀ {ys:List V}{us:List Value},av ys us->(∀ y ∈ ys,d6 y)->ReadsAll h us (ys.map dM) []
 | _,_,.nil,_=>.nil
 | _,_,.cons (a:=y) r rr,hp=>by
  have hr:=fV (h:=h) rr λz hz=>hp z (qaf _ hz)
  rcases hp y qah with e | ⟨i,e,_⟩
  ·subst e;cases r;exact .cons (as:=[]) (bs:=[]) .none hr
  ·subst e;obtain⟨t,rfl⟩:=r;exact .cons (as:=[]) (bs:=[]) (.int i t) hr
theorem u5 {i:Int} (h0:0<=i) (h1:i < 1024):((toString i:String):Str).length<=10:=by
 obtain⟨n,rfl⟩:=qcn h0
 have hn:n < 2 ^ 10:=by have:(1024:Int)=((2 ^ 10:Nat):Int):=by decide
                        lia
 have e:(toString (n:Int))=Nat.repr n:=rfl
 have:=nat_repr_length_le (k:=10) (by decide) hn
 rw [e,qf3]
 exact this
theorem jR:∀ {ys:List V},(∀ y ∈ ys,d6 y)->piled (PyData.shownAll (ys.map dM))<=12*ys.length
 | [],_=>by simp [PyData.shownAll,piled]
 | y::ys,hp=>by
  have ih:=jR (ys:=ys) λz hz=>hp z (qaf _ hz)
  rw [qaj,PyData.shownAll,qhp,qaq]
  have:(dM y).shown.length<=10:=by
   rcases hp y qah with e | ⟨i,e,h0,h1⟩
   ·subst e;decide
   ·subst e;exact u5 h0 h1
  lia
theorem gi:∀ {ys:List V},(∀ y ∈ ys,d6 y)->PyData.showableAll (ys.map dM)=true
 | [],_=>rfl
 | y::ys,hp=>by
  have ih:=gi (ys:=ys) λz hz=>hp z (qaf _ hz)
  rw [qaj,PyData.showableAll,ih,qfW]
  rcases hp y qah with e | ⟨i,e,h0,h1⟩
  ·subst e;rfl
  ·subst e
   show decide (i.natAbs.log2 < 1920)=true
   refine decide_eq_true ?_
   have hn0:i.natAbs < 1024:=by lia
   have hn:i.natAbs < 2 ^ 1920:=qaE (show i.natAbs < 2 ^ 10 from hn0) (qgt (by decide) (by decide))
   by_cases hz:i.natAbs=0
   ·rw [hz];decide
   ·exact (qiu hz).mpr hn
theorem iO:∀ {ys:List V},(∀ y ∈ ys,d6 y)->PyData.hasDictAll (ys.map dM)=false
 | [],_=>rfl
 | y::ys,hp=>by
  have ih:=iO (ys:=ys) λz hz=>hp z (qaf _ hz)
  rw [qaj,PyData.hasDictAll,ih,qdl]
  rcases hp y qah with e | ⟨i,e,_⟩<;>subst e<;>rfl
theorem pi:∀ {ys:List V},(∀ y ∈ ys,d6 y)->(PyData.tuple (ys.map dM)).depth<=2:=by
 intro ys hp
 have:∀ {ys:List V},(∀ y ∈ ys,d6 y)->PyData.depthAll (ys.map dM)<=1:=by
  intro ys
  induction ys with
  | nil=>intro _;simp [PyData.depthAll]
  | cons y ys ih=>
   intro hp
   have:=ih λz hz=>hp z (qaf _ hz)
   rw [qaj,PyData.depthAll]
   have:(dM y).depth<=1:=by
    rcases hp y qah with e | ⟨i,e,_⟩<;>subst e<;>simp [dM,PyData.depth]
   lia
 have:=this hp
 simp only [PyData.depth]
 lia
theorem rm (hg:X.A.guards=some []) (hu:X.A.units+64 < cLine):bS X (.builtin "repr") (λxs H Q=>∃ a ys,xs=[.ref a]/\SqT X.K H a ys/\(∀ y ∈ ys,d6 y)/\ys.length<=1000/\Q (.str (on ys)) H):=by
 intro pins s σ H xs us Q I rv h
 obtain⟨a,ys,rfl,hq,hp,hl,q⟩:=h
 cases rv with
 | cons r rr=>
  cases rr
  cases r
  obtain⟨its,rv,p,hz⟩:=I.tuple hq
  obtain⟨o,ho,hc,n,hd⟩:=p
  have rd:Reads s.heap (.ref a) (.tuple (ys.map dM)) []:=.tuple ho hc hd (by simpa using fV rv hp)
  refine qiz rd (gi hp) (qgr (iO hp)) hg (by have:=pi hp;lia) (λ_ _ e=>e) (λh' u tk hk=>⟨.str _,H,I.kept (t':=tk) hk,⟨u,rfl⟩,q⟩) ?_
  show (tupleText (PyData.shownAll (ys.map dM))).length<=sizeLine
  have hs:=jR hp
  have hz2:(Str.join ", " (PyData.shownAll (ys.map dM))).length<=12*ys.length:=by
   cases e:PyData.shownAll (ys.map dM) with
   | nil=>exact qaI _
   | cons x r=>
    have:=qir (PyData.shownAll (ys.map dM)) (by rw [e];simp)
    rw [e] at this
    rw [e] at hs
    lia
  unfold tupleText
  rw [qdb,qdb]
  have h2:((if (PyData.shownAll (ys.map dM)).length==1 then ",)" else ")" : String):Str).length<=2:=by split<;>decide
  have h1:((("(" : String):Str)).length=1:=rfl
  have hsz:sizeLine=16777216:=rfl
  have h1':(("(" : Str)).length=1:=rfl
  lia
end
noncomputable def fO (k:Nat) (js:List Nat) (σ:St):St:=List.replicate k none++js.map λj=>(σ[j]?).getD none
noncomputable def De (scope:Scope) (ns:List (Str×NameKind)) (N Nc:List Str) (k:Nat) (js:List Nat):Bool:=
 decide ((scope.names.map (·.1)).Nodup) && decide Nc.Nodup && decide (Nc.length=k+js.length) &&
 (scope.names.all λx=>x.2 != .free || ns.lookup x.1==some .cell || ns.lookup x.1==some .free) &&
 ((List.range js.length).all λi=>match Nc[k+i]?,js[i]? with | some x,some j=>N[j]?==some x && scope.names.lookup x==some .free | _,_=>false)
theorem dA {X:Cx}{scope:Scope} (ns:List (Str×NameKind)) (N Nc:List Str) (k:Nat) (js:List Nat) (hns:X.env.scope.names=ns) (hN:X.N=N) (hk:scope.kind=.function) (h:De scope ns N Nc k js=true):eL X scope Nc (fO k js):=by
 unfold De at h
 simp only [qaL,decide_eq_true_eq] at h
 obtain⟨⟨⟨⟨h1,h2⟩,h3⟩,h4⟩,h5⟩:=h
 refine⟨hk,h1,h2,λx hx hf=>?_,λσ _=>?_,λσ _ i x v e1 e2=>?_⟩
 ·have:=qaw.mp h4 x hx
  rw [hf] at this
  simp only [qcy,beq_iff_eq,bne_self_eq_false,qap,false_or] at this
  unfold Env.kindOf
  rw [hns]
  exact this
 ·unfold fO
  rw [qaK,qcx,qai,h3]
 ·unfold fO at e2
  by_cases hi:i < k
  ·rw [qaM (by simpa using hi),qcX,if_pos hi] at e2
   cases e2
  ·rw [qa1 (by simpa using hi),qcx,qaW] at e2
   cases ej:js[i - k]? with
   | none=>rw [ej] at e2;cases e2
   | some j=>
    rw [ej] at e2
    have hlt:=(qax.mp ej).1
    have:=qaw.mp h5 (i - k) (qaP.mpr hlt)
    rw [show k+(i - k)=i by lia,e1,ej] at this
    simp only [qaL,beq_iff_eq] at this
    refine⟨j,by rw [hN];exact this.1,?_,this.2⟩
    have e3:(σ[j]?).getD none=some v:=qaD e2
    cases eq:σ[j]? with
    | none=>rw [eq] at e3;cases e3
    | some o=>rw [eq] at e3;rw [show o=some v from e3]
noncomputable def Cn (names ns:List (Str×NameKind)):List (Str×NameKind):=names.map λx=>if (x.2==NameKind.free && ns.lookup x.1==some .cell) then (x.1,.cell) else x
theorem zu {X:Cx}{scope:Scope}{cells:List (Str×Addr)}{Nc:List Str}{s:Shared}{H:Hp}{C:Addr}{fp:List Addr}{ns:List (Str×NameKind)} (hk:X.env.scope.kind=.function) (hns:X.env.scope.names=ns) :
  (lcX X scope cells Nc s H C fp).env.scope.names=Cn scope.names ns:=by
 show (scope.names.map _)=_
 unfold Cn
 congr 1
 funext x
 obtain⟨n,k⟩:=x
 show (if (k==.free && X.env.scope.kind==.function && X.env.kindOf n==some .cell)=true then (n,NameKind.cell) else (n,k))=(if (k==.free && ns.lookup n==some .cell)=true then (n,NameKind.cell) else (n,k))
 unfold Env.kindOf
 rw [hk,hns,show (ScopeKind.function==ScopeKind.function)=true from rfl,qfW]
section
variable {σe tl:St}{tt:TT}{te:TE}{H:Hp}{Q:VK}
end
section
variable {X:Cx}
theorem yT:OpR X (binaryOp .Mult) (rI IntMulOk λi j=>.int (i*j)):=opI λ_ _ _ _ _ _ _ hc q=>mul_int q hc
end
theorem bm.new {H:Hp}{p:Addr} (h:H p=none) (o:HO):bm H (upd H p o):=λb u q=>by rw [aw (ax q h)];exact q
theorem uP {X:Cx} (hg:X.A.guards=some []) (hu:X.A.units+64 < cLine):bS X (.builtin "repr") (λxs H Q=>(∃ i:Int,xs=[.int i]/\i.natAbs.log2 < 1920/\Q (.str (toString i)) H)\/
  (∃ a ys,xs=[.ref a]/\SqT X.K H a ys/\(∀ y ∈ ys,d6 y)/\ys.length<=1000/\Q (.str (on ys)) H)):=bS.or sv (rm hg hu)
theorem fz {n:Nat} (h:n<=1000):n<=sizeLine:=qcA (uZ h)
theorem p18:pJ 10 18:=⟨by decide,by decide,by decide⟩
end L2
namespace L2
open PySem PySem.Spec PyProof.Rows
open PySem.AutoSeq1 (wpAny_loadPart')
theorem vU (l:Addr) (items:Array Value) (n:Nat) (dct:Option Addr) (sl:Array (Option Value)) (u:Tok) :
  Meets (Builtin.«tuple.__mul__» ⟨[.ref l,.int 1 u],[]⟩) (λ_ R s=>s.heap.get? l=some { cls:=.type "tuple",dict:=dct,data:=.seq items n,slots:=sl }/\R (.ok (.ret (.ref l))) s):=
 .of_wp λprog w A R s h=>by
  obtain⟨hp,g,d,tk,os⟩:=s;obtain⟨hl,h⟩:=h
  wp_walk using wpAny_loadPart' hl
  exact⟨_,rfl,h⟩
theorem ux (l:Addr) (items:Array Value) (n:Nat) (dct:Option Addr) (sl:Array (Option Value)) (x:Int) (u:Tok) (h2:2<=x) (h3:x < 1000) (he:items.isEmpty=false) (hz:items.size<=1000)
  (hsz:((List.replicate x.toNat items).foldl (λx1 x2=>x1++x2) #[]).size<=sizeLine) :
  Meets (Builtin.«tuple.__mul__» ⟨[.ref l,.int x u],[]⟩) (λ_ R s=>s.heap.get? l=some { cls:=.type "tuple",dict:=dct,data:=.seq items n,slots:=sl }/\
   R (.ok (.ret (.ref s.heap.objs.size))) { s with heap:=s.heap.push { cls:=.type "tuple",data:=.seq ((List.replicate x.toNat items).foldl (λx1 x2=>x1++x2) #[]) } }):=
 .of_wp λprog w A R s h=>by
  obtain⟨hp,g,d,tk,os⟩:=s;obtain⟨hl,h⟩:=h
  have c1:(x < -(2 ^ 63) || x>=2 ^ 63)=false:=by simp;lia
  have c2:(items.isEmpty || x==1)=false:=by rw [he];simp;lia
  have c3:(x<=0 || items.isEmpty)=false:=by rw [he];simp;lia
  have hpr:(items.size:Int)*x<=1000000:=by
   have a1:(items.size:Int)*x<=1000*x:=Int.mul_le_mul_of_nonneg_right (by lia) (by lia)
   lia
  have c4:¬ ((items.size:Int)*x > (2 ^ 63 - 1) / 8):=by lia
  have c5:Builtin.Tuple.tupleTooMany ((items.size:Int)*x)=false:=by
   unfold Builtin.Tuple.tupleTooMany
   exact decide_eq_false (by have:(sizeLine:Nat)=16777216:=rfl
                             lia)
  wp_walk using wpAny_loadPart' hl
  refine qeu (decide_eq_false (by rw [c1];exact qal)) ?_
  wp_walk using wpAny_loadPart' hl
  refine qeu (decide_eq_false (by rw [c2];exact qal)) ?_
  wp_walk using wpAny_loadPart' hl
  refine qeu (decide_eq_false (by rw [c3];exact qal)) ?_
  wp_walk using wpAny_loadPart' hl
  refine qeu (decide_eq_false c4) ?_
  wp_walk using wpAny_loadPart' hl
  exact⟨_,rfl,h⟩
theorem jv:fillsNumberSlot (.type "tuple") "mul" = pure false:=
 PySem.fillsNumberSlot_seq (id:="tuple.__mul__") (r:=some (.builtin "tuple.__rmul__")) qd6.lookup (by decide +kernel) qha.lookup (by decide +kernel)
theorem oS:seqRepeat? (.type "tuple")=pure (some (.builtin "tuple.__mul__")):=by
 unfold seqRepeat?
 rw [qgM (T:="tuple") (name:="__mul__") (id:="tuple.__mul__") qd6.lookup (by decide +kernel),qgM (T:="tuple") (name:="__rmul__") (id:="tuple.__rmul__") qha.lookup (by decide +kernel)]
 rfl
theorem kD (a:Int) (t:Tok) (l:Addr) (items:Array Value) (n:Nat) (dct:Option Addr) (sl:Array (Option Value)) :
  Meets (Builtin.«int.__rmul__» ⟨[.int a t,.ref l],[]⟩) (λ_ R s=>s.heap.get? l=some { cls:=.type "tuple",dict:=dct,data:=.seq items n,slots:=sl }/\R (.ok (.ret Value.notImplemented)) s):=
 .of_wp λprog w A R s h=>by obtain⟨hp,g,d,tk,os⟩:=s;obtain⟨hl,h⟩:=h;wp_walk using wpAny_loadPart' hl;exact⟨_,rfl,h⟩
section
variable {X:Cx}
noncomputable def Db (K:PySem.W.Frag):R2:=λx y H Q=>∃ l k xs,x=.ref l/\y=.int k/\SqT K H l xs/\xs≠[]/\xs.length<=1000/\1<=k/\k < 1000/\(k=1->Q (.ref l) H)/\
 (k≠1->∀ p,H p=none->Q (.ref p) (upd H p (.tup (List.replicate k.toNat xs).flatten)))
theorem zb:OpR X (binaryOp .Mult) (Db X.K):=by
 intro pins s σ H x y v u Q I rx ry h
 obtain⟨l,k,xs,rfl,rfl,hq,hne,hl1,h1,h2,q1,q2⟩:=h
 cases rx
 obtain⟨t,rfl⟩:=ry
 obtain⟨its,rv,p,hz⟩:=I.tuple hq
 obtain⟨⟨c,dct,dt,sl⟩,e,hc,n,hd⟩:=p
 replace hc:c=.type "tuple":=hc
 replace hd:dt=.seq its.toArray n:=hd
 subst hc hd
 have hlen:=rv.length
 refine qge (T:="tuple") (U:="int") (by decide) ⟨_,e,rfl⟩ (λs'=>qeE s' k t) jv qhx qem oS qhj.lookup
  (qcN qem (qeE s k t) qhk (qhc _ _) (kD k t l its.toArray n dct sl) ⟨e,rfl,⟨_,e,rfl⟩,?_⟩)
 by_cases hk:k=1
 ·subst hk
  exact qcN qd6 ⟨_,e,rfl⟩ qhb (qg1 _ _) (vU l its.toArray n dct sl t) ⟨e,.ref l,H,I,rfl,q1 rfl⟩
 ·have f0:List.foldl (λx1 x2=>x1++x2) #[] (List.replicate k.toNat its.toArray)=(List.replicate k.toNat its).flatten.toArray:=by
   have:=jz its k.toNat []
   rw [qce] at this
   exact this
  have hsz:(List.replicate k.toNat xs).flatten.length<=sizeLine:=by
   rw [oq]
   have:k.toNat*xs.length<=1000*1000:=qfM (by lia) hl1
   have hs:sizeLine=16777216:=rfl
   lia
  have hsz2:(List.replicate k.toNat its).flatten.length<=sizeLine:=by
   rw [oq] at hsz ⊢
   rw [<-hlen];exact hsz
  refine qcN qd6 ⟨_,e,rfl⟩ qhb (qg1 _ _) (ux l its.toArray n dct sl k t (by lia) h2 ?_ (by rw [qas];lia) (by rw [f0,qas];exact hsz2)) ⟨e,?_⟩
  ·cases its with
   | nil=>cases xs with
    | nil=>exact absurd rfl hne
    | cons _ _=>cases hlen
   | cons _ _=>rfl
  ·rw [f0]
   refine⟨.ref _,_,I.laid (t':=s.toks) (o:=.tup (List.replicate k.toNat xs).flatten) (λ_ _ q=>qad _ q) (qan _) ⟨hsz,(List.replicate k.toNat its).flatten,rv.rep k.toNat,⟨_,qao _ rfl,rfl,⟨0,rfl⟩,rfl⟩⟩,rfl,q2 hk _ I.fresh⟩
end
end L2
namespace L2
open PySem PySem.Spec PyProof.Rows
section
variable {X:Cx}{K:PySem.W.Frag}
theorem Cw (hc:X.calm=true:=by rfl) (hK:X.K=K:=by rfl):bS X (.builtin "sum") (λxs H Q=>∃ (a:Addr) (ns:List Int),xs=[.ref a]/\SqL K H a (ns.map V.int)/\Q (.int ns.sum) H):=by
 subst hK
 intro pins s σ H xs us Q I rv h
 exact xG pins s σ H xs us Q I rv ⟨hc,h⟩
theorem CA (hc:X.calm=true:=by rfl) (hK:X.K=K:=by rfl):bS X (.builtin "all") (λxs H Q=>∃ (a:Addr) (bs:List Bool),xs=[.ref a]/\SqL K H a (bs.map V.bl)/\Q (.bl (bs.all id)) H):=by
 subst hK
 intro pins s σ H xs us Q I rv h
 exact v8 pins s σ H xs us Q I rv ⟨hc,h⟩
theorem wH {k:Nat} (hr:bn k X.A) (hK:X.K=K:=by rfl):bS X (.builtin "repr") (λxs H Q=>(∃ i:Int,xs=[.int i]/\i.natAbs.log2 < 1920/\Q (.str (toString i)) H)\/
  (∃ a ys,xs=[.ref a]/\SqT K H a ys/\(∀ y ∈ ys,d6 y)/\ys.length<=1000/\Q (.str (on ys)) H)):=by subst hK;exact uP hr.gd hr.units
end
section
variable {X:Cx}
end
theorem tN {n j:Nat} (h:j < n):ixN n (j:Int)=some j:=by
 unfold ixN
 rw [if_pos (by lia),if_pos (by lia),qaX]
section
variable {X:Cx}{e:Expr}{ty:TE}{p1 p2 p3 p4 dpos apos cpos:Pos}{j1 j2 j3 j4:Nat}
end
end L2
namespace L2
open PySem PySem.Spec PyProof.Rows
open PySem.AutoSeq1 (wpAny_loadPart')
section
variable {prog:Program}{w:World}{A:Around}{E:Value->Shared->Prop}{s:Shared}
end
section
variable {X:Cx}
end
section
variable {prog:Program}{w:World}{A:Around}{E:Value->Shared->Prop}{s:Shared}
end
section
variable {X:Cx}{e:Expr}{te:TE}{p1 p2 p3 pos:Pos}{j:Nat}
end
end L2
namespace L2
open PySem PySem.Spec PyProof.Rows
theorem av.at {xs:List V}{us:List Value} (r:av xs us):∀ (j:Nat) (h:j < us.length) ,∃ h':j < xs.length,aA xs[j] us[j]:=by
 induction r with
 | nil=>intro j h;exact absurd h (qci j)
 | cons a t ih=>
  intro j h
  cases j with
  | zero=>exact⟨Nat.zero_lt_succ _,a⟩
  | succ j=>
   obtain⟨h1,r1⟩:=ih j (qf8 h)
   exact⟨Nat.succ_lt_succ h1,r1⟩
theorem kO (e:Nat->Bool) (n:Nat):(List.range (n+1)).all e=(e 0 && (List.range n).all λj=>e (j+1)):=by
 rw [List.range_succ_eq_map,qbg,qeV];rfl
section
variable {X:Cx}{K:PySem.W.Frag}{pins:List (Addr×Obj)}{σ:St}{H:Hp}{s:Shared}{A:Around}{a b:Addr}{xs ys:List V}
end
section
variable {X:Cx}{pos p1 p2:Pos}{j1 j2:Nat}
end
section
variable {K:PySem.W.Frag}{H:Hp}
end
section
variable {X:Cx}{K:PySem.W.Frag}
end
end L2
namespace HT
open PySem PySem.Spec PyProof.Rows L2
section
variable {prog:Program}{w:World}{A:Around}{E:Value->Shared->Prop}{s:Shared}
theorem getItem_tuple_all {t sl:Addr}{items:Array Value}{vl vu:Value}{lo hi:Option Int}{Q:Value->Shared->Prop} (ht:IsTup s.heap t items) (hs:s.heap.IsSliceOf sl vl vu .none) (pl:IsPart vl lo) (pu:IsPart vu hi)
  (hw:sIx items.size 0 lo=0/\sIx items.size items.size hi=items.size) (h:Q (.ref t) s):wpAny (model prog w) A (getItem (.ref t) (.ref sl)) Q E s:=by
 obtain⟨os,hos,hcs,hds⟩:=id hs
 have hTs:s.TypeIs (.ref sl) "slice":=⟨os,hos,hcs⟩
 unfold getItem
 try with_reducible refine qaT ?_
 first | refine qaa (qab ?_) | skip
 refine qaa (qhl ht.typeIs (by decide) ?_)
 refine qaa (qbc (name:=Str.ofString "__getitem__") ht.typeIs qbp
  (qaU qbp ht.typeIs qg8 ?_ (qhd _ _)))
 show wpAny _ _ (Builtin.Tuple.tupleItemsOf (.ref t) >>= _) _ _ s
 refine qaa (tupleItemsOf_ ht ?_)
 refine qaa (qes hTs ?_)
 rw [if_pos (by decide)]
 refine qaa (eW hs pl pu ?_)
 have hyes:(((sIx items.size 0 lo:Nat):Int)==0 && (1:Int)==1 && (sIx items.size items.size hi - sIx items.size 0 lo)==items.size)=true:=by
  rw [hw.1,hw.2]
  simp
 show wpAny _ _ (if (((sIx items.size 0 lo:Nat):Int)==0 && (1:Int)==1 && (sIx items.size items.size hi - sIx items.size 0 lo)==items.size)=true then _ else _) _ _ s
 rw [if_pos hyes]
 unfold Builtin.Tuple.tupleIsExact
 refine qaa (qaa (qes ht.typeIs (qab ?_)))
 show wpAny _ _ (if ((Value.type "tuple")==(Value.type "tuple"))=true then _ else _) _ _ s
 rw [if_pos (beq_self_eq_true _)]
 first
  | exact qaa (qcu (qab ⟨_,rfl,qab h⟩))
  | exact qaa (qaa (qcu (qab (qab ⟨_,rfl,qab h⟩))))
  | exact qaa (qcu (qaa (qab (qab ⟨_,rfl,qab h⟩))))
  | exact qaa (qcu (qaa (qab ⟨_,rfl,qab h⟩)))
end
end HT
namespace L2
open PySem PySem.Spec PyProof.Rows
noncomputable def Da (K:PySem.W.Frag):V->Option Int->Option Int->Hp->VK->Prop:=λx lo hi H Q=>∃ a xs,x=.ref a/\SqT K H a xs/\
 ((¬ (HT.sIx xs.length 0 lo=0/\HT.sIx xs.length xs.length hi=xs.length)/\∀ p,H p=none->Q (.ref p) (upd H p (.tup (oI xs lo hi))))\/
   ((HT.sIx xs.length 0 lo=0/\HT.sIx xs.length xs.length hi=xs.length)/\Q (.ref a) H))
theorem B8 {X:Cx}{K:PySem.W.Frag} (hK:X.K=K:=by rfl):SlR X (Da K):=by
 subst hK
 intro pins s σ H x v vl vu lo hi sl Q I rx hs pl pu h
 obtain⟨a,xs,rfl,hx,h⟩:=h
 rcases h with⟨hw,q⟩ | ⟨hw,q⟩
 ·exact AY pins s σ H _ v vl vu lo hi sl Q I rx hs pl pu ⟨a,xs,rfl,hx,hw,q⟩
 ·cases rx
  obtain⟨its,r,ht,hz⟩:=I.tuple hx
  have hlen:its.toArray.size=xs.length:=by rw [qas];exact r.length.symm
  refine⟨"tuple",_,qbp.lookup,ht.typeIs,?_⟩
  exact HT.getItem_tuple_all ht hs pl pu (by rw [hlen];exact hw) ⟨.ref a,H,I,rfl,q⟩
section
variable {X:Cx}{scope:Scope}{Nc:List Str}{emb:St->St}{elt iter tg:Expr}{ifs:List Expr}{pos:Pos}{wi:TI}{g:TG}{tt:TT}{te:TE}
theorem Co {i0:Nat}{x0:Str}{py spos:Pos} (hN0:X.N.Nodup) (hi0:X.N[i0]?=some x0) (hx0:Loc X.env.scope x0) (S:eL X scope Nc emb) (hc:X.calm=true) (hi:PI X tg iter wi)
  (hg:∀ cells s H C fp,PG (lcX X scope cells Nc s H C fp) tg g) (ht:∀ cells s H C fp,PTs (lcX X scope cells Nc s H C fp) ifs tt) (he:∀ cells s H C fp,PE (lcX X scope cells Nc s H C fp) elt te)
  (hsw:swapsWith (.ListComp elt [⟨tg,iter,ifs,0⟩] scope pos) (some (.Name x0 py)) spos.line X.env=pure true:=by rfl)
  (hf0:X.fn x0=true\/X.env.scope.names.lookup x0=some .local:=by first | exact .inl rfl | exact .inr rfl | assumption)
  (hs:∀ x,foldedSetIterable iter X.env x=pure x:=by intro _;rfl):PS X (.Assign [.Name x0 py] (.ListComp elt [⟨tg,iter,ifs,0⟩] scope pos) spos) (Bh (tLc emb wi g tt te) (o9 i0)):=by
 intro pins s σ H DD I h
 rw [exec_Assign_Name_used _ _ _ _ hsw]
 refine qaa (qdu (qaa ?_))
 show wpAny _ X.A (do let _ <-comprehension (.ListComp elt [⟨tg,iter,ifs,0⟩] scope pos) scope X.env _ (newList []) false (eval iter X.env) (some (assign (.Name x0 py) X.env))) _ _ s
 refine qaa (qb1 (qgq (use:=some (assign (.Name x0 py) X.env)) (Q:=λ_ s'=>SP X pins DD .next s') rfl hs (gW (S.clos I.ok)) S.kind (λx hx hl=>dO S.nd (by rw [<-hl];exact hx)) ?_) (λ_ s' hq=>qab (qab hq)) λ_ _ e=>e)
 refine thn (hi pins s σ H _ I h) λv s1 h1=>thn h1 λitv s2 h2=>?_
 obtain⟨it,fp,tn,J,H2,e,I2,T,st2,f2,W,⟨m0,w0⟩,turn⟩:=h2
 subst e
 refine qaS (iW ?_)
 rw [show (s2.heap.push { cls:=.type "list",dict:=none,data:=.seq ([]:List Value).toArray }).objs.size=s2.heap.objs.size+1 from qa0 ..]
 generalize hD:s2.heap.objs.size=D
 generalize hlo:({ cls:=.type "list",dict:=none,data:=.seq ([]:List Value).toArray }:Obj)=lo
 have fplt:∀ b ∈ fp,b < s2.heap.objs.size:=λb hb=>by obtain⟨o,e,_⟩:=T.obj _ _ st2 b hb;exact qak e
 have I3:=qu (lo:=lo) S I2 f2 (λb hb=>by obtain⟨o,e,_⟩:=T.obj _ _ st2 b hb;exact⟨o,e⟩) (by rw [<-hlo];intro v z;cases z) (by rw [<-hlo];rfl)
 rw [hD] at I3
 generalize hcells:cellsFrom (D+2) scope.names (bL X.env.cells scope.names [])=cells at I3
 generalize hX':lcX X scope cells Nc s2 H2 (D+1) fp=X' at I3
 have hfpX:∀ {H':Hp}{ps:List (Addr×Obj)},(∀ b ∈ fp,H' b=none)->(∀ p ∈ ps,p.1=D)->∀ b ∈ fp,gR X' ps H' b:=λ{H' ps} hn hps b hb=>by
  have ok:=I3.ok
  refine⟨hn b hb,?_,?_,.inl (by rw [<-hX'];exact hb),?_,λp hp=>?_⟩
  ·exact (ok.exf b (by rw [<-hX'];exact hb)).1
  ·exact ok.exfs b (by rw [<-hX'];exact hb)
  ·exact (ok.exf b (by rw [<-hX'];exact hb)).2
  ·have hp':p ∈ ([]:List (Addr×Obj))++ps:=by rw [<-hX'] at hp;exact hp
   have e:p.1=D:=hps p (by simpa using hp')
   rw [e,<-hD]
   exact qa4 (fplt b hb)
 have Dex:D ∈ X'.ex\/X'.s₀.heap.objs.size<=D:=.inr (by rw [<-hX',<-hD];exact qan _)
 have Dloc:D≠X'.env.locals:=by rw [<-hX'];exact qam (qbt _)
 have pD:=I3.pin (D,lo) (by rw [<-hX'];exact qat _ qah)
 have Dfs:D ∉ X'.fs:=pD.2.2.2.1
 have Dcell:∀ x c,X'.env.cells.lookup x=some c->c≠D:=λx c hc' e=>by
  obtain⟨v,o,ho,hd⟩:=I3.cell x c hc'
  rw [e,pD.1] at ho
  cases ho
  exact pD.2.2.2.2 v hd
 -- the loop
 have loop:∀ s3:Shared,s3={ s2 with heap:=pushCells ((s2.heap.push lo).push { cls:=.type "dict",data:=.dict #[] }) scope.names }->
   codeAny (model X.prog X.w) X.A (.compLoop (.ListComp elt [⟨tg,iter,ifs,0⟩] scope pos) 0 (.ref it) (.ref D) (compEnvC scope cells (D+1) X.env))
    (compPost (model X.prog X.w) X.A X.xe (some (assign (.Name x0 py) X.env)) (λ_ s'=>SP X pins DD .next s') (.ref D) (D+1)) s3:=by
  rintro s3 rfl
  refine dD (λn s'=>∃ i ys its k H',Inv X' [(D,{ cls:=.type "list",data:=.seq its.toArray k })] (emb σ) H' s'/\av ys its/\tn i s'.heap/\(∀ b ∈ fp,H' b=none)/\ys.length<=sizeLine/\W i n ys H') ?_ m0
   ⟨0,[],[],0,H2,?_,.nil,?_,λb hb=>(f2 b hb).1,qaI _,w0⟩
  ·rintro n s4 ⟨i,ys,its,k,H4,I4,rv,st4,fr4,hlen,w4⟩
   have hps:∀ p ∈ [(D,({ cls:=.type "list",data:=.seq its.toArray k }:Obj))],p.1=D:=λp hp=>by
    have:=qay.mp hp
    rw [this]
   rcases turn i n ys H4 w4 with⟨stop,qn⟩ | ⟨go,hlt,N,hN,step⟩
   ·-- the end
    have TD:=T.done X' (by rw [<-hX'];rfl) (by rw [<-hX'];rfl) (by rw [<-hX'];rfl) (by rw [<-hX'];exact hc) i _ s4 (emb σ) H4 (λ_ _=>False) I4 (hfpX fr4 hps) st4 stop
    rw [show X'.A=X.A by rw [<-hX'];rfl] at TD
    refine thn TD λr s5 ⟨hr,I5⟩=>?_
    subst hr
    obtain⟨m5,hn5,_⟩:=id I5.loc
    have eC:X'.env.locals=D+1:=by rw [<-hX'];rfl
    rw [eC] at hn5
    suffices inv5:∀ h',Heap.SameBut (D+1) s5.heap h'->Inv X pins σ (upd H4 D (.lst ys)) { s5 with heap:=h' } by
     have I5X:Inv X pins σ (upd H4 D (.lst ys)) s5:=inv5 s5.heap ⟨rfl,λ_ _=>rfl⟩
     have hD4':H4 D=none:=(I5.pin (D,{ cls:=.type "list",data:=.seq its.toArray k }) (by rw [<-hX'];exact qat _ qah)).2.1
     have hC4:upd H4 D (.lst ys) (D+1)=none:=by
      have:=I5.free
      rw [eC] at this
      rw [aw (qa4 (qbt D))]
      exact this
     have fpC:∀ b ∈ [D+1],gR X pins (upd H4 D (.lst ys)) b:=λb hb=>by
      have e:=qay.mp hb
      subst e
      exact I2.fpOk (by rw [hD];exact qcm D) hC4
     obtain⟨oC,esC,epC,getC,datC,relC⟩:=id hn5
     have I5p:=I5X.pinned fpC λb hb=>by
      have e:=qay.mp hb
      subst e
      exact⟨oC,getC,λv z=>by rw [datC] at z;cases z⟩
     refine qhm (e8 I5p hN0 hi0 hx0 (v:=.ref D) rfl (λs6 I6=>?_) hf0)
     have pC:=(I6.pin (D+1,oC) (qat _ (qat _ (cL qah getC)))).1
     refine⟨m5,⟨oC,esC,epC,pC,datC,relC⟩,λh' hsb=>?_⟩
     have I6u:=I6.unpinned
     exact⟨_,_,I6u.turns (t':=s6.toks) fpC (λb o hb e=>(hsb.2 b (λz=>hb (by rw [z];exact qah))).trans e),qn D hD4'⟩
    intro h' hsb
    have pD5:=I5.pin (D,{ cls:=.type "list",data:=.seq its.toArray k }) (by rw [<-hX'];exact qat _ qah)
    have neC:∀ b u,H4 b=some u->b≠D+1:=λb u e z=>by
     have:=I5.free
     rw [eC,<-z,e] at this
     cases this
    have hD4:H4 D=none:=pD5.2.1
    have un:=I5.base
    have un':Un (frs X.stack) fp H2 H4 s2.heap s5.heap:=by rw [<-hX'] at un;exact un
    have old_ne:∀ b o,s2.heap.get? b=some o->b≠D/\b≠D+1:=λb o e=>by
     have q:=qak e
     rw [hD] at q
     exact⟨qam q,qam (qaF q)⟩
    have h2D:H2 D=none:=by rw [<-hD];exact I2.fresh
    have hok':HOk X.prog X.w H4 h':=λb u e=>by
     have ob:bT X.prog X.w H4 s5.heap b u:=by have:=I5.hok b u e;rw [<-hX'] at this;exact this
     refine ob.stay (λc v hcv q=>(hsb.2 c ?_).trans q) (λ_ q=>q) λ_ _ q=>q
     rcases hcv with z | z
     ·rw [z];exact neC b u e
     ·exact neC c _ z
    have hokD:HOk X.prog X.w (upd H4 D (.lst ys)) h':=λb u e=>by
     by_cases hb:b=D
     ·subst hb
      rw [aI] at e
      cases e
      exact⟨hlen,its,k,rv,(hsb.2 b (qam (qbt _))).trans pD5.1⟩
     ·rw [aw hb] at e
      refine (hok' b u e).stay (λ_ _ _ q=>q) (λc q=>?_) λc z q=>?_
      all_goals first
       | (rw [aw (ax q hD4)];exact q)
       | (rw [aw (ax z hD4)];exact z)
    refine I2.call' (s':={ s5 with heap:=h' }) (ch:=fp) ?_ ⟨λb o e nb hb hx=>?_,λb o e nb hb hx=>?_,λb o e nb hx=>?_,λb o e hx=>?_,λb xs e=>?_,λb o u e=>?_,λb ps e=>?_⟩ hokD I5.bare (λb hb=>?_)
    ·have:=I5.os
     rw [<-hX'] at this
     exact this
    ·exact (hsb.2 b (old_ne b o e).2).trans (un'.keep b o e nb hb hx)
    ·obtain⟨sl,q⟩:=un'.slot b o e nb hb hx
     exact⟨sl,(hsb.2 b (old_ne b o e).2).trans q⟩
    ·rw [aw (old_ne b o e).1]
     exact un'.free b o e nb hx
    ·obtain⟨o',q⟩:=un'.there b o e hx
     exact⟨o',(hsb.2 b (old_ne b o e).2).trans q⟩
    ·rw [aw (ax e h2D)]
     exact un'.tups b xs e
    ·rw [aw (ax e h2D)]
     exact un'.frzs b o u e
    ·obtain⟨m,q⟩:=un'.tbls b ps e
     exact⟨m,by rw [aw (ax e h2D)];exact q⟩
    ·obtain⟨q0,q1,q2,q3,q4,q5⟩:=f2 b hb
     exact⟨q3,q1,q4,q5⟩
   ·-- a turn
    have hA:X'.A=X.A:=by rw [<-hX'];rfl
    have hP:X'.prog=X.prog:=by rw [<-hX'];rfl
    have hw:X'.w=X.w:=by rw [<-hX'];rfl
    have hE:X'.env=compEnvC scope cells (D+1) X.env:=by rw [<-hX'];rfl
    have hxe:X'.xe=λ_ _=>False:=by rw [<-hX'];rfl
    have TI':=T.item X' hP hw (by rw [<-hX'];rfl) (by rw [<-hX'];exact hc) i _ s4 (emb σ) H4 (λ_ _=>False) I4 (hfpX fr4 hps) st4 go
    rw [hA] at TI'
    refine thn TI' λr s5 ⟨u,hr,h5⟩=>?_
    subst hr
    refine thn h5 λ_ s6 ⟨x,H6,I6,r6,y6,st6,fr6⟩=>?_
    have I6':=I6.pinned (hfpX fr6 hps) (T.obj _ _ st6)
    have G:=hg cells s2 H2 (D+1) fp
    have TT':=ht cells s2 H2 (D+1) fp
    have EE:=he cells s2 H2 (D+1) fp
    rw [hX'] at G TT' EE
    have G':=G _ s6 (emb σ) H6 x u _ I6' r6 (step x H6 y6)
    rw [hA,hP,hw,hE,hxe] at G'
    refine thn G' λ_ s7 ⟨σ7,H7,I7,sb7,q7⟩=>?_
    have T':=TT' _ s7 σ7 H7 _ I7 q7
    rw [hA,hP,hw,hE,hxe] at T'
    refine thn T' λok s8 ⟨H8,I8,q8⟩=>?_
    -- what is pinned
    have pin_fp:∀ {σ9:St}{H9:Hp}{s9:Shared},Inv X' ([(D,({ cls:=.type "list",data:=.seq its.toArray k }:Obj))]++jk fp s6.heap) σ9 H9 s9->tn (i+1) s9.heap/\∀ b ∈ fp,H9 b=none:=λ{σ9 H9 s9} I9=>
     ⟨T.keep _ _ _ st6 λb hb o e=>(I9.pin (b,o) (qat _ (qat _ (cL hb e)))).1,λb hb=>by
      obtain⟨o,e,_⟩:=T.obj _ _ st6 b hb
      exact (I9.pin (b,o) (qat _ (qat _ (cL hb e)))).2.1⟩
    cases ok with
    | false=>
     rw [if_neg (by decide)] at q8
     rw [if_neg (by decide)]
     obtain⟨m',hm,w8⟩:=hN _ _ q8
     exact⟨m',hm,i+1,ys,its,k,H8,I8.unpinned.weak sb7.1 sb7.2,rv,(pin_fp I8).1,(pin_fp I8).2,hlen,w8⟩
    | true=>
     rw [if_pos rfl] at q8
     rw [if_pos rfl]
     have E':=EE _ s8 σ7 H8 _ I8 q8
     rw [hA,hP,hw,hE,hxe] at E'
     refine thn E' λy s9 ⟨v9,H9,I9,r9,n9⟩=>?_
     obtain⟨m',hm,w9⟩:=hN _ _ n9
     have pD9:=I9.pin (D,{ cls:=.type "list",data:=.seq its.toArray k }) (qat _ (qbJ _ qah))
     have hl:=rv.length
     have I9n:Inv X' [] σ7 H9 s9:=I9.pins_of λp hp=>nomatch hp
     refine qcN qeW ⟨_,pD9.1,rfl⟩ qeO (qeC _ _) (qeL D its.toArray k y (by rw [qas];lia)) ⟨pD9.1,?_⟩
     have up:∃ k':Nat,(s9.heap.update D (Obj.mapSeq λxs=>xs.push y)).get? D=some { cls:=.type "list",data:=.seq (its++[y]).toArray k' }:=by
      have q:=qez pD9.1 (λxs:Array Value=>xs.push y)
      simp only [qgN] at q
      exact⟨_,q⟩
     obtain⟨k',up⟩:=up
     have hoth:∀ b o,b≠D->s9.heap.get? b=some o->(s9.heap.update D (Obj.mapSeq λxs=>xs.push y)).get? b=some o:=λb o hb e=>(qa6 s9.heap _ (qbR hb)).trans e
     have I10:=I9n.turned (t':=s9.toks) hoth pD9.2.1 Dloc Dex Dcell (λp hp=>absurd (show p ∈ ([]:List (Addr×Obj)) by rw [<-hX'] at hp;exact hp) (by simp))
     refine⟨m',hm,i+1,ys++[v9],its++[y],k',H9,(I10.weak sb7.1 sb7.2).pins_of (λp hp=>?_),rv.append (.cons r9 .nil),T.keep _ _ _ (pin_fp I9).1 (λb hb o e=>hoth b o (by rw [<-hD];exact qam (fplt b hb)) e),(pin_fp I9).2,?_,w9⟩
     ·have:=qay.mp hp
      subst this
      exact⟨up,pD9.2.1,Dloc,Dfs,λv z=>by cases z⟩
     ·rw [qaK,qd4]
      lia
  ·have q:lo={ cls:=.type "list",data:=.seq ([]:List Value).toArray 0 }:=hlo.symm
   rw [<-q]
   exact I3
  ·exact T.keep _ _ _ st2 λb hb o e=>qcH _ _ b o (qad _ (qad _ e))
 refine qgL ?_ ?_
 ·exact loop _ rfl
 ·refine T.self X.A 0 _ _ _ (T.keep _ _ _ st2 λb hb o e=>qcH _ _ b o (qad _ (qad _ e))) ?_
  exact loop _ rfl
end
noncomputable def az:Expr->Bool
 | .Starred _ _=>false
 | _=>true
theorem aN {e:Expr}{es:List Expr}{env:Env} (h:az e=true):starEach (e::es) env=(false,eval e env)::starEach es env:=by
 cases e<;>first | (cases h;done) | rfl
theorem cb {pos:Pos}{env:Env}:∀ {es:List Expr},es.all az=true->(backTo pos (starEach es env)).any (·.1)=false
 | [],_=>by simp [starEach,backTo]
 | e::es,h=>by
  rw [qbg,qaL] at h
  rw [aN h.1]
  have:=cb (pos:=pos) (env:=env) h.2
  unfold backTo at this ⊢
  rw [qaj,qbU,this]
  rfl
theorem xK {pos:Pos}{env:Env}{es:List Expr} (h:es.all az=true) (hl:es.length < 30):((backTo pos (starEach es env)).all (λx=>!x.1) && (backToKw pos (keywordEach [] env)).all (λx=>x.1.isSome)
   && decide (es.length+([]:List Keyword).length+(if ([]:List Keyword).isEmpty then 0 else 1) < 30))=true:=by
 have h1:(backTo pos (starEach es env)).all (λx=>!x.1)=true:=by
  have:=cb (pos:=pos) (env:=env) h
  rw [qaw]
  intro x hx
  rw [qgP] at this
  simpa using this x hx
 have h2:(backToKw pos (keywordEach [] env)).all (λx=>x.1.isSome)=true:=by simp [keywordEach,backToKw]
 rw [h1,h2]
 simpa using hl
theorem kW {e:Expr}{env:Env} (h:az e=true):starEach [e] env=[(false,eval e env)]:=by rw [aN h];rfl
noncomputable def vJ:Expr->Bool
 | .UnaryOp .Not _ _=>false
 | .BoolOp _ _ _=>false
 | .IfExp _ _ _ _=>false
 | .Compare _ _ _ _=>false
 | _=>true
theorem vz {a:Expr}{env:Env} (h:vJ a=true):∀ whole,PySem.isTrue a env whole=(do let v <-whole;standAt a.pos;holding [v] (truthy v)):=by
 intro whole
 cases a with
 | UnaryOp op x p=>cases op<;>first | (cases h;done) | rfl
 | BoolOp _ _ _=>cases h
 | IfExp _ _ _ _=>cases h
 | Compare _ _ _ _=>cases h
 | _=>rfl
theorem kQ {t:Expr}{ts:List Expr}{env:Env} (h:az t=true):assignEach (t::ts) env=(false,assign t env)::assignEach ts env:=by
 cases t<;>first | (cases h;done) | rfl
theorem nW {env:Env}:∀ {ts:List Expr},ts.all az=true->(assignEach ts env).length=ts.length
 | [],_=>by simp [assignEach]
 | t::ts,h=>by
  rw [qbg,qaL] at h
  rw [kQ h.1,qaq,nW h.2,qaq]
theorem lA {env:Env}:∀ {ts:List Expr},ts.all az=true->(assignEach ts env).findIdx? (·.1)=none
 | [],_=>by simp [assignEach]
 | t::ts,h=>by
  rw [qbg,qaL] at h
  rw [kQ h.1,List.findIdx?_cons,lA h.2]
  rfl
theorem sQ {t:Expr}{ts:List Expr}{env:Env} (h:az t=true):(assignEach (t::ts) env).map (·.2)=assign t env::(assignEach ts env).map (·.2):=by rw [kQ h];rfl
theorem ul {t:Expr}{env:Env} (h:az t=true):(assignEach [t] env).map (·.2)=[assign t env]:=by rw [sQ h];simp [assignEach]
noncomputable def jg:Expr->Bool
 | .Slice _ _ _ _=>false
 | _=>true
theorem uc {o i:Expr}{pos:Pos}{env:Env} (h:jg i=true) (v:Value):assign (.Subscript o i pos) env v=(do
   let ov <-holding [v] (eval o env)
   let iv <-holding [v,ov] (eval i env)
   standAt pos
   holding [v,ov,iv] (setItem ov iv v)
   release [v,ov,iv] []):=by
 cases i<;>first | (cases h;done) | rfl
theorem qT {i:Expr} (h:jg i=true):ur i:=by
 intro o j
 cases i<;>first | (cases h;done) | rfl
inductive D where
 | non | bl (b:Bool) | int (i:Int) | str (x:Str) | ty (n:String) | dct | scr (ns:List Int) | tup (ds:List D) | lst (ds:List D)
 deriving Inhabited
inductive W where
 | d (x:D) | h (n:Nat)
 deriving Inhabited
inductive C where
 | l (ds:List D) | n (ws:List W) | m (kvs:List (List Int×D)) | k (kvs:List (Int×D))
 deriving Inhabited
abbrev Sto:=List C
noncomputable def lg (st:Sto) (n:Nat):Option (List D):=match st[n]? with
 | some (.l ds)=>some ds
 | _=>none
noncomputable def eU (l:List Int):List Key:=l.map Sum.inl
abbrev Ev:=List (Option W)
noncomputable def KLs (K:PySem.W.Frag) (a:Addr) (xs:List V):Prop:=
 ∃ (o:Obj) (its:Array Value) (n:Nat),K.lookup a=some o/\o.cls=.type "list"/\o.dict=none/\o.data=.seq its n/\its.size<=sizeLine/\av xs its.toList
section
variable (K:PySem.W.Frag) (H:Hp) (φ:List Addr)
mutual
noncomputable def Rl:D->V->Prop
 | .non,v=>v=.non
 | .bl b,v=>v=.bl b
 | .int i,v=>v=.int i
 | .str x,v=>v=.str x
 | .ty n,v=>v=.ty n
 | .dct,v=>∃ a,v=.ref a/\a ∉ φ/\((∃ d,H a=some (.dK d))\/∃ d,H a=some (.dT d))
 | .scr ns,v=>∃ a,v=.ref a/\((∃ o,H a=some (.frz o (.lst (ns.map V.int))))\/KLs K a (ns.map V.int))
 | .tup ds,v=>∃ a vs,v=.ref a/\H a=some (.tup vs)/\Rls ds vs
 | .lst ds,v=>∃ a vs,v=.ref a/\a ∉ φ/\Rd H a (.lst vs)/\Rls ds vs
noncomputable def Rls:List D->List V->Prop
 | [],vs=>vs=[]
 | d::ds,vs=>∃ v r,vs=v::r/\Rl d v/\Rls ds r
end
noncomputable def Rw:W->V->Prop
 | .d x,v=>Rl K H φ x v
 | .h n,v=>∃ a,φ[n]?=some a/\v=.ref a
noncomputable def Rws:List W->List V->Prop
 | [],vs=>vs=[]
 | d::ds,vs=>∃ v r,vs=v::r/\Rw K H φ d v/\Rws ds r
noncomputable def Rkv:List (List Int×D)->List (List Key×V)->Prop
 | [],vs=>vs=[]
 | (k,d)::ds,vs=>∃ v r,vs=(eU k,v)::r/\Rl K H φ d v/\Rkv ds r
noncomputable def Rkk:List (Int×D)->List (Key×V)->Prop
 | [],vs=>vs=[]
 | (k,d)::ds,vs=>∃ v r,vs=(Sum.inl k,v)::r/\Rl K H φ d v/\Rkk ds r
noncomputable def Rc (k:Nat) (a:Addr):C->Prop
 | .l ds=>∃ vs,H a=some (.lst vs)/\Rls K H φ ds vs
 | .n ws=>∃ vs,H a=some (.lst vs)/\Rws K H φ ws vs/\∀ m,W.h m ∈ ws->m < k
 | .m kvs=>∃ vs,H a=some (.dT vs)/\Rkv K H φ kvs vs
 | .k kvs=>∃ vs,H a=some (.dK vs)/\Rkk K H φ kvs vs
structure Sr (st:Sto):Prop where
 nd:φ.Nodup
 len:φ.length=st.length
 at_:∀ (n:Nat) a c,φ[n]?=some a->st[n]?=some c->Rc K H φ n a c
structure Er (env:Ev) (σ:St):Prop where
 len:env.length=σ.length
 at_:∀ (i:Nat) w,env[i]?=some (some w)->∃ v,σ[i]?=some (some v)/\Rw K H φ w v
end
structure Fw (φ φ':List Addr) (H H':Hp):Prop where
 ext:∃ ψ,φ'=φ++ψ/\∀ a ∈ ψ,H a=none
 keep:∀ b o,b ∉ φ->H b=some o->H' b=some o
 there:∀ b o,H b=some o->∃ o',H' b=some o'
section
variable {K:PySem.W.Frag}{H H1 H2 H':Hp}{φ φ1 φ2 φ':List Addr}{st st':Sto}
theorem Fw.refl (φ:List Addr) (H:Hp):Fw φ φ H H:=⟨⟨[],by simp,by simp⟩,λ_ _ _ h=>h,λ_ o h=>⟨o,h⟩⟩
theorem Fw.trans (a:Fw φ φ1 H H1) (b:Fw φ1 φ2 H1 H2):Fw φ φ2 H H2:=by
 obtain⟨ψ,rfl,e1⟩:=a.ext
 obtain⟨ψ2,rfl,e2⟩:=b.ext
 refine⟨⟨ψ++ψ2,by rw [qbD],λc hc=>?_⟩,λc o hc h=>?_,λc o h=>?_⟩
 ·rcases qbx.mp hc with z | z
  ·exact e1 c z
  ·cases q:H c with
   | none=>rfl
   | some o=>
    obtain⟨o',q'⟩:=a.there c o q
    rw [e2 c z] at q';cases q'
 ·refine b.keep c o (λz=>?_) (a.keep c o hc h)
  rcases qbx.mp z with z | z
  ·exact hc z
  ·rw [e1 c z] at h;cases h
 ·obtain⟨o',q⟩:=a.there c o h
  exact b.there c o' q
theorem Fw.same (s:bm H H'):Fw φ φ H H':=⟨⟨[],by simp,by simp⟩,λb o _ h=>s b o h,λb o h=>⟨o,s b o h⟩⟩
theorem Fw.new {p:Addr}{o:HO} (hp:H p=none):Fw φ φ H (upd H p o):=.same (bm.new hp o)
theorem Fw.get (f:Fw φ φ' H H') {n:Nat}{a:Addr} (h:φ[n]?=some a):φ'[n]?=some a:=by
 obtain⟨ψ,rfl,_⟩:=f.ext
 rw [qaM (qax.mp h).1];exact h
theorem Fw.nin (f:Fw φ φ' H H') {a:Addr}{o:HO} (h:a ∉ φ) (q:H a=some o):a ∉ φ':=by
 obtain⟨ψ,rfl,e⟩:=f.ext
 intro z
 rcases qbx.mp z with z | z
 ·exact h z
 ·rw [e a z] at q;cases q
noncomputable def Cc:HO->Bool
 | .lst _=>true
 | .dT _=>true
 | .dK _=>true
 | _=>false
theorem Rc.ob {k:Nat}{a:Addr}{c:C} (h:Rc K H φ k a c):∃ o,H a=some o/\Cc o=true:=by
 cases c with
 | l ds=>obtain⟨vs,q,_⟩:=h;exact⟨_,q,rfl⟩
 | n ds=>obtain⟨vs,q,_⟩:=h;exact⟨_,q,rfl⟩
 | m ds=>obtain⟨vs,q,_⟩:=h;exact⟨_,q,rfl⟩
 | k ds=>obtain⟨vs,q,_⟩:=h;exact⟨_,q,rfl⟩
theorem Sr.lst (S:Sr K H φ st) {a:Addr} (h:a ∈ φ):∃ o,H a=some o/\Cc o=true:=by
 obtain⟨n,hn,e⟩:=qcc.mp h
 have hs:n < st.length:=by rw [<-S.len];exact hn
 exact (S.at_ n a st[n] (by rw [qaH hn,e]) (by rw [qaH hs])).ob
theorem ue {st:Sto}{n:Nat}{ds:List D} (h:lg st n=some ds):st[n]?=some (.l ds):=by
 unfold lg at h
 split at h
 ·rename_i q;cases h;exact q
 ·cases h
theorem Sr.atl (S:Sr K H φ st) (n:Nat) (a:Addr) (ds:List D) (e1:φ[n]?=some a) (e2:lg st n=some ds):∃ vs,H a=some (.lst vs)/\Rls K H φ ds vs:=S.at_ n a _ e1 (ue e2)
theorem Sr.nin (S:Sr K H φ st) {a:Addr} (h:H a=none):a ∉ φ:=λz=>by
 obtain⟨vs,q,_⟩:=S.lst z
 rw [q] at h;cases h
theorem Rd.nin (S:Sr K H φ st) {a:Addr}{vs:List V} (h:Rd H a (.tup vs)):a ∉ φ:=λz=>by
 obtain⟨ws,q,qm⟩:=S.lst z
 rcases h with h | ⟨o,h⟩<;>(rw [q] at h;cases h;cases qm)
theorem Rd.fw (f:Fw φ φ' H H') {a:Addr}{u:HO} (hn:a ∉ φ) (h:Rd H a u):Rd H' a u:=by
 rcases h with h | ⟨o,h⟩
 ·exact .inl (f.keep _ _ hn h)
 ·exact .inr ⟨o,f.keep _ _ hn h⟩
theorem SqT.fw (S:Sr K H φ st) (f:Fw φ φ' H H') {a:Addr}{vs:List V} (h:SqT K H a vs):SqT K H' a vs:=by
 rcases h with h | h
 ·exact .inl (f.keep _ _ (Rd.nin S (.inl h)) h)
 ·exact .inr h
theorem Rd.some {a:Addr}{u:HO} (h:Rd H a u):∃ o,H a=some o:=by
 rcases h with h | ⟨o,h⟩
 ·exact⟨_,h⟩
 ·exact⟨_,h⟩
mutual
theorem Rl.fw (S:Sr K H φ st) (f:Fw φ φ' H H'):∀ {d:D}{v:V},Rl K H φ d v->Rl K H' φ' d v
 | .non,_,h=>h
 | .bl _,_,h=>h
 | .int _,_,h=>h
 | .str _,_,h=>h
 | .ty _,_,h=>h
 | .dct,_,h=>by
  obtain⟨a,rfl,hn,h⟩:=h
  rcases h with⟨d,h⟩ | ⟨d,h⟩
  ·exact⟨a,rfl,f.nin hn h,.inl ⟨d,f.keep _ _ hn h⟩⟩
  ·exact⟨a,rfl,f.nin hn h,.inr ⟨d,f.keep _ _ hn h⟩⟩
 | .scr ns,_,h=>by
  obtain⟨a,rfl,h⟩:=h
  refine⟨a,rfl,?_⟩
  rcases h with⟨o,h⟩ | h
  ·refine .inl ⟨o,f.keep _ _ (λz=>?_) h⟩
   obtain⟨ws,q,qm⟩:=S.lst z
   rw [q] at h;cases h;cases qm
  ·exact .inr h
 | .tup ds,_,h=>by
  obtain⟨a,vs,rfl,h1,h2⟩:=h
  exact⟨a,vs,rfl,f.keep _ _ (Rd.nin S (.inl h1)) h1,Rls.fw S f h2⟩
 | .lst ds,_,h=>by
  obtain⟨a,vs,rfl,h0,h1,h2⟩:=h
  obtain⟨o,e⟩:=h1.some
  exact⟨a,vs,rfl,f.nin h0 e,h1.fw f h0,Rls.fw S f h2⟩
theorem Rls.fw (S:Sr K H φ st) (f:Fw φ φ' H H'):∀ {ds:List D}{vs:List V},Rls K H φ ds vs->Rls K H' φ' ds vs
 | [],_,h=>h
 | d::ds,_,h=>by
  obtain⟨v,r,rfl,h1,h2⟩:=h
  exact⟨v,r,rfl,Rl.fw S f h1,Rls.fw S f h2⟩
end
theorem Rw.fw (S:Sr K H φ st) (f:Fw φ φ' H H') {w:W}{v:V} (h:Rw K H φ w v):Rw K H' φ' w v:=by
 cases w with
 | d x=>exact Rl.fw S f h
 | h n=>obtain⟨a,e,rfl⟩:=h;exact⟨a,f.get e,rfl⟩
theorem Rws.fw (S:Sr K H φ st) (f:Fw φ φ' H H'):∀ {ws:List W}{vs:List V},Rws K H φ ws vs->Rws K H' φ' ws vs
 | [],_,h=>h
 | d::ds,_,h=>by
  obtain⟨v,r,rfl,h1,h2⟩:=h
  exact⟨v,r,rfl,h1.fw S f,Rws.fw S f h2⟩
theorem Er.fw (S:Sr K H φ st) (f:Fw φ φ' H H') {env:Ev}{σ:St} (h:Er K H φ env σ):Er K H' φ' env σ:=
 ⟨h.len,λi w e=>let ⟨v,e1,r⟩:=h.at_ i w e;⟨v,e1,r.fw S f⟩⟩
theorem Rkv.fw (S:Sr K H φ st) (f:Fw φ φ' H H'):∀ {ds:List (List Int×D)}{vs:List (List Key×V)},Rkv K H φ ds vs->Rkv K H' φ' ds vs
 | [],_,h=>h
 | (k,d)::ds,_,h=>by
  obtain⟨v,r,rfl,h1,h2⟩:=h
  exact⟨v,r,rfl,Rl.fw S f h1,Rkv.fw S f h2⟩
theorem Rkk.fw (S:Sr K H φ st) (f:Fw φ φ' H H'):∀ {ds:List (Int×D)}{vs:List (Key×V)},Rkk K H φ ds vs->Rkk K H' φ' ds vs
 | [],_,h=>h
 | (k,d)::ds,_,h=>by
  obtain⟨v,r,rfl,h1,h2⟩:=h
  exact⟨v,r,rfl,Rl.fw S f h1,Rkk.fw S f h2⟩
theorem Rc.fw (S:Sr K H φ st) (f:Fw φ φ' H H') {k:Nat}{a:Addr}{c:C} (e:∀ o,H a=some o->H' a=some o) (h:Rc K H φ k a c):Rc K H' φ' k a c:=by
 cases c with
 | l ds=>obtain⟨vs,q,r⟩:=h;exact⟨vs,e _ q,r.fw S f⟩
 | n ds=>obtain⟨vs,q,r,b⟩:=h;exact⟨vs,e _ q,r.fw S f,b⟩
 | m ds=>obtain⟨vs,q,r⟩:=h;exact⟨vs,e _ q,r.fw S f⟩
 | k ds=>obtain⟨vs,q,r⟩:=h;exact⟨vs,e _ q,r.fw S f⟩
theorem Sr.same (S:Sr K H φ st) (s:bm H H'):Sr K H' φ st:=
 ⟨S.nd,S.len,λn a c e1 e2=>(S.at_ n a c e1 e2).fw S (Fw.same s) λo h=>s _ _ h⟩
theorem Sr.new (S:Sr K H φ st) {p:Addr}{o:HO} (hp:H p=none):Sr K (upd H p o) φ st:=S.same (bm.new hp o)
theorem Rls.length:∀ {ds:List D}{vs:List V},Rls K H φ ds vs->ds.length=vs.length
 | [],_,h=>by cases h;rfl
 | d::ds,_,h=>by
  obtain⟨v,r,rfl,h1,h2⟩:=h
  rw [qaq,qaq,Rls.length h2]
theorem Rws.length:∀ {ds:List W}{vs:List V},Rws K H φ ds vs->ds.length=vs.length
 | [],_,h=>by cases h;rfl
 | d::ds,_,h=>by
  obtain⟨v,r,rfl,h1,h2⟩:=h
  rw [qaq,qaq,Rws.length h2]
theorem Rls.append:∀ {ds es:List D}{vs us:List V},Rls K H φ ds vs->Rls K H φ es us->Rls K H φ (ds++es) (vs++us)
 | [],_,_,_,h,h'=>by cases h;exact h'
 | d::ds,_,_,_,h,h'=>by
  obtain⟨v,r,rfl,h1,h2⟩:=h
  exact⟨v,r++_,rfl,h1,Rls.append h2 h'⟩
theorem Rls.get:∀ {ds:List D}{vs:List V},Rls K H φ ds vs->∀ {i:Nat}{d:D},ds[i]?=some d->∃ v,vs[i]?=some v/\Rl K H φ d v
 | [],_,h,i,d,e=>by simp at e
 | d::ds,_,h,i,e,q=>by
  obtain⟨v,r,rfl,h1,h2⟩:=h
  cases i with
  | zero=>simp at q;subst q;exact⟨v,rfl,h1⟩
  | succ i=>simpa using Rls.get h2 (i:=i) (d:=e) (by simpa using q)
theorem Rls.take:∀ {ds:List D}{vs:List V} (n:Nat),Rls K H φ ds vs->Rls K H φ (ds.take n) (vs.take n)
 | _,_,0,_=>by rw [qej,qej];exact rfl
 | [],_,n+1,h=>by cases h;exact rfl
 | d::ds,_,n+1,h=>by
  obtain⟨v,r,rfl,h1,h2⟩:=h
  exact⟨v,_,rfl,h1,Rls.take n h2⟩
theorem Rls.drop:∀ {ds:List D}{vs:List V} (n:Nat),Rls K H φ ds vs->Rls K H φ (ds.drop n) (vs.drop n)
 | _,_,0,h=>h
 | [],_,n+1,h=>by cases h;exact rfl
 | d::ds,_,n+1,h=>by
  obtain⟨v,r,rfl,h1,h2⟩:=h
  exact Rls.drop n h2
theorem Rls.set:∀ {ds:List D}{vs:List V} (n:Nat) {d:D}{v:V},Rls K H φ ds vs->Rl K H φ d v->Rls K H φ (ds.set n d) (vs.set n v)
 | [],_,_,_,_,h,_=>by cases h;exact rfl
 | e::ds,_,0,d,v,h,hd=>by
  obtain⟨u,r,rfl,h1,h2⟩:=h
  exact⟨v,r,rfl,hd,h2⟩
 | e::ds,_,n+1,d,v,h,hd=>by
  obtain⟨u,r,rfl,h1,h2⟩:=h
  exact⟨u,_,rfl,h1,Rls.set n h2 hd⟩
theorem Rls.rep {ds:List D}{vs:List V} (h:Rls K H φ ds vs):∀ k:Nat,Rls K H φ (List.replicate k ds).flatten (List.replicate k vs).flatten
 | 0=>rfl
 | k+1=>by rw [qbr,qbr,qbW,qbW];exact h.append (Rls.rep h k)
theorem Rls.ints:∀ {ns:List Int}{vs:List V},Rls K H φ (ns.map D.int) vs->vs=ns.map V.int
 | [],_,h=>h
 | n::ns,_,h=>by
  obtain⟨v,r,rfl,h1,h2⟩:=h
  rw [show v=.int n from h1,Rls.ints h2];rfl
theorem Rls.bools:∀ {ns:List Bool}{vs:List V},Rls K H φ (ns.map D.bl) vs->vs=ns.map V.bl
 | [],_,h=>h
 | n::ns,_,h=>by
  obtain⟨v,r,rfl,h1,h2⟩:=h
  rw [show v=.bl n from h1,Rls.bools h2];rfl
theorem Rls.of_ints:∀ (ns:List Int),Rls K H φ (ns.map D.int) (ns.map V.int)
 | []=>rfl
 | n::ns=>⟨_,_,rfl,rfl,Rls.of_ints ns⟩
theorem Rl.less {ψ:List Addr}:∀ {d:D}{v:V},Rl K H (φ++ψ) d v->Rl K H φ d v:=by
 intro d v
 refine (?_:∀ v,Rl K H (φ++ψ) d v->Rl K H φ d v) v
 refine D.rec (motive_1:=λd=>∀ v,Rl K H (φ++ψ) d v->Rl K H φ d v) (motive_2:=λds=>∀ vs,Rls K H (φ++ψ) ds vs->Rls K H φ ds vs) ?_ ?_ ?_ ?_ ?_ ?_ ?_ ?_ ?_ ?_ ?_ d
 ·exact λv h=>h
 ·exact λb v h=>h
 ·exact λb v h=>h
 ·exact λb v h=>h
 ·exact λb v h=>h
 ·rintro v ⟨a,e,hn,h⟩;exact⟨a,e,λz=>hn (qbJ _ z),h⟩
 ·exact λns v h=>h
 ·rintro ds ih v ⟨a,vs,rfl,h1,h2⟩;exact⟨a,vs,rfl,h1,ih vs h2⟩
 ·rintro ds ih v ⟨a,vs,rfl,h0,h1,h2⟩;exact⟨a,vs,rfl,λz=>h0 (qbJ _ z),h1,ih vs h2⟩
 ·exact λvs h=>h
 ·rintro d ds ih1 ih2 vs ⟨v,r,rfl,h1,h2⟩;exact⟨v,r,rfl,ih1 v h1,ih2 r h2⟩
theorem Rls.less {ψ:List Addr}:∀ {ds:List D}{vs:List V},Rls K H (φ++ψ) ds vs->Rls K H φ ds vs
 | [],_,h=>h
 | d::ds,_,h=>by
  obtain⟨v,r,rfl,h1,h2⟩:=h
  exact⟨v,r,rfl,Rl.less h1,Rls.less h2⟩
theorem Rkv.less {ψ:List Addr}:∀ {ds:List (List Int×D)}{vs:List (List Key×V)},Rkv K H (φ++ψ) ds vs->Rkv K H φ ds vs
 | [],_,h=>h
 | (k,d)::ds,_,h=>by
  obtain⟨v,r,rfl,h1,h2⟩:=h
  exact⟨v,r,rfl,Rl.less h1,Rkv.less h2⟩
theorem Rkk.less {ψ:List Addr}:∀ {ds:List (Int×D)}{vs:List (Key×V)},Rkk K H (φ++ψ) ds vs->Rkk K H φ ds vs
 | [],_,h=>h
 | (k,d)::ds,_,h=>by
  obtain⟨v,r,rfl,h1,h2⟩:=h
  exact⟨v,r,rfl,Rl.less h1,Rkk.less h2⟩
theorem Rws.less {ψ:List Addr}:∀ {ds:List W}{vs:List V},(∀ m,W.h m ∈ ds->m < φ.length)->Rws K H (φ++ψ) ds vs->Rws K H φ ds vs
 | [],_,_,h=>h
 | d::ds,_,hm,h=>by
  obtain⟨v,r,rfl,h1,h2⟩:=h
  refine⟨v,r,rfl,?_,Rws.less (λm z=>hm m (qaf _ z)) h2⟩
  cases d with
  | d x=>exact Rl.less h1
  | h m=>
   obtain⟨a,e,rfl⟩:=h1
   rw [qaM (hm m qah)] at e
   exact⟨a,e,rfl⟩
theorem Rc.less {ψ:List Addr}{k:Nat}{a:Addr}{c:C} (hk:k < φ.length) (h:Rc K H (φ++ψ) k a c):Rc K H φ k a c:=by
 cases c with
 | l ds=>obtain⟨vs,q,r⟩:=h;exact⟨vs,q,r.less⟩
 | n ds=>obtain⟨vs,q,r,b⟩:=h;exact⟨vs,q,r.less λm z=>qd9 (b m z) hk,b⟩
 | m ds=>obtain⟨vs,q,r⟩:=h;exact⟨vs,q,r.less⟩
 | k ds=>obtain⟨vs,q,r⟩:=h;exact⟨vs,q,r.less⟩
theorem Sr.less {ψ:List Addr} (S:Sr K H (φ++ψ) st):Sr K H φ (st.take φ.length):=by
 have hl:=S.len
 rw [qaK] at hl
 refine⟨(qdI.mp S.nd).1,by rw [qcQ];lia,λn a ds e1 e2=>?_⟩
 have hn:=(qax.mp e1).1
 rw [qfP hn] at e2
 exact (S.at_ n a ds (by rw [qaM hn];exact e1) e2).less hn
end
end L2
namespace L2
open PySem PySem.Spec PyProof.Rows
abbrev Ef:=Ev->Sto->Option (W×Sto)
abbrev Af:=Ev->Sto->Option (List W×Sto)
abbrev Tf:=Ev->Sto->Option (Bool×Sto)
abbrev Lf:=Ev->Sto->Option (List D×Sto)
abbrev Fn:=List W->Sto->Option (W×Sto)
section
variable (K:PySem.W.Frag)
noncomputable def tI (env:Ev) (st:Sto) (r:W×Sto):TE:=λσ H Q=>∃ φ,Er K H φ env σ/\Sr K H φ st/\∀ v H' φ',Fw φ φ' H H'->Sr K H' φ' r.2->Rw K H' φ' r.1 v->Q v H'
noncomputable def tIA (env:Ev) (st:Sto) (r:List W×Sto):TA:=λσ H Q=>∃ φ,Er K H φ env σ/\Sr K H φ st/\∀ vs H' φ',Fw φ φ' H H'->Sr K H' φ' r.2->Rws K H' φ' r.1 vs->Q vs H'
noncomputable def tIT (env:Ev) (st:Sto) (r:Bool×Sto):TT:=λσ H Q=>∃ φ,Er K H φ env σ/\Sr K H φ st/\∀ H' φ',Fw φ φ' H H'->Sr K H' φ' r.2->Q r.1 H'
noncomputable def tIL (env:Ev) (st:Sto) (r:List D×Sto):TE:=λσ H Q=>∃ φ,Er K H φ env σ/\Sr K H φ st/\∀ a vs H1 φ',Fw φ φ' H H1->Sr K H1 φ' r.2->H1 a=none->Rls K H1 φ' r.1 vs->Q (.ref a) (upd H1 a (.lst vs))
structure IE (X:Cx) (e:Expr) (f:Ef):Prop where
 run:∀ env st r,f env st=some r->PE X e (tI K env st r)
structure IA (X:Cx) (es:List Expr) (f:Af):Prop where
 run:∀ env st r,f env st=some r->PA X es (tIA K env st r)
structure IT (X:Cx) (e:Expr) (f:Tf):Prop where
 run:∀ env st r,f env st=some r->PT X e (tIT K env st r)
structure ITW (X:Cx) (e:Expr) (f:Tf):Prop where
 run:∀ env st r,f env st=some r->PW X e (tIT K env st r)
structure IL (X:Cx) (e:Expr) (f:Lf):Prop where
 run:∀ env st r,f env st=some r->PE X e (tIL K env st r)
noncomputable def rD (st:Sto) (x y:W) (d:D):R2:=λvx vy H Q=>∃ φ,Sr K H φ st/\Rw K H φ x vx/\Rw K H φ y vy/\∀ v H',bm H H'->Rl K H' φ d v->Q v H'
structure OpD (X:Cx) (f:Value->Value->Sem Value) (g:Sto->W->W->Option D):Prop where
 run:∀ st x y d,g st x y=some d->OpR X f (rD K st x y d)
noncomputable def rCD (st:Sto) (ws:List W) (d:D):List V->Hp->VK->Prop:=λvs H Q=>∃ φ,Sr K H φ st/\Rws K H φ ws vs/\∀ v H',bm H H'->Rl K H' φ d v->Q v H'
structure fN (X:Cx) (f:Value) (g:Sto->List W->Option D):Prop where
 run:∀ st ws d,g st ws=some d->bS X f (rCD K st ws d)
noncomputable def rCL (st:Sto) (ws:List W) (ds:List D):List V->Hp->VK->Prop:=λvs H Q=>∃ φ,Sr K H φ st/\Rws K H φ ws vs/\∀ a us H1,bm H H1->H1 a=none->Rls K H1 φ ds us->Q (.ref a) (upd H1 a (.lst us))
structure Ag (X:Cx) (f:Value) (g:Sto->List W->Option (List D)):Prop where
 run:∀ st ws d,g st ws=some d->bS X f (rCL K st ws d)
end
noncomputable def iV (i:Nat):Ef
 | env,st=>(env.getD i none).map λw=>(w,st)
noncomputable def iC (d:D):Ef
 | _,st=>some (.d d,st)
noncomputable def iOp (g:Sto->W->W->Option D) (a b:Ef):Ef
 | env,st=>(a env st).bind λx=>(b env x.2).bind λy=>(g y.2 x.1 y.1).map λd=>(.d d,y.2)
noncomputable def og:D->Option Bool
 | .bl b=>some b
 | _=>none
noncomputable def blW:W->Option Bool
 | .d (.bl b)=>some b
 | _=>none
noncomputable def bR (g:Sto->W->W->Option D) (a b:Ef):Tf
 | env,st=>(a env st).bind λx=>(b env x.2).bind λy=>(g y.2 x.1 y.1).bind λd=>(og d).map λk=>(k,y.2)
noncomputable def iUn (g:W->Option D) (a:Ef):Ef
 | env,st=>(a env st).bind λx=>(g x.1).map λd=>(.d d,x.2)
noncomputable def pj (a b:Ef):Ef
 | env,st=>(a env st).bind λx=>(blW x.1).bind λk=>if k=true then b env x.2 else some (.d (.bl false),x.2)
noncomputable def nU (c:Tf) (a b:Ef):Ef
 | env,st=>(c env st).bind λr=>if r.1=true then a env r.2 else b env r.2
noncomputable def gf (c:Tf):Tf
 | env,st=>(c env st).map λr=>(!r.1,r.2)
noncomputable def nk (a b:Tf):Tf
 | env,st=>(a env st).bind λr=>if r.1=true then b env r.2 else some (false,r.2)
noncomputable def i7 (a b:Tf):Tf
 | env,st=>(a env st).bind λr=>if r.1=true then some (true,r.2) else b env r.2
noncomputable def jY (g:Sto->W->Option Bool) (a:Ef):Tf
 | env,st=>(a env st).bind λx=>(g x.2 x.1).map λk=>(k,x.2)
noncomputable def ak:Af
 | _,st=>some ([],st)
noncomputable def ae (a:Ef) (r:Af):Af
 | env,st=>(a env st).bind λx=>(r env x.2).map λy=>(x.1::y.1,y.2)
noncomputable def iCB (g:Sto->List W->Option D) (a:Af):Ef
 | env,st=>(a env st).bind λr=>(g r.2 r.1).map λd=>(.d d,r.2)
noncomputable def iCL (g:Sto->List W->Option (List D)) (a:Af):Lf
 | env,st=>(a env st).bind λr=>(g r.2 r.1).map λd=>(d,r.2)
noncomputable def bw (m:Fn) (a:Af):Ef
 | env,st=>(a env st).bind λr=>m r.1 r.2
noncomputable def jf:List W->Option (List D)
 | []=>some []
 | .d x::ws=>(jf ws).map λr=>x::r
 | .h _::_=>none
noncomputable def dB (a:Af):Ef
 | env,st=>(a env st).bind λr=>(jf r.1).bind λds=>if ds.length<=1000 then some (.d (.tup ds),r.2) else none
noncomputable def gx (a:Af):Lf
 | env,st=>(a env st).bind λr=>(jf r.1).bind λds=>if ds.length<=1000 then some (ds,r.2) else none
noncomputable def aH (a:Lf):Ef
 | env,st=>(a env st).map λr=>(.d (.lst r.1),r.2)
noncomputable def nP (a:Lf):Ef
 | env,st=>(a env st).map λr=>(.h r.2.length,r.2++[.l r.1])
section
variable {K:PySem.W.Frag}{X:Cx}{e a b c:Expr}{es:List Expr}{pos:Pos}{f fa fb fc:Ef}
theorem PE.imp {t t':TE} (h:PE X e t) (m:∀ σ H Q,t' σ H Q->t σ H Q):PE X e t':=λpins s σ H Q I q=>h pins s σ H Q I (m σ H Q q)
theorem PT.imp {t t':TT} (h:PT X e t) (m:∀ σ H Q,t' σ H Q->t σ H Q):PT X e t':=λpins s σ H Q I q=>h pins s σ H Q I (m σ H Q q)
theorem PW.imp {t t':TT} (h:PW X e t) (m:∀ σ H Q,t' σ H Q->t σ H Q):PW X e t':=λwh pins s σ H Q I q=>h wh pins s σ H Q I (m σ H Q q)
theorem PA.imp {t t':TA} (h:PA X es t) (m:∀ σ H Q,t' σ H Q->t σ H Q):PA X es t':=λpos pins s σ H Q I q=>h pos pins s σ H Q I (m σ H Q q)
theorem OpR.imp {g:Value->Value->Sem Value}{r r':R2} (h:OpR X g r) (m:∀ x y H Q,r' x y H Q->r x y H Q):OpR X g r':=λpins s σ H x y v u Q I rx ry q=>h pins s σ H x y v u Q I rx ry (m _ _ _ _ q)
theorem bS.imp {g:Value}{r r':List V->Hp->VK->Prop} (h:bS X g r) (m:∀ xs H Q,r' xs H Q->r xs H Q):bS X g r':=λpins s σ H xs us Q I rx q=>h pins s σ H xs us Q I rx (m _ _ _ q)
theorem lI:PE X e (λ_ _ _=>False):=λ_ _ _ _ _ _ q=>q.elim
theorem qj:PW X e (λ_ _ _=>False):=λ_ _ _ _ _ _ _ q=>q.elim
theorem A1 {i:Nat}{x:Str}{t:TE} (h:PE X (.Name x pos) (Az i)):IE K X (.Name x pos) (iV i):=by
 refine⟨λenv st r hr=>?_⟩
 unfold iV at hr
 obtain⟨w,hw,rfl⟩:=qae.mp hr
 refine h.imp ?_
 rintro σ H Q ⟨φ,hE,hS,q⟩
 have hi:env[i]?=some (some w):=by
  rw [List.getD] at hw
  cases q:env[i]? with
  | none=>rw [q] at hw;cases hw
  | some o=>rw [q] at hw;rw [show o=some w from hw]
 obtain⟨v,e1,r⟩:=hE.at_ i w hi
 exact⟨v,e1,q v H φ (Fw.refl φ H) hS r⟩
theorem iv (i:Nat) {x:Str} (hN:X.N[i]?=some x:=by rfl) (hv:Vis X.env.scope x:=by first | exact Or.inl rfl | exact Or.inr (Or.inl rfl) | exact Or.inr (Or.inr rfl)) (hd:(x==("__debug__" : Str))=false:=by decide)
  (hcd:(x==("__classdict__" : Str))=false:=by decide):IE K X (.Name x pos) (iV i):=A1 (t:=Az i) (Bi hN hv hd hcd)
theorem zy {d:D}{v:V} (h:PE X e (tC v)) (r:∀ H φ,Rl K H φ d v):IE K X e (iC d):=by
 refine⟨λenv st r hr=>?_⟩
 cases hr
 refine h.imp ?_
 rintro σ H Q ⟨φ,hE,hS,q⟩
 exact q v H φ (Fw.refl φ H) hS (r H φ)
theorem ah {i j}:IE K X (.Constant (.int i) j pos) (iC (.int i)):=zy Bz λ_ _=>rfl
theorem lR {i j}:IE K X (.Constant (.bool i) j pos) (iC (.bl i)):=zy Cl λ_ _=>rfl
theorem mm {x j}:IE K X (.Constant (.str x) j pos) (iC (.str x)):=zy Ar λ_ _=>rfl
theorem nR {env:Ev}{st:Sto}{x y:W×Sto}{d:D}{σ:St}{H:Hp}{Q:VK} (h:tI K env st (.d d,y.2) σ H Q):tOp (rD K y.2 x.1 y.1 d) (tI K env st x) (tI K env x.2 y) σ H Q:=by
 obtain⟨φ,hE,hS,q⟩:=h
 refine⟨φ,hE,hS,λv H1 φ1 f1 s1 w1=>⟨φ1,hE.fw hS f1,s1,λu H2 φ2 f2 s2 w2=>⟨φ2,s2,w1.fw s1 f2,w2,λv3 H3 f3 w3=>?_⟩⟩⟩
 exact q v3 H3 φ2 ((f1.trans f2).trans (Fw.same f3)) (s2.same f3) w3
theorem aR {op:Operator}{g:Sto->W->W->Option D} (ho:OpD K X (binaryOp op) g) (ha:IE K X a fa) (hb:IE K X b fb):IE K X (.BinOp a op b pos) (iOp g fa fb):=by
 refine⟨λenv st r hr=>?_⟩
 simp only [iOp,qac,qae] at hr
 obtain⟨x,hx,y,hy,d,hd,rfl⟩:=hr
 exact (Dg (ho.run _ _ _ _ hd) (ha.run _ _ _ hx) (hb.run _ _ _ hy)).imp λσ H Q h=>nR h
theorem fK {op:CmpOp}{g:Sto->W->W->Option D} (ho:OpD K X (compareOp op) g) (ha:IE K X a fa) (hb:IE K X b fb) (hm:behindInMarks op b=false):IE K X (.Compare a [op] [b] pos) (iOp g fa fb):=by
 refine⟨λenv st r hr=>?_⟩
 simp only [iOp,qac,qae] at hr
 obtain⟨x,hx,y,hy,d,hd,rfl⟩:=hr
 exact (yr (ho.run _ _ _ _ hd) (ha.run _ _ _ hx) (hb.run _ _ _ hy) hm).imp λσ H Q h=>nR h
theorem vh {d:D}{k:Bool} (h:og d=some k):d=.bl k:=by
 cases d<;>first | (cases h;done) | (injection h with h;subst h;rfl)
theorem wE {d:W}{k:Bool} (h:blW d=some k):d=.d (.bl k):=by
 cases d with
 | h n=>cases h
 | d x=>cases x<;>first | (cases h;done) | (injection h with h;subst h;rfl)
theorem bQ {op:CmpOp}{g:Sto->W->W->Option D} (ho:OpD K X (compareOp op) g) (ha:IE K X a fa) (hb:IE K X b fb) (hm:behindInMarks op b=false):IT K X (.Compare a [op] [b] pos) (bR g fa fb):=by
 refine⟨λenv st r hr=>?_⟩
 simp only [bR,qac,qae] at hr
 obtain⟨x,hx,y,hy,d,hd,k,hk,rfl⟩:=hr
 cases vh hk
 refine (zk (ho.run _ _ _ _ hd) (ha.run _ _ _ hx) (hb.run _ _ _ hy) hm).imp λσ H Q h=>?_
 obtain⟨φ,hE,hS,q⟩:=h
 refine nR ⟨φ,hE,hS,λv H1 φ1 f1 s1 w1=>⟨k,w1,q H1 φ1 f1 s1⟩⟩
noncomputable def sC:W->Option D
 | .d (.int i)=>some (.int (-i))
 | _=>none
theorem rN (ha:IE K X a fa):IE K X (.UnaryOp .USub a pos) (iUn sC fa):=by
 refine⟨λenv st r hr=>?_⟩
 simp only [iUn,qac,qae] at hr
 obtain⟨⟨x,s1⟩,hx,d,hd,rfl⟩:=hr
 cases x with
 | h n=>cases hd
 | d x=>
  cases x with
  | int i=>
   cases hd
   refine (Dm BS (ha.run _ _ _ hx)).imp ?_
   rintro σ H Q ⟨φ,hE,hS,q⟩
   exact⟨φ,hE,hS,λv H1 φ1 f1 s1 w1=>⟨i,w1,q _ H1 φ1 f1 s1 rfl⟩⟩
  | _=>cases hd
theorem Bb {op} (h:IE K X a fa):IE K X (.BoolOp op [a] pos) fa:=⟨λenv st r hr=>Au (h.run env st r hr)⟩
theorem A7 {rest:List Expr} (ha:IE K X a fa) (hb:IE K X (.BoolOp .And (b::rest) pos) fb):IE K X (.BoolOp .And (a::b::rest) pos) (pj fa fb):=by
 refine⟨λenv st r hr=>?_⟩
 simp only [pj,qac] at hr
 obtain⟨x,hx,k,hk,hr⟩:=hr
 have e:=wE hk
 cases k with
 | false=>
  rw [if_neg qal] at hr
  cases hr
  refine (xi (ha.run _ _ _ hx) lI).imp ?_
  rintro σ H Q ⟨φ,hE,hS,q⟩
  refine⟨φ,hE,hS,λv H1 φ1 f1 s1 w1=>⟨false,by rw [e] at w1;exact w1,?_⟩⟩
  rw [if_neg qal]
  exact q _ H1 φ1 f1 s1 rfl
 | true=>
  rw [if_pos rfl] at hr
  refine (xi (ha.run _ _ _ hx) (hb.run _ _ _ hr)).imp ?_
  rintro σ H Q ⟨φ,hE,hS,q⟩
  refine⟨φ,hE,hS,λv H1 φ1 f1 s1 w1=>⟨true,by rw [e] at w1;exact w1,?_⟩⟩
  rw [if_pos rfl]
  exact⟨φ1,hE.fw hS f1,s1,λu H2 φ2 f2 s2 w2=>q u H2 φ2 (f1.trans f2) s2 w2⟩
variable {ta tb:Tf}
theorem jq (ha:IT K X a ta):IT K X (.UnaryOp .Not a pos) (gf ta):=by
 refine⟨λenv st r hr=>?_⟩
 simp only [gf,qae] at hr
 obtain⟨x,hx,rfl⟩:=hr
 refine (A6 (ha.run _ _ _ hx)).imp ?_
 rintro σ H Q ⟨φ,hE,hS,q⟩
 exact⟨φ,hE,hS,λH1 φ1 f1 s1=>q H1 φ1 f1 s1⟩
theorem lS (h:ITW K X a ta):IT K X a ta:=⟨λenv st r hr=>(h.run env st r hr).pt⟩
theorem xM (h:IT K X a ta):ITW K X (.BoolOp .And [a] pos) ta:=⟨λenv st r hr=>yS (h.run env st r hr)⟩
theorem kB (h:IT K X a ta):ITW K X (.BoolOp .Or [a] pos) ta:=⟨λenv st r hr=>Av (h.run env st r hr)⟩
theorem yL {rest:List Expr} (ha:IT K X a ta) (hb:ITW K X (.BoolOp .And (b::rest) pos) tb):ITW K X (.BoolOp .And (a::b::rest) pos) (nk ta tb):=by
 refine⟨λenv st r hr=>?_⟩
 simp only [nk,qac] at hr
 obtain⟨⟨k,s1⟩,hx,hr⟩:=hr
 cases k with
 | false=>
  rw [if_neg qal] at hr
  cases hr
  refine (wn (ha.run _ _ _ hx) qj).imp ?_
  rintro σ H Q ⟨φ,hE,hS,q⟩
  refine⟨φ,hE,hS,λH1 φ1 f1 s1=>?_⟩
  refine u9 ?_
  exact q H1 φ1 f1 s1
 | true=>
  rw [if_pos rfl] at hr
  refine (wn (ha.run _ _ _ hx) (hb.run _ _ _ hr)).imp ?_
  rintro σ H Q ⟨φ,hE,hS,q⟩
  refine⟨φ,hE,hS,λH1 φ1 f1 s1=>?_⟩
  refine uH ?_
  exact⟨φ1,hE.fw hS f1,s1,λH2 φ2 f2 s2=>q H2 φ2 (f1.trans f2) s2⟩
theorem gh {rest:List Expr} (ha:IT K X a ta) (hb:ITW K X (.BoolOp .Or (b::rest) pos) tb):ITW K X (.BoolOp .Or (a::b::rest) pos) (i7 ta tb):=by
 refine⟨λenv st r hr=>?_⟩
 simp only [i7,qac] at hr
 obtain⟨⟨k,s1⟩,hx,hr⟩:=hr
 cases k with
 | true=>
  rw [if_pos rfl] at hr
  cases hr
  refine (z0 (ha.run _ _ _ hx) qj).imp ?_
  rintro σ H Q ⟨φ,hE,hS,q⟩
  refine⟨φ,hE,hS,λH1 φ1 f1 s1=>?_⟩
  refine uH ?_
  exact q H1 φ1 f1 s1
 | false=>
  rw [if_neg qal] at hr
  refine (z0 (ha.run _ _ _ hx) (hb.run _ _ _ hr)).imp ?_
  rintro σ H Q ⟨φ,hE,hS,q⟩
  refine⟨φ,hE,hS,λH1 φ1 f1 s1=>?_⟩
  refine u9 ?_
  exact⟨φ1,hE.fw hS f1,s1,λH2 φ2 f2 s2=>q H2 φ2 (f1.trans f2) s2⟩
theorem Ae {tc:Tf} (hc:IT K X c tc) (ha:IE K X a fa) (hb:IE K X b fb):IE K X (.IfExp c a b pos) (nU tc fa fb):=by
 refine⟨λenv st r hr=>?_⟩
 simp only [nU,qac] at hr
 obtain⟨⟨k,s1⟩,hx,hr⟩:=hr
 cases k with
 | true=>
  rw [if_pos rfl] at hr
  refine (qH (hc.run _ _ _ hx) (ha.run _ _ _ hr) lI).imp ?_
  rintro σ H Q ⟨φ,hE,hS,q⟩
  refine⟨φ,hE,hS,λH1 φ1 f1 s1=>?_⟩
  refine uH ?_
  exact⟨φ1,hE.fw hS f1,s1,λu H2 φ2 f2 s2 w2=>q u H2 φ2 (f1.trans f2) s2 w2⟩
 | false=>
  rw [if_neg qal] at hr
  refine (qH (hc.run _ _ _ hx) lI (hb.run _ _ _ hr)).imp ?_
  rintro σ H Q ⟨φ,hE,hS,q⟩
  refine⟨φ,hE,hS,λH1 φ1 f1 s1=>?_⟩
  refine u9 ?_
  exact⟨φ1,hE.fw hS f1,s1,λu H2 φ2 f2 s2 w2=>q u H2 φ2 (f1.trans f2) s2 w2⟩
noncomputable def eV (st:Sto):W->Option (List D)
 | .d (.tup ds)=>some ds
 | .d (.lst ds)=>some ds
 | .d (.scr ns)=>some (ns.map D.int)
 | .h n=>lg st n
 | _=>none
theorem pe {st:Sto}{H:Hp}{φ:List Addr}{w:W}{v:V}{ds:List D} (S:Sr K H φ st) (r:Rw K H φ w v) (e:eV st w=some ds):∃ a vs,v=.ref a/\(SqL K H a vs\/H a=some (.tup vs))/\Rls K H φ ds vs:=by
 cases w with
 | h n=>
  obtain⟨a,ea,rfl⟩:=r
  obtain⟨vs,q,rl⟩:=S.atl n a ds ea e
  exact⟨a,vs,rfl,.inl (SqL.of q),rl⟩
 | d x=>
  cases x with
  | tup es=>cases e;obtain⟨a,vs,rfl,h1,h2⟩:=r;exact⟨a,vs,rfl,.inr h1,h2⟩
  | lst es=>cases e;obtain⟨a,vs,rfl,h0,h1,h2⟩:=r;exact⟨a,vs,rfl,.inl (.inl h1),h2⟩
  | scr ns=>
   cases e
   obtain⟨a,rfl,h⟩:=r
   refine⟨a,_,rfl,.inl ?_,Rls.of_ints ns⟩
   rcases h with⟨o,h⟩ | h
   ·exact .inl (.inr ⟨o,h⟩)
   ·exact .inr h
  | _=>cases e
theorem iD {st:Sto}{H:Hp}{φ:List Addr}{w:W}{v:V}{ds:List D} (S:Sr K H φ st) (r:Rw K H φ w v) (e:eV st w=some ds):∃ a vs,v=.ref a/\(SqL K H a vs\/SqT K H a vs)/\Rls K H φ ds vs:=by
 obtain⟨a,vs,h0,h1,h2⟩:=pe S r e
 exact⟨a,vs,h0,h1.imp id SqT.of,h2⟩
noncomputable def jV (st:Sto):W->Option Bool
 | .d .non=>some false
 | .d (.bl b)=>some b
 | .d (.int i)=>some (i != 0)
 | w=>(eV st w).map λds=>!ds.isEmpty
theorem za {st:Sto}{H:Hp}{φ:List Addr}{w:W}{v:V}{k:Bool} (S:Sr K H φ st) (r:Rw K H φ w v) (e:jV st w=some k):yR K v H k:=by
 have seq:∀ ds,eV st w=some ds->k=!ds.isEmpty->yR K v H k:=λds h hk=>by
  obtain⟨a,vs,rfl,h1,h2⟩:=iD S r h
  have hl:=h2.length
  have e':k=!vs.isEmpty:=by
   rw [hk]
   cases ds<;>cases vs<;>first | rfl | cases hl
  rcases h1 with h1 | h1
  ·exact .inl ⟨vs,h1,e'⟩
  ·exact .inr (.inl ⟨vs,h1,e'⟩)
 cases w with
 | h n=>
  obtain⟨ds,h1,h2⟩:=qae.mp e
  exact seq ds h1 h2.symm
 | d x=>
  cases x with
  | non=>have r':v=.non:=r;subst r';cases e;exact rfl
  | bl b=>have r':v=.bl b:=r;subst r';cases e;exact rfl
  | int i=>have r':v=.int i:=r;subst r';cases e;exact rfl
  | tup ds=>exact seq ds rfl (qaD e).symm
  | lst ds=>exact seq ds rfl (qaD e).symm
  | scr ds=>exact seq _ rfl (qaD e).symm
  | _=>cases e
theorem ik (ha:IE K X a fa) (he:vJ a=true:=by rfl) (hK:X.K=K:=by rfl):IT K X a (jY jV fa):=by
 subst hK
 refine⟨λenv st r hr=>?_⟩
 simp only [jY,qac,qae] at hr
 obtain⟨x,hx,k,hk,rfl⟩:=hr
 refine (wI (ha.run _ _ _ hx) (vz he)).imp ?_
 rintro σ H Q ⟨φ,hE,hS,q⟩
 exact⟨φ,hE,hS,λv H1 φ1 f1 s1 w1=>⟨k,za s1 w1 hk,q H1 φ1 f1 s1⟩⟩
variable {af:Af}
theorem ai:IA K X [] ak:=by
 refine⟨λenv st r hr=>?_⟩
 cases hr
 refine BZ.imp ?_
 rintro σ H Q ⟨φ,hE,hS,q⟩
 exact q [] H φ (Fw.refl φ H) hS rfl
theorem aa (ha:IE K X e fa) (hr:IA K X es af) (hs:az e=true:=by rfl):IA K X (e::es) (ae fa af):=by
 refine⟨λenv st r h=>?_⟩
 simp only [ae,qac,qae] at h
 obtain⟨x,hx,y,hy,rfl⟩:=h
 refine (yq (ha.run _ _ _ hx) (hr.run _ _ _ hy) (aN hs)).imp ?_
 rintro σ H Q ⟨φ,hE,hS,q⟩
 refine⟨φ,hE,hS,λv H1 φ1 f1 s1 w1=>⟨φ1,hE.fw hS f1,s1,λu H2 φ2 f2 s2 w2=>?_⟩⟩
 exact q _ H2 φ2 (f1.trans f2) s2 ⟨v,u,rfl,w1.fw s1 f2,w2⟩
theorem bZ {x:Str}{id:String}{p:Pos}{g:Sto->List W->Option D} (hc:fN K X (.builtin id) g) (hg:Gl X x) (hm:X.mg x=none) (hv:bootBuiltins x=some (.builtin id)) (ha:IA K X (e::es) af)
  (hn:x≠"__name__":=by decide) (hdb:(x==("__debug__" : Str))=false:=by decide) (hs:az e=true:=by rfl) (hp:es.all az=true:=by rfl) :
  IE K X (.Call (.Name x p) (e::es) [] pos) (iCB g af):=by
 refine⟨λenv st r hr=>?_⟩
 simp only [iCB,qac,qae] at hr
 obtain⟨y,hy,d,hd,rfl⟩:=hr
 refine (ly (hc.run _ _ _ hd) hg hm hv (ha.run _ _ _ hy) hn hdb (aN hs) (cb hp)).imp ?_
 rintro σ H Q ⟨φ,hE,hS,q⟩
 exact⟨φ,hE,hS,λv H1 φ1 f1 s1 w1=>⟨φ1,s1,w1,λu H2 f2 w2=>q u H2 φ1 (f1.trans (Fw.same f2)) (s1.same f2) w2⟩⟩
theorem kF {x:Str}{T:String}{p:Pos}{g:Sto->List W->Option D} (hc:fN K X (.type T) g) (hg:Gl X x) (hm:X.mg x=none) (hv:bootBuiltins x=some (.type T)) (ha:IA K X (e::es) af)
  (hn:x≠"__name__":=by decide) (hdb:(x==("__debug__" : Str))=false:=by decide) (hs:az e=true:=by rfl) (hp:es.all az=true:=by rfl) :
  IE K X (.Call (.Name x p) (e::es) [] pos) (iCB g af):=by
 refine⟨λenv st r hr=>?_⟩
 simp only [iCB,qac,qae] at hr
 obtain⟨y,hy,d,hd,rfl⟩:=hr
 refine (vi (hc.run _ _ _ hd) hg hm hv (ha.run _ _ _ hy) hn hdb (aN hs) (cb hp)).imp ?_
 rintro σ H Q ⟨φ,hE,hS,q⟩
 exact⟨φ,hE,hS,λv H1 φ1 f1 s1 w1=>⟨φ1,s1,w1,λu H2 f2 w2=>q u H2 φ1 (f1.trans (Fw.same f2)) (s1.same f2) w2⟩⟩
theorem CY {x:Str}{id:String}{p:Pos}{g:Sto->List W->Option (List D)} (hc:Ag K X (.builtin id) g) (hg:Gl X x) (hm:X.mg x=none) (hv:bootBuiltins x=some (.builtin id)) (ha:IA K X (e::es) af)
  (hn:x≠"__name__":=by decide) (hdb:(x==("__debug__" : Str))=false:=by decide) (hs:az e=true:=by rfl) (hp:es.all az=true:=by rfl) :
  IL K X (.Call (.Name x p) (e::es) [] pos) (iCL g af):=by
 refine⟨λenv st r hr=>?_⟩
 simp only [iCL,qac,qae] at hr
 obtain⟨y,hy,d,hd,rfl⟩:=hr
 refine (ly (hc.run _ _ _ hd) hg hm hv (ha.run _ _ _ hy) hn hdb (aN hs) (cb hp)).imp ?_
 rintro σ H Q ⟨φ,hE,hS,q⟩
 exact⟨φ,hE,hS,λv H1 φ1 f1 s1 w1=>⟨φ1,s1,w1,λa us H2 f2 n2 w2=>q a us H2 φ1 (f1.trans (Fw.same f2)) (s1.same f2) n2 w2⟩⟩
theorem ms {H:Hp}{φ:List Addr}:∀ {ws:List W}{vs:List V}{ds:List D},jf ws=some ds->Rws K H φ ws vs->Rls K H φ ds vs
 | [],_,_,e,h=>by cases e;exact h
 | .d x::ws,_,_,e,h=>by
  obtain⟨v,r,rfl,h1,h2⟩:=h
  obtain⟨es,e1,rfl⟩:=qae.mp e
  exact⟨v,r,rfl,h1,ms e1 h2⟩
 | .h n::ws,_,_,e,h=>by cases e
theorem d8 {x1} (h:IA K X es af):IE K X (.Tuple es x1 pos) (dB af):=by
 refine⟨λenv st r hr=>?_⟩
 simp only [dB,qac] at hr
 obtain⟨y,hy,ds,hd,hr⟩:=hr
 split at hr
 ·cases hr
  rename_i hl
  refine (BY (h.run _ _ _ hy)).imp ?_
  rintro σ H Q ⟨φ,hE,hS,q⟩
  refine⟨φ,hE,hS,λvs H1 φ1 f1 s1 w1=>?_⟩
  have w:=ms hd w1
  refine⟨by rw [<-w.length];exact fz hl,λp hp=>?_⟩
  exact q _ _ φ1 (f1.trans (Fw.new hp)) (s1.new hp) ⟨p,vs,rfl,aI,w.fw s1 (Fw.new hp)⟩
 ·cases hr
theorem jm (h:IA K X es af):IL K X (.List es pos) (gx af):=by
 refine⟨λenv st r hr=>?_⟩
 simp only [gx,qac] at hr
 obtain⟨y,hy,ds,hd,hr⟩:=hr
 split at hr
 ·cases hr
  rename_i hl
  refine (wX (h.run _ _ _ hy)).imp ?_
  rintro σ H Q ⟨φ,hE,hS,q⟩
  refine⟨φ,hE,hS,λvs H1 φ1 f1 s1 w1=>?_⟩
  have w:=ms hd w1
  exact⟨by rw [<-w.length];exact fz hl,λp hp=>q p vs H1 φ1 f1 s1 hp w⟩
 ·cases hr
theorem bo {lf:Lf} (h:IL K X e lf):IE K X e (aH lf):=by
 refine⟨λenv st r hr=>?_⟩
 simp only [aH,qae] at hr
 obtain⟨y,hy,rfl⟩:=hr
 refine (h.run _ _ _ hy).imp ?_
 rintro σ H Q ⟨φ,hE,hS,q⟩
 refine⟨φ,hE,hS,λa vs H1 φ1 f1 s1 n1 w1=>?_⟩
 exact q _ _ φ1 (f1.trans (Fw.new n1)) (s1.new n1) ⟨a,vs,rfl,s1.nin n1,.inl aI,w1.fw s1 (Fw.new n1)⟩
theorem Sr.moreC {H:Hp}{φ:List Addr}{st:Sto}{a:Addr}{o:HO}{c:C} (S:Sr K H φ st) (n:H a=none) (w:Rc K (upd H a o) (φ++[a]) φ.length a c):Sr K (upd H a o) (φ++[a]) (st++[c]):=by
 have f:Fw φ (φ++[a]) H (upd H a o):=⟨⟨[a],rfl,λb hb=>by rw [qay.mp hb];exact n⟩,λb o _ h=>bm.new n _ b o h,λb o h=>⟨o,bm.new n _ b o h⟩⟩
 refine⟨?_,by rw [qaK,qaK,S.len];rfl,λi b es e1 e2=>?_⟩
 ·rw [qdI]
  refine⟨S.nd,by simp,λx hx y hy e=>?_⟩
  rw [qay.mp hy] at e
  rw [e] at hx
  exact S.nin n hx
 ·by_cases hi:i < φ.length
  ·rw [qaM hi] at e1
   rw [qaM (by rw [<-S.len];exact hi)] at e2
   exact (S.at_ i b es e1 e2).fw S f λo h=>bm.new n _ _ _ h
  ·have e:i=φ.length:=by
    have:=(qax.mp e1).1
    rw [qaK] at this
    simp at this
    lia
   subst e
   rw [qa1 (qan _)] at e1
   rw [S.len,qa1 (qan _)] at e2
   simp at e1 e2
   subst e1 e2
   exact w
theorem Fw.moreO {H:Hp}{φ:List Addr}{a:Addr}{o:HO} (n:H a=none):Fw φ (φ++[a]) H (upd H a o):=
 ⟨⟨[a],rfl,λb hb=>by rw [qay.mp hb];exact n⟩,λb o _ h=>bm.new n _ b o h,λb o h=>⟨o,bm.new n _ b o h⟩⟩
theorem Fw.more {H:Hp}{φ:List Addr}{a:Addr}{vs:List V} (n:H a=none):Fw φ (φ++[a]) H (upd H a (.lst vs)):=Fw.moreO n
theorem Sr.more {H:Hp}{φ:List Addr}{st:Sto}{a:Addr}{vs:List V}{ds:List D} (S:Sr K H φ st) (n:H a=none) (w:Rls K H φ ds vs):Sr K (upd H a (.lst vs)) (φ++[a]) (st++[.l ds]):=
 S.moreC n ⟨vs,aI,w.fw S (Fw.moreO n)⟩
theorem sM {lf:Lf} (h:IL K X e lf):IE K X e (nP lf):=by
 refine⟨λenv st r hr=>?_⟩
 simp only [nP,qae] at hr
 obtain⟨y,hy,rfl⟩:=hr
 refine (h.run _ _ _ hy).imp ?_
 rintro σ H Q ⟨φ,hE,hS,q⟩
 refine⟨φ,hE,hS,λa vs H1 φ1 f1 s1 n1 w1=>?_⟩
 exact q _ _ (φ1++[a]) (f1.trans (Fw.more n1)) (s1.more n1 w1) ⟨a,by rw [<-s1.len];simp,rfl⟩
noncomputable def spI (K:PySem.W.Frag) (m:Fn):Sp:=λvs H Q _=>∃ φ st ws r,m ws st=some r/\Rws K H φ ws vs/\Sr K H φ st/\∀ v H' φ',Fw φ φ' H H'->Sr K H' φ' r.2->Rw K H' φ' r.1 v->Q v H'
theorem bb {x:Str}{k j:Nat}{ff:Addr}{fd:FuncData}{ps:List Str}{m:Fn}{p:Pos} (F:bB X.prog X.w X.K X.mg X.base CX0 j ff fd ps (spI K m)) (hjk:j<=k) (hr:bn k X.A) (hg:Gl X x) (hm:X.mg x=some (.ref ff)) (hk:PySem.W.keepIn X.K (.ref ff)=true) (hb:cm X.K fd ps [])
  (ha:IA K X (e::es) af) (hdb:(x==("__debug__" : Str))=false:=by decide) (hs:az e=true:=by rfl) (hp:es.all az=true:=by rfl) :
  IE K X (.Call (.Name x p) (e::es) [] pos) (bw m af):=by
 refine⟨λenv st r h=>?_⟩
 simp only [bw,qac] at h
 obtain⟨y,hy,h⟩:=h
 refine (zq (F.mono hjk) hr hg hm hk hb .nil Do (ha.run _ _ _ hy) hdb (aN hs) (cb hp)).imp ?_
 rintro σ H Q ⟨φ,hE,hS,q⟩
 refine⟨φ,hE,hS,λvs H1 φ1 f1 s1 w1=>?_⟩
 show spI K m (vs++[]) H1 Q E0
 rw [qcZ]
 exact⟨φ1,y.2,y.1,r,h,w1,s1,λv H2 φ2 f2 s2 w2=>q v H2 φ2 (f1.trans f2) s2 w2⟩
end
inductive Fl where
 | nx (env:Ev) (st:Sto) | rt (w:W) (st:Sto) | bk (env:Ev) (st:Sto) | ct (env:Ev) (st:Sto)
abbrev Sf:=Ev->Sto->Option Fl
noncomputable def xJ (K:PySem.W.Frag) (φ:List Addr) (H:Hp) (D:pI):Fl->Prop
 | .nx e s=>∀ σ' H' φ',Fw φ φ' H H'->Er K H' φ' e σ'->Sr K H' φ' s->D.nx σ' H'
 | .rt w s=>∀ v H' φ',Fw φ φ' H H'->Sr K H' φ' s->Rw K H' φ' w v->D.rt v H'
 | .bk e s=>∀ σ' H' φ',Fw φ φ' H H'->Er K H' φ' e σ'->Sr K H' φ' s->D.bk σ' H'
 | .ct e s=>∀ σ' H' φ',Fw φ φ' H H'->Er K H' φ' e σ'->Sr K H' φ' s->D.ct σ' H'
theorem xJ.fw {K:PySem.W.Frag}{φ φ1:List Addr}{H H1:Hp}{D:pI}{r:Fl} (h:xJ K φ H D r) (f:Fw φ φ1 H H1):xJ K φ1 H1 D r:=by
 cases r with
 | nx e s=>exact λσ' H' φ' f'=>h σ' H' φ' (f.trans f')
 | rt w s=>exact λv H' φ' f'=>h v H' φ' (f.trans f')
 | bk e s=>exact λσ' H' φ' f'=>h σ' H' φ' (f.trans f')
 | ct e s=>exact λσ' H' φ' f'=>h σ' H' φ' (f.trans f')
noncomputable def tS (K:PySem.W.Frag) (env:Ev) (st:Sto) (r:Fl):TS:=λD σ H=>∃ φ,Er K H φ env σ/\Sr K H φ st/\xJ K φ H D r
structure IS (K:PySem.W.Frag) (X:Cx) (s:Stmt) (g:Sf):Prop where
 run:∀ env st r,g env st=some r->PS X s (tS K env st r)
structure ISs (K:PySem.W.Frag) (X:Cx) (s:List Stmt) (g:Sf):Prop where
 run:∀ env st r,g env st=some r->PSs X s (tS K env st r)
inductive Tg where
 | nm (i:Nat) | tp (is:List Nat)
noncomputable def yP:Tg->List Nat
 | .nm i=>[i]
 | .tp is=>is
noncomputable def nG:List Nat->List D->Ev->Ev
 | i::is,d::ds,env=>nG is ds (env.set i (some (.d d)))
 | _,_,env=>env
noncomputable def eX:Tg->W->Ev->Option Ev
 | .nm i,w,env=>some (env.set i (some w))
 | .tp is,.d (.tup ds),env=>if is.length=ds.length then some (nG is ds env) else none
 | .tp is,.d (.lst ds),env=>if is.length=ds.length then some (nG is ds env) else none
 | _,_,_=>none
noncomputable def yZ (is:List Nat) (σ σ':St):Prop:=σ'.length=σ.length/\∀ j,j ∉ is->σ'[j]?=σ[j]?
noncomputable def tG (K:PySem.W.Frag) (g:Tg):TG:=λv σ H Q=>∃ φ st env w env',Er K H φ env σ/\Sr K H φ st/\Rw K H φ w v/\eX g w env=some env'/\∀ σ',Er K H φ env' σ'->yZ (yP g) σ σ'->Q σ' H
noncomputable def tGs (K:PySem.W.Frag) (is:List Nat):TGs:=λvs σ H Q=>∃ φ st env ds,Er K H φ env σ/\Sr K H φ st/\Rls K H φ ds vs/\is.length=ds.length/\∀ σ',Er K H φ (nG is ds env) σ'->yZ is σ σ'->Q σ' H
noncomputable def gA:Sf
 | env,st=>some (.nx env st)
noncomputable def aM (a b:Sf):Sf
 | env,st=>(a env st).bind λr=>match r with
 | .nx e s=>b e s
 | r=>some r
noncomputable def bY (g:Tg) (f:Ef):Sf
 | env,st=>(f env st).bind λr=>(eX g r.1 env).map λe=>.nx e r.2
noncomputable def qM (st:Sto) (o i v:W):Option Sto:=match o,i,v with
 | .h n,.d (.int k),.d x=>(lg st n).bind λds=>(ixN ds.length k).map λj=>st.set n (.l (ds.set j x))
 | _,_,_=>none
noncomputable def lL (o i v:Ef):Sf
 | env,st=>(v env st).bind λrv=>(o env rv.2).bind λro=>(i env ro.2).bind λri=>(qM ri.2 ro.1 ri.1 rv.1).map λs=>.nx env s
noncomputable def cy (f:Ef):Sf
 | env,st=>(f env st).map λr=>.rt r.1 r.2
noncomputable def gY (f:Ef):Sf
 | env,st=>(f env st).map λr=>.nx env r.2
noncomputable def gQ (c:Tf) (a b:Sf):Sf
 | env,st=>(c env st).bind λr=>if r.1=true then a env r.2 else b env r.2
noncomputable def jo (g:Tg) (body:Sf):List D->Ev->Sto->Option Fl
 | [],env,st=>some (.nx env st)
 | d::ds,env,st=>(eX g (.d d) env).bind λe=>(body e st).bind λr=>match r with
  | .nx e s=>jo g body ds e s
  | .ct e s=>jo g body ds e s
  | .bk e s=>some (.nx e s)
  | .rt w s=>some (.rt w s)
noncomputable def jD (fi:Lf) (g:Tg) (body:Sf):Sf
 | env,st=>(fi env st).bind λr=>jo g body r.1 env r.2
noncomputable def eM (c:Tf) (body:Sf):Nat->Ev->Sto->Option Fl
 | 0,_,_=>none
 | n+1,env,st=>(c env st).bind λk=>if k.1=true then (body env k.2).bind λr=>match r with
   | .nx e s=>eM c body n e s
   | .ct e s=>eM c body n e s
   | .bk e s=>some (.nx e s)
   | .rt w s=>some (.rt w s)
  else some (.nx env k.2)
noncomputable def lcI (g:Tg) (tt:Tf) (te:Ef) (env:Ev):List D->Sto->Option (List D×Sto)
 | [],st=>some ([],st)
 | d::ds,st=>(eX g (.d d) env).bind λe=>(tt e st).bind λb=>if b.1=true then (te e b.2).bind λx=>(jf [x.1]).bind λys=>(lcI g tt te env ds x.2).map λr=>(ys++r.1,r.2)
   else lcI g tt te env ds b.2
noncomputable def kh (k:Nat) (js:List Nat) (env:Ev):Ev:=List.replicate k none++js.map λj=>env.getD j none
noncomputable def iLc (k:Nat) (js:List Nat) (fi:Lf) (g:Tg) (tt:Tf) (te:Ef):Lf
 | env,st=>(fi env st).bind λr=>if r.1.length<=1000000 then lcI g tt te (kh k js env) r.1 r.2 else none
noncomputable def dg:Tf
 | _,st=>some (true,st)
noncomputable def aW (f:Ef):Lf
 | env,st=>(f env st).bind λr=>match r.1 with
 | .d (.tup ds)=>some (ds,r.2)
 | .d (.lst ds)=>some (ds,r.2)
 | _=>none
noncomputable def eu (lo:Int) (n:Nat):List D:=(List.range n).map λk:Nat=>D.int (lo+k)
noncomputable def cu (a:Af):Lf
 | env,st=>(a env st).bind λr=>match r.1 with
 | [.d (.int j)]=>if -(2 ^ 62)<=j/\j < 2 ^ 62 then some (eu 0 j.toNat,r.2) else none
 | _=>none
noncomputable def eI:Nat->List D->List D
 | _,[]=>[]
 | k,d::ds=>.tup [.int k,d]::eI (k+1) ds
noncomputable def oE (a:Af):Lf
 | env,st=>(a env st).bind λr=>match r.1 with
 | [.d (.tup ds)]=>some (eI 0 ds,r.2)
 | [.d (.lst ds)]=>some (eI 0 ds,r.2)
 | _=>none
section
variable {K:PySem.W.Frag}{X:Cx}{pos:Pos}
theorem PS.imp {s:Stmt}{t t':TS} (h:PS X s t) (m:∀ D σ H,t' D σ H->t D σ H):PS X s t':=λpins s σ H D I q=>h pins s σ H D I (m D σ H q)
theorem PSs.imp {s:List Stmt}{t t':TS} (h:PSs X s t) (m:∀ D σ H,t' D σ H->t D σ H):PSs X s t':=λpins s σ H D I q=>h pins s σ H D I (m D σ H q)
theorem Er.set {H:Hp}{φ:List Addr}{env:Ev}{σ:St} (h:Er K H φ env σ) (i:Nat) {w:W}{v:V} (r:Rw K H φ w v):Er K H φ (env.set i (some w)) (σ.set i (some v)):=by
 refine⟨by rw [qcg,qcg,h.len],λj w' e=>?_⟩
 by_cases hj:i=j
 ·subst hj
  have hi:i < env.length:=by
   have:=(qax.mp e).1
   rwa [qcg] at this
  rw [qco hi] at e
  cases e
  exact⟨v,by rw [qco (by rw [<-h.len];exact hi)],r⟩
 ·rw [qbS hj] at e
  obtain⟨v',e1,r1⟩:=h.at_ j w' e
  exact⟨v',by rw [qbS hj];exact e1,r1⟩
theorem x9 (i:Nat) (σ:St) (v:Option V):yZ [i] σ (σ.set i v):=⟨by rw [qcg],λj hj=>by rw [qbS (by rintro rfl;simp at hj)]⟩
theorem bK {i:Nat}{x:Str} (h:PG X (.Name x pos) (o9 i)):PG X (.Name x pos) (tG K (.nm i)):=by
 intro pins s σ H v u Q I rv q
 obtain⟨φ,st,env,w,env',hE,hS,r,e,q⟩:=q
 cases e
 exact h pins s σ H v u Q I rv (q _ (hE.set i r) (x9 i σ _))
theorem gG:PGs X [] (tGs K []):=by
 intro pins s σ H vs us Q I rv q
 obtain⟨φ,st,env,ds,hE,hS,r,e,q⟩:=q
 cases ds with
 | nil=>cases r;exact ym pins s σ H [] us Q I rv ⟨rfl,q σ hE ⟨rfl,λ_ _=>rfl⟩⟩
 | cons _ _=>cases e
theorem ca {i:Nat}{is:List Nat}{x:Str}{es:List Expr} (h1:PG X (.Name x pos) (o9 i)) (h2:PGs X es (tGs K is)):PGs X (.Name x pos::es) (tGs K (i::is)):=by
 intro pins s σ H vs us Q I rv q
 obtain⟨φ,st,env,ds,hE,hS,r,e,q⟩:=q
 cases ds with
 | nil=>cases e
 | cons d ds=>
  obtain⟨v,vr,rfl,r1,r2⟩:=r
  refine vK h1 h2 (sQ rfl) pins s σ H _ us Q I rv ⟨v,vr,rfl,φ,st,_,ds,hE.set i (w:=.d d) r1,hS,r2,by simpa using e,λσ' e' s'=>q σ' e' ?_⟩
  refine⟨by rw [s'.1,qcg],λj hj=>?_⟩
  rw [s'.2 j (λz=>hj (qaf _ z)),qbS (by rintro rfl;exact hj qah)]
noncomputable def Du (K:PySem.W.Frag) (n:Nat) (t:TGs):TG:=λv σ H Q=>∃ a xs,v=.ref a/\SqL K H a xs/\xs.length=n/\t xs σ H Q
theorem A4 {es:List Expr}{k:Nat}{t:TGs}{n:Nat} (hc:X.calm=true) (h:PGs X es t) (hn:(assignEach es X.env).length=n) (hst:(assignEach es X.env).findIdx? (·.1)=none):PG X (.Tuple es k pos) (Du X.K n t):=by
 intro pins s σ H v u Q I r hw
 obtain⟨a,xs,e1,hq,hl,hw⟩:=hw
 subst e1
 cases r
 obtain⟨its,rv,p,hz⟩:=I.list hq
 rw [assign_Tuple]
 refine qaa (qdu ?_)
 unfold unpack
 rw [show (assignEach es X.env).length=its.toArray.size by simp [hn,<-hl,rv.length],hst]
 refine qaa (qaT (PySem.W.kun_itemsOf (I.ok.hd hc) p.isList λh' hx=>?_))
 have I1:Inv X pins σ H { s with heap:=h' }:=I.kept (t':=s.toks) λb o e=>hx b o (qam (qak e)) e
 exact h pins _ σ H xs _ Q I1 (by simpa using rv) hw
theorem i8 {es:List Expr}{k n:Nat}{is:List Nat} (h:PGs X es (tGs K is)) (hes:es.all az=true:=by rfl) (hn:es.length=n:=by rfl) (hi:is.length=n:=by rfl) (hc:X.calm=true:=by rfl) (hK:X.K=K:=by rfl):PG X (.Tuple es k pos) (tG K (.tp is)):=by
 subst hK
 intro pins s σ H v u Q I rv q
 obtain⟨φ,st,env,w,env',hE,hS,r,e,q⟩:=q
 cases w with
 | h n=>cases e
 | d x=>
  cases x with
  | tup ds=>
   have e':(if is.length=ds.length then some (nG is ds env) else none)=some env':=e
   by_cases hl:is.length=ds.length
   ·rw [if_pos hl] at e'
    cases e'
    obtain⟨a,vs,rfl,hq,hr⟩:=r
    exact BO hc h ((nW hes).trans hn) (lA hes) pins s σ H _ u Q I rv ⟨a,vs,rfl,(SqT.of hq),by rw [<-hr.length,<-hl,hi],φ,st,env,ds,hE,hS,hr,hl,q⟩
   ·rw [if_neg hl] at e'
    cases e'
  | lst ds=>
   have e':(if is.length=ds.length then some (nG is ds env) else none)=some env':=e
   by_cases hl:is.length=ds.length
   ·rw [if_pos hl] at e'
    cases e'
    obtain⟨a,vs,rfl,_,hq,hr⟩:=r
    exact A4 hc h ((nW hes).trans hn) (lA hes) pins s σ H _ u Q I rv ⟨a,vs,rfl,.inl hq,by rw [<-hr.length,<-hl,hi],φ,st,env,ds,hE,hS,hr,hl,q⟩
   ·rw [if_neg hl] at e'
    cases e'
  | _=>cases e
variable {s:Stmt}{ss rest:List Stmt}{e a b c:Expr}{ga gb:Sf}{f fa fb fc:Ef}
theorem eD:ISs K X [] gA:=by
 refine⟨λenv st r hr=>?_⟩
 cases hr
 exact yU.imp λD σ H ⟨φ,hE,hS,q⟩=>q σ H φ (Fw.refl φ H) hE hS
theorem ay (h:IS K X s ga):ISs K X [s] ga:=⟨λenv st r hr=>zv (h.run env st r hr)⟩
theorem am (h1:IS K X s ga) (h2:ISs K X rest gb):ISs K X (s::rest) (aM ga gb):=by
 refine⟨λenv st r hr=>?_⟩
 simp only [aM,qac] at hr
 obtain⟨r1,e1,hr⟩:=hr
 cases r1 with
 | nx e s1=>
  refine (iG (h1.run _ _ _ e1) (h2.run _ _ _ hr)).imp ?_
  rintro D σ H ⟨φ,hE,hS,q⟩
  exact⟨φ,hE,hS,λσ' H' φ' f' e' s'=>⟨φ',e',s',q.fw f'⟩⟩
 | rt w s1=>
  cases hr
  exact (iG (h1.run _ _ _ e1) eZ).imp λD σ H ⟨φ,hE,hS,q⟩=>⟨φ,hE,hS,q⟩
 | bk w s1=>
  cases hr
  exact (iG (h1.run _ _ _ e1) eZ).imp λD σ H ⟨φ,hE,hS,q⟩=>⟨φ,hE,hS,q⟩
 | ct w s1=>
  cases hr
  exact (iG (h1.run _ _ _ e1) eZ).imp λD σ H ⟨φ,hE,hS,q⟩=>⟨φ,hE,hS,q⟩
theorem cj {i:Nat}{x:Str}{pos':Pos} (hN:X.N.Nodup) (hi:X.N[i]?=some x) (hx:Loc X.env.scope x) (he:IE K X e f) (hs:swapsWith e (some (.Name x pos')) pos.line X.env=pure false:=by rfl) (hf:X.fn x=true\/X.env.scope.names.lookup x=some .local:=by first | exact .inl rfl | exact .inr rfl | assumption) :
  IS K X (.Assign [.Name x pos'] e pos) (bY (.nm i) f):=by
 refine⟨λenv st r hr=>?_⟩
 simp only [bY,eX,qac,qae] at hr
 obtain⟨y,hy,e',ee,rfl⟩:=hr
 cases ee
 refine (BF hN hi hx (he.run _ _ _ hy) hs hf).imp ?_
 rintro D σ H ⟨φ,hE,hS,q⟩
 exact⟨φ,hE,hS,λv H1 φ1 f1 s1 w1=>q _ H1 φ1 f1 ((hE.fw hS f1).set i w1) s1⟩
theorem Sr.putC {H:Hp}{φ:List Addr}{st:Sto}{n:Nat}{a:Addr}{o:HO}{c:C} (S:Sr K H φ st) (hn:φ[n]?=some a) (w:Fw φ φ H (upd H a o)->Rc K (upd H a o) φ n a c) :
  Fw φ φ H (upd H a o)/\Sr K (upd H a o) φ (st.set n c):=by
 have ha:a ∈ φ:=qbI hn
 have f:Fw φ φ H (upd H a o):=⟨⟨[],by simp,by simp⟩,λb o hb h=>by rw [aw (λz=>hb (by rw [z];exact ha))];exact h,λb o h=>by
  by_cases z:b=a
  ·subst z;exact⟨_,aI⟩
  ·exact⟨o,by rw [aw z];exact h⟩⟩
 refine⟨f,S.nd,by rw [qcg];exact S.len,λm b es e1 e2=>?_⟩
 by_cases hm:n=m
 ·subst hm
  rw [e1] at hn;cases hn
  have hl:n < st.length:=by rw [<-S.len];exact (qax.mp e1).1
  rw [qco hl] at e2
  cases e2
  exact w f
 ·rw [qbS hm] at e2
  have q:=S.at_ m b es e1 e2
  have hne:b≠a:=by
   rintro rfl
   obtain⟨h1,h1'⟩:=qax.mp hn
   obtain⟨h2,h2'⟩:=qax.mp e1
   exact hm ((qe4 S.nd).mp (h1'.trans h2'.symm))
  exact q.fw S f λo h=>by rw [aw hne];exact h
theorem Sr.put {H:Hp}{φ:List Addr}{st:Sto}{n:Nat}{a:Addr}{vs:List V}{ds:List D} (S:Sr K H φ st) (hn:φ[n]?=some a) (w:Rls K H φ ds vs) :
  Fw φ φ H (upd H a (.lst vs))/\Sr K (upd H a (.lst vs)) φ (st.set n (.l ds)):=S.putC hn λf=>⟨vs,aI,w.fw S f⟩
theorem rF {st s':Sto}{o i v:W} (h:qM st o i v=some s'):∃ n k x ds j,o=.h n/\i=.d (.int k)/\v=.d x/\lg st n=some ds/\ixN ds.length k=some j/\s'=st.set n (.l (ds.set j x)):=by
 unfold qM at h
 split at h
 ·obtain⟨ds,e1,h⟩:=qac.mp h
  obtain⟨j,e2,h⟩:=qae.mp h
  exact⟨_,_,_,ds,j,rfl,rfl,rfl,e1,e2,h.symm⟩
 ·cases h
theorem xm {tpos:Pos} (ho:IE K X a fa) (hi:IE K X b fb) (hv:IE K X e f) (hb:jg b=true:=by rfl) (hs:swapsWithSole [.Subscript a b tpos] e pos.line X.env=pure false:=by rfl) (hw:swappedStores [.Subscript a b tpos] e X.env=pure none:=by rfl) :
  IS K X (.Assign [.Subscript a b tpos] e pos) (lL fa fb f):=by
 refine⟨λenv st r hr=>?_⟩
 simp only [lL,qac,qae] at hr
 obtain⟨rv,ev,ro,eo,ri,ei,s',es,rfl⟩:=hr
 refine (wL (hv.run _ _ _ ev) (vQ (ho.run _ _ _ eo) (hi.run _ _ _ ei) pY (uc hb)) hs hw (ul rfl)).imp ?_
 rintro D σ H ⟨φ,hE,hS,q⟩
 refine⟨φ,hE,hS,λv H1 φ1 f1 s1 w1=>⟨φ1,hE.fw hS f1,s1,λo H2 φ2 f2 s2 w2=>⟨φ2,(hE.fw hS f1).fw s1 f2,s2,λi H3 φ3 f3 s3 w3=>?_⟩⟩⟩
 have e3:=((hE.fw hS f1).fw s1 f2).fw s2 f3
 have w1':=(w1.fw s1 f2).fw s2 f3
 have w2':=w2.fw s2 f3
 obtain⟨ro1,ro2⟩:=ro
 obtain⟨rv1,rv2⟩:=rv
 obtain⟨ri1,ri2⟩:=ri
 obtain⟨n,k,x,ds,j,rfl,rfl,rfl,eds,ej,rfl⟩:=rF es
 obtain⟨p,ep,rfl⟩:=w2'
 obtain⟨vs,hp,rl⟩:=s3.atl n p ds ep eds
 have w3':i=.int k:=w3
 subst w3'
 obtain⟨f4,s4⟩:=s3.put ep (Rls.set j rl w1')
 refine⟨p,vs,k,j,rfl,rfl,hp,by rw [<-rl.length];exact ej,?_⟩
 exact q _ _ φ3 (((f1.trans f2).trans f3).trans f4) (e3.fw s3 f4) s4
theorem bx (h:IE K X e f):IS K X (.Return (some e) pos) (cy f):=by
 refine⟨λenv st r hr=>?_⟩
 simp only [cy,qae] at hr
 obtain⟨y,hy,rfl⟩:=hr
 exact (AN (h.run _ _ _ hy)).imp λD σ H ⟨φ,hE,hS,q⟩=>⟨φ,hE,hS,q⟩
theorem oM (h:IE K X e f) (hs:swapsWith e none pos.line X.env=pure false:=by rfl):IS K X (.Expr e pos) (gY f):=by
 refine⟨λenv st r hr=>?_⟩
 simp only [gY,qae] at hr
 obtain⟨y,hy,rfl⟩:=hr
 exact (zt (h.run _ _ _ hy) hs).imp λD σ H ⟨φ,hE,hS,q⟩=>⟨φ,hE,hS,λv H1 φ1 f1 s1 w1=>q σ H1 φ1 f1 (hE.fw hS f1) s1⟩
theorem jK {tc:Tf}{sa sb:List Stmt} (hc:IT K X c tc) (ha:ISs K X sa ga) (hb:ISs K X sb gb):IS K X (.If c sa sb pos) (gQ tc ga gb):=by
 refine⟨λenv st r hr=>?_⟩
 simp only [gQ,qac] at hr
 obtain⟨⟨k,s1⟩,hx,hr⟩:=hr
 cases k with
 | true=>
  rw [if_pos rfl] at hr
  refine (Ad (hc.run _ _ _ hx) (ha.run _ _ _ hr) eZ).imp ?_
  rintro D σ H ⟨φ,hE,hS,q⟩
  refine⟨φ,hE,hS,λH1 φ1 f1 s1=>uH ?_⟩
  exact⟨φ1,hE.fw hS f1,s1,q.fw f1⟩
 | false=>
  rw [if_neg qal] at hr
  refine (Ad (hc.run _ _ _ hx) eZ (hb.run _ _ _ hr)).imp ?_
  rintro D σ H ⟨φ,hE,hS,q⟩
  refine⟨φ,hE,hS,λH1 φ1 f1 s1=>u9 ?_⟩
  exact⟨φ1,hE.fw hS f1,s1,q.fw f1⟩
noncomputable def Ch (K:PySem.W.Frag) (g:Sf):TS:=λD σ H=>∃ env st r,g env st=some r/\tS K env st r D σ H
noncomputable def Ak (K:PySem.W.Frag) (f:Ef):TE:=λσ H Q=>∃ env st r,f env st=some r/\tI K env st r σ H Q
noncomputable def vV (K:PySem.W.Frag) (f:Tf):TT:=λσ H Q=>∃ env st r,f env st=some r/\tIT K env st r σ H Q
theorem ISs.any (h:ISs K X ss ga):PSs X ss (Ch K ga):=λpins s σ H D I ⟨env,st,r,e,q⟩=>h.run env st r e pins s σ H D I q
theorem IE.any (h:IE K X e f):PE X e (Ak K f):=λpins s σ H D I ⟨env,st,r,e,q⟩=>h.run env st r e pins s σ H D I q
theorem IT.any {tf:Tf} (h:IT K X e tf):PT X e (vV K tf):=λpins s σ H D I ⟨env,st,r,e,q⟩=>h.run env st r e pins s σ H D I q
noncomputable def Yl (K:PySem.W.Frag) (φ0:List Addr) (H0:Hp) (J:It) (ds:List D):Prop:=∀ (H:Hp) (φ:List Addr) (st:Sto) (i:Nat),Fw φ0 φ H0 H->Sr K H φ st->
 (∀ d,ds[i]?=some d->J.go i H/\∀ x H',J.yld i H x H'->bm H H'/\Rl K H' φ d x)/\(ds.length=i->J.stop i H)
noncomputable def tII (K:PySem.W.Frag) (env:Ev) (st:Sto) (r:List D×Sto):TI:=λσ H R=>∃ φ,Er K H φ env σ/\Sr K H φ st/\∀ J H' φ',Fw φ φ' H H'->Sr K H' φ' r.2->Yl K φ' H' J r.1->R J H'
structure II (K:PySem.W.Frag) (X:Cx) (tg iter:Expr) (f:Lf):Prop where
 run:∀ env st r,f env st=some r->PI X tg iter (tII K env st r)
theorem PI.imp {tg iter:Expr}{t t':TI} (h:PI X tg iter t) (m:∀ σ H R,t' σ H R->t σ H R):PI X tg iter t':=λpins s σ H R I q=>h pins s σ H R I (m σ H R q)
variable {tg:Expr}
end
section
variable {K:PySem.W.Frag}{X:Cx}{pos:Pos}{tg e a b:Expr}{f:Ef}{af:Af}
theorem cS (h:IE K X e f) (hK:X.K=K:=by rfl):II K X tg e (aW f):=by
 subst hK
 refine⟨λenv st r hr=>?_⟩
 simp only [aW,qac] at hr
 obtain⟨⟨w,s1⟩,hy,hr⟩:=hr
 dsimp only at hr
 split at hr
 next ds=>
  cases hr
  refine (B3 (h.run _ _ _ hy)).imp ?_
  rintro σ H R ⟨φ,hE,hS,q⟩
  refine⟨φ,hE,hS,λv H1 φ1 f1 s1 w1=>?_⟩
  obtain⟨a,vs,rfl,hq,hr⟩:=w1
  refine⟨a,rfl,⟨vs,(SqT.of hq)⟩,q _ H1 φ1 f1 s1 λH2 φ2 st2 i f2 s2=>?_⟩
  have hq2:=(SqT.of hq).fw s1 f2
  have hr2:=hr.fw s1 f2
  refine⟨λd hd=>?_,λhi=>⟨vs,hq2,by rw [<-hr2.length];exact qdf hi⟩⟩
  obtain⟨v,ev,rv⟩:=hr2.get hd
  refine⟨⟨vs,v,hq2,ev⟩,λx H' y=>?_⟩
  obtain⟨rfl,y⟩:=y
  have:=y vs hq2
  rw [ev] at this
  cases this
  exact⟨bm.refl _,rv⟩
 next ds=>
  cases hr
  refine (ud (h.run _ _ _ hy)).imp ?_
  rintro σ H R ⟨φ,hE,hS,q⟩
  refine⟨φ,hE,hS,λv H1 φ1 f1 s1 w1=>?_⟩
  obtain⟨a,vs,rfl,h0,hq,hr⟩:=w1
  refine⟨a,rfl,⟨vs,.inl hq⟩,q _ H1 φ1 f1 s1 λH2 φ2 st2 i f2 s2=>?_⟩
  have hq2:SqL X.K H2 a vs:=.inl (hq.fw f2 h0)
  have hr2:=hr.fw s1 f2
  refine⟨λd hd=>?_,λhi=>⟨vs,hq2,by rw [<-hr2.length];exact qdf hi⟩⟩
  obtain⟨v,ev,rv⟩:=hr2.get hd
  refine⟨⟨vs,v,hq2,ev⟩,λx H' y=>?_⟩
  obtain⟨rfl,y⟩:=y
  have:=y vs hq2
  rw [ev] at this
  cases this
  exact⟨bm.refl _,rv⟩
 next=>cases hr
theorem pW (lo:Int) (n i:Nat):(eu lo n)[i]?=if i < n then some (.int (lo+i)) else none:=by
 unfold eu
 rw [qaW]
 by_cases h:i < n
 ·rw [List.getElem?_range h,if_pos h];rfl
 ·rw [List.getElem?_eq_none (by simpa using h),if_neg h];rfl
theorem cG (lo:Int) (n:Nat):(eu lo n).length=n:=by unfold eu;rw [qai,qbu]
theorem At (lo:Int) (n:Nat) {φ:List Addr}{H:Hp}:Yl K φ H (Itr lo n) (eu lo n):=by
 intro H2 φ2 st2 i f2 s2
 refine⟨λd hd=>?_,λhi=>by rw [cG] at hi;exact qdf hi⟩
 rw [pW] at hd
 by_cases h:i < n
 ·rw [if_pos h] at hd
  cases hd
  refine⟨h,λx H' y=>?_⟩
  obtain⟨rfl,rfl⟩:=y
  exact⟨bm.refl _,rfl⟩
 ·rw [if_neg h] at hd;cases hd
theorem dN {p:Pos} (hg:Gl X "range") (hm:X.mg "range" = none) (ha:IA K X [a] af) (hs:az a=true:=by rfl):II K X tg (.Call (.Name "range" p) [a] [] pos) (cu af):=by
 refine⟨λenv st r hr=>?_⟩
 simp only [cu,qac] at hr
 obtain⟨⟨ws,s1⟩,hy,hr⟩:=hr
 dsimp only at hr
 split at hr
 next j=>
  have hr':(if -(2 ^ 62)<=j/\j < 2 ^ 62 then some (eu 0 j.toNat,s1) else none)=some r:=hr
  by_cases hj:-(2 ^ 62)<=j/\j < 2 ^ 62
  ·rw [if_pos hj] at hr'
   cases hr'
   refine (vA hg hm (ha.run _ _ _ hy) (kW hs)).imp ?_
   rintro σ H R ⟨φ,hE,hS,q⟩
   refine⟨φ,hE,hS,λvs H1 φ1 f1 s1 w1=>?_⟩
   obtain⟨v,r,rfl,r1,rfl⟩:=w1
   exact⟨j,by rw [show v=.int j from r1],hj.1,hj.2,q _ H1 φ1 f1 s1 (At 0 _)⟩
  ·rw [if_neg hj] at hr';cases hr'
 next=>cases hr
theorem jj:∀ (ds:List D) (k i:Nat),(eI k ds)[i]?=(ds[i]?).map λd=>D.tup [.int ((k+i:Nat):Int),d]
 | [],k,i=>by simp [eI]
 | d::ds,k,0=>by simp [eI]
 | d::ds,k,i+1=>by
  have:=jj ds (k+1) i
  rw [show k+1+i=k+(i+1) by lia] at this
  simpa [eI] using this
theorem jd:∀ (ds:List D) (k:Nat),(eI k ds).length=ds.length
 | [],_=>rfl
 | d::ds,k=>by rw [eI,qaq,qaq,jd ds]
theorem t4 {S:Hp->List V->Prop}{ds:List D}{vs:List V}{φ:List Addr}{H:Hp} (hS:∀ H' φ',Fw φ φ' H H'->S H' vs) (hr:∀ H' φ',Fw φ φ' H H'->Rls K H' φ' ds vs):Yl K φ H (Ite S) (eI 0 ds):=by
 intro H2 φ2 st2 i f2 s2
 have q2:=hS H2 φ2 f2
 have r2:=hr H2 φ2 f2
 refine⟨λd hd=>?_,λhi=>⟨vs,q2,by rw [<-r2.length,<-jd ds 0];exact hi⟩⟩
 rw [jj,qae] at hd
 obtain⟨d',hd',rfl⟩:=hd
 obtain⟨v,ev,rv⟩:=r2.get hd'
 refine⟨⟨vs,v,q2,ev⟩,λx H' y=>?_⟩
 obtain⟨T,v',y1,hT,rfl,rfl⟩:=y
 have:=y1 vs q2
 rw [ev] at this
 cases this
 refine⟨bm.new hT _,T,_,rfl,aI,_,_,rfl,?_,_,_,rfl,rv.fw s2 (Fw.new hT),rfl⟩
 show V.int (i:Int)=V.int ((0+i:Nat):Int)
 rw [qbo]
theorem y8 {elts:List Expr}{k:Nat}{tpos p:Pos} (hg:Gl X "enumerate") (hm:X.mg "enumerate" = none) (ha:IA K X [a] af) (hs:az a=true:=by rfl) (hK:X.K=K:=by rfl) :
  II K X (.Tuple elts k tpos) (.Call (.Name "enumerate" p) [a] [] pos) (oE af):=by
 subst hK
 refine⟨λenv st r hr=>?_⟩
 simp only [oE,qac] at hr
 obtain⟨⟨ws,s1⟩,hy,hr⟩:=hr
 dsimp only at hr
 split at hr
 next ds=>
  cases hr
  refine (xO hg hm (ha.run _ _ _ hy) (kW hs)).imp ?_
  rintro σ H R ⟨φ,hE,hS,q⟩
  refine⟨φ,hE,hS,λvs H1 φ1 f1 s1 w1=>?_⟩
  obtain⟨v,r,rfl,⟨a,us,rfl,hq,hr⟩,rfl⟩:=w1
  exact⟨a,rfl,⟨us,(SqT.of hq)⟩,q _ H1 φ1 f1 s1 (t4 (λH' φ' f=>(SqT.of hq).fw s1 f) λH' φ' f=>hr.fw s1 f)⟩
 next ds=>
  cases hr
  refine (wD hg hm (ha.run _ _ _ hy) (kW hs)).imp ?_
  rintro σ H R ⟨φ,hE,hS,q⟩
  refine⟨φ,hE,hS,λvs H1 φ1 f1 s1 w1=>?_⟩
  obtain⟨v,r,rfl,⟨a,us,rfl,h0,hq,hr⟩,rfl⟩:=w1
  exact⟨a,rfl,⟨us,.inl hq⟩,q _ H1 φ1 f1 s1 (t4 (λH' φ' f=>.inl (hq.fw f h0)) λH' φ' f=>hr.fw s1 f)⟩
 next=>cases hr
theorem ig {iter:Expr}{body:List Stmt}{fi:Lf}{g:Tg}{gb:Sf} (hi:II K X tg iter fi) (hg:PG X tg (tG K g)) (hb:ISs K X body gb) (hp:PassesOwn (model X.prog X.w) X.A X.env X.xe) (hc:X.calm=true:=by rfl)
  (hs:∀ x,foldedSetIterable iter X.env x=pure x:=by intro _;rfl):IS K X (.For tg iter body [] pos) (jD fi g gb):=by
 refine⟨λenv st r hr=>?_⟩
 simp only [jD,qac] at hr
 obtain⟨⟨ds,s1⟩,hy,hr⟩:=hr
 refine (x3 hp hc (hi.run _ _ _ hy) hg hb.any hs).imp ?_
 rintro D σ H ⟨φ,hE,hS,q⟩
 refine⟨φ,hE,hS,λJ H1 φ1 f1 S1 yl=>?_⟩
 refine⟨λi m σ H=>m=ds.length - i/\i<=ds.length/\∃ env st φ2,Fw φ1 φ2 H1 H/\Er K H φ2 env σ/\Sr K H φ2 st/\jo g gb (ds.drop i) env st=some r,⟨ds.length,by simp,qaI _,env,s1,φ1,Fw.refl _ _,hE.fw hS f1,S1,hr⟩,?_⟩
 rintro i m σ H2 ⟨rfl,hi,env2,st2,φ2,f2,e2,S2,h2⟩
 obtain⟨y1,y2⟩:=yl H2 φ2 st2 i f2 S2
 by_cases hlt:i < ds.length
 ·obtain⟨go,yld⟩:=y1 ds[i] (qaH hlt)
  rw [qbM hlt] at h2
  simp only [jo,qac] at h2
  obtain⟨e3,he3,r3,hr3,h3⟩:=h2
  refine .inr ⟨go,λσ' H'=>i+1<=ds.length/\∃ env st φ2,Fw φ1 φ2 H1 H'/\Er K H' φ2 env σ'/\Sr K H' φ2 st/\jo g gb (ds.drop (i+1)) env st=some r,λσ' H' ⟨hn,p'⟩=>⟨ds.length - (i+1),by lia,rfl,hn,p'⟩,λx H' y=>?_⟩
  obtain⟨sm,rx⟩:=yld x H' y
  have S3:=S2.same sm
  have f3:=f2.trans (Fw.same (φ:=φ2) sm)
  refine⟨φ2,st2,env2,.d ds[i],e3,e2.fw S2 (Fw.same sm),S3,rx,he3,λσ' e' _=>?_⟩
  refine⟨e3,st2,r3,hr3,φ2,e',S3,?_⟩
  cases r3 with
  | nx e4 s4=>exact λσ4 H4 φ4 f4 e4' s4'=>⟨hlt,e4,s4,φ4,f3.trans f4,e4',s4',h3⟩
  | ct e4 s4=>exact λσ4 H4 φ4 f4 e4' s4'=>⟨hlt,e4,s4,φ4,f3.trans f4,e4',s4',h3⟩
  | bk e4 s4=>
   cases h3
   exact λσ4 H4 φ4 f4 e4' s4'=>q σ4 H4 φ4 (f1.trans (f3.trans f4)) e4' s4'
  | rt w s4=>
   cases h3
   exact λv H4 φ4 f4 s4' w4=>q v H4 φ4 (f1.trans (f3.trans f4)) s4' w4
 ·have hi':i=ds.length:=by lia
  subst hi'
  rw [qe5] at h2
  cases h2
  exact .inl ⟨y2 rfl,q σ H2 φ2 (f1.trans f2) e2 S2⟩
noncomputable def nQ (n:Nat) (c:Tf) (b:Sf):Sf
 | env,st=>eM c b n env st
theorem xg {c:Expr}{body:List Stmt}{tc:Tf}{gb:Sf} (n:Nat) (hc:IT K X c tc) (hb:ISs K X body gb) (hp:PassesOwn (model X.prog X.w) X.A X.env X.xe):IS K X (.While c body [] pos) (nQ n tc gb):=by
 refine⟨λenv st r hr=>?_⟩
 refine (wk hp hc.any hb.any).imp ?_
 rintro D σ H ⟨φ,hE,hS,q⟩
 refine⟨λm σ H'=>∃ env st φ2,Fw φ φ2 H H'/\Er K H' φ2 env σ/\Sr K H' φ2 st/\eM tc gb m env st=some r,⟨n,env,st,φ,Fw.refl _ _,hE,hS,hr⟩,?_⟩
 rintro m σ H2 ⟨env2,st2,φ2,f2,e2,S2,h2⟩
 cases m with
 | zero=>cases h2
 | succ m=>
  simp only [eM,qac] at h2
  obtain⟨⟨k,s3⟩,hk,h2⟩:=h2
  refine⟨env2,st2,_,hk,φ2,e2,S2,λH3 φ3 f3 S3=>?_⟩
  cases k with
  | false=>
   rw [if_neg qal] at h2
   cases h2
   exact u9 (q σ H3 φ3 (f2.trans f3) (e2.fw S2 f3) S3)
  | true=>
   simp only [if_true,qac] at h2
   obtain⟨r3,hr3,h3⟩:=h2
   refine uH ⟨λσ' H'=>∃ env st φ2,Fw φ φ2 H H'/\Er K H' φ2 env σ'/\Sr K H' φ2 st/\eM tc gb m env st=some r,λσ' H' p'=>⟨m,qbt _,p'⟩,?_⟩
   refine⟨env2,s3,r3,hr3,φ3,e2.fw S2 f3,S3,?_⟩
   have f3':=f2.trans f3
   cases r3 with
   | nx e4 s4=>exact λσ4 H4 φ4 f4 e4' s4'=>⟨e4,s4,φ4,f3'.trans f4,e4',s4',h3⟩
   | ct e4 s4=>exact λσ4 H4 φ4 f4 e4' s4'=>⟨e4,s4,φ4,f3'.trans f4,e4',s4',h3⟩
   | bk e4 s4=>
    cases h3
    exact λσ4 H4 φ4 f4 e4' s4'=>q σ4 H4 φ4 (f3'.trans f4) e4' s4'
   | rt w s4=>
    cases h3
    exact λv H4 φ4 f4 s4' w4=>q v H4 φ4 (f3'.trans f4) s4' w4
structure ITs (K:PySem.W.Frag) (X:Cx) (ifs:List Expr) (t:Tf):Prop where
 run:PTs X ifs (vV K t)
theorem dR:ITs K X [] dg:=by
 refine⟨λpins s σ H Q I ⟨env,st,r,e,φ,hE,hS,q⟩=>?_⟩
 cases e
 exact zN pins s σ H Q I (q H φ (Fw.refl φ H) hS)
theorem eF {c:Expr}{t:Tf} (h:IT K X c t):ITs K X [c] t:=⟨yW h.any⟩
theorem Er.emb {H:Hp}{φ:List Addr}{env:Ev}{σ:St} (h:Er K H φ env σ) (k:Nat) (js:List Nat):Er K H φ (kh k js env) (fO k js σ):=by
 refine⟨by unfold kh fO;simp,λi w e=>?_⟩
 unfold kh at e
 unfold fO
 by_cases hi:i < k
 ·rw [qaM (by simpa using hi),qcX,if_pos hi] at e
  cases e
 ·rw [qa1 (by simpa using hi),qcx,qaW,qae] at e
  obtain⟨j,ej,e⟩:=e
  have ej2:env[j]?=some (some w):=by
   rw [List.getD] at e
   cases q:env[j]? with
   | none=>rw [q] at e;cases e
   | some o=>rw [q] at e;rw [show o=some w from e]
  obtain⟨v,ev,rv⟩:=h.at_ j w ej2
  refine⟨v,?_,rv⟩
  rw [qa1 (by simpa using hi),qcx,qaW,ej]
  show some ((σ[j]?).getD none)=_
  rw [ev];rfl
theorem Sub.stay {k:Nat}{js is:List Nat}{σ σ':St} (h:yZ is (fO k js σ) σ') (hi:∀ j ∈ is,j < k):Sub (fO k js σ) σ':=by
 refine⟨h.1.symm,λj v e=>?_⟩
 by_cases hj:j ∈ is
 ·have:=hi j hj
  unfold fO at e
  rw [qaM (by simpa using this),qcX,if_pos this] at e
  cases e
 ·rw [h.2 j hj];exact e
theorem wR {k:Nat}{js:List Nat}{g:Tg}{tt:Tf}{te:Ef}{env:Ev}{st s1:Sto}{ds:List D}{r:List D×Sto} (hgi:∀ j ∈ yP g,j < k) (hdl:ds.length<=1000000) (hr':lcI g tt te (kh k js env) ds s1=some r) :
  ∀ σ H Q,tIL K env st r σ H Q->tLc (fO k js) (tII K env st (ds,s1)) (tG K g) (vV K tt) (Ak K te) σ H Q:=by
 rintro σ H Q ⟨φ,hE,hS,q⟩
 refine⟨φ,hE,hS,λJ H1 φ1 f1 S1 yl=>?_⟩
 have hE1:=(hE.fw hS f1).emb k js
 refine⟨λi m ys H2=>m=ds.length - i/\i<=ds.length/\∃ st φ2 es r2,Fw φ1 φ2 H1 H2/\Sr K H2 φ2 st/\Rls K H2 φ2 es ys/\es.length<=i/\lcI g tt te (kh k js env) (ds.drop i) st=some r2/\r=(es++r2.1,r2.2),⟨ds.length,by simp,qaI _,s1,φ1,[],r,Fw.refl _ _,S1,rfl,qan _,hr',rfl⟩,?_⟩
 rintro i m ys H2 ⟨rfl,hi,st2,φ2,es,r2,f2,S2,rl2,hle,h2,rfl⟩
 obtain⟨y1,y2⟩:=yl H2 φ2 st2 i f2 S2
 by_cases hlt:i < ds.length
 ·obtain⟨go,yld⟩:=y1 ds[i] (qaH hlt)
  rw [qbM hlt] at h2
  simp only [lcI,qac] at h2
  obtain⟨e3,he3,⟨kb,s3⟩,hb3,h3⟩:=h2
  have hz:ys.length < sizeLine:=by
   rw [<-rl2.length]
   have:sizeLine=16777216:=qbi
   lia
  refine .inr ⟨go,hz,λys' H'=>i+1<=ds.length/\∃ st φ2 es' r2',Fw φ1 φ2 H1 H'/\Sr K H' φ2 st/\Rls K H' φ2 es' ys'/\es'.length<=i+1/\lcI g tt te (kh k js env) (ds.drop (i+1)) st=some r2'/\(es++r2.1,r2.2)=(es'++r2'.1,r2'.2),λys' H' ⟨hn,p'⟩=>⟨ds.length - (i+1),by lia,rfl,hn,p'⟩,λx H' y=>?_⟩
  obtain⟨sm,rx⟩:=yld x H' y
  have S3:=S2.same sm
  have f3:=f2.trans (Fw.same (φ:=φ2) sm)
  refine⟨φ2,st2,kh k js env,.d ds[i],e3,hE1.fw S1 f3,S3,rx,he3,λσ' e' stay=>⟨Sub.stay stay hgi,?_⟩⟩
  refine⟨e3,st2,_,hb3,φ2,e',S3,λH4 φ4 f4 S4=>?_⟩
  cases kb with
  | false=>
   rw [if_neg qal] at h3
   exact u9 ⟨hlt,s3,φ4,es,r2,f3.trans f4,S4,(rl2.fw S2 (Fw.same sm)).fw S3 f4,by lia,h3,rfl⟩
  | true=>
   simp only [if_true,qac,qae] at h3
   obtain⟨x5,hx5,zs,hzs,r5,hr5,rfl⟩:=h3
   refine uH ⟨e3,s3,x5,hx5,φ4,e'.fw S3 f4,S4,λv H5 φ5 f5 S5 w5=>?_⟩
   obtain⟨x5,s5⟩:=x5
   cases x5 with
   | h n=>cases hzs
   | d z=>
    cases hzs
    refine⟨hlt,s5,φ5,es++[z],r5,(f3.trans f4).trans f5,S5,(((rl2.fw S2 (Fw.same sm)).fw S3 f4).fw S4 f5).append ⟨v,[],rfl,w5,rfl⟩,by rw [qaK];simp;lia,hr5,?_⟩
    simp
 ·have hi':i=ds.length:=by lia
  subst hi'
  rw [qe5] at h2
  cases h2
  refine .inl ⟨y2 rfl,λDn hD=>?_⟩
  have:=q Dn ys H2 φ2 (f1.trans f2) S2 hD
  exact this (by simpa using rl2)
theorem fj {scope:Scope}{Nc:List Str}{k:Nat}{js:List Nat}{elt iter:Expr}{ifs:List Expr}{fi:Lf}{g:Tg}{tt:Tf}{te:Ef}
  (S:eL X scope Nc (fO k js)) (hc:X.calm=true) (hgi:∀ j ∈ yP g,j < k) (hi:II K X tg iter fi)
  (hg:∀ cells s H C fp,PG (lcX X scope cells Nc s H C fp) tg (tG K g)) (ht:∀ cells s H C fp,ITs K (lcX X scope cells Nc s H C fp) ifs tt) (he:∀ cells s H C fp,IE K (lcX X scope cells Nc s H C fp) elt te)
  (hs:∀ x,foldedSetIterable iter X.env x=pure x:=by intro _;rfl):IL K X (.ListComp elt [⟨tg,iter,ifs,0⟩] scope pos) (iLc k js fi g tt te):=by
 refine⟨λenv st r hr=>?_⟩
 simp only [iLc,qac] at hr
 obtain⟨⟨ds,s1⟩,hy,hr⟩:=hr
 have hr':(if ds.length<=1000000 then lcI g tt te (kh k js env) ds s1 else none)=some r:=hr
 by_cases hdn:¬ ds.length<=1000000
 ·rw [if_neg hdn] at hr';cases hr'
 have hdl:ds.length<=1000000:=by lia
 rw [if_pos hdl] at hr'
 refine (C2 S hc (hi.run _ _ _ hy) hg (λcells s H C fp=>(ht cells s H C fp).run) (λcells s H C fp=>(he cells s H C fp).any) hs).imp (wR hgi hdl hr')
theorem tD {scope:Scope}{Nc:List Str}{k:Nat}{js:List Nat}{elt iter:Expr}{ifs:List Expr}{fi:Lf}{g:Tg}{tt:Tf}{te:Ef}{i0:Nat}{x0:Str}{py spos:Pos}
  (hN0:X.N.Nodup) (hi0:X.N[i0]?=some x0) (hx0:Loc X.env.scope x0) (S:eL X scope Nc (fO k js)) (hc:X.calm=true) (hgi:∀ j ∈ yP g,j < k) (hi:II K X tg iter fi)
  (hg:∀ cells s H C fp,PG (lcX X scope cells Nc s H C fp) tg (tG K g)) (ht:∀ cells s H C fp,ITs K (lcX X scope cells Nc s H C fp) ifs tt) (he:∀ cells s H C fp,IE K (lcX X scope cells Nc s H C fp) elt te)
  (hsw:swapsWith (.ListComp elt [⟨tg,iter,ifs,0⟩] scope pos) (some (.Name x0 py)) spos.line X.env=pure true:=by rfl)
  (hf0:X.fn x0=true\/X.env.scope.names.lookup x0=some .local:=by first | exact .inl rfl | exact .inr rfl | assumption)
  (hs:∀ x,foldedSetIterable iter X.env x=pure x:=by intro _;rfl):IS K X (.Assign [.Name x0 py] (.ListComp elt [⟨tg,iter,ifs,0⟩] scope pos) spos) (bY (.nm i0) (aH (iLc k js fi g tt te)))/\
   IS K X (.Assign [.Name x0 py] (.ListComp elt [⟨tg,iter,ifs,0⟩] scope pos) spos) (bY (.nm i0) (nP (iLc k js fi g tt te))):=by
 have key:∀ env st r0 r,iLc k js fi g tt te env st=some r->(∀ σ φ H (D:pI),Er K H φ env σ->Sr K H φ st->xJ K φ H D r0->∀ a vs H1 φ',Fw φ φ' H H1->Sr K H1 φ' r.2->H1 a=none->Rls K H1 φ' r.1 vs->D.nx (σ.set i0 (some (.ref a))) (upd H1 a (.lst vs)))->
   PS X (.Assign [.Name x0 py] (.ListComp elt [⟨tg,iter,ifs,0⟩] scope pos) spos) (tS K env st r0):=by
  intro env st r0 r hr h
  simp only [iLc,qac] at hr
  obtain⟨⟨ds,s1⟩,hy,hr⟩:=hr
  have hr':(if ds.length<=1000000 then lcI g tt te (kh k js env) ds s1 else none)=some r:=hr
  by_cases hdn:¬ ds.length<=1000000
  ·rw [if_neg hdn] at hr';cases hr'
  have hdl:ds.length<=1000000:=by lia
  rw [if_pos hdl] at hr'
  refine (Co hN0 hi0 hx0 S hc (hi.run _ _ _ hy) hg (λcells s H C fp=>(ht cells s H C fp).run) (λcells s H C fp=>(he cells s H C fp).any) hsw hf0 hs).imp ?_
  rintro D σ H ⟨φ,hE,hS,q⟩
  exact wR hgi hdl hr' σ H _ ⟨φ,hE,hS,h σ φ H D hE hS q⟩
 constructor
 ·refine⟨λenv st r hr=>?_⟩
  simp only [bY,aH,eX,qac,qae] at hr
  obtain⟨y,⟨r2,hy,rfl⟩,e',ee,rfl⟩:=hr
  cases ee
  refine key _ _ _ _ hy λσ φ H D hE hS q a vs H1 φ1 f1 s1 n1 w1=>?_
  exact q _ _ φ1 (f1.trans (Fw.new n1)) ((((hE.fw hS f1).fw s1 (Fw.new n1))).set i0 (w:=.d (.lst r2.1)) ⟨a,vs,rfl,s1.nin n1,.inl aI,w1.fw s1 (Fw.new n1)⟩) (s1.new n1)
 ·refine⟨λenv st r hr=>?_⟩
  simp only [bY,nP,eX,qac,qae] at hr
  obtain⟨y,⟨r2,hy,rfl⟩,e',ee,rfl⟩:=hr
  cases ee
  refine key _ _ _ _ hy λσ φ H D hE hS q a vs H1 φ1 f1 s1 n1 w1=>?_
  exact q _ _ (φ1++[a]) (f1.trans (Fw.more n1)) (((hE.fw hS f1).fw s1 (Fw.more n1)).set i0 (w:=.h r2.2.length) ⟨a,by rw [<-s1.len];simp,rfl⟩) (s1.more n1 w1)
end
noncomputable def cp (n k:Nat) (b:Sf):Fn
 | ws,st=>if ws.length=k then (b (ws.map some++List.replicate (n - k) none) st).bind λr=>match r with
 | .nx _ s=>some (.d .non,s)
 | .rt w s=>some (w,s)
 | _=>none
 else none
noncomputable def yO (n:Nat) (w:W) (s:Sto):Option (W×Sto):=match w with
 | .d x=>some (.d x,s.take n)
 | .h m=>if m < n then some (.h m,s.take n) else (lg s m).map λds=>(.d (.lst ds),s.take n)
noncomputable def je (n k:Nat) (b:Sf):Fn
 | ws,st=>if ws.length=k then (b (ws.map some++List.replicate (n - k) none) st).bind λr=>match r with
 | .nx _ s=>some (.d .non,s.take st.length)
 | .rt w s=>yO st.length w s
 | _=>none
 else none
section
variable {P:Program}{w:World}{K:PySem.W.Frag}{mg:Str->Option Value}{base:Heap}
theorem pT {H:Hp}{φ:List Addr}{N:List Str}{k:Nat}:∀ {ws:List W}{vs:List V},Rws K H φ ws vs->ws.length=k->Er K H φ (ws.map some++List.replicate (N.length - k) none) (start N vs):=by
 intro ws vs r hk
 have hl:=r.length
 refine⟨by unfold start;simp;lia,λi x e=>?_⟩
 unfold start
 by_cases hi:i < ws.length
 ·rw [qaM (by simpa using hi),qaW,qae] at e
  obtain⟨y,ey,e⟩:=e
  have:∃ v,vs[i]?=some v/\Rw K H φ y v:=by
   clear hk hl hi e
   induction ws generalizing vs i with
   | nil=>simp at ey
   | cons w ws ih=>
    obtain⟨v,r',rfl,r1,r2⟩:=r
    cases i with
    | zero=>simp at ey;subst ey;exact⟨v,rfl,r1⟩
    | succ i=>simpa using ih r2 i (by simpa using ey)
  obtain⟨v,ev,rv⟩:=this
  cases e
  refine⟨v,?_,rv⟩
  rw [qaM (by rw [qai,<-hl];exact hi),qaW,ev];rfl
 ·rw [qa1 (by simpa using hi)] at e
  have:=qbI e
  have:=(List.mem_replicate.mp this).2
  cases this
theorem iF {x qual:Str}{st:Stmt}{f:Addr}{fd:FuncData}{N ps:List Str}{k:Nat}{b:Sf} (F:Fun K x qual st f fd) (S:bg N ps (ab st))
  (hb:∀ (cdv:Value) (A:Around) (outer:List Env) (s:Shared) (H:Hp) (E:XK),bn k (A.deeper (envOfC qual (ab st) s.heap.objs.size f cdv))->ISs K (dz CX0 P w K mg base N qual (ab st) f cdv A outer s H E).nox (ap st) b) :
  bB P w K mg base CX0 (k+1) f fd ps (spI K (cp N.length ps.length b)):=by
 refine F.ok S (λvs H Q E h=>?_) λcdv A outer s H vs Q E hr h=>?_
 ·obtain⟨φ,st,ws,r,e,rw,_⟩:=h
  rw [cp] at e
  by_cases hl:ws.length=ps.length
  ·rw [<-rw.length,hl]
  ·rw [if_neg hl] at e;cases e
 ·obtain⟨φ,st',ws,r,e,rw,S',q⟩:=h
  rw [cp] at e
  by_cases hl:ws.length=ps.length
  ·rw [if_pos hl] at e
   obtain⟨fl,e1,e2⟩:=qac.mp e
   refine⟨_,(hb cdv A outer s H E hr).run _ _ _ e1,φ,pT rw hl,S',?_⟩
   cases fl with
   | nx e s=>cases e2;exact λσ' H' φ' f' e' s'=>q .non H' φ' f' s' rfl
   | rt w s=>cases e2;exact λv H' φ' f' s' w'=>q v H' φ' f' s' w'
   | bk e s=>cases e2
   | ct e s=>cases e2
  ·rw [if_neg hl] at e;cases e
theorem Fw.less {φ φ':List Addr}{H H':Hp} (f:Fw φ φ' H H'):Fw φ φ H H':=⟨⟨[],by simp,by simp⟩,f.keep,f.there⟩
theorem yk {x qual:Str}{st:Stmt}{f:Addr}{fd:FuncData}{N ps:List Str}{k:Nat}{b:Sf} (F:Fun K x qual st f fd) (S:bg N ps (ab st))
  (hb:∀ (cdv:Value) (A:Around) (outer:List Env) (s:Shared) (H:Hp) (E:XK),bn k (A.deeper (envOfC qual (ab st) s.heap.objs.size f cdv))->ISs K (dz CX0 P w K mg base N qual (ab st) f cdv A outer s H E).nox (ap st) b) :
  bB P w K mg base CX0 (k+1) f fd ps (spI K (je N.length ps.length b)):=by
 refine F.ok S (λvs H Q E h=>?_) λcdv A outer s H vs Q E hr h=>?_
 ·obtain⟨φ,st,ws,r,e,rw,_⟩:=h
  rw [je] at e
  by_cases hl:ws.length=ps.length
  ·rw [<-rw.length,hl]
  ·rw [if_neg hl] at e;cases e
 ·obtain⟨φ,st',ws,r,e,rw,S',q⟩:=h
  rw [je] at e
  by_cases hl:ws.length=ps.length
  ·rw [if_pos hl] at e
   obtain⟨fl,e1,e2⟩:=qac.mp e
   refine⟨_,(hb cdv A outer s H E hr).run _ _ _ e1,φ,pT rw hl,S',?_⟩
   have less:∀ {H':Hp}{φ':List Addr}{s':Sto},Fw φ φ' H H'->Sr K H' φ' s'->Sr K H' φ (s'.take st'.length):=λ{H' φ' s'} f' S2=>by
    obtain⟨ψ,rfl,_⟩:=f'.ext
    rw [<-S'.len]
    exact S2.less
   cases fl with
   | nx e s=>cases e2;exact λσ' H' φ' f' e' s'=>q .non H' φ f'.less (less f' s') rfl
   | rt w s=>
    intro v H' φ' f' s' w'
    have e3:yO st'.length w s=some r:=e2
    obtain⟨ψ,eψ,_⟩:=f'.ext
    cases w with
    | d x=>
     cases e3
     subst eψ
     exact q v H' φ f'.less (less f' s') (Rl.less w')
    | h m=>
     obtain⟨a,ea,rfl⟩:=w'
     unfold yO at e3
     by_cases hm:m < st'.length
     ·have e4:some (W.h m,s.take st'.length)=some r:=by
       have:=e3
       simp only [hm,if_true] at this
       exact this
      cases e4
      subst eψ
      rw [qaM (by rw [S'.len];exact hm)] at ea
      exact q _ H' φ f'.less (less f' s') ⟨a,ea,rfl⟩
     ·simp only [hm,if_false] at e3
      obtain⟨ds,eds,rfl⟩:=qae.mp e3
      obtain⟨vs,hv,rl⟩:=s'.atl m a ds ea eds
      have hn:a ∉ φ:=λz=>by
       obtain⟨i,hi,ei⟩:=qcc.mp z
       have h1:φ'[i]?=some a:=by subst eψ;rw [qaM hi,qaH hi,ei]
       obtain⟨h2,h2'⟩:=qax.mp h1
       obtain⟨h3,h3'⟩:=qax.mp ea
       have:=(qe4 s'.nd).mp (h2'.trans h3'.symm)
       rw [S'.len] at hi
       lia
      subst eψ
      exact q _ H' φ f'.less (less f' s') ⟨a,vs,rfl,hn,.inl hv,rl.less⟩
   | bk e s=>cases e2
   | ct e s=>cases e2
  ·rw [if_neg hl] at e;cases e
end
noncomputable def cr:D->Bool
 | .non=>true
 | .bl _=>true
 | .int _=>true
 | .str _=>true
 | _=>false
noncomputable def vOf:D->V
 | .bl b=>.bl b
 | .int i=>.int i
 | .str x=>.str x
 | _=>.non
mutual
noncomputable def eqD:D->D->Bool
 | .non,.non=>true
 | .bl a,.bl b=>a==b
 | .bl a,.int b=>(if a then 1 else 0)==b
 | .int a,.bl b=>a==(if b then 1 else 0)
 | .int a,.int b=>a==b
 | .str a,.str b=>a==b
 | .tup as,.tup bs=>dL as bs
 | .lst as,.lst bs=>dL as bs
 | _,_=>false
noncomputable def dL:List D->List D->Bool
 | [],[]=>true
 | a::as,b::bs=>eqD a b && dL as bs
 | _,_=>false
end
noncomputable def okD:Nat->D->Bool
 | _,.non=>true
 | _,.bl _=>true
 | _,.int _=>true
 | _,.str _=>true
 | n+1,.tup ds=>ds.all (okD n)
 | n+1,.lst ds=>ds.all (okD n)
 | _,_=>false
noncomputable def lsD (st:Sto):W->Option (List D)
 | .d (.lst ds)=>some ds
 | .h n=>lg st n
 | _=>none
noncomputable def d3 (st:Sto) (x y:W):Option D:=match x,y with
 | .d (.int i),.d (.int j)=>some (.int (i+j))
 | .d (.tup a),.d (.tup b)=>if a.length+b.length<=1000000 then some (.tup (a++b)) else none
 | .d (.str a),.d (.str b)=>if a.length+b.length<=1000000 then some (.str (a++b)) else none
 | x,y=>(lsD st x).bind λa=>(lsD st y).bind λb=>if a.length+b.length<=1000000 then some (.lst (a++b)) else none
noncomputable def lr (_:Sto):W->W->Option D
 | .d (.int i),.d (.int j)=>some (.int (i - j))
 | _,_=>none
instance (a b:Int):Decidable (IntMulOk a b):=by unfold IntMulOk;infer_instance
noncomputable def ge (_:Sto):W->W->Option D
 | .d (.int i),.d (.int j)=>if IntMulOk i j then some (.int (i*j)) else none
 | .d (.tup a),.d (.int k)=>if a≠[]/\a.length<=1000/\1<=k/\k < 1000 then some (.tup (List.replicate k.toNat a).flatten) else none
 | .d (.lst a),.d (.int k)=>if a.length<=1000/\-1000<=k/\k < 1000 then some (.lst (List.replicate k.toNat a).flatten) else none
 | _,_=>none
noncomputable def nr (_:Sto):W->W->Option D
 | .d (.int i),.d (.int j)=>if 0 < j/\j < 1073741824 then some (.int (i / j)) else none
 | _,_=>none
noncomputable def kg (_:Sto):W->W->Option D
 | .d (.int i),.d (.int j)=>if 0 < j then some (.int (i % j)) else none
 | _,_=>none
instance (i j:Int):Decidable (pJ i j):=by unfold pJ;infer_instance
noncomputable def AK (_:Sto):W->W->Option D
 | .d (.int i),.d (.int j)=>if pJ i j then some (.int (i ^ j.toNat)) else none
 | _,_=>none
noncomputable def xI (_:Sto):W->W->Option D
 | .d (.int i),.d (.int j)=>if pJ i j then some (.int (i*2 ^ j.toNat)) else none
 | _,_=>none
noncomputable def pL (_:Sto):W->W->Option D
 | .d (.int i),.d (.int j)=>if 0<=j then some (.int (i / 2 ^ j.toNat)) else none
 | _,_=>none
noncomputable def dLt (_:Sto):W->W->Option D
 | .d (.int i),.d (.int j)=>some (.bl (decide (i < j)))
 | _,_=>none
noncomputable def dLe (_:Sto):W->W->Option D
 | .d (.int i),.d (.int j)=>some (.bl (decide (i<=j)))
 | _,_=>none
noncomputable def dGt (_:Sto):W->W->Option D
 | .d (.int i),.d (.int j)=>some (.bl (decide (j < i)))
 | _,_=>none
noncomputable def dGe (_:Sto):W->W->Option D
 | .d (.int i),.d (.int j)=>some (.bl (decide (j<=i)))
 | _,_=>none
noncomputable def inD (x:D) (ds:List D):Bool:=ds.any λy=>eqD y x
noncomputable def kY (st:Sto) (x y:W):Option D:=match x with
 | .d x=>(eV st y).bind λds=>if cr x=true/\ds.all cr=true then some (.bl (!inD x ds)) else none
 | _=>none
section
variable {K:PySem.W.Frag}{X:Cx}
theorem dv {H:Hp}{φ:List Addr}{d:D}{v:V} (h:cr d=true) (r:Rl K H φ d v):v=vOf d/\d5 v=true:=by
 cases d with
 | non=>cases (show v=.non from r);exact⟨rfl,rfl⟩
 | bl b=>cases (show v=.bl b from r);exact⟨rfl,rfl⟩
 | int b=>cases (show v=.int b from r);exact⟨rfl,rfl⟩
 | str b=>cases (show v=.str b from r);exact⟨rfl,rfl⟩
 | _=>cases h
theorem ky {a b:D} (ha:cr a=true) (hb:cr b=true):eqV (vOf a) (vOf b)=eqD a b:=by
 cases a<;>cases b<;>first | rfl | (cases ha;done) | (cases hb;done) | (simp [eqV,vOf,eqD];done)
theorem pE {H:Hp}{φ:List Addr}:∀ {ds:List D}{vs:List V},ds.all cr=true->Rls K H φ ds vs->vs=ds.map vOf/\vs.all d5=true
 | [],_,_,h=>by cases h;exact⟨rfl,rfl⟩
 | d::ds,_,h,r=>by
  rw [qbg,qaL] at h
  obtain⟨v,vr,rfl,r1,r2⟩:=r
  obtain⟨e1,e2⟩:=dv h.1 r1
  obtain⟨e3,e4⟩:=pE h.2 r2
  exact⟨by rw [e1,e3];rfl,by rw [qbg,e2,e4];rfl⟩
theorem uq {x:D} (hx:cr x=true):∀ {ds:List D},ds.all cr=true->inV (vOf x) (ds.map vOf)=inD x ds
 | [],_=>rfl
 | d::ds,h=>by
  rw [qbg,qaL] at h
  have ih:=uq hx h.2
  unfold inV inD at ih ⊢
  rw [qaj,qbU,qbU,ih,ky h.1 hx]
theorem xZ {f:Value->Value->Sem Value}{g:Sto->W->W->Option D} (h:∀ st x y d,g st x y=some d->∃ i j,x=.d (.int i)/\y=.d (.int j)/\OpR X f (λvx vy H Q=>vx=.int i/\vy=.int j/\Q (vOf d) H)/\cr d=true):OpD K X f g:=by
 refine⟨λst x y d hd=>?_⟩
 obtain⟨i,j,rfl,rfl,ho,hf⟩:=h st x y d hd
 refine ho.imp ?_
 rintro vx vy H Q ⟨φ,S,r1,r2,q⟩
 refine⟨r1,r2,q _ H (bm.refl H) ?_⟩
 cases d<;>first | rfl | cases hf
noncomputable def i2 (f:Int->Int->Option D):W->W->Option D
 | .d (.int i),.d (.int j)=>f i j
 | _,_=>none
theorem An {f:Int->Int->Option D}{x y:W}{d:D} (h:i2 f x y=some d):∃ i j,x=.d (.int i)/\y=.d (.int j)/\f i j=some d:=by
 unfold i2 at h
 split at h
 ·exact⟨_,_,rfl,rfl,h⟩
 ·cases h
theorem nu {f:Value->Value->Sem Value}{g:Sto->W->W->Option D}{r:Int->Int->D} (hg:∀ st,g st=i2 λi j=>some (r i j)) (hf:∀ i j,cr (r i j)=true) (h:∀ i j,OpR X f (λvx vy H Q=>vx=.int i/\vy=.int j/\Q (vOf (r i j)) H)):OpD K X f g:=xZ λst x y d e=>by
 rw [hg] at e
 obtain⟨i,j,e1,e2,e3⟩:=An e
 cases e3
 exact⟨i,j,e1,e2,h i j,hf i j⟩
theorem lj {f:Value->Value->Sem Value}{g:Sto->W->W->Option D}{r:Int->Int->D}{c:Int->Int->Prop} [∀ i j,Decidable (c i j)] (hg:∀ st,g st=i2 λi j=>if c i j then some (r i j) else none) (hf:∀ i j,cr (r i j)=true) (h:∀ i j,c i j->OpR X f (λvx vy H Q=>vx=.int i/\vy=.int j/\Q (vOf (r i j)) H)):OpD K X f g:=xZ λst x y d e=>by
 rw [hg] at e
 obtain⟨i,j,e1,e2,e3⟩:=An e
 split at e3
 next hc=>
  cases e3
  exact⟨i,j,e1,e2,h i j hc,hf i j⟩
 next=>cases e3
theorem mq:OpD K X (binaryOp .Sub) lr:=nu (λ_=>rfl) (λ_ _=>rfl) λi j=>BT.imp λvx vy H Q h=>⟨i,j,h.1,h.2.1,h.2.2⟩
theorem CI:OpD K X (compareOp .Lt) dLt:=nu (λ_=>rfl) (λ_ _=>rfl) λi j=>C0.imp λvx vy H Q h=>⟨i,j,h.1,h.2.1,h.2.2⟩
theorem Ci:OpD K X (compareOp .LtE) dLe:=nu (λ_=>rfl) (λ_ _=>rfl) λi j=>CN.imp λvx vy H Q h=>⟨i,j,h.1,h.2.1,h.2.2⟩
theorem CS:OpD K X (compareOp .Gt) dGt:=nu (λ_=>rfl) (λ_ _=>rfl) λi j=>CK.imp λvx vy H Q h=>⟨i,j,h.1,h.2.1,h.2.2⟩
theorem Df:OpD K X (compareOp .GtE) dGe:=nu (λ_=>rfl) (λ_ _=>rfl) λi j=>Cj.imp λvx vy H Q h=>⟨i,j,h.1,h.2.1,h.2.2⟩
theorem nO:OpD K X (binaryOp .FloorDiv) nr:=lj (λ_=>rfl) (λ_ _=>rfl) λi j hc=>zS.imp λvx vy H Q h=>⟨i,j,h.1,h.2.1,hc,h.2.2⟩
theorem h9:OpD K X (binaryOp .Mod) kg:=lj (λ_=>rfl) (λ_ _=>rfl) λi j hc=>AU.imp λvx vy H Q h=>⟨i,j,h.1,h.2.1,hc,h.2.2⟩
theorem AS:OpD K X (binaryOp .Pow) AK:=lj (λ_=>rfl) (λ_ _=>rfl) λi j hc=>As.imp λvx vy H Q h=>⟨i,j,h.1,h.2.1,hc,h.2.2⟩
theorem xy:OpD K X (binaryOp .LShift) xI:=lj (λ_=>rfl) (λ_ _=>rfl) λi j hc=>B7.imp λvx vy H Q h=>⟨i,j,h.1,h.2.1,hc,h.2.2⟩
theorem sD:OpD K X (binaryOp .RShift) pL:=lj (λ_=>rfl) (λ_ _=>rfl) λi j hc=>BL.imp λvx vy H Q h=>⟨i,j,h.1,h.2.1,hc,h.2.2⟩
theorem v4 (hK:X.K=K:=by rfl):OpD K X (compareOp .NotIn) kY:=by
 subst hK
 refine⟨λst x y d h=>?_⟩
 match x,h with
 | .d x,h=>
  simp only [kY,qac] at h
  obtain⟨ds,hs,h⟩:=h
  split at h
  ·rename_i hc
   cases h
   refine oR.imp ?_
   rintro vx vy H Q ⟨φ,S,r1,r2,q⟩
   obtain⟨a,vs,rfl,h1,h2⟩:=iD S r2 hs
   obtain⟨e1,e2⟩:=dv hc.1 r1
   obtain⟨e3,e4⟩:=pE hc.2 h2
   refine⟨a,vs,rfl,h1,e2,e4,q _ H (bm.refl H) ?_⟩
   rw [e1,e3,uq hc.1 hc.2];rfl
  ·cases h
end
end L2
namespace L2
open PySem PySem.Spec PyProof.Rows
section
variable {K:PySem.W.Frag}{X:Cx}
theorem zQ:OpR X (binaryOp .Add) (λx y H Q=>∃ l b xs zs,x=.ref l/\y=.ref b/\Rd H l (.lst xs)/\Rd H b (.lst zs)/\xs.length+zs.length<=sizeLine/\∀ p,H p=none->Q (.ref p) (upd H p (.lst (xs++zs)))):=by
 intro pins s σ H x y v u Q I rx ry h
 obtain⟨l,b,xs,zs,rfl,rfl,hH,hB,hz,q⟩:=h
 cases rx
 cases ry
 obtain⟨z,its,n,r,e⟩:=hH.ok I.hok
 obtain⟨z2,its2,n2,r2,e2⟩:=hB.ok I.hok
 have hl:=r.length
 have hl2:=r2.length
 refine PySem.P.add_list e e2 ?_ (by rw [qas,qas];lia)
 have ea:its.toArray++its2.toArray=(its++its2).toArray:=by simp
 rw [ea]
 exact⟨.ref _,_,I.lnew (t':=s.toks) (r.append r2) (by rw [qaK];lia),rfl,q _ I.fresh⟩
theorem xC:OpR X (binaryOp .Add) (λx y H Q=>∃ a b xs ys,x=.ref a/\y=.ref b/\SqT X.K H a xs/\SqT X.K H b ys/\xs.length+ys.length<=sizeLine/\
  (xs=[]->Q (.ref b) H)/\(ys=[]->Q (.ref a) H)/\∀ p,H p=none->Q (.ref p) (upd H p (.tup (xs++ys)))):=by
 intro pins s σ H x y v u Q I rx ry h
 obtain⟨a,b,xs,ys,rfl,rfl,ha,hb,hz,q0,q1,q2⟩:=h
 by_cases hx:xs=[]
 ·cases rx
  cases ry
  obtain⟨its,r1,p1,_⟩:=I.tuple ha
  obtain⟨its2,r2,p2,_⟩:=I.tuple hb
  obtain⟨⟨cls,dd,data,sl⟩,ho,hc,n,hd⟩:=id p1
  obtain⟨⟨cls2,dd2,data2,sl2⟩,ho2,hc2,n2,hd2⟩:=id p2
  simp only at hc hd hc2 hd2
  subst hc hd hc2 hd2
  exact qgU ⟨_,ho,rfl⟩ ⟨_,ho2,rfl⟩ qfG qgA qdL qdH (qdv _ _)
   (tuple_addW0 a b its.toArray its2.toArray n n2 dd dd2 sl sl2 (by simp [r1.nil_iff.mpr hx])) ⟨ho,ho2,.ref b,H,I,rfl,q0 hx⟩
 ·exact yD pins s σ H _ _ v u Q I rx ry ⟨a,b,xs,ys,rfl,rfl,ha,hb,hx,hz,q1,λ_ p hp=>q2 p hp⟩
theorem ii {st:Sto}{H:Hp}{φ:List Addr}{w:W}{v:V}{ds:List D} (S:Sr K H φ st) (r:Rw K H φ w v) (e:lsD st w=some ds):∃ a vs,v=.ref a/\Rd H a (.lst vs)/\Rls K H φ ds vs:=by
 cases w with
 | h n=>
  obtain⟨a,ea,rfl⟩:=r
  obtain⟨vs,q,rl⟩:=S.atl n a ds ea e
  exact⟨a,vs,rfl,.inl q,rl⟩
 | d x=>
  cases x with
  | lst es=>cases e;obtain⟨a,vs,rfl,h0,h1,h2⟩:=r;exact⟨a,vs,rfl,h1,h2⟩
  | _=>cases e
theorem mil:(1000000:Nat)<=sizeLine:=by rw [qbi];decide
theorem dH (hK:X.K=K:=by rfl):OpD K X (binaryOp .Add) d3:=by
 subst hK
 refine⟨λst x y d h=>?_⟩
 have lists:(lsD st x).bind (λa=>(lsD st y).bind λb=>if a.length+b.length<=1000000 then some (.lst (a++b)) else none)=some d->OpR X (binaryOp .Add) (rD X.K st x y d):=λh=>by
  simp only [qac] at h
  obtain⟨as,ha,bs,hb,h⟩:=h
  split at h
  ·rename_i hl
   cases h
   refine zQ.imp ?_
   rintro vx vy H Q ⟨φ,S,r1,r2,q⟩
   obtain⟨a,us,rfl,h1,h2⟩:=ii S r1 ha
   obtain⟨b,vs,rfl,h3,h4⟩:=ii S r2 hb
   refine⟨a,b,us,vs,rfl,rfl,h1,h3,by rw [<-h2.length,<-h4.length];exact qaQ hl mil,λp hp=>q _ _ (bm.new hp _) ?_⟩
   exact⟨p,_,rfl,S.nin hp,.inl aI,(h2.append h4).fw S (Fw.new hp)⟩
  ·cases h
 unfold d3 at h
 split at h
 next i j=>
  cases h
  refine Ca.imp ?_
  rintro vx vy H Q ⟨φ,S,r1,r2,q⟩
  exact⟨i,j,r1,r2,q _ H (bm.refl H) rfl⟩
 next as bs=>
  split at h
  ·rename_i hl
   cases h
   refine xC.imp ?_
   rintro vx vy H Q ⟨φ,S,⟨a,us,rfl,h1,h2⟩,⟨b,vs,rfl,h3,h4⟩,q⟩
   refine⟨a,b,us,vs,rfl,rfl,(SqT.of h1),(SqT.of h3),by rw [<-h2.length,<-h4.length];exact qaQ hl mil,λe=>?_,λe=>?_,λp hp=>?_⟩
   ·subst e
    have:as=[]:=by cases as with | nil=>rfl | cons _ _=>cases h2.length
    subst this
    exact q _ H (bm.refl H) ⟨b,vs,rfl,h3,h4⟩
   ·subst e
    have:bs=[]:=by cases bs with | nil=>rfl | cons _ _=>cases h4.length
    subst this
    exact q _ H (bm.refl H) ⟨a,us,rfl,h1,by rw [qcZ];exact h2⟩
   ·exact q _ _ (bm.new hp _) ⟨p,_,rfl,aI,(h2.append h4).fw S (Fw.new hp)⟩
  ·cases h
 next as bs=>
  split at h
  ·rename_i hl
   cases h
   refine sh.imp ?_
   rintro vx vy H Q ⟨φ,S,r1,r2,q⟩
   exact⟨as,bs,r1,r2,qaQ hl mil,q _ H (bm.refl H) rfl⟩
  ·cases h
 next=>exact lists h
theorem zT:OpR X (binaryOp .Mult) (λx y H Q=>∃ l k xs,x=.ref l/\y=.int k/\Rd H l (.lst xs)/\-(2 ^ 63)<=k/\k < 2 ^ 63/\xs.length*k.toNat<=sizeLine/\
 ∀ p,H p=none->Q (.ref p) (upd H p (.lst (List.replicate k.toNat xs).flatten))):=by
 intro pins s σ H x y v u Q I rx ry h
 obtain⟨l,k,xs,rfl,rfl,hH,h1,h2,hz,q⟩:=h
 cases rx
 obtain⟨t,rfl⟩:=ry
 obtain⟨z,its,n,r,e⟩:=hH.ok I.hok
 have hl:=r.length
 have hlen:its.toArray.size*k.toNat<=sizeLine:=by rw [qas,<-hl];exact hz
 have hcap:¬ its.toArray.size*k.toNat > (2 ^ 63 - 1) / 8:=by
  have:(sizeLine:Nat)<=(2 ^ 63 - 1) / 8:=by decide
  lia
 have hfit:¬ (!Builtin.List.listFitsIndex k)=true:=by
  rw [qiA h1 h2]
  exact qal
 have hlong:¬ Builtin.List.listTooLong (its.toArray.size*k.toNat)=true:=by
  rw [o0 hlen]
  exact qal
 have hnew:List.foldl (λx1 x2=>x1++x2) #[] (List.replicate (if its.toArray.isEmpty=true then 0 else k.toNat) its.toArray)=(List.replicate k.toNat its).flatten.toArray:=by
  have f0:∀ m:Nat,List.foldl (λx1 x2=>x1++x2) #[] (List.replicate m its.toArray)=(List.replicate m its).flatten.toArray:=λm=>by
   have:=jz its m []
   rw [qce] at this
   exact this
  rw [f0]
  cases its with
  | nil=>simp
  | cons a r'=>rw [if_neg (by simp)]
 refine qge (T:="list") (U:="int") (by decide) ⟨_,e,rfl⟩ (λs'=>qeE s' k t) noFill_list_mul qhx qem repeat_list qhj.lookup
  (qcN qem (qeE s k t) qhk (qhc _ _) (int___rmul___int_list k t l its.toArray n)
    ⟨e,rfl,⟨_,e,rfl⟩,qcN F.slot_list_mul ⟨_,e,rfl⟩ F.entry_list_mul (F.args_list_mul_2 _ _) (AutoListH.list___mul___list_int_3 l its.toArray n k t hfit hcap hlong) ⟨e,?_⟩⟩)
 rw [hnew]
 exact⟨.ref _,_,I.lnew (t':=s.toks) (r.rep k.toNat) (by rw [oq,qik];exact hz),rfl,q _ I.fresh⟩
theorem fq (hK:X.K=K:=by rfl):OpD K X (binaryOp .Mult) ge:=by
 subst hK
 refine⟨λst x y d h=>?_⟩
 unfold ge at h
 split at h
 next i j=>
  split at h
  ·rename_i hl
   cases h
   refine yT.imp ?_
   rintro vx vy H Q ⟨φ,S,r1,r2,q⟩
   exact⟨i,j,r1,r2,hl,q _ H (bm.refl H) rfl⟩
  ·cases h
 next as k=>
  split at h
  ·rename_i hl
   cases h
   refine zb.imp ?_
   rintro vx vy H Q ⟨φ,S,⟨a,us,rfl,h1,h2⟩,r2,q⟩
   have hne:us≠[]:=by rintro rfl;cases as with | nil=>exact hl.1 rfl | cons _ _=>cases h2.length
   refine⟨a,k,us,rfl,r2,(SqT.of h1),hne,by rw [<-h2.length];exact hl.2.1,hl.2.2.1,hl.2.2.2,λe=>?_,λ_ p hp=>?_⟩
   ·subst e
    exact q _ H (bm.refl H) ⟨a,us,rfl,h1,by simpa using h2⟩
   ·exact q _ _ (bm.new hp _) ⟨p,_,rfl,aI,(h2.rep _).fw S (Fw.new hp)⟩
  ·cases h
 next as k=>
  split at h
  ·rename_i hl
   cases h
   refine zT.imp ?_
   rintro vx vy H Q ⟨φ,S,⟨a,us,rfl,h0,h1,h2⟩,r2,q⟩
   refine⟨a,k,us,rfl,r2,h1,by lia,by lia,?_,λp hp=>?_⟩
   ·rw [<-h2.length]
    have:as.length*k.toNat<=1000*1000:=qfM hl.1 (by lia)
    exact qaQ this mil
   ·exact q _ _ (bm.new hp _) ⟨p,_,rfl,S.nin hp,.inl aI,(h2.rep _).fw S (Fw.new hp)⟩
  ·cases h
 next=>cases h
noncomputable def dIx (st:Sto) (x y:W):Option D:=match x,y with
 | .d (.str z),.d (.int i)=>if z.length<=1000000 then (atI z.cps.toList i).map λc=>.str ⟨#[c]⟩ else none
 | x,.d (.int i)=>(eV st x).bind λds=>atI ds i
 | _,_=>none
theorem Bx {H:Hp}{φ:List Addr}{ds:List D}{vs:List V}{i:Int}{d:D} (r:Rls K H φ ds vs) (e:atI ds i=some d):∃ v,atI vs i=some v/\Rl K H φ d v:=by
 unfold atI at e ⊢
 rw [<-r.length]
 obtain⟨j,e1,e2⟩:=qac.mp e
 obtain⟨v,ev,rv⟩:=r.get e2
 exact⟨v,by rw [e1];exact ev,rv⟩
theorem IxR.imp {r r':R2} (h:IxR X r) (m:∀ x y H Q,r' x y H Q->r x y H Q):IxR X r':=λvalue slice pins s σ H x y v u Q I rx ry q hs=>h value slice pins s σ H x y v u Q I rx ry (m _ _ _ _ q) hs
theorem CU (st:Sto) (x y:W) (d:D) (h:dIx st x y=some d) (hK:X.K=K):IxR X (rD K st x y d):=by
 subst hK
 unfold dIx at h
 split at h
 next z i=>
  split at h
  next hl=>
   obtain⟨c,e1,rfl⟩:=qae.mp h
   refine sE.imp ?_
   rintro vx vy H Q ⟨φ,S,r1,r2,q⟩
   exact .inr (.inr ⟨z,i,c,r1,r2,qaQ hl mil,e1,q _ H (bm.refl H) rfl⟩)
  next=>cases h
 next x i _=>
  obtain⟨ds,e1,e2⟩:=qac.mp h
  refine sE.imp ?_
  rintro vx vy H Q ⟨φ,S,r1,r2,q⟩
  obtain⟨a,vs,rfl,h1,h2⟩:=iD S r1 e1
  obtain⟨v,ev,rv⟩:=Bx h2 e2
  rcases h1 with h1 | h1
  ·exact .inl ⟨a,vs,i,v,rfl,r2,h1,ev,q _ H (bm.refl H) rv⟩
  ·exact .inr (.inl ⟨a,vs,i,v,rfl,r2,h1,ev,q _ H (bm.refl H) rv⟩)
 next=>cases h
variable {e a b:Expr}{pos p2:Pos}{f fa fb:Ef}
theorem b9 (ha:IE K X a fa) (hb:IE K X b fb) (hs:jg b=true:=by rfl) (hK:X.K=K:=by rfl):IE K X (.Subscript a b pos) (iOp dIx fa fb):=by
 refine⟨λenv st r hr=>?_⟩
 simp only [iOp,qac,qae] at hr
 obtain⟨x,hx,y,hy,d,hd,rfl⟩:=hr
 exact (Ah (CU _ _ _ _ hd hK) (ha.run _ _ _ hx) (hb.run _ _ _ hy) (qT hs)).imp λσ H Q h=>nR h
abbrev Pf:=Ev->Sto->Option (Option Int×Sto)
noncomputable def iPn:Pf
 | _,st=>some (none,st)
noncomputable def Ba:W->Option Int
 | .d (.int i)=>some i
 | _=>none
theorem uK {w:W}{i:Int} (h:Ba w=some i):w=.d (.int i):=by
 cases w with
 | h n=>cases h
 | d x=>cases x<;>first | (cases h;done) | (injection h with h;subst h;rfl)
noncomputable def iPs (f:Ef):Pf
 | env,st=>(f env st).bind λr=>(Ba r.1).map λi=>(some i,r.2)
noncomputable def tIO (K:PySem.W.Frag) (env:Ev) (st:Sto) (r:Option Int×Sto):TO:=λσ H Q=>∃ φ,Er K H φ env σ/\Sr K H φ st/\∀ H' φ',Fw φ φ' H H'->Sr K H' φ' r.2->Q r.1 H'
structure IO (K:PySem.W.Frag) (X:Cx) (e:Option Expr) (f:Pf):Prop where
 run:∀ env st r,f env st=some r->PO X e (tIO K env st r)
theorem PO.imp {e:Option Expr}{t t':TO} (h:PO X e t) (m:∀ σ H Q,t' σ H Q->t σ H Q):PO X e t':=λpins s σ H Q I q=>h pins s σ H Q I (m σ H Q q)
theorem tz:IO K X none iPn:=by
 refine⟨λenv st r hr=>?_⟩
 cases hr
 exact yc.imp λσ H Q ⟨φ,hE,hS,q⟩=>q H φ (Fw.refl φ H) hS
theorem ui (h:IE K X e f):IO K X (some e) (iPs f):=by
 refine⟨λenv st r hr=>?_⟩
 simp only [iPs,qac,qae] at hr
 obtain⟨⟨x,s1⟩,hx,i,hi,rfl⟩:=hr
 cases uK hi
 refine (ze (h.run _ _ _ hx)).imp ?_
 rintro σ H Q ⟨φ,hE,hS,q⟩
 exact⟨φ,hE,hS,λv H1 φ1 f1 s1 w1=>⟨i,w1,q H1 φ1 f1 s1⟩⟩
noncomputable def lv (xs:List D) (lo hi:Option Int):List D:=(xs.drop (HT.sIx xs.length 0 lo)).take (HT.sIx xs.length xs.length hi - HT.sIx xs.length 0 lo)
theorem tL {H:Hp}{φ:List Addr}{ds:List D}{vs:List V} (r:Rls K H φ ds vs) (lo hi:Option Int):Rls K H φ (lv ds lo hi) (oI vs lo hi):=by
 unfold lv oI
 rw [r.length]
 exact (r.drop _).take _
noncomputable def dSl (st:Sto) (x:W) (lo hi:Option Int):Option D:=match x with
 | .d (.tup ds)=>some (.tup (lv ds lo hi))
 | .d (.lst ds)=>some (.lst (lv ds lo hi))
 | .h n=>(lg st n).map λds=>.lst (lv ds lo hi)
 | .d (.scr ns)=>some (.lst (lv (ns.map D.int) lo hi))
 | _=>none
noncomputable def iSl (f:Ef) (lo hi:Pf):Ef
 | env,st=>(f env st).bind λx=>(lo env x.2).bind λl=>(hi env l.2).bind λu=>(dSl u.2 x.1 l.1 u.1).map λd=>(.d d,u.2)
theorem z6 {lo hi:Option Expr}{fl fh:Pf} (h:IE K X e f) (hl:IO K X lo fl) (hh:IO K X hi fh) (hK:X.K=K:=by rfl):IE K X (.Subscript e (.Slice lo hi none p2) pos) (iSl f fl fh):=by
 subst hK
 refine⟨λenv st r hr=>?_⟩
 simp only [iSl,qac,qae] at hr
 obtain⟨⟨x,s1⟩,hx,l,hl',u,hu',d,hd,rfl⟩:=hr
 have list:(∀ {H:Hp}{φ:List Addr}{v:V},Sr X.K H φ u.2->Rw X.K H φ x v->∃ a vs ds,v=.ref a/\SqL X.K H a vs/\Rls X.K H φ ds vs/\d=.lst (lv ds l.1 u.1))->PE X (.Subscript e (.Slice lo hi none p2) pos) (tI X.K env st (.d d,u.2)):=λhq=>by
  refine (qw zd (h.run _ _ _ hx) (hl.run _ _ _ hl') (hh.run _ _ _ hu')).imp ?_
  rintro σ H Q ⟨φ,hE,hS,q⟩
  refine⟨φ,hE,hS,λv H1 φ1 f1 s1 w1=>⟨φ1,hE.fw hS f1,s1,λH2 φ2 f2 s2=>⟨φ2,(hE.fw hS f1).fw s1 f2,s2,λH3 φ3 f3 s3=>?_⟩⟩⟩
  obtain⟨a,vs,ds,rfl,h1,h2,rfl⟩:=hq s3 ((w1.fw s1 f2).fw s2 f3)
  refine⟨a,vs,rfl,h1,λp hp=>q _ _ φ3 (((f1.trans f2).trans f3).trans (Fw.new hp)) (s3.new hp) ?_⟩
  exact⟨p,_,rfl,s3.nin hp,.inl aI,(tL h2 _ _).fw s3 (Fw.new hp)⟩
 dsimp only at hd
 unfold dSl at hd
 split at hd
 next ds=>
  cases hd
  refine (qw (B8 (K:=X.K) rfl) (h.run _ _ _ hx) (hl.run _ _ _ hl') (hh.run _ _ _ hu')).imp ?_
  rintro σ H Q ⟨φ,hE,hS,q⟩
  refine⟨φ,hE,hS,λv H1 φ1 f1 s1 w1=>⟨φ1,hE.fw hS f1,s1,λH2 φ2 f2 s2=>⟨φ2,(hE.fw hS f1).fw s1 f2,s2,λH3 φ3 f3 s3=>?_⟩⟩⟩
  obtain⟨a,vs,rfl,h1,h2⟩:=(w1.fw s1 f2).fw s2 f3
  refine⟨a,vs,rfl,(SqT.of h1),?_⟩
  by_cases hc:HT.sIx vs.length 0 l.1=0/\HT.sIx vs.length vs.length u.1=vs.length
  ·refine .inr ⟨hc,q _ _ φ3 ((f1.trans f2).trans f3) s3 ⟨a,vs,rfl,h1,?_⟩⟩
   have e:lv ds l.1 u.1=ds:=by
    unfold lv
    rw [h2.length,hc.1,hc.2,qdA,qe1,<-h2.length,qbQ]
   rw [e]
   exact h2
  ·exact .inl ⟨hc,λp hp=>q _ _ φ3 (((f1.trans f2).trans f3).trans (Fw.new hp)) (s3.new hp) ⟨p,_,rfl,aI,(tL h2 _ _).fw s3 (Fw.new hp)⟩⟩
 next ds=>
  cases hd
  refine list λ{H φ v} S w=>?_
  obtain⟨a,vs,rfl,h0,h1,h2⟩:=w
  exact⟨a,vs,ds,rfl,.inl h1,h2,rfl⟩
 next n=>
  obtain⟨ds,e1,rfl⟩:=qae.mp hd
  refine list λ{H φ v} S w=>?_
  obtain⟨a,ea,rfl⟩:=w
  obtain⟨vs,q,rl⟩:=S.atl n a ds ea e1
  exact⟨a,vs,ds,rfl,SqL.of q,rl,rfl⟩
 next ns=>
  cases hd
  refine list λ{H φ v} S w=>?_
  obtain⟨a,rfl,h⟩:=w
  refine⟨a,_,_,rfl,?_,Rls.of_ints ns,rfl⟩
  rcases h with⟨o,h⟩ | h
  ·exact .inl (.inr ⟨o,h⟩)
  ·exact .inr h
 next=>cases hd
end
section
variable {K:PySem.W.Frag}{X:Cx}{pins:List (Addr×Obj)}{σ:St}{H:Hp}{s:Shared}{φ:List Addr}{st:Sto}
theorem et:∀ (xs ys:List D),((List.range (min xs.length ys.length)).all (λj=>eqD (xs.getD j .non) (ys.getD j .non)) && xs.length==ys.length)=dL xs ys
 | [],[]=>rfl
 | [],y::ys=>by simp [dL]
 | x::xs,[]=>by simp [dL]
 | x::xs,y::ys=>by
  show ((List.range (min (xs.length+1) (ys.length+1))).all (λj=>eqD ((x::xs).getD j .non) ((y::ys).getD j .non)) && (xs.length+1==ys.length+1))=(eqD x y && dL xs ys)
  rw [show min (xs.length+1) (ys.length+1)=min xs.length ys.length+1 by lia,kO,<-et xs ys]
  have e:(xs.length+1==ys.length+1)=(xs.length==ys.length):=by rw [qdp];simp
  rw [e,Bool.and_assoc]
  rfl
theorem gX {xs ys:List D} (h:xs.length=ys.length):(List.range xs.length).all (λj=>eqD (xs.getD j .non) (ys.getD j .non))=dL xs ys:=by
 rw [<-et xs ys,<-h,Nat.min_self];simp
theorem qr:∀ {xs ys:List D},xs.length≠ys.length->dL xs ys=false
 | [],[],h=>absurd rfl h
 | [],_::_,_=>rfl
 | _::_,[],_=>rfl
 | x::xs,y::ys,h=>by
  show (eqD x y && dL xs ys)=false
  rw [qr (by intro e;apply h;rw [qaq,qaq,e]),qfE]
theorem yn (I:Inv X pins σ H s) {a:Addr}{vs ws:List V} (h:Rd H a (.lst vs)) (h':Rd H a (.lst ws)):vs=ws:=I.list_inj (.inl h) (.inl h')
theorem Bj {x:V} (h:d5 x=true):eqV x x=true:=by
 cases x<;>first | (cases h;done) | (simp [eqV];done)
theorem xn {d e:D}{v:V} (f1:cr d=true) (f2:cr e=true) (r1:Rl K H φ d v) (r2:Rl K H φ e v):eqD d e=true:=by
 obtain⟨e1,g1⟩:=dv f1 r1
 obtain⟨e2,_⟩:=dv f2 r2
 rw [<-ky f1 f2,<-e1,<-e2]
 exact Bj g1
theorem lJ {n:Nat}{d e:D}{v:V} (f:cr d=true) (r1:Rl K H φ d v) (r2:Rl K H φ e v) (o2:okD n e=true):eqD d e=true:=by
 have g1:=(dv f r1).2
 cases e with
 | tup es=>obtain⟨b,us,q,_⟩:=r2;rw [q] at g1;cases g1
 | lst es=>obtain⟨b,us,q,_⟩:=r2;rw [q] at g1;cases g1
 | _=>first | exact xn f rfl r1 r2 | (cases n<;>cases o2;done)
theorem sU (I:Inv X pins σ H s):∀ (n:Nat) {d e:D}{v:V},Rl X.K H φ d v->Rl X.K H φ e v->okD n d=true->okD n e=true->eqD d e=true:=by
 intro n
 induction n with
 | zero=>
  intro d e v r1 r2 o1 o2
  refine lJ ?_ r1 r2 o2
  cases d<;>first | rfl | (cases o1;done)
 | succ n ih=>
  have lists:∀ {ds es:List D}{vs:List V},Rls X.K H φ ds vs->Rls X.K H φ es vs->(∀ d ∈ ds,okD n d=true)->(∀ d ∈ es,okD n d=true)->dL ds es=true:=by
   intro ds
   induction ds with
   | nil=>
    intro es vs r1 r2 _ _
    cases r1
    cases es with
    | nil=>rfl
    | cons e es=>obtain⟨_,_,q,_⟩:=r2;cases q
   | cons d ds ihd=>
    intro es vs r1 r2 o1 o2
    obtain⟨v,r,rfl,a1,a2⟩:=r1
    cases es with
    | nil=>cases r2
    | cons e es=>
     obtain⟨v',r',q,b1,b2⟩:=r2
     cases q
     show (eqD d e && dL ds es)=true
     rw [ih a1 b1 (o1 d qah) (o2 e qah),ihd a2 b2 (λx hx=>o1 x (qaf _ hx)) (λx hx=>o2 x (qaf _ hx))]
     rfl
  intro d e v r1 r2 o1 o2
  cases d with
  | tup ds=>
   obtain⟨a,vs,rfl,h1,h2⟩:=r1
   cases e with
   | tup es=>
    obtain⟨b,us,q,h3,h4⟩:=r2
    cases q
    rw [I.tuple_inj (SqT.of h3) (SqT.of h1)] at h4
    exact lists h2 h4 (qaw.mp o1) (qaw.mp o2)
   | lst es=>
    obtain⟨b,us,q,_,h3,h4⟩:=r2
    cases q
    obtain⟨_,_,p1,_⟩:=I.tuple (SqT.of h1)
    obtain⟨_,_,p2,_⟩:=I.list (.inl h3)
    exact absurd rfl (qfR p2.isList p1)
   | _=>first | (cases o2;done) | (cases r2;done)
  | lst ds=>
   obtain⟨a,vs,rfl,h0,h1,h2⟩:=r1
   cases e with
   | lst es=>
    obtain⟨b,us,q,_,h3,h4⟩:=r2
    cases q
    rw [yn I h3 h1] at h4
    exact lists h2 h4 (qaw.mp o1) (qaw.mp o2)
   | tup es=>
    obtain⟨b,us,q,h3,h4⟩:=r2
    cases q
    obtain⟨_,_,p1,_⟩:=I.tuple (SqT.of h3)
    obtain⟨_,_,p2,_⟩:=I.list (.inl h1)
    exact absurd rfl (qfR p2.isList p1)
   | _=>first | (cases o2;done) | (cases r2;done)
  | non=>exact lJ rfl r1 r2 o2
  | bl b=>exact lJ rfl r1 r2 o2
  | int b=>exact lJ rfl r1 r2 o2
  | str b=>exact lJ rfl r1 r2 o2
  | ty b=>cases o1
  | scr b=>cases o1
  | dct=>cases o1
theorem dU {ds:List D}{vs:List V}{us:List Value} (r:Rls K H φ ds vs) (rv:av vs us):∀ (j:Nat) (h:j < us.length),∃ v,Rl K H φ (ds.getD j .non) v/\aA v us[j]/\ds.getD j .non ∈ ds:=by
 intro j h
 obtain⟨h',q⟩:=rv.at j h
 have hd:j < ds.length:=by rw [r.length];exact h'
 have e:ds[j]?=some ds[j]:=qaH hd
 obtain⟨v,ev,rl⟩:=r.get e
 rw [qaH h'] at ev
 cases ev
 refine⟨_,?_,q,?_⟩
 ·rw [List.getD,e];exact rl
 ·rw [List.getD,e];exact qdU hd
theorem A5 (I:Inv X pins σ H s):∀ (n:Nat) {A:Around}{d e:D}{v u:V}{vv uu:Value},Rl X.K H φ d v->Rl X.K H φ e u->aA v vv->aA u uu->okD n d=true->okD n e=true->A.units+n < cLine->SeqAt.EqAt A s vv uu (eqD d e):=by
 have flat:∀ {A:Around}{d e:D}{v u:V}{vv uu:Value},cr d=true->cr e=true->Rl X.K H φ d v->Rl X.K H φ e u->aA v vv->aA u uu->SeqAt.EqAt A s vv uu (eqD d e):=by
  intro A d e v u vv uu f1 f2 r1 r2 q1 q2
  obtain⟨e1,g1⟩:=dv f1 r1
  obtain⟨e2,g2⟩:=dv f2 r2
  rw [<-ky f1 f2,<-e1,<-e2]
  exact r8 q1 q2 g1 g2
 intro n
 induction n with
 | zero=>
  intro A d e v u vv uu r1 r2 q1 q2 o1 o2 hu
  refine flat ?_ ?_ r1 r2 q1 q2
  ·cases d<;>first | rfl | cases o1
  ·cases e<;>first | rfl | cases o2
 | succ n ih=>
  intro A d e v u vv uu r1 r2 q1 q2 o1 o2 hu
  have hu0:A.units < cLine:=by lia
  have hu1:A.in1.units+n < cLine:=by show A.units+1+n < cLine;lia
  cases d with
  | tup ds=>
   obtain⟨a,vs,rfl,h1,h2⟩:=r1
   cases q1
   obtain⟨its,rv,p1,_⟩:=I.tuple (SqT.of h1)
   cases e with
   | tup es=>
    obtain⟨b,us,rfl,h3,h4⟩:=id r2
    cases q2
    by_cases hab:a=b
    ·subst hab
     rw [sU I (n+1) (d:=.tup ds) ⟨a,vs,rfl,h1,h2⟩ r2 o1 o2]
     exact qeG _
    ·obtain⟨its2,rv2,p2,_⟩:=I.tuple (SqT.of h3)
     have z:=qef (A:=A) (e:=λj=>eqD (ds.getD j .non) (es.getD j .non)) p1 p2 hu0 λj g1 g2=>by
      obtain⟨v1,k1,k2,k3⟩:=dU h2 rv j (by simpa using g1)
      obtain⟨v2,k4,k5,k6⟩:=dU h4 rv2 j (by simpa using g2)
      exact ih k1 k4 (by simpa using k2) (by simpa using k5) (qaw.mp o1 _ k3) (qaw.mp o2 _ k6) hu1
     have e1:its.toArray.size=ds.length:=by simp [<-rv.length,h2.length]
     have e2:its2.toArray.size=es.length:=by simp [<-rv2.length,h4.length]
     rw [e1,e2,et] at z
     exact qd2 hab z
   | lst es=>
    obtain⟨b,us,rfl,_,h3,h4⟩:=id r2
    cases q2
    obtain⟨its2,rv2,p2,_⟩:=I.list (.inl h3)
    exact qjc p1 p2.isList hu0
   | non=>cases r2;cases q2;exact qjb p1 hu0
   | bl x=>cases r2;cases q2;exact qje x p1 hu0
   | int x=>cases r2;obtain⟨t,rfl⟩:=q2;exact qjd x t p1 hu0
   | str x=>cases r2;obtain⟨t,rfl⟩:=q2;exact qja x t p1 hu0
   | ty _=>cases o2
   | scr _=>cases o2
   | dct=>cases o2
  | lst ds=>
   obtain⟨a,vs,rfl,h0,h1,h2⟩:=r1
   cases q1
   obtain⟨its,rv,p1,_⟩:=I.list (.inl h1)
   cases e with
   | lst es=>
    obtain⟨b,us,rfl,_,h3,h4⟩:=id r2
    cases q2
    by_cases hab:a=b
    ·subst hab
     rw [sU I (n+1) (d:=.lst ds) ⟨a,vs,rfl,h0,h1,h2⟩ r2 o1 o2]
     exact qeG _
    ·obtain⟨its2,rv2,p2,_⟩:=I.list (.inl h3)
     have e1:its.toArray.size=ds.length:=by simp [<-rv.length,h2.length]
     have e2:its2.toArray.size=es.length:=by simp [<-rv2.length,h4.length]
     by_cases hl:ds.length=es.length
     ·have z:=qf2 (A:=A) (e:=λj=>eqD (ds.getD j .non) (es.getD j .non)) p1.isList p2.isList (by rw [e1,e2,hl]) hu0 λj g1 g2=>by
       obtain⟨v1,k1,k2,k3⟩:=dU h2 rv j (by simpa using g1)
       obtain⟨v2,k4,k5,k6⟩:=dU h4 rv2 j (by simpa using g2)
       exact ih k1 k4 (by simpa using k2) (by simpa using k5) (qaw.mp o1 _ k3) (qaw.mp o2 _ k6) hu1
      rw [e1,gX hl] at z
      exact qd2 hab z
     ·have z:=qeT (A:=A) p1.isList p2.isList (by rw [e1,e2];simpa using hl) hu0
      show SeqAt.EqAt A s _ _ (dL ds es)
      rw [qr hl]
      exact qd2 hab z
   | tup es=>
    obtain⟨b,us,rfl,h3,h4⟩:=id r2
    cases q2
    obtain⟨its2,rv2,p2,_⟩:=I.tuple (SqT.of h3)
    exact qjp p1.isList p2 hu0
   | non=>cases r2;cases q2;exact qjr p1.isList hu0
   | bl x=>cases r2;cases q2;exact qjt x p1.isList hu0
   | int x=>cases r2;obtain⟨t,rfl⟩:=q2;exact qjs x t p1.isList hu0
   | str x=>cases r2;obtain⟨t,rfl⟩:=q2;exact qjq x t p1.isList hu0
   | ty _=>cases o2
   | scr _=>cases o2
   | dct=>cases o2
  | non=>
   cases r1;cases q1
   cases e with
   | tup es=>obtain⟨b,us,rfl,h3,h4⟩:=r2;cases q2;obtain⟨_,_,p2,_⟩:=I.tuple (SqT.of h3);exact qjk p2 hu0
   | lst es=>obtain⟨b,us,rfl,_,h3,h4⟩:=r2;cases q2;obtain⟨_,_,p2,_⟩:=I.list (.inl h3);exact qjm p2.isList hu0
   | _=>first | (cases o2;done) | exact flat rfl rfl (d:=.non) rfl r2 (v:=.non) rfl q2
  | bl x=>
   cases r1;cases q1
   cases e with
   | tup es=>obtain⟨b,us,rfl,h3,h4⟩:=r2;cases q2;obtain⟨_,_,p2,_⟩:=I.tuple (SqT.of h3);exact qjz x p2 hu0
   | lst es=>obtain⟨b,us,rfl,_,h3,h4⟩:=r2;cases q2;obtain⟨_,_,p2,_⟩:=I.list (.inl h3);exact qjC x p2.isList hu0
   | _=>first | (cases o2;done) | exact flat rfl rfl (d:=.bl x) rfl r2 (v:=.bl x) rfl q2
  | int x=>
   cases r1;obtain⟨t1,rfl⟩:=q1
   cases e with
   | tup es=>obtain⟨b,us,rfl,h3,h4⟩:=r2;cases q2;obtain⟨_,_,p2,_⟩:=I.tuple (SqT.of h3);exact qju x t1 p2 hu0
   | lst es=>obtain⟨b,us,rfl,_,h3,h4⟩:=r2;cases q2;obtain⟨_,_,p2,_⟩:=I.list (.inl h3);exact qjw x t1 p2.isList hu0
   | _=>first | (cases o2;done) | exact flat rfl rfl (d:=.int x) rfl r2 (v:=.int x) ⟨t1,rfl⟩ q2
  | str x=>
   cases r1;obtain⟨t1,rfl⟩:=q1
   cases e with
   | tup es=>obtain⟨b,us,rfl,h3,h4⟩:=r2;cases q2;obtain⟨_,_,p2,_⟩:=I.tuple (SqT.of h3);exact qjf x t1 p2 hu0
   | lst es=>obtain⟨b,us,rfl,_,h3,h4⟩:=r2;cases q2;obtain⟨_,_,p2,_⟩:=I.list (.inl h3);exact qji x t1 p2.isList hu0
   | _=>first | (cases o2;done) | exact flat rfl rfl (d:=.str x) rfl r2 (v:=.str x) ⟨t1,rfl⟩ q2
  | ty _=>cases o1
  | scr _=>cases o1
  | dct=>cases o1
theorem BI {A:Around}{y x:V}{u v:Value} (ry:aA y u) (rx:aA x v) (fy:d5 y=true) (fx:d5 x=true):SeqAt.RcAt A s u v (eqV y x):=by
 cases y with
 | non=>
  cases ry
  cases x with
  | non=>cases rx;exact qiP
  | bl b=>cases rx;exact qiS b
  | int b=>obtain⟨t,rfl⟩:=rx;exact qiR b t
  | str b=>obtain⟨t,rfl⟩:=rx;exact qiO b t
  | _=>cases fx
 | bl a=>
  cases ry
  cases x with
  | non=>cases rx;exact qi6 a
  | bl b=>cases rx;exact qi9 a b
  | int b=>obtain⟨t,rfl⟩:=rx;exact qi8 a b t
  | str b=>obtain⟨t,rfl⟩:=rx;exact qi5 a b t
  | _=>cases fx
 | int a=>
  obtain⟨t',rfl⟩:=ry
  cases x with
  | non=>cases rx;exact qi0 a t'
  | bl b=>cases rx;exact qi3 a t' b
  | int b=>obtain⟨t,rfl⟩:=rx;exact qi2 a t' b t
  | str b=>obtain⟨t,rfl⟩:=rx;exact qiZ a t' b t
  | _=>cases fx
 | str a=>
  obtain⟨t',rfl⟩:=ry
  cases x with
  | non=>cases rx;exact qiJ a t'
  | bl b=>cases rx;exact qiM a t' b
  | int b=>obtain⟨t,rfl⟩:=rx;exact qiL a t' b t
  | str b=>obtain⟨t,rfl⟩:=rx;exact qiI a t' b t
  | _=>cases fx
 | _=>cases fy
theorem wO {A:Around}{y x:V}{u v:Value} (ry:aA y u) (rx:aA x v) (fy:d5 y=true) (fx:d5 x=true):SeqAt.RcNeAt A s u v (!eqV y x):=by
 cases y with
 | non=>
  cases ry
  cases x with
  | non=>cases rx;exact qhN
  | bl b=>cases rx;exact qhQ b
  | int b=>obtain⟨t,rfl⟩:=rx;exact qhP b t
  | str b=>obtain⟨t,rfl⟩:=rx;exact qhM b t
  | _=>cases fx
 | bl a=>
  cases ry
  cases x with
  | non=>cases rx;exact qh6 a
  | bl b=>cases rx;exact qh9 a b
  | int b=>obtain⟨t,rfl⟩:=rx;exact qh8 a b t
  | str b=>obtain⟨t,rfl⟩:=rx;exact qh5 a b t
  | _=>cases fx
 | int a=>
  obtain⟨t',rfl⟩:=ry
  cases x with
  | non=>cases rx;exact qh0 a t'
  | bl b=>cases rx;exact qh3 a t' b
  | int b=>obtain⟨t,rfl⟩:=rx;exact qh2 a t' b t
  | str b=>obtain⟨t,rfl⟩:=rx;exact qhZ a t' b t
  | _=>cases fx
 | str a=>
  obtain⟨t',rfl⟩:=ry
  cases x with
  | non=>cases rx;exact qhH a t'
  | bl b=>cases rx;exact qhK a t' b
  | int b=>obtain⟨t,rfl⟩:=rx;exact qhJ a t' b t
  | str b=>obtain⟨t,rfl⟩:=rx;exact qhG a t' b t
  | _=>cases fx
 | _=>cases fy
inductive Kin where
 | fl (d:D) | tp (ds:List D) | ls (ds:List D)
noncomputable def g7 (st:Sto):W->Option Kin
 | .d (.tup ds)=>some (.tp ds)
 | .d (.lst ds)=>some (.ls ds)
 | .h n=>(lg st n).map .ls
 | .d .non=>some (.fl .non)
 | .d (.bl b)=>some (.fl (.bl b))
 | .d (.int i)=>some (.fl (.int i))
 | .d (.str x)=>some (.fl (.str x))
 | _=>none
noncomputable def eqK:Kin->Kin->Option Bool
 | .fl a,.fl b=>some (eqD a b)
 | .tp as,.tp bs=>if (as.isEmpty || bs.isEmpty)=true then some (as.isEmpty && bs.isEmpty) else if as.all (okD 60)=true/\bs.all (okD 60)=true then some (dL as bs) else none
 | .ls as,.ls bs=>if as.length=bs.length then (if as.all (okD 60)=true/\bs.all (okD 60)=true then some (dL as bs) else none) else some false
 | .fl _,.tp _=>some false
 | .tp _,.fl _=>some false
 | .fl _,.ls _=>some false
 | .ls _,.fl _=>some false
 | .tp _,.ls _=>some false
 | .ls _,.tp _=>some false
noncomputable def dEq (st:Sto) (x y:W):Option D:=(g7 st x).bind λa=>(g7 st y).bind λb=>(eqK a b).map λk=>.bl k
noncomputable def dNe (st:Sto) (x y:W):Option D:=(g7 st x).bind λa=>(g7 st y).bind λb=>(eqK a b).map λk=>.bl (!k)
noncomputable def Ax (K:PySem.W.Frag) (H:Hp) (φ:List Addr):Kin->V->Prop
 | .fl d,v=>cr d=true/\Rl K H φ d v
 | .tp ds,v=>∃ a vs,v=.ref a/\SqT K H a vs/\Rls K H φ ds vs
 | .ls ds,v=>∃ a vs,v=.ref a/\Rd H a (.lst vs)/\Rls K H φ ds vs
theorem kr {w:W}{v:V}{k:Kin} (S:Sr K H φ st) (r:Rw K H φ w v) (e:g7 st w=some k):Ax K H φ k v:=by
 cases w with
 | h n=>
  obtain⟨a,ea,rfl⟩:=r
  obtain⟨ds,e1,rfl⟩:=qae.mp e
  obtain⟨vs,q,rl⟩:=S.atl n a ds ea e1
  exact⟨a,vs,rfl,.inl q,rl⟩
 | d x=>
  cases x with
  | tup es=>cases e;obtain⟨a,vs,rfl,h1,h2⟩:=r;exact⟨a,vs,rfl,SqT.of h1,h2⟩
  | lst es=>cases e;obtain⟨a,vs,rfl,h0,h1,h2⟩:=r;exact⟨a,vs,rfl,h1,h2⟩
  | non=>cases e;exact⟨rfl,r⟩
  | bl b=>cases e;exact⟨rfl,r⟩
  | int b=>cases e;exact⟨rfl,r⟩
  | str b=>cases e;exact⟨rfl,r⟩
  | _=>cases e
theorem Bc {A:Around}{k:Nat} (hr:bn k A):A.in1.units+60 < cLine:=by
 have:=hr.un
 show A.units+1+60 < cLine
 lia
theorem xV {k:Nat} (hr:bn k X.A) (I:Inv X pins σ H s) {a b:Kin}{v u:V}{vv uu:Value}{r:Bool} (ra:Ax X.K H φ a v) (rb:Ax X.K H φ b u) (qa:aA v vv) (qb:aA u uu) (e:eqK a b=some r) :
  SeqAt.RcAt X.A s vv uu r/\SeqAt.RcNeAt X.A s vv uu (!r):=by
 have hu0:=hr.units0
 have items:∀ {ds es:List D}{vs us:List V}{its its2:List Value},Rls X.K H φ ds vs->Rls X.K H φ es us->av vs its->av us its2->ds.all (okD 60)=true->es.all (okD 60)=true->
   ∀ j (g1:j < its.toArray.size) (g2:j < its2.toArray.size),SeqAt.EqAt X.A.in1 s its.toArray[j] its2.toArray[j] (eqD (ds.getD j .non) (es.getD j .non)):=by
  intro ds es vs us its its2 h2 h4 rv rv2 o1 o2 j g1 g2
  obtain⟨v1,k1,k2,k3⟩:=dU h2 rv j (by simpa using g1)
  obtain⟨v2,k4,k5,k6⟩:=dU h4 rv2 j (by simpa using g2)
  exact A5 I 60 k1 k4 (by simpa using k2) (by simpa using k5) (qaw.mp o1 _ k3) (qaw.mp o2 _ k6) (Bc hr)
 match a,b,e with
 | .fl d,.fl d',e=>
  cases e
  obtain⟨f1,r1⟩:=ra
  obtain⟨f2,r2⟩:=rb
  obtain⟨e1,g1⟩:=dv f1 r1
  obtain⟨e2,g2⟩:=dv f2 r2
  rw [<-ky f1 f2,<-e1,<-e2]
  exact⟨BI qa qb g1 g2,wO qa qb g1 g2⟩
 | .tp ds,.tp es,e=>
  simp only [eqK] at e
  obtain⟨a,vs,rfl,h1,h2⟩:=ra
  obtain⟨b,us,rfl,h3,h4⟩:=rb
  cases qa;cases qb
  obtain⟨its,rv,p1,_⟩:=I.tuple h1
  obtain⟨its2,rv2,p2,_⟩:=I.tuple h3
  have e1:its.toArray.size=ds.length:=by simp [<-rv.length,h2.length]
  have e2:its2.toArray.size=es.length:=by simp [<-rv2.length,h4.length]
  split at e
  ·rename_i hc
   cases e
   have hv:∀ j (g1:j < its.toArray.size) (g2:j < its2.toArray.size),SeqAt.EqAt X.A.in1 s its.toArray[j] its2.toArray[j] (eqD (ds.getD j .non) (es.getD j .non)):=λj g1 g2=>by
    rw [e1] at g1
    rw [e2] at g2
    rw [qcy] at hc
    rcases hc with hc | hc
    ·rw [qgX.mp hc] at g1;exact absurd g1 (qci _)
    ·rw [qgX.mp hc] at g2;exact absurd g2 (qci _)
   have z:=qef (A:=X.A) p1 p2 hu0 hv
   have z':=qfe (A:=X.A) p1 p2 hu0 hv
   rw [e1,e2,et] at z z'
   have e3:dL ds es=(ds.isEmpty && es.isEmpty):=by
    cases ds with
    | nil=>cases es<;>rfl
    | cons _ _=>cases es with
     | nil=>rfl
     | cons _ _=>cases hc
   rw [e3] at z z'
   exact⟨z,z'⟩
  ·split at e
   ·rename_i hc
    cases e
    have z:=qef (A:=X.A) p1 p2 hu0 (items h2 h4 rv rv2 hc.1 hc.2)
    have z':=qfe (A:=X.A) p1 p2 hu0 (items h2 h4 rv rv2 hc.1 hc.2)
    rw [e1,e2,et] at z z'
    exact⟨z,z'⟩
   ·cases e
 | .ls ds,.ls es,e=>
  simp only [eqK] at e
  obtain⟨a,vs,rfl,h1,h2⟩:=ra
  obtain⟨b,us,rfl,h3,h4⟩:=rb
  cases qa;cases qb
  obtain⟨its,rv,p1,_⟩:=I.list (.inl h1)
  obtain⟨its2,rv2,p2,_⟩:=I.list (.inl h3)
  have e1:its.toArray.size=ds.length:=by simp [<-rv.length,h2.length]
  have e2:its2.toArray.size=es.length:=by simp [<-rv2.length,h4.length]
  split at e
  ·rename_i hl
   split at e
   ·rename_i hc
    cases e
    have z:=qf2 (A:=X.A) p1.isList p2.isList (by rw [e1,e2,hl]) hu0 (items h2 h4 rv rv2 hc.1 hc.2)
    have z':=qhS (A:=X.A) p1.isList p2.isList (by rw [e1,e2,hl]) hu0 (items h2 h4 rv rv2 hc.1 hc.2)
    rw [e1,gX hl] at z z'
    exact⟨z,z'⟩
   ·cases e
  ·rename_i hl
   cases e
   have z:=qeT (A:=X.A) p1.isList p2.isList (by rw [e1,e2];simpa using hl) hu0
   have z':=qhR (A:=X.A) p1.isList p2.isList (by rw [e1,e2];simpa using hl) hu0
   exact⟨z,z'⟩
 | .fl d,.tp es,e=>
  cases e
  obtain⟨f1,r1⟩:=ra
  obtain⟨b,us,rfl,h3,h4⟩:=rb
  cases qb
  obtain⟨its2,rv2,p2,_⟩:=I.tuple h3
  cases d with
  | non=>cases r1;cases qa;exact⟨qiN p2 hu0,qhL p2 hu0⟩
  | bl x=>cases r1;cases qa;exact⟨qi4 x p2 hu0,qh4 x p2 hu0⟩
  | int x=>cases r1;obtain⟨t,rfl⟩:=qa;exact⟨qiY x t p2 hu0,qhY x t p2 hu0⟩
  | str x=>cases r1;obtain⟨t,rfl⟩:=qa;exact⟨qiH x t p2 hu0,qhF x t p2 hu0⟩
  | _=>cases f1
 | .tp es,.fl d,e=>
  cases e
  obtain⟨f1,r1⟩:=rb
  obtain⟨b,us,rfl,h3,h4⟩:=ra
  cases qa
  obtain⟨its2,rv2,p2,_⟩:=I.tuple h3
  cases d with
  | non=>cases r1;cases qb;exact⟨qiD p2 hu0,qhB p2 hu0⟩
  | bl x=>cases r1;cases qb;exact⟨qiG x p2 hu0,qhE x p2 hu0⟩
  | int x=>cases r1;obtain⟨t,rfl⟩:=qb;exact⟨qiF x t p2 hu0,qhD x t p2 hu0⟩
  | str x=>cases r1;obtain⟨t,rfl⟩:=qb;exact⟨qiC x t p2 hu0,qhA x t p2 hu0⟩
  | _=>cases f1
 | .fl d,.ls es,e=>
  cases e
  obtain⟨f1,r1⟩:=ra
  obtain⟨b,us,rfl,h3,h4⟩:=rb
  cases qb
  obtain⟨its2,rv2,p2,_⟩:=I.list (.inl h3)
  replace p2:=p2.isList
  cases d with
  | non=>cases r1;cases qa;exact⟨qiQ p2 hu0,qhO p2 hu0⟩
  | bl x=>cases r1;cases qa;exact⟨qi7 x p2 hu0,qh7 x p2 hu0⟩
  | int x=>cases r1;obtain⟨t,rfl⟩:=qa;exact⟨qi1 x t p2 hu0,qh1 x t p2 hu0⟩
  | str x=>cases r1;obtain⟨t,rfl⟩:=qa;exact⟨qiK x t p2 hu0,qhI x t p2 hu0⟩
  | _=>cases f1
 | .ls es,.fl d,e=>
  cases e
  obtain⟨f1,r1⟩:=rb
  obtain⟨b,us,rfl,h3,h4⟩:=ra
  cases qa
  obtain⟨its2,rv2,p2,_⟩:=I.list (.inl h3)
  replace p2:=p2.isList
  cases d with
  | non=>cases r1;cases qb;exact⟨qiV p2 hu0,qhV p2 hu0⟩
  | bl x=>cases r1;cases qb;exact⟨qiX x p2 hu0,qhX x p2 hu0⟩
  | int x=>cases r1;obtain⟨t,rfl⟩:=qb;exact⟨qiW x t p2 hu0,qhW x t p2 hu0⟩
  | str x=>cases r1;obtain⟨t,rfl⟩:=qb;exact⟨qiU x t p2 hu0,qhU x t p2 hu0⟩
  | _=>cases f1
 | .tp ds,.ls es,e=>
  cases e
  obtain⟨a,vs,rfl,h1,h2⟩:=ra
  obtain⟨b,us,rfl,h3,h4⟩:=rb
  cases qa;cases qb
  obtain⟨its,rv,p1,_⟩:=I.tuple h1
  obtain⟨its2,rv2,p2,_⟩:=I.list (.inl h3)
  exact⟨qiE p1 p2.isList hu0,qhC p1 p2.isList hu0⟩
 | .ls ds,.tp es,e=>
  cases e
  obtain⟨a,vs,rfl,h1,h2⟩:=ra
  obtain⟨b,us,rfl,h3,h4⟩:=rb
  cases qa;cases qb
  obtain⟨its,rv,p1,_⟩:=I.list (.inl h1)
  obtain⟨its2,rv2,p2,_⟩:=I.tuple h3
  exact⟨qiT p1.isList p2 hu0,qhT p1.isList p2 hu0⟩
theorem eE {k:Nat} (hr:bn k X.A) (hK:X.K=K:=by rfl):OpD K X (compareOp .Eq) dEq:=by
 subst hK
 refine⟨λst x y d h=>?_⟩
 simp only [dEq,qac,qae] at h
 obtain⟨a,ha,b,hb,r,e,rfl⟩:=h
 intro pins s σ H vx vy v u Q I rx ry q
 obtain⟨φ,S,r1,r2,q⟩:=q
 exact (xV hr I (kr S r1 ha) (kr S r2 hb) rx ry e).1 _ _ _ _ ⟨.bl r,H,I,rfl,q _ H (bm.refl H) rfl⟩
theorem fY {k:Nat} (hr:bn k X.A) (hK:X.K=K:=by rfl):OpD K X (compareOp .NotEq) dNe:=by
 subst hK
 refine⟨λst x y d h=>?_⟩
 simp only [dNe,qac,qae] at h
 obtain⟨a,ha,b,hb,r,e,rfl⟩:=h
 intro pins s σ H vx vy v u Q I rx ry q
 obtain⟨φ,S,r1,r2,q⟩:=q
 exact (xV hr I (kr S r1 ha) (kr S r2 hb) rx ry e).2 _ _ _ _ ⟨.bl (!r),H,I,rfl,q _ H (bm.refl H) rfl⟩
end
section
variable {K:PySem.W.Frag}{X:Cx}
noncomputable def aE:List D->Option (List Int)
 | []=>some []
 | .int i::ds=>(aE ds).map λr=>i::r
 | _=>none
theorem cw:∀ {ds:List D}{ns:List Int},aE ds=some ns->ds=ns.map D.int
 | [],_,h=>by cases h;rfl
 | .int i::ds,_,h=>by
  obtain⟨r,e,rfl⟩:=qae.mp h
  rw [cw e];rfl
 | .non::_,_,h=>by cases h
 | .bl _::_,_,h=>by cases h
 | .str _::_,_,h=>by cases h
 | .ty _::_,_,h=>by cases h
 | .dct::_,_,h=>by cases h
 | .scr _::_,_,h=>by cases h
 | .tup _::_,_,h=>by cases h
 | .lst _::_,_,h=>by cases h
theorem bJ:∀ (ns:List Int),aE (ns.map D.int)=some ns
 | []=>rfl
 | n::ns=>by rw [qaj,aE,bJ ns];rfl
noncomputable def i4:List D->Option (List Bool)
 | []=>some []
 | .bl i::ds=>(i4 ds).map λr=>i::r
 | _=>none
theorem jU:∀ {ds:List D}{ns:List Bool},i4 ds=some ns->ds=ns.map D.bl
 | [],_,h=>by cases h;rfl
 | .bl i::ds,_,h=>by
  obtain⟨r,e,rfl⟩:=qae.mp h
  rw [jU e];rfl
 | .non::_,_,h=>by cases h
 | .int _::_,_,h=>by cases h
 | .str _::_,_,h=>by cases h
 | .ty _::_,_,h=>by cases h
 | .dct::_,_,h=>by cases h
 | .scr _::_,_,h=>by cases h
 | .tup _::_,_,h=>by cases h
 | .lst _::_,_,h=>by cases h
theorem kX:∀ (ns:List Bool),i4 (ns.map D.bl)=some ns
 | []=>rfl
 | n::ns=>by rw [qaj,i4,kX ns];rfl
noncomputable def dn (st:Sto):List W->Option D
 | [.d (.str x)]=>if x.length<=1000000 then some (.int x.length) else none
 | [w]=>(eV st w).map λds=>.int ds.length
 | _=>none
noncomputable def x4 (_:Sto):List W->Option D
 | [.d (.int i)]=>some (.int (if i < 0 then -i else i))
 | _=>none
noncomputable def zi (_:Sto):List W->Option D
 | [.d (.int i)]=>some (.int i)
 | [.d (.bl k)]=>some (.int (if k then 1 else 0))
 | _=>none
noncomputable def zo (_:Sto):List W->Option D
 | [.d (.lst ds)]=>(aE ds).map λns=>.int ns.sum
 | _=>none
noncomputable def wB (_:Sto):List W->Option D
 | [.d (.lst ds)]=>(i4 ds).map λns=>.bl (ns.all id)
 | _=>none
noncomputable def n5 (st:Sto):List W->Option D
 | [w]=>(eV st w).map λds=>.tup ds
 | _=>none
noncomputable def sn:D->Bool
 | .non=>true
 | .int i=>decide (0<=i) && decide (i < 1024)
 | _=>false
noncomputable def tj (_:Sto):List W->Option D
 | [.d (.int i)]=>if i.natAbs.log2 < 1920 then some (.str (toString i)) else none
 | [.d (.tup ds)]=>if ds.all sn=true/\ds.length<=1000 then some (.str (on (ds.map vOf))) else none
 | _=>none
noncomputable def AX (st:Sto):W->Option String
 | .d .non=>some "NoneType"
 | .d (.bl _)=>some "bool"
 | .d (.int _)=>some "int"
 | .d (.str _)=>some "str"
 | .d (.tup _)=>some "tuple"
 | .d (.lst _)=>some "list"
 | .d .dct=>some "dict"
 | .h n=>(lg st n).map λ_=>"list"
 | _=>none
noncomputable def AG (t c:String):Option Bool:=
 if c = "int" then some (t=="int" || t=="bool")
 else if c = "bool"\/c = "str"\/c = "tuple"\/c = "list" then some (t==c)
 else none
noncomputable def ki (st:Sto):List W->Option D
 | [w,.d (.ty c)]=>(AX st w).bind λt=>(AG t c).map λb=>.bl b
 | _=>none
theorem dm (hK:X.K=K:=by rfl):fN K X (.builtin "len") dn:=by
 subst hK
 refine⟨λst ws d h=>?_⟩
 have seq:∀ w,(eV st w).map (λds=>D.int ds.length)=some d->bS X (.builtin "len") (rCD X.K st [w] d):=λw h=>by
  obtain⟨ds,e,rfl⟩:=qae.mp h
  refine nS.imp ?_
  rintro vs H Q ⟨φ,S,⟨v,r,rfl,r1,rfl⟩,q⟩
  obtain⟨a,us,rfl,h1,h2⟩:=iD S r1 e
  exact⟨a,us,rfl,h1,q _ H (bm.refl H) (by rw [<-h2.length];rfl)⟩
 cases ws with
 | nil=>cases h
 | cons w tl=>
  cases tl with
  | cons _ _=>
   cases w with
   | h n=>cases h
   | d x=>cases x<;>cases h
  | nil=>
   cases w with
   | h n=>exact seq _ h
   | d x=>
    cases x with
    | str x=>
     simp only [dn] at h
     split at h
     ·rename_i hl
      cases h
      refine oi.imp ?_
      rintro vs H Q ⟨φ,S,⟨v,r,rfl,r1,rfl⟩,q⟩
      exact⟨x,by rw [show v=.str x from r1],qaQ hl mil,q _ H (bm.refl H) rfl⟩
     ·cases h
    | tup ds=>exact seq _ h
    | lst ds=>exact seq _ h
    | scr ds=>exact seq _ h
    | _=>cases h
theorem xr:fN K X (.builtin "abs") x4:=by
 refine⟨λst ws d h=>?_⟩
 match ws,h with
 | [.d (.int i)],h=>
  cases h
  refine xb.imp ?_
  rintro vs H Q ⟨φ,S,⟨v,r,rfl,r1,rfl⟩,q⟩
  exact⟨i,by rw [show v=.int i from r1],q _ H (bm.refl H) rfl⟩
theorem xL:fN K X (.type "int") zi:=by
 refine⟨λst ws d h=>?_⟩
 unfold zi at h
 split at h
 next i=>
  cases h
  refine m6.imp ?_
  rintro vs H Q ⟨φ,S,⟨v,r,rfl,r1,rfl⟩,q⟩
  exact .inl ⟨i,by rw [show v=.int i from r1],q _ H (bm.refl H) rfl⟩
 next i=>
  cases h
  refine m6.imp ?_
  rintro vs H Q ⟨φ,S,⟨v,r,rfl,r1,rfl⟩,q⟩
  exact .inr ⟨i,by rw [show v=.bl i from r1],q _ H (bm.refl H) rfl⟩
 next=>cases h
theorem AH (hc:X.calm=true:=by rfl) (hK:X.K=K:=by rfl):fN K X (.builtin "sum") zo:=by
 subst hK
 refine⟨λst ws d h=>?_⟩
 unfold zo at h
 split at h
 next ds=>
  obtain⟨ns,e,rfl⟩:=qae.mp h
  cases cw e
  refine (Cw (K:=X.K) hc rfl).imp ?_
  rintro vs H Q ⟨φ,S,⟨v,r,rfl,⟨a,us,rfl,h0,h1,h2⟩,rfl⟩,q⟩
  cases h2.ints
  exact⟨a,ns,rfl,.inl h1,q _ H (bm.refl H) rfl⟩
 next=>cases h
theorem BQ (hc:X.calm=true:=by rfl) (hK:X.K=K:=by rfl):fN K X (.builtin "all") wB:=by
 subst hK
 refine⟨λst ws d h=>?_⟩
 unfold wB at h
 split at h
 next ds=>
  obtain⟨ns,e,rfl⟩:=qae.mp h
  cases jU e
  refine (CA (K:=X.K) hc rfl).imp ?_
  rintro vs H Q ⟨φ,S,⟨v,r,rfl,⟨a,us,rfl,h0,h1,h2⟩,rfl⟩,q⟩
  cases h2.bools
  exact⟨a,ns,rfl,.inl h1,q _ H (bm.refl H) rfl⟩
 next=>cases h
theorem me (hK:X.K=K:=by rfl):fN K X (.type "tuple") n5:=by
 subst hK
 refine⟨λst ws d h=>?_⟩
 unfold n5 at h
 split at h
 next w=>
  obtain⟨ds,e,rfl⟩:=qae.mp h
  refine mL.imp ?_
  rintro vs H Q ⟨φ,S,⟨v,r,rfl,r1,rfl⟩,q⟩
  obtain⟨a,us,rfl,h1,h2⟩:=pe S r1 e
  refine⟨a,us,rfl,?_⟩
  rcases h1 with h1 | h1
  ·exact .inl ⟨h1,λl hl=>q _ _ (bm.new hl _) ⟨l,us,rfl,aI,h2.fw S (Fw.new hl)⟩⟩
  ·exact .inr ⟨SqT.of h1,q _ H (bm.refl H) ⟨a,us,rfl,h1,h2⟩⟩
 next=>cases h
theorem pv {H:Hp}{φ:List Addr}:∀ {ds:List D}{vs:List V},ds.all sn=true->Rls K H φ ds vs->vs=ds.map vOf/\∀ y ∈ vs,d6 y
 | [],_,_,h=>by cases h;exact⟨rfl,λ_ h=>nomatch h⟩
 | d::ds,_,h,r=>by
  rw [qbg,qaL] at h
  obtain⟨v,vr,rfl,r1,r2⟩:=r
  obtain⟨e3,e4⟩:=pv h.2 r2
  have hv:v=vOf d/\d6 v:=by
   cases d with
   | non=>cases (show v=.non from r1);exact⟨rfl,.inl rfl⟩
   | int i=>
    cases (show v=.int i from r1)
    have:=h.1
    simp [sn] at this
    exact⟨rfl,.inr ⟨i,rfl,this.1,this.2⟩⟩
   | _=>cases h.1
  refine⟨by rw [hv.1,e3];rfl,λy hy=>?_⟩
  rcases qaz.mp hy with z | z
  ·rw [z];exact hv.2
  ·exact e4 y z
theorem yY {k:Nat} (hr:bn k X.A) (hK:X.K=K:=by rfl):fN K X (.builtin "repr") tj:=by
 subst hK
 refine⟨λst ws d h=>?_⟩
 match ws,h with
 | [.d (.int i)],h=>
  simp only [tj] at h
  split at h
  ·rename_i hl
   cases h
   refine (wH (K:=X.K) hr rfl).imp ?_
   rintro vs H Q ⟨φ,S,⟨v,r,rfl,r1,rfl⟩,q⟩
   exact .inl ⟨i,by rw [show v=.int i from r1],hl,q _ H (bm.refl H) rfl⟩
  ·cases h
 | [.d (.tup ds)],h=>
  simp only [tj] at h
  split at h
  ·rename_i hl
   cases h
   refine (wH (K:=X.K) hr rfl).imp ?_
   rintro vs H Q ⟨φ,S,⟨v,r,rfl,⟨a,us,rfl,h1,h2⟩,rfl⟩,q⟩
   obtain⟨e1,e2⟩:=pv hl.1 h2
   exact .inr ⟨a,us,rfl,(SqT.of h1),e2,by rw [<-h2.length];exact hl.2,q _ H (bm.refl H) (by rw [e1];rfl)⟩
  ·cases h
theorem eR {t c:String}{b:Bool} (ht:t = "NoneType"\/t = "bool"\/t = "int"\/t = "str"\/t = "tuple"\/t = "list"\/t = "dict") (h:AG t c=some b):PySem.W.kitOne K (.type t) (.type c)=some b:=by
 unfold AG at h
 split at h
 ·rename_i hc
  subst hc
  rcases ht with rfl | rfl | rfl | rfl | rfl | rfl | rfl<;>(cases h;rfl)
 ·split at h
  ·rename_i _ hc
   rcases hc with rfl | rfl | rfl | rfl<;>rcases ht with rfl | rfl | rfl | rfl | rfl | rfl | rfl<;>(cases h;rfl)
  ·cases h
theorem kS (hK:X.K=K:=by rfl):fN K X (.builtin "isinstance") ki:=by
 subst hK
 refine⟨λst ws d h=>?_⟩
 unfold ki at h
 split at h
 next w c=>
  simp only [qac,qae] at h
  obtain⟨t,ht,b,hb,rfl⟩:=h
  intro pins s σ H xs us Q I rv q
  obtain⟨φ,S,⟨v,r,rfl,r1,u,r',rfl,r2,rfl⟩,q⟩:=q
  cases (show u=.ty c from r2)
  obtain⟨vv,uu,rfl,rv1,rv2⟩:=rv.two
  cases rv2
  have fin:∀ tk,EP X pins σ Q (.bool b) { s with toks:=tk }:=λtk=>⟨.bl b,H,I.tok tk,rfl,q _ H (bm.refl H) rfl⟩
  cases w with
  | h n=>
   obtain⟨a,ea,rfl⟩:=r1
   obtain⟨ds,eds,rfl⟩:=qae.mp ht
   obtain⟨vs,hv,_⟩:=S.atl n a ds ea eds
   exact cz I rv1 (.lst hv) (eR (by simp) hb) fin
  | d x=>
   cases x with
   | non=>cases ht;cases r1;exact cz I rv1 .non (eR (by simp) hb) fin
   | bl x=>cases ht;cases r1;exact cz I rv1 (.bl x) (eR (by simp) hb) fin
   | int x=>cases ht;cases r1;exact cz I rv1 (.int x) (eR (by simp) hb) fin
   | str x=>cases ht;cases r1;exact cz I rv1 (.str x) (eR (by simp) hb) fin
   | lst ds=>
    cases ht
    obtain⟨a,vs,rfl,h0,h1,h2⟩:=r1
    rcases h1 with h1 | ⟨o,h1⟩
    ·exact cz I rv1 (.lst h1) (eR (by simp) hb) fin
    ·exact cz I rv1 (.frz h1) (eR (by simp) hb) fin
   | tup ds=>
    cases ht
    obtain⟨a,vs,rfl,h1,h2⟩:=r1
    cases rv1
    obtain⟨its,_,p,_⟩:=I.tuple (SqT.of h1)
    obtain⟨o,e1,e2,_⟩:=p
    exact qbv qf7 I.kIn ⟨o,e1,e2⟩ (eR (by simp) hb) (λz=>nomatch z) fin
   | dct=>
    cases ht
    obtain⟨a,rfl,_,h1⟩:=r1
    rcases h1 with⟨d,h1⟩ | ⟨d,h1⟩
    ·exact cz I rv1 (.dK h1) (eR (by simp) hb) fin
    ·exact cz I rv1 (.dT h1) (eR (by simp) hb) fin
   | ty x=>cases ht
   | scr x=>cases ht
 next=>cases h
variable {e a b:Expr}{es:List Expr}{pos:Pos}{f fa fb:Ef}{af:Af}
theorem qp {x:Str}{c:String} (hg:Gl X x) (hm:X.mg x=none) (hv:bootBuiltins x=some (.type c)) (hn:x≠"__name__":=by decide) (hd:(x==("__debug__" : Str))=false:=by decide):IE K X (.Name x pos) (iC (.ty c)):=
 zy (v:=.ty c) (zK hg hm hv rfl hn hd) λ_ _=>rfl
noncomputable def eY (g:List D->List W->Option (D×List D)) (o:Ef) (a:Af):Ef
 | env,st=>(o env st).bind λx=>(a env x.2).bind λr=>match x.1 with
 | .h n=>(lg x.2 n).bind λ_=>(lg r.2 n).bind λds=>(g ds r.1).map λy=>(.d y.1,r.2.set n (.l y.2))
 | _=>none
noncomputable def gF (ds:List D):List W->Option (D×List D)
 | [.d x]=>if ds.length < 1000000 then some (.non,ds++[x]) else none
 | _=>none
theorem sJ {name:Str}{id:String}{apos:Pos}{rr:V->List V->Hp->VK->Prop}{g:List D->List W->Option (D×List D)} (slot:Slot "list" name id) (hty:typeOf (.builtin id)=pure (.type "method_descriptor")) (hm:MtR X id rr)
  (hg:∀ (H:Hp) (φ:List Addr) (st:Sto) (n:Nat) (ad:Addr) (ds:List D) (vs:List V) (ws:List W) (us:List V) (y:D×List D) (Q:VK),Sr K H φ st->φ[n]?=some ad->lg st n=some ds->H ad=some (.lst vs)->Rls K H φ ds vs->Rws K H φ ws us->g ds ws=some y->
    (∀ v vs',Rl K H φ y.1 v->Rls K H φ y.2 vs'->(∀ b,v≠.ref b)->Q v (upd H ad (.lst vs')))->rr (.ref ad) us H Q)
  (hfl:∀ ds ws y,g ds ws=some y->cr y.1=true)
  (ho:IE K X a fa) (ha:IA K X (e::es) af) (hbase:attributeBase a name X.env (eval a X.env)=eval a X.env:=by rfl)
  (hall:(e::es).all az=true:=by rfl) (hfl30:(e::es).length < 30:=by decide) (hline:(apos.endLine==pos.line)=true:=by rfl) (hK:X.K=K:=by rfl) :
  IE K X (.Call (.Attribute a name apos) (e::es) [] pos) (eY g fa af):=by
 subst hK
 have hall2:az e=true/\es.all az=true:=by rw [qbg,qaL] at hall;exact hall
 refine⟨λenv st r hr=>?_⟩
 simp only [eY,qac] at hr
 obtain⟨⟨x,s1⟩,hx,⟨ws,s2⟩,hw,hr⟩:=hr
 cases x with
 | d x=>cases hr
 | h n=>
  simp only [qac,qae] at hr
  obtain⟨ds1,hds1,ds,hds,y,hy,rfl⟩:=hr
  refine (Dd PySem.F.plainAttrs_list slot hty hm (ho.run _ _ _ hx) (ha.run _ _ _ hw) hbase (xK hall hfl30) hline (aN hall2.1) (cb hall2.2)).imp ?_
  rintro σ H Q ⟨φ,hE,hS,q⟩
  refine⟨φ,hE,hS,λv H1 φ1 f1 S1 w1=>?_⟩
  obtain⟨ad,ea,rfl⟩:=w1
  obtain⟨vs1,hv1,_⟩:=S1.atl n ad _ ea hds1
  refine⟨.inl ⟨rfl,vs1,SqL.of hv1⟩,φ1,hE.fw hS f1,S1,λus H2 φ2 f2 S2 w2=>?_⟩
  have ea2:=f2.get ea
  obtain⟨vs2,hv2,rl2⟩:=S2.atl n ad ds ea2 hds
  refine hg H2 φ2 s2 n ad ds vs2 ws us y _ S2 ea2 hds hv2 rl2 w2 hy λv vs' r1 r2 hb=>?_
  obtain⟨f3,S3⟩:=S2.put ea2 r2
  exact q v _ φ2 ((f1.trans f2).trans f3) S3 (r1.fw S2 f3)
theorem uU {apos:Pos} (ho:IE K X a fa) (ha:IA K X (e::es) af) (hbase:attributeBase a "append" X.env (eval a X.env)=eval a X.env:=by rfl)
  (hall:(e::es).all az=true:=by rfl) (hfl30:(e::es).length < 30:=by decide) (hline:(apos.endLine==pos.line)=true:=by rfl) (hK:X.K=K:=by rfl) :
  IE K X (.Call (.Attribute a "append" apos) (e::es) [] pos) (eY gF fa af):=by
 refine sJ PySem.F.slot_list_append PySem.F.type_list_append vc (λH φ st n ad ds vs ws us y Q S ea eds hv rl rw hy q=>?_) (λds ws y h=>?_) ho ha hbase hall hfl30 hline hK
 ·match ws,hy with
  | [.d x],hy=>
   simp only [gF] at hy
   split at hy
   ·rename_i hl
    cases hy
    obtain⟨v,r,rfl,r1,rfl⟩:=rw
    exact⟨ad,vs,v,rfl,rfl,hv,by rw [<-rl.length];exact qaE hl mil,q _ _ rfl (rl.append ⟨v,[],rfl,r1,rfl⟩) (λb z=>nomatch z)⟩
   ·cases hy
 ·match ws,h with
  | [.d x],h=>
   simp only [gF] at h
   split at h
   ·cases h;rfl
   ·cases h
end
section
variable {K:PySem.W.Frag}{X:Cx}{e a b:Expr}{es:List Expr}{pos:Pos}{f fa fb:Ef}{af:Af}
noncomputable def rq (x:Int):List Int->List Int
 | []=>[x]
 | y::ys=>if x<=y then x::y::ys else y::rq x ys
noncomputable def kP:List Int->List Int
 | []=>[]
 | x::xs=>rq x (kP xs)
theorem jl (x:Int):∀ ys,(rq x ys).Perm (x::ys)
 | []=>qbE _
 | y::ys=>by
  unfold rq
  split
  ·exact qbE _
  ·exact (List.Perm.cons y (jl x ys)).trans (List.Perm.swap x y ys)
theorem jM:∀ xs,(kP xs).Perm xs
 | []=>qbE _
 | x::xs=>(jl x _).trans (List.Perm.cons x (jM xs))
theorem jS (x:Int):∀ {ys:List Int},ys.Pairwise (·<=·)->(rq x ys).Pairwise (·<=·)
 | [],_=>by simp [rq]
 | y::ys,h=>by
  unfold rq
  split
  ·rename_i hxy
   refine qa9.mpr ⟨λz hz=>?_,h⟩
   rcases qaz.mp hz with rfl | hz
   ·exact hxy
   ·exact qec hxy ((qa9.mp h).1 z hz)
  ·rename_i hxy
   refine qa9.mpr ⟨λz hz=>?_,jS x (qa9.mp h).2⟩
   rcases qaz.mp ((jl x ys).mem_iff.mp hz) with rfl | hz
   ·lia
   ·exact (qa9.mp h).1 z hz
theorem g9:∀ xs,(kP xs).Pairwise (·<=·)
 | []=>List.Pairwise.nil
 | x::xs=>jS x (g9 xs)
theorem jO {xs ys:List Int} (p:xs.Perm ys) (h1:xs.Pairwise (·<=·)) (h2:ys.Pairwise (·<=·)):xs=ys:=
 qds (λa b _ _ h1 h2=>Int.le_antisymm h1 h2) h1 h2 p
theorem fB:∀ {ns:List Int}{us:List Value},IntsAre us ns->av (ns.map V.int) us
 | _,_,.nil=>.nil
 | _,_,.cons n t h=>.cons ⟨t,rfl⟩ (fB h)
theorem zn {H:Hp}{ad:Addr}{ns:List Int}{m:Fn} (hO:yg H) (hS:SqL K H ad (ns.map V.int)) (h:∃ st,m [.d (.scr ns)] []=some (.d (.bl true),st)):spI K m [.ref ad] H (λv _=>v=.bl true) λ_ _ _=>False:=by
 obtain⟨st,h⟩:=h
 refine⟨[],[],[.d (.scr ns)],_,h,⟨_,[],rfl,⟨ad,rfl,?_⟩,rfl⟩,⟨qek,rfl,λn a ds e=>by simp at e⟩,λv H' φ' _ _ r=>r⟩
 rcases hS with (h | h) | h
 ·rcases hO ad with z | ⟨o,xs,z⟩
  ·rw [h] at z;cases z
  ·rw [h] at z;cases z
 ·exact .inl h
 ·exact .inr h
end
end L2
namespace L2
open PySem
theorem dE {g:Tg}{body:Sf}:∀ {ds:List D} (Pv:Nat->Ev->Sto->Prop) {env:Ev}{st:Sto},Pv 0 env st->
  (∀ i d env st,ds[i]?=some d->Pv i env st->∃ e1 e2 s2,eX g (.d d) env=some e1/\(body e1 st=some (.nx e2 s2)\/body e1 st=some (.ct e2 s2))/\Pv (i+1) e2 s2)->
  ∃ env' st',jo g body ds env st=some (.nx env' st')/\Pv ds.length env' st'
 | [],Pv,env,st,h0,_=>⟨env,st,rfl,h0⟩
 | d::ds,Pv,env,st,h0,hs=>by
  obtain⟨e1,e2,s2,h1,h2,h3⟩:=hs 0 d env st rfl h0
  obtain⟨e',s',h4,h5⟩:=dE (g:=g) (body:=body) (ds:=ds) (λi=>Pv (i+1)) h3 λi d' env' st' hd p=>hs (i+1) d' env' st' (by simpa using hd) p
  refine⟨e',s',?_,h5⟩
  unfold jo
  rw [h1,qag]
  rcases h2 with h2 | h2<;>(rw [h2,qag];exact h4)
theorem dX {g:Tg}{tt:Tf}{te:Ef}{env:Ev}{st:Sto} (p:D->Bool) (F:D->D):∀ {ds:List D},(∀ d ∈ ds,∃ e1,eX g (.d d) env=some e1/\tt e1 st=some (p d,st)/\(p d=true->te e1 st=some (.d (F d),st)))->
  lcI g tt te env ds st=some ((ds.filter p).map F,st)
 | [],_=>rfl
 | d::ds,h=>by
  obtain⟨e1,h1,h2,h3⟩:=h d qah
  have ih:=dX (g:=g) (tt:=tt) (te:=te) (env:=env) (st:=st) p F (ds:=ds) λx hx=>h x (qaf _ hx)
  unfold lcI
  rw [h1,qag,h2,qag]
  cases hp:p d with
  | true=>rw [if_pos rfl,h3 hp,qag,ih,qcR,hp];rfl
  | false=>rw [if_neg qal,ih,qcR,hp];rfl
theorem gK {g:Tg}{te:Ef}{env:Ev}{st:Sto} (F:D->D) {ds:List D} (h:∀ d ∈ ds,∃ e1,eX g (.d d) env=some e1/\te e1 st=some (.d (F d),st)):lcI g dg te env ds st=some (ds.map F,st):=by
 have:=dX (g:=g) (tt:=dg) (te:=te) (env:=env) (st:=st) (λ_=>true) F (ds:=ds) λd hd=>by
  obtain⟨e1,h1,h2⟩:=h d hd
  exact⟨e1,h1,rfl,λ_=>h2⟩
 rw [this,qgv.mpr λ_ _=>rfl]
theorem kn {a b:Int} (h:-(2 ^ 64) < a/\a < 2 ^ 64):PySem.IntMulOk a b:=zr.ok (.inl h)
theorem iu {a b:Int} (h:-(2 ^ 64) < b/\b < 2 ^ 64):PySem.IntMulOk a b:=zr.ok (.inr h)
theorem rT {α:Type} (a:α) (l:List α):atI (a::l) 0=some a:=kj (j:=0) rfl
theorem BA {α:Type} (a b:α) (l:List α):atI (a::b::l) 1=some b:=kj (j:=1) rfl
theorem DF {α:Type} (a b c:α) (l:List α):atI (a::b::c::l) 2=some c:=kj (j:=2) rfl
theorem Cg (n:Nat):ixN (n+1) 0=some 0:=tN (j:=0) (by lia)
theorem DW (n:Nat):ixN (n+3) 2=some 2:=tN (j:=2) (by lia)
theorem fm {n i:Nat}{d:D} (h:(eu 0 n)[i]?=some d):d=.int (i:Int)/\i < n:=by
 rw [pW] at h
 by_cases hi:i < n
 ·rw [if_pos hi] at h
  cases h
  exact⟨by rw [qdC],hi⟩
 ·rw [if_neg hi] at h;cases h
end L2
namespace L2
open PySem PySem.Spec PyProof.Rows
noncomputable def CL:Nat->Nat->StateT SortSt Sem (Option Nat):=sortPriv% PySem.Builtin.countRun
noncomputable def Ay:Nat->Nat->Nat->StateT SortSt Sem Bool:=sortPriv% PySem.Builtin.binarySort
noncomputable def nL:Bool->Keyed->Array Keyed->Nat->Nat->Nat->StateT SortSt Sem (Option Nat):=sortPriv% PySem.Builtin.gallop
noncomputable def Cv:Array Keyed->Array Keyed->StateT SortSt Sem (Array Keyed):=sortPriv% PySem.Builtin.mergeLo
noncomputable def Cz:Array Keyed->Array Keyed->StateT SortSt Sem (Array Keyed):=sortPriv% PySem.Builtin.mergeHi
noncomputable def Ac:Nat->StateT SortSt Sem Bool:=sortPriv% PySem.Builtin.mergeAt
abbrev Bl (st:SortSt) (g:Nat):SortSt:=SortSt.mk' (kindOf st) (arrOf st) (pendingOf st) g (failedOf st)
noncomputable def Cm (prog:Program) (w:World) (A:Around) (s:Shared) (κ:SortKind) (O:KeyOrd) (rk:Keyed->O.α) (S:Keyed->Prop):Prop:=
 ∀ x y,S x->S y->∀ (Q:Bool->Shared->Prop) (E:Value->Shared->Prop),Q (O.blt (rk x) (rk y)) s->wpAny (model prog w) A (keyLt' κ x.1 y.1) Q E s
section
variable {prog:Program}{w:World}{A:Around}{E:Value->Shared->Prop}{s:Shared}{κ:SortKind}{O:KeyOrd}{rk:Keyed->O.α}{S:Keyed->Prop}
theorem qz (hC:Cm prog w A s κ O rk S) {x y:Keyed}{st:SortSt}{Q:Option Bool->SortSt->Prop} (hk:kindOf st=κ) (hx:S x) (hy:S y) (h:Q (some (O.blt (rk x) (rk y))) st) :
  wpS (model prog w) A E s (lt' x y) Q st:=by
 rw [lt'_eq]
 refine qau (qdq ?_)
 rw [hk]
 exact qau (wpS_lift (qda (hC x y hx hy _ _ ⟨rfl,qaA h⟩)))
theorem aZ {c:Prop} [Decidable c] {M:Model}{A':Around}{E':Value->Shared->Prop}{s':Shared}{α:Type}{a b:StateT SortSt Sem α}{Q:α->SortSt->Prop}{st:SortSt} (h:c) (k:wpS M A' E' s' a Q st):wpS M A' E' s' (if c then a else b) Q st:=by rw [if_pos h];exact k
theorem aQ {c:Prop} [Decidable c] {M:Model}{A':Around}{E':Value->Shared->Prop}{s':Shared}{α:Type}{a b:StateT SortSt Sem α}{Q:α->SortSt->Prop}{st:SortSt} (h:¬ c) (k:wpS M A' E' s' b Q st):wpS M A' E' s' (if c then a else b) Q st:=by rw [if_neg h];exact k
theorem bh {arr:Array Keyed}{i:Nat}{x:Keyed}{st:SortSt}{Q:Keyed->SortSt->Prop} (hi:arr[i]?=some x) (h:Q x st):wpS (model prog w) A E s (elem' arr i) Q st:=by
 rw [elem'_eq,hi];exact qaA h
theorem ft {t:String}{st:SortSt}{Q:Unit->SortSt->Prop} (h:Q () st):wpS (model prog w) A E s (liftM (rule t):StateT SortSt Sem Unit) Q st:=wpS_lift (qcu ⟨rfl,h⟩)
noncomputable def kyd (arr:Array Keyed) (i:Nat):Keyed:=(arr[i]?).getD (.none,.none)
theorem aS {arr:Array Keyed}{i:Nat} (h:i < arr.size):arr[i]?=some (kyd arr i):=by
 unfold kyd;simp [h]
theorem cM {a b:Array Keyed}{i j:Nat} (h:a[i]?=b[j]?):kyd a i=kyd b j:=by
 unfold kyd;rw [h]
theorem zJ (hC:Cm prog w A s κ O rk S) {i j:Nat}{st:SortSt}{Q:Option Bool->SortSt->Prop} (hk:kindOf st=κ) (hi:i < (arrOf st).size) (hj:j < (arrOf st).size) (hx:S (kyd (arrOf st) i)) (hy:S (kyd (arrOf st) j))
  (h:Q (some (O.blt (rk (kyd (arrOf st) i)) (rk (kyd (arrOf st) j)))) st):wpS (model prog w) A E s (ltAt' i j) Q st:=by
 rw [ltAt'_eq]
 refine qau (qdq ?_)
 exact qau (bh (aS hi) (qau (bh (aS hj) (qz hC hk hx hy h))))
structure SB (κ:SortKind) (a0:Array Keyed) (lo:Nat) (p0:Array (Nat×Nat×Nat)) (g0:Nat) (st:SortSt):Prop where
 perm:(arrOf st).Perm a0
 pre:∀ k,k < lo->(arrOf st)[k]?=a0[k]?
 kind:kindOf st=κ
 fail:failedOf st=none
 pend:pendingOf st=p0
 gal:gallopOf st=g0
variable {a0:Array Keyed}{lo:Nat}{p0:Array (Nat×Nat×Nat)}{g0:Nat}{st:SortSt}
theorem SB.size (h:SB κ a0 lo p0 g0 st):(arrOf st).size=a0.size:=h.perm.size_eq
theorem SB.mem (h:SB κ a0 lo p0 g0 st) (hS:∀ x ∈ a0.toList,S x) {i:Nat} (hi:i < a0.size):S (kyd (arrOf st) i):=by
 have hi':i < (arrOf st).size:=by rw [h.size];exact hi
 refine hS _ ((qb3.mp h.perm).mem_iff.mp ?_)
 have e:=aS hi'
 rw [qar hi'] at e
 rw [<-qaD e]
 exact qfF hi'
theorem SB.set (h:SB κ a0 lo p0 g0 st) {xs:Array Keyed} (hp:xs.Perm (arrOf st)) (hl:∀ k,k < lo->xs[k]?=(arrOf st)[k]?):SB κ a0 lo p0 g0 (setArr st xs):=
 ⟨hp.trans h.perm,λk hk=>(hl k hk).trans (h.pre k hk),h.kind,h.fail,h.pend,h.gal⟩
theorem uh (hC:Cm prog w A s κ O rk S) (hS:∀ x ∈ a0.toList,S x) (hB:SB κ a0 lo p0 g0 st) {i j:Nat}{Q:Option Bool->SortSt->Prop} (hi:i < a0.size) (hj:j < a0.size)
  (h:Q (some (O.blt (rk (kyd (arrOf st) i)) (rk (kyd (arrOf st) j)))) st):wpS (model prog w) A E s (ltAt' i j) Q st:=
 zJ hC hB.kind (by rw [hB.size];exact hi) (by rw [hB.size];exact hj) (hB.mem hS hi) (hB.mem hS hj) h
noncomputable def Up (rk:Keyed->O.α) (arr:Array Keyed) (lo n:Nat):Prop:=∀ i j,lo<=i->i<=j->j < lo+n->O.kle (rk (kyd arr i)) (rk (kyd arr j))
noncomputable def fT (rk:Keyed->O.α) (arr:Array Keyed) (lo n:Nat):Prop:=∀ i j,lo<=i->i<=j->j < lo+n->O.kle (rk (kyd arr j)) (rk (kyd arr i))
theorem hV {xs:Array Keyed}{i j:Nat} (hj:j<=xs.size) (k:Nat):kyd (mirror xs i j ((j - i) / 2)) k=if i<=k/\k < j then kyd xs (i+j - 1 - k) else kyd xs k:=by
 have e:=qg7 (i:=i) hj k
 by_cases h1:i<=k/\k < j
 ·rw [if_pos h1] at e ⊢;exact cM e
 ·rw [if_neg h1] at e ⊢;exact cM e
theorem lV {xs:Array Keyed}{src d:Nat} (hs:src < xs.size) (hd:d<=src) (k:Nat) :
  kyd (bubble xs src d) k=if k=src - d then kyd xs src else if src - d < k/\k<=src then kyd xs (k - 1) else kyd xs k:=by
 have e:=qis hs d hd k
 by_cases h1:k=src - d
 ·rw [if_pos h1] at e ⊢;exact cM e
 ·rw [if_neg h1] at e ⊢
  by_cases h2:src - d < k/\k<=src
  ·rw [if_pos h2] at e ⊢;exact cM e
  ·rw [if_neg h2] at e ⊢;exact cM e
theorem SB.rev (hB:SB κ a0 lo p0 g0 st) {i j:Nat} (hi:lo<=i) (hj:j<=a0.size):SB κ a0 lo p0 g0 (setArr st (mirror (arrOf st) i j ((j - i) / 2))):=
 hB.set (mirror_perm _ _ _ _) λk hk=>by
  rw [qg7 (by rw [hB.size];exact hj),if_neg (by lia)]
theorem gp {xs:Array Keyed}{i j:Nat} (hj:j<=xs.size) (he:∀ k,i<=k->k < j->rk (kyd xs k)=rk (kyd xs (j - 1))) (k:Nat):rk (kyd (mirror xs i j ((j - i) / 2)) k)=rk (kyd xs k):=by
 rw [hV hj]
 split
 ·rw [he (i+j - 1 - k) (by lia) (by lia),he k (by lia) (by lia)]
 ·rfl
theorem oD {i j:Nat}{Q:Unit->SortSt->Prop} (h:Q () (setArr st (mirror (arrOf st) i j ((j - i) / 2)))):wpS (model prog w) A E s (reverseSlice' i j) Q st:=by
 rw [reverseSlice'_eq];exact qct h
theorem Up.more {arr:Array Keyed}{n:Nat} (h:Up rk arr lo n) (h1:1<=n) (hl:O.kle (rk (kyd arr (lo+n - 1))) (rk (kyd arr (lo+n)))):Up rk arr lo (n+1):=by
 intro i j hi hij hj
 by_cases hjx:j < lo+n
 ·exact h i j hi hij hjx
 ·have hj':j=lo+n:=by lia
  subst hj'
  by_cases hi':i=lo+n
  ·subst hi';exact qcr _
  ·exact qbf (h i (lo+n - 1) hi (by lia) (by lia)) hl
theorem fT.more {arr:Array Keyed}{n:Nat} (h:fT rk arr lo n) (h1:1<=n) (hl:O.kle (rk (kyd arr (lo+n))) (rk (kyd arr (lo+n - 1)))):fT rk arr lo (n+1):=by
 intro i j hi hij hj
 by_cases hjx:j < lo+n
 ·exact h i j hi hij hjx
 ·have hj':j=lo+n:=by lia
  subst hj'
  by_cases hi':i=lo+n
  ·subst hi';exact qcr _
  ·exact qbf hl (h i (lo+n - 1) hi (by lia) (by lia))
theorem Up.one {arr:Array Keyed}:Up rk arr lo 1:=λi j hi hij hj=>by
 have:i=j:=by lia
 subst this;exact qcr _
theorem fT.congr {xs ys:Array Keyed}{n:Nat} (h:fT rk xs lo n) (e:∀ k,rk (kyd ys k)=rk (kyd xs k)):fT rk ys lo n:=λi j hi hij hj=>by
 rw [e,e];exact h i j hi hij hj
end
section
variable {prog:Program}{w:World}{A:Around}{E:Value->Shared->Prop}{s:Shared}{κ:SortKind}{O:KeyOrd}{rk:Keyed->O.α}{S:Keyed->Prop}
variable {a0:Array Keyed}{lo:Nat}{p0:Array (Nat×Nat×Nat)}{g0:Nat}{st:SortSt}
theorem vW {n0 nrem:Nat}{f:Nat->Option (Option Nat)×Nat->StateT SortSt Sem (ForInStep (Option (Option Nat)×Nat))}{Q:Option (Option Nat)×Nat->SortSt->Prop}
  (hf:∀ x n (Q':ForInStep (Option (Option Nat)×Nat)->SortSt->Prop),1<=n->n < nrem->(O.blt (rk (kyd (arrOf st) (lo+n))) (rk (kyd (arrOf st) (lo+n - 1)))=true->Q' (.done (none,n)) st)->
    (O.blt (rk (kyd (arrOf st) (lo+n))) (rk (kyd (arrOf st) (lo+n - 1)))=false->Q' (.yield (none,n+1)) st)->wpS (model prog w) A E s (f x (none,n)) Q' st)
  (h1:1<=n0) (hn:n0<=nrem) (hu:Up rk (arrOf st) lo n0)
  (h:∀ n,n0<=n->n<=nrem->Up rk (arrOf st) lo n->(n=nrem\/O.klt (rk (kyd (arrOf st) (lo+n))) (rk (kyd (arrOf st) (lo+n - 1))))->Q (none,n) st):wpS (model prog w) A E s (forIn [n0:nrem] (none,n0) f) Q st:=by
 refine qbz (I:=λx c st'=>st'=st/\c=(none,x)/\Up rk (arrOf st) lo x) ?_ ?_ ⟨rfl,rfl,hu⟩
 ·rintro x c st' hx hxn ⟨rfl,rfl,hs⟩
  exact hf x x _ (by lia) hxn (λhl=>h x hx (by lia) hs (.inr hl)) λhl=>⟨rfl,rfl,hs.more (by lia) hl⟩
 ·rintro c st' ⟨rfl,rfl,hs⟩
  rw [show max n0 nrem=nrem by lia] at hs ⊢
  exact h nrem hn (qan _) hs (.inl rfl)
noncomputable def Eqs (rk:Keyed->O.α) (arr:Array Keyed) (lo m q:Nat):Prop:=q+1<=m/\∀ i,lo+m - (q+1)<=i->i < lo+m->rk (kyd arr i)=rk (kyd arr (lo+m - 1))
theorem zE {n0 nrem:Nat}{f:Nat->Option (Option Nat)×Nat×Nat->StateT SortSt Sem (ForInStep (Option (Option Nat)×Nat×Nat))}{Q:Option (Option Nat)×Nat×Nat->SortSt->Prop}
  (hf:∀ x n q st' (Q':ForInStep (Option (Option Nat)×Nat×Nat)->SortSt->Prop),1<=n->n < nrem->SB κ a0 lo p0 g0 st'->
    (O.blt (rk (kyd (arrOf st') (lo+n))) (rk (kyd (arrOf st') (lo+n - 1)))=true->0 < q->Q' (.yield (none,n+1,0)) (setArr st' (mirror (arrOf st') (lo+n - (q+1)) (lo+n) ((lo+n - (lo+n - (q+1))) / 2))))->
    (O.blt (rk (kyd (arrOf st') (lo+n))) (rk (kyd (arrOf st') (lo+n - 1)))=true->q=0->Q' (.yield (none,n+1,0)) st')->
    (O.blt (rk (kyd (arrOf st') (lo+n - 1))) (rk (kyd (arrOf st') (lo+n)))=true->Q' (.done (none,n,q)) st')->
    (O.blt (rk (kyd (arrOf st') (lo+n))) (rk (kyd (arrOf st') (lo+n - 1)))=false->O.blt (rk (kyd (arrOf st') (lo+n - 1))) (rk (kyd (arrOf st') (lo+n)))=false->Q' (.yield (none,n+1,q+1)) st')->
    wpS (model prog w) A E s (f x (none,n,q)) Q' st')
  (h1:1<=n0) (hn:n0<=nrem) (hz:lo+nrem<=a0.size) (hB:SB κ a0 lo p0 g0 st) (hd:fT rk (arrOf st) lo n0)
  (h:∀ n q st',n0<=n->n<=nrem->SB κ a0 lo p0 g0 st'->fT rk (arrOf st') lo n->Eqs rk (arrOf st') lo n q->Q (none,n,q) st'):wpS (model prog w) A E s (forIn [n0:nrem] (none,n0,0) f) Q st:=by
 have one:∀ (arr:Array Keyed) m,1<=m->Eqs rk arr lo m 0:=λarr m hm=>⟨by lia,λi h1 h2=>by rw [show i=lo+m - 1 by lia]⟩
 refine qbz (I:=λx c st'=>∃ q,c=(none,x,q)/\SB κ a0 lo p0 g0 st'/\fT rk (arrOf st') lo x/\Eqs rk (arrOf st') lo x q) ?_ ?_ ⟨0,rfl,hB,hd,one _ _ h1⟩
 ·rintro x c st' hx hxn ⟨q,rfl,hB',hs,he⟩
  have hsz:lo+x<=(arrOf st').size:=by rw [hB'.size];lia
  refine hf x x q st' _ (by lia) hxn hB' (λhl hq=>?_) (λhl hq=>?_) (λhl=>h x q st' hx (by lia) hB' hs he) λhl hl2=>?_
  ·have e:=gp (rk:=rk) (xs:=arrOf st') (i:=lo+x - (q+1)) (j:=lo+x) hsz he.2
   exact⟨0,rfl,hB'.rev (by have:=he.1;lia) (by lia),fT.congr (hs.more (by lia) (qc3 hl)) e,one _ _ (by lia)⟩
  ·exact⟨0,rfl,hB',hs.more (by lia) (qc3 hl),one _ _ (by lia)⟩
  ·have eq:rk (kyd (arrOf st') (lo+x))=rk (kyd (arrOf st') (lo+x - 1)):=qgb hl2 hl
   refine⟨q+1,rfl,hB',hs.more (by lia) (by rw [eq];exact qcr _),by have:=he.1;lia,λi h1 h2=>?_⟩
   rw [show lo+(x+1) - 1=lo+x by lia,eq]
   by_cases hi:i=lo+x
   ·rw [hi,eq]
   ·exact he.2 i (by lia) (by lia)
 ·rintro c st' ⟨q,rfl,hB',hs,he⟩
  rw [show max n0 nrem=nrem by lia] at hs he ⊢
  exact h nrem q st' hn (qan _) hB' hs he
theorem BM {m nrem:Nat}{f:Nat->Option (Option Nat)×Nat->StateT SortSt Sem (ForInStep (Option (Option Nat)×Nat))}{k:Option (Option Nat)×Nat->StateT SortSt Sem (Option Nat)}{Q:Option Nat->SortSt->Prop}
  (hB:SB κ a0 lo p0 g0 st) (hd:fT rk (arrOf st) lo m) (h1:1<=m) (hm:m<=nrem) (hz:lo+nrem<=a0.size)
  (hf:∀ x n (Q':ForInStep (Option (Option Nat)×Nat)->SortSt->Prop) st4,SB κ a0 lo p0 g0 st4->1<=n->n < nrem->(O.blt (rk (kyd (arrOf st4) (lo+n))) (rk (kyd (arrOf st4) (lo+n - 1)))=true->Q' (.done (none,n)) st4)->
    (O.blt (rk (kyd (arrOf st4) (lo+n))) (rk (kyd (arrOf st4) (lo+n - 1)))=false->Q' (.yield (none,n+1)) st4)->wpS (model prog w) A E s (f x (none,n)) Q' st4)
  (hk:∀ n st4,SB κ a0 lo p0 g0 st4->1<=n->n<=nrem->Up rk (arrOf st4) lo n->wpS (model prog w) A E s (k (none,n)) Q st4) :
  wpS (model prog w) A E s (do reverseSlice' lo (lo+m);let r <-forIn [m:nrem] (none,m) f;k r) Q st:=by
 refine qau (oD ?_)
 have hB4:=hB.rev (i:=lo) (j:=lo+m) (qan _) (by lia)
 refine qau (vW (rk:=rk) (lo:=lo) (λx n Q' hn1 hn2 hy hno=>hf x n Q' _ hB4 hn1 hn2 hy hno) h1 hm ?_ λn' hn1' hn2' hu' _=>hk n' _ hB4 (by lia) hn2' hu')
 intro i j hi hij hj
 have hs3:lo+m<=(arrOf st).size:=by rw [hB.size];lia
 show O.kle (rk (kyd (mirror (arrOf st) lo (lo+m) ((lo+m - lo) / 2)) i)) (rk (kyd (mirror (arrOf st) lo (lo+m) ((lo+m - lo) / 2)) j))
 rw [hV hs3,hV hs3,if_pos (by lia),if_pos (by lia)]
 exact hd _ _ (by lia) (by lia) (by lia)
set_option maxHeartbeats 1000000 in
theorem t7 (hC:Cm prog w A s κ O rk S) (hS:∀ x ∈ a0.toList,S x) {nrem:Nat}{Q:Option Nat->SortSt->Prop} (hB:SB κ a0 lo p0 g0 st) (h1:1<=nrem) (hz:lo+nrem<=a0.size)
  (h:∀ m st',SB κ a0 lo p0 g0 st'->1<=m->m<=nrem->Up rk (arrOf st') lo m->Q (some m) st'):wpS (model prog w) A E s (CL lo nrem) Q st:=by
 have asc:∀ st' (_:SB κ a0 lo p0 g0 st') n (Q':Option Bool->SortSt->Prop),1<=n->n < nrem->Q' (some (O.blt (rk (kyd (arrOf st') (lo+n))) (rk (kyd (arrOf st') (lo+n - 1))))) st'->
   wpS (model prog w) A E s (ltAt' (lo+n) (lo+n - 1)) Q' st':=λst' hB' n Q' h1 h2 hq=>uh hC hS hB' (by lia) (by lia) hq
 refine qau (vW (rk:=rk) (lo:=lo) (λx n Q' hn1 hn2 hy hno=>?_) (qan 1) h1 Up.one λn hn1 hn2 hu hor=>?_)
 ·refine qau (asc st hB n _ hn1 hn2 ?_)
  cases hl:O.blt (rk (kyd (arrOf st) (lo+n))) (rk (kyd (arrOf st) (lo+n - 1))) with
  | true=>exact qaA (hy hl)
  | false=>exact qaA (hno hl)
 dsimp only
 by_cases hnn:n=nrem
 ·refine aZ (by simpa using hnn) ?_
  exact qaA (h n st hB hn1 hn2 hu)
 refine aQ (by simpa using hnn) ?_
 have hlt:=hor.resolve_left hnn
 have hn3:n+1<=nrem:=by lia
 have hsz:lo+n<=(arrOf st).size:=by rw [hB.size];lia
 by_cases hgt:n > 1
 case' pos=>
  refine aZ hgt ?_
  refine qau (uh hC hS hB (by lia) (by lia) ?_)
  by_cases hrose:O.blt (rk (kyd (arrOf st) lo)) (rk (kyd (arrOf st) (lo+n - 1)))=true
  ·rw [hrose];exact qaA (h n st hB hn1 hn2 hu)
  rw [qdV] at hrose
  rw [hrose]
  have hall:∀ k,lo<=k->k < lo+n->rk (kyd (arrOf st) k)=rk (kyd (arrOf st) (lo+n - 1)):=λk hk1 hk2=>
   qgb (hu k (lo+n - 1) hk1 (by lia) (by lia)) (qbf hrose (hu lo k (by lia) hk1 hk2))
  refine qau (oD ?_)
  have hB2:=hB.rev (i:=lo) (j:=lo+n) (qan _) (by lia)
  have hd:fT rk (arrOf (setArr st (mirror (arrOf st) lo (lo+n) ((lo+n - lo) / 2)))) lo (n+1):=by
   refine fT.congr (xs:=arrOf st) (fT.more (λi j hi hij hj=>?_) (by lia) (qc3 hlt)) (gp hsz hall)
   rw [hall i hi (by lia),hall j (by lia) hj];exact qcr _
  generalize setArr st (mirror (arrOf st) lo (lo+n) ((lo+n - lo) / 2))=st2 at hB2 hd ⊢
  clear hu hlt hrose hall hB hsz hor
 case' neg=>
  refine aQ hgt ?_
  have hB2:=hB
  have hd:fT rk (arrOf st) lo (n+1):=by
   refine fT.more (λi j hi hij hj=>?_) (by lia) (qc3 hlt)
   rw [show i=j by lia];exact qcr _
  clear hu hlt hB hsz hor
  revert hB2 hd
  generalize st=st2
  intro hB2 hd
 all_goals
  refine qau (ft ?_)
  refine qau (zE (λx m q st' Q' hm1 hm2 hB' c1 c2 c3 c4=>?_) (by lia) hn3 hz hB2 hd λm q st' hm1 hm2 hB' hd' he=>?_)
  ·refine qau (asc st' hB' m _ hm1 hm2 ?_)
   cases hl:O.blt (rk (kyd (arrOf st') (lo+m))) (rk (kyd (arrOf st') (lo+m - 1))) with
   | true=>
    dsimp only
    refine aZ rfl ?_
    by_cases hq:q > 0
    ·rw [if_pos hq];exact qau (oD (qaA (c1 hl hq)))
    ·rw [if_neg hq];exact qaA (c2 hl (by lia))
   | false=>
    dsimp only
    refine aQ (by simp) ?_
    refine qau (uh hC hS hB' (by lia) (by lia) ?_)
    cases hl2:O.blt (rk (kyd (arrOf st') (lo+m - 1))) (rk (kyd (arrOf st') (lo+m))) with
    | true=>exact qaA (c3 hl2)
    | false=>exact qaA (c4 hl hl2)
  have hsz':lo+m<=(arrOf st').size:=by rw [hB'.size];lia
  dsimp only
  by_cases hq:q > 0
  case' pos=>
   refine aZ hq ?_
   refine qau (oD ?_)
   have hB3:=hB'.rev (i:=lo+m - (q+1)) (j:=lo+m) (by have:=he.1;lia) (by lia)
   have hd3:fT rk (arrOf (setArr st' (mirror (arrOf st') (lo+m - (q+1)) (lo+m) ((lo+m - (lo+m - (q+1))) / 2)))) lo m:=fT.congr hd' (gp hsz' he.2)
   generalize setArr st' (mirror (arrOf st') (lo+m - (q+1)) (lo+m) ((lo+m - (lo+m - (q+1))) / 2))=st3 at hB3 hd3 ⊢
  case' neg=>
   refine aQ hq ?_
   have hB3:=hB'
   have hd3:=hd'
  all_goals
   refine BM hB3 hd3 (by lia) hm2 hz (λx n' Q' st4 hB4 hn1' hn2' hy hno=>?_) λn' st4 hB4 a1 a2 a3=>qaA (h n' st4 hB4 a1 a2 a3)
   refine qau (asc st4 hB4 n' _ hn1' hn2' ?_)
   cases hl:O.blt (rk (kyd (arrOf st4) (lo+n'))) (rk (kyd (arrOf st4) (lo+n' - 1))) with
   | true=>exact qaA (hy hl)
   | false=>exact qaA (hno hl)
end
section
variable {prog:Program}{w:World}{A:Around}{E:Value->Shared->Prop}{s:Shared}{κ:SortKind}{O:KeyOrd}{rk:Keyed->O.α}{S:Keyed->Prop}
variable {a0:Array Keyed}{lo:Nat}{p0:Array (Nat×Nat×Nat)}{g0:Nat}{st:SortSt}
set_option maxHeartbeats 1000000 in
theorem pS (hC:Cm prog w A s κ O rk S) (hS:∀ x ∈ a0.toList,S x) {n ok:Nat}{Q:Bool->SortSt->Prop} (hB:SB κ a0 lo p0 g0 st) (h1:1<=ok) (hok:ok<=n) (hz:lo+n<=a0.size) (hu:Up rk (arrOf st) lo ok)
  (h:∀ st',SB κ a0 lo p0 g0 st'->Up rk (arrOf st') lo n->Q true st'):wpS (model prog w) A E s (Ay lo n ok) Q st:=by
 refine qau (qc8 (qbz (I:=λk c st'=>c=(none,())/\SB κ a0 lo p0 g0 st'/\Up rk (arrOf st') lo (min k n)) (Q:=λc st'=>c=(none,())/\SB κ a0 lo p0 g0 st'/\Up rk (arrOf st') lo n) ?_ ?_ ?_) ?_)
 ·rintro k c st' hk hkn ⟨rfl,hB',hs⟩
  rw [show min k n=k by lia] at hs
  dsimp only
  refine qau (qc8 (qbz (I:=λx c st2=>st2=st'/\∃ l r,c=(none,l,r)/\l<=r/\r<=k/\r - l<=k - x/\(∀ i,i < l->O.kle (rk (kyd (arrOf st') (lo+i))) (rk (kyd (arrOf st') (lo+k))))/\
    ∀ i,r<=i->i < k->O.klt (rk (kyd (arrOf st') (lo+k))) (rk (kyd (arrOf st') (lo+i))))
   (Q:=λc st2=>st2=st'/\∃ l r,c=(none,l,r)/\l<=k/\(∀ i,i < l->O.kle (rk (kyd (arrOf st') (lo+i))) (rk (kyd (arrOf st') (lo+k))))/\∀ i,l<=i->i < k->O.klt (rk (kyd (arrOf st') (lo+k))) (rk (kyd (arrOf st') (lo+i)))) ?_ ?_ ?_) ?_)
  ·rintro x c st2 _ hxk ⟨rfl,l,r,rfl,hlr,hrk,hm,hlo,hhi⟩
   dsimp only
   by_cases hge:l>=r
   ·refine aZ hge ?_
    have e:l=r:=by lia
    subst e
    exact qaA ⟨rfl,l,l,rfl,hrk,hlo,hhi⟩
   ·refine aQ hge ?_
    refine qau (uh hC hS hB' (by lia) (by lia) ?_)
    cases hl:O.blt (rk (kyd (arrOf st2) (lo+k))) (rk (kyd (arrOf st2) (lo+(l+r) / 2))) with
    | true=>exact qaA ⟨rfl,l,(l+r) / 2,rfl,by lia,by lia,by lia,hlo,λi h1 h2=>qfr hl (hs _ _ (by lia) (by lia) (by lia))⟩
    | false=>exact qaA ⟨rfl,(l+r) / 2+1,r,rfl,by lia,by lia,by lia,λi h1=>qbf (hs (lo+i) (lo+(l+r) / 2) (by lia) (by lia) (by lia)) hl,hhi⟩
  ·rintro c st2 ⟨rfl,l,r,rfl,hlr,hrk,hm,hlo,hhi⟩
   have e:l=r:=by lia
   subst e
   exact⟨rfl,l,l,rfl,hrk,hlo,hhi⟩
  ·exact⟨rfl,0,k,rfl,by lia,by lia,by lia,λi hi=>by lia,λi h1 h2=>by lia⟩
  ·rintro c st2 ⟨rfl,l,r,rfl,hlk,hlo,hhi⟩
   dsimp only
   refine qau (m:=moveDown' (lo+k) (lo+l)) ?_
   rw [moveDown'_eq]
   have hks:lo+k < (arrOf st2).size:=by rw [hB'.size];lia
   refine qct (qaA ⟨rfl,hB'.set (bubble_perm _ _ _) λi hi=>?_,?_⟩)
   ·rw [qis hks _ (by lia),if_neg (by lia),if_neg (by lia)]
   ·rw [show min (k+1) n=k+1 by lia]
    intro i j hi hij hj
    show O.kle (rk (kyd (bubble (arrOf st2) (lo+k) (lo+k - (lo+l))) i)) (rk (kyd (bubble (arrOf st2) (lo+k) (lo+k - (lo+l))) j))
    rw [lV hks (by lia),lV hks (by lia),show lo+k - (lo+k - (lo+l))=lo+l by lia]
    have hlo':∀ i,lo<=i->i < lo+l->O.kle (rk (kyd (arrOf st2) i)) (rk (kyd (arrOf st2) (lo+k))):=λi h1 h2=>by
     have:=hlo (i - lo) (by lia);rwa [show lo+(i - lo)=i by lia] at this
    have hhi':∀ i,lo+l<=i->i < lo+k->O.klt (rk (kyd (arrOf st2) (lo+k))) (rk (kyd (arrOf st2) i)):=λi h1 h2=>by
     have:=hhi (i - lo) (by lia) (by lia);rwa [show lo+(i - lo)=i by lia] at this
    repeat' split
    all_goals first
     | (exfalso;lia)
     | exact qcr _
     | exact hlo' _ (by lia) (by lia)
     | exact qc3 (hhi' _ (by lia) (by lia))
     | exact hs _ _ (by lia) (by lia) (by lia)
 ·rintro c st' ⟨rfl,hB',hs⟩
  rw [show min (max (max ok 1) n) n=n by lia] at hs
  exact⟨rfl,hB',hs⟩
 ·rw [show max ok 1=ok by lia,show min ok n=ok by lia]
  exact⟨rfl,hB,hu⟩
 ·rintro c st' ⟨rfl,hB',hs⟩
  exact qaA (h st' hB' hs)
noncomputable def bey (O:KeyOrd) (rk:Keyed->O.α) (left:Bool) (key x:Keyed):Bool:=if left=true then O.blt (rk x) (rk key) else !O.blt (rk key) (rk x)
set_option maxHeartbeats 1000000 in
theorem dS (hC:Cm prog w A s κ O rk S) {left:Bool}{key:Keyed}{arr:Array Keyed}{base n hint:Nat}{Q:Option Nat->SortSt->Prop} (hk:kindOf st=κ) (hkey:S key) (hz:base+n<=arr.size) (hS:∀ i,i < n->S (kyd arr (base+i)))
  (hh:hint < n) (anti:∀ i j,i<=j->j < n->bey O rk left key (kyd arr (base+j))=true->bey O rk left key (kyd arr (base+i))=true)
  (h:∀ k,k<=n->(∀ i,i < k->bey O rk left key (kyd arr (base+i))=true)->(∀ i,k<=i->i < n->bey O rk left key (kyd arr (base+i))=false)->Q (some k) st) :
  wpS (model prog w) A E s (nL left key arr base n hint) Q st:=by
 have bey1:∀ i (Q':Option Bool->SortSt->Prop),i < n->Q' (some (bey O rk left key (kyd arr (base+i)))) st->wpS (model prog w) A E s (elem' arr (base+i) >>= λx=>if left=true then lt' x key else lt' key x >>= λb=>pure (b.map (!·))) Q' st:=λi Q' hi hq=>by
  refine qau (bh (aS (by lia)) ?_)
  cases left with
  | true=>exact qz hC hk (hS i hi) hkey hq
  | false=>exact qau (qz hC hk hkey (hS i hi) (qaA hq))
 have bin:∀ l0 h0,l0<=h0->h0<=n->(∀ i,i < l0->bey O rk left key (kyd arr (base+i))=true)->(∀ i,h0<=i->i < n->bey O rk left key (kyd arr (base+i))=false)->
   ∀ (f:Nat->Option (Option Nat)×Nat×Nat->StateT SortSt Sem (ForInStep (Option (Option Nat)×Nat×Nat))) (k:Option (Option Nat)×Nat×Nat->StateT SortSt Sem (Option Nat)),
   (∀ x l r (Q':ForInStep (Option (Option Nat)×Nat×Nat)->SortSt->Prop),l<=r->r<=n->(r<=l->Q' (.done (none,l,r)) st)->(l < r->bey O rk left key (kyd arr (base+(l+(r - l) / 2)))=true->Q' (.yield (none,l+(r - l) / 2+1,r)) st)->
     (l < r->bey O rk left key (kyd arr (base+(l+(r - l) / 2)))=false->Q' (.yield (none,l,l+(r - l) / 2)) st)->wpS (model prog w) A E s (f x (none,l,r)) Q' st)->
   (∀ l r,k (none,l,r)=pure (some r))->wpS (model prog w) A E s (forIn [0:n] (none,l0,h0) f >>= k) Q st:=λl0 h0 e1 e2 e3 e4 f k hf hkk=>by
  refine qau (qc8 (qbz (I:=λx c st2=>st2=st/\∃ l r,c=(none,l,r)/\l<=r/\r<=n/\r - l<=n - x/\(∀ i,i < l->bey O rk left key (kyd arr (base+i))=true)/\∀ i,r<=i->i < n->bey O rk left key (kyd arr (base+i))=false)
   (Q:=λc st2=>st2=st/\∃ r,c=(none,r,r)/\r<=n/\(∀ i,i < r->bey O rk left key (kyd arr (base+i))=true)/\∀ i,r<=i->i < n->bey O rk left key (kyd arr (base+i))=false) ?_ ?_ ?_) ?_)
  ·rintro x c st2 _ hx ⟨rfl,l,r,rfl,a1,a2,a3,a4,a5⟩
   refine hf x l r _ a1 a2 (λhrl=>?_) (λhlr ht=>?_) λhlr ht=>?_
   ·have e:l=r:=by lia
    subst e
    exact⟨rfl,l,rfl,a2,a4,a5⟩
   ·refine⟨rfl,_,_,rfl,by lia,a2,by lia,λi hi=>?_,a5⟩
    exact anti i (l+(r - l) / 2) (by lia) (by lia) ht
   ·refine⟨rfl,_,_,rfl,by lia,by lia,by lia,a4,λi h1 h2=>?_⟩
    cases q:bey O rk left key (kyd arr (base+i)) with
    | false=>rfl
    | true=>rw [anti (l+(r - l) / 2) i h1 h2 q] at ht;cases ht
  ·rintro c st2 ⟨rfl,l,r,rfl,a1,a2,a3,a4,a5⟩
   have e:l=r:=by lia
   subst e
   exact⟨rfl,l,rfl,a2,a4,a5⟩
  ·exact⟨rfl,l0,h0,rfl,e1,e2,by lia,e3,e4⟩
  ·rintro c st2 ⟨rfl,r,rfl,a2,a4,a5⟩
   rw [hkk]
   exact qaA (h r a2 a4 a5)
 refine qau (bey1 hint _ hh ?_)
 dsimp only
 cases hb:bey O rk left key (kyd arr (base+hint)) with
 | true=>
  refine aZ rfl ?_
  refine qau (qc8 (qbz (I:=λx c st2=>st2=st/\∃ l o,c=(none,l,o)/\l < o/\x+1<=o/\hint+l < n/\bey O rk left key (kyd arr (base+(hint+l)))=true)
   (Q:=λc st2=>st2=st/\∃ l o,c=(none,l,o)/\l < o/\hint+l < n/\bey O rk left key (kyd arr (base+(hint+l)))=true/\(n - hint<=o\/hint+o < n/\bey O rk left key (kyd arr (base+(hint+o)))=false)) ?_ ?_ ?_) ?_)
  ·rintro x c st2 _ hx ⟨rfl,l,o,rfl,a1,a2,a3,a4⟩
   dsimp only
   by_cases ho:o>=n - hint
   ·rw [if_pos ho];exact qaA ⟨rfl,l,o,rfl,a1,a3,a4,.inl ho⟩
   ·refine aQ ho ?_
    refine qau (bey1 (hint+o) _ (by lia) ?_)
    cases hb2:bey O rk left key (kyd arr (base+(hint+o))) with
    | true=>exact qaA ⟨rfl,o,2*o+1,rfl,by lia,by lia,by lia,hb2⟩
    | false=>exact qaA ⟨rfl,l,o,rfl,a1,a3,a4,.inr ⟨by lia,hb2⟩⟩
  ·rintro c st2 ⟨rfl,l,o,rfl,a1,a2,a3,a4⟩
   exact⟨rfl,l,o,rfl,a1,a3,a4,.inl (by lia)⟩
  ·exact⟨rfl,0,1,rfl,by lia,by lia,by lia,hb⟩
  ·rintro c st2 ⟨rfl,l,o,rfl,a1,a3,a4,a5⟩
   dsimp only
   refine bin _ _ (by lia) (by lia) (λi hi=>anti i (hint+l) (by lia) a3 a4) (λi h1 h2=>?_) _ _ (λx l r Q' b1 b2 c1 c2 c3=>?_) λl r=>rfl
   ·rcases a5 with a5 | a5
    ·lia
    ·cases q:bey O rk left key (kyd arr (base+i)) with
     | false=>rfl
     | true=>rw [anti (hint+o) i (by lia) h2 q] at a5;exact absurd a5.2 (by simp)
   ·dsimp only
    by_cases hge:l>=r
    ·rw [if_pos hge];exact qaA (c1 hge)
    ·refine aQ hge ?_
     refine qau (bey1 (l+(r - l) / 2) _ (by lia) ?_)
     cases hb3:bey O rk left key (kyd arr (base+(l+(r - l) / 2))) with
     | true=>exact qaA (c2 (by lia) hb3)
     | false=>exact qaA (c3 (by lia) hb3)
 | false=>
  refine aQ (by simp) ?_
  refine qau (qc8 (qbz (I:=λx c st2=>st2=st/\∃ l o,c=(none,l,o)/\l < o/\x+1<=o/\l<=hint/\bey O rk left key (kyd arr (base+(hint - l)))=false)
   (Q:=λc st2=>st2=st/\∃ l o,c=(none,l,o)/\l < o/\l<=hint/\bey O rk left key (kyd arr (base+(hint - l)))=false/\(hint+1<=o\/o<=hint/\bey O rk left key (kyd arr (base+(hint - o)))=true)) ?_ ?_ ?_) ?_)
  ·rintro x c st2 _ hx ⟨rfl,l,o,rfl,a1,a2,a3,a4⟩
   dsimp only
   by_cases ho:o>=hint+1
   ·rw [if_pos ho];exact qaA ⟨rfl,l,o,rfl,a1,a3,a4,.inl ho⟩
   ·refine aQ ho ?_
    refine qau (bey1 (hint - o) _ (by lia) ?_)
    cases hb2:bey O rk left key (kyd arr (base+(hint - o))) with
    | false=>exact qaA ⟨rfl,o,2*o+1,rfl,by lia,by lia,by lia,hb2⟩
    | true=>exact qaA ⟨rfl,l,o,rfl,a1,a3,a4,.inr ⟨by lia,hb2⟩⟩
  ·rintro c st2 ⟨rfl,l,o,rfl,a1,a2,a3,a4⟩
   exact⟨rfl,l,o,rfl,a1,a3,a4,.inl (by lia)⟩
  ·exact⟨rfl,0,1,rfl,by lia,by lia,by lia,hb⟩
  ·rintro c st2 ⟨rfl,l,o,rfl,a1,a3,a4,a5⟩
   dsimp only
   refine bin _ _ (by lia) (by lia) (λi hi=>?_) (λi h1 h2=>?_) _ _ (λx l r Q' b1 b2 c1 c2 c3=>?_) λl r=>rfl
   ·rcases a5 with a5 | a5
    ·lia
    ·exact anti i (hint - o) (by lia) (by lia) a5.2
   ·cases q:bey O rk left key (kyd arr (base+i)) with
    | false=>rfl
    | true=>rw [anti (hint - l) i (by lia) h2 q] at a4;cases a4
   ·dsimp only
    by_cases hge:l>=r
    ·rw [if_pos hge];exact qaA (c1 hge)
    ·refine aQ hge ?_
     refine qau (bey1 (l+(r - l) / 2) _ (by lia) ?_)
     cases hb3:bey O rk left key (kyd arr (base+(l+(r - l) / 2))) with
     | true=>exact qaA (c2 (by lia) hb3)
     | false=>exact qaA (c3 (by lia) hb3)
end
section
variable {O:KeyOrd}{rk:Keyed->O.α}
noncomputable def mrg (O:KeyOrd) (rk:Keyed->O.α) (xs ys:List Keyed):List Keyed:=List.merge xs ys λx y=>!O.blt (rk y) (rk x)
theorem fA (xs:List Keyed):mrg O rk xs []=xs:=by unfold mrg;simp
theorem gH (ys:List Keyed):mrg O rk [] ys=ys:=by unfold mrg;simp
theorem nB {x y:Keyed}{xs ys:List Keyed} (h:O.blt (rk y) (rk x)=false):mrg O rk (x::xs) (y::ys)=x::mrg O rk xs (y::ys):=by
 unfold mrg;rw [qgn,h];rfl
theorem kR {x y:Keyed}{xs ys:List Keyed} (h:O.blt (rk y) (rk x)=true):mrg O rk (x::xs) (y::ys)=y::mrg O rk (x::xs) ys:=by
 unfold mrg;rw [qgn,h];rfl
theorem nZ {x:Keyed}:∀ {ys:List Keyed},(∀ y ∈ ys,O.blt (rk y) (rk x)=true)->mrg O rk [x] ys=ys++[x]
 | [],_=>fA _
 | y::ys,h=>by rw [kR (h y qah),nZ λz hz=>h z (qaf _ hz)];rfl
theorem jh {x:Keyed}:∀ (xs ys:List Keyed),(∀ y ∈ ys,O.blt (rk y) (rk x)=true)->mrg O rk (xs++[x]) ys=mrg O rk xs ys++[x]
 | [],ys,h=>by rw [qce,nZ h,gH]
 | a::xs,[],h=>by rw [fA,fA]
 | a::xs,y::ys,h=>by
  rw [qb5]
  cases hb:O.blt (rk y) (rk a) with
  | true=>rw [kR hb,kR hb,<-qb5,jh (a::xs) ys λz hz=>h z (qaf _ hz)];rfl
  | false=>rw [nB hb,nB hb,jh xs (y::ys) h];rfl
termination_by xs ys=>xs.length+ys.length
theorem sZ {y:Keyed}:∀ {xs:List Keyed},(∀ x ∈ xs,O.blt (rk y) (rk x)=false)->mrg O rk xs [y]=xs++[y]
 | [],_=>gH _
 | x::xs,h=>by rw [nB (h x qah),sZ λz hz=>h z (qaf _ hz)];rfl
theorem jc {y:Keyed}:∀ (xs ys:List Keyed),(∀ x ∈ xs,O.blt (rk y) (rk x)=false)->mrg O rk xs (ys++[y])=mrg O rk xs ys++[y]
 | xs,[],h=>by rw [qce,sZ h,fA]
 | [],b::ys,h=>by rw [gH,gH]
 | a::xs,b::ys,h=>by
  rw [qb5]
  cases hb:O.blt (rk b) (rk a) with
  | true=>rw [kR hb,kR hb,jc (a::xs) ys h];rfl
  | false=>rw [nB hb,nB hb,<-qb5,jc xs (b::ys) λz hz=>h z (qaf _ hz)];rfl
termination_by xs ys=>xs.length+ys.length
theorem lZ (xs ys:List Keyed):(mrg O rk xs ys).Perm (xs++ys):=List.merge_perm_append _
theorem BW {xs ys:List Keyed} (hx:xs.Pairwise λa b=>O.kle (rk a) (rk b)) (hy:ys.Pairwise λa b=>O.kle (rk a) (rk b)):(mrg O rk xs ys).Pairwise λa b=>O.kle (rk a) (rk b):=by
 have:=List.pairwise_merge (le:=λx y=>!O.blt (rk y) (rk x)) (λa b c h1 h2=>by
   simp only [qbX] at *;exact qbf (O:=O) h1 h2) (λa b=>by
   simp only [qcy,qbX]
   cases h:O.blt (rk b) (rk a) with
   | false=>exact .inl rfl
   | true=>exact .inr (qgG (O:=O) h)) xs ys (hx.imp λh=>by rw [qbX];exact h) (hy.imp λh=>by rw [qbX];exact h)
 exact this.imp λh=>by rw [qbX] at h;exact h
theorem dC {a:Array Keyed}{i:Nat} (h:i < a.size):a.toList.drop i=kyd a i::a.toList.drop (i+1):=by
 have e:=aS h
 rw [qar h] at e
 rw [qbM (by simpa using h)]
 rw [<-qaD e];simp
theorem lG {a:Array Keyed}{i:Nat} (h:i < a.size):a.toList.take (i+1)=a.toList.take i++[kyd a i]:=by
 have e:=aS h
 rw [qar h] at e
 rw [qc2 (by simpa using h)]
 rw [<-qaD e];simp
theorem t9 {a:Array Keyed}{x:Keyed} (h:x ∈ a.toList):∃ i,i < a.size/\x=kyd a i:=by
 obtain⟨i,hi,e⟩:=qcc.mp h
 have hi':i < a.size:=by simpa using hi
 refine⟨i,hi',?_⟩
 have q:=aS hi'
 rw [qar hi'] at q
 rw [<-qaD q,<-e];simp
noncomputable def MI (O:KeyOrd) (rk:Keyed->O.α) (a b out:Array Keyed) (ia ib:Nat):Prop:=out.toList++mrg O rk (a.toList.drop ia) (b.toList.drop ib)=mrg O rk a.toList b.toList
variable {a b out:Array Keyed}{ia ib:Nat}
theorem MI.start:MI O rk a b #[] 0 0:=by unfold MI;simp
theorem MI.b1 (h:MI O rk a b out ia ib) (hb:ib < b.size) (ha:ia < a.size) (hl:O.blt (rk (kyd b ib)) (rk (kyd a ia))=true):MI O rk a b (out.push (kyd b ib)) ia (ib+1):=by
 unfold MI at *
 rw [dC ha,dC hb,kR hl] at h
 rw [<-h,dC ha];simp
theorem MI.a1 (h:MI O rk a b out ia ib) (hb:ib < b.size) (ha:ia < a.size) (hl:O.blt (rk (kyd b ib)) (rk (kyd a ia))=false):MI O rk a b (out.push (kyd a ia)) (ia+1) ib:=by
 unfold MI at *
 rw [dC ha,dC hb,nB hl] at h
 rw [<-h,dC hb];simp
theorem lX {a:Array Keyed}{i k:Nat} (h:i+k < a.size):(out++a.extract i (i+(k+1)))=(out++a.extract i (i+k)).push (kyd a (i+k)):=by
 apply qaY.mp
 rw [qgJ,qaV,qaV,qbn,qbn]
 simp only [qby,Nat.add_sub_cancel_left]
 have e:(a.toList.drop i).take (k+1)=(a.toList.drop i).take k++[kyd a (i+k)]:=by
  rw [qc2 (by simp;lia)]
  have q:=aS h
  rw [qar h] at q
  rw [<-qaD q];simp
 rw [e,qbD]
theorem qI {a:Array Keyed}{i:Nat}:out++a.extract i (i+0)=out:=by
 apply qaY.mp
 simp
theorem MI.as (h:MI O rk a b out ia ib) (hb:ib < b.size):∀ k,ia+k<=a.size->(∀ i,i < k->bey O rk false (kyd b ib) (kyd a (ia+i))=true)->MI O rk a b (out++a.extract ia (ia+k)) (ia+k) ib
 | 0,_,_=>by rw [qI];exact h
 | k+1,hk,hq=>by
  rw [lX (by lia)]
  have:=MI.a1 (MI.as h hb k (by lia) λi hi=>hq i (by lia)) hb (by lia) (by simpa [bey] using hq k (by lia))
  exact this
theorem MI.bs (h:MI O rk a b out ia ib) (ha:ia < a.size):∀ k,ib+k<=b.size->(∀ i,i < k->bey O rk true (kyd a ia) (kyd b (ib+i))=true)->MI O rk a b (out++b.extract ib (ib+k)) ia (ib+k)
 | 0,_,_=>by rw [qI];exact h
 | k+1,hk,hq=>by
  rw [lX (by lia)]
  exact MI.b1 (MI.bs h ha k (by lia) λi hi=>hq i (by lia)) (by lia) ha (by simpa [bey] using hq k (by lia))
theorem eJ {a:Array Keyed}{i:Nat}:(a.extract i a.size).toList=a.toList.drop i:=by
 rw [qbn,qby,qbY (by simp)]
theorem MI.doneB (h:MI O rk a b out ia ib) (hb:ib=b.size):(out++a.extract ia a.size++b.extract ib b.size).toList=mrg O rk a.toList b.toList:=by
 unfold MI at h
 subst hb
 rw [qaV,qaV,eJ,eJ,<-h]
 rw [show b.toList.drop b.size=[] by simp,fA,qcZ]
theorem MI.doneA (h:MI O rk a b out ia ib) (ha:ia=a.size):(out++a.extract ia a.size++b.extract ib b.size).toList=mrg O rk a.toList b.toList:=by
 unfold MI at h
 subst ha
 rw [qaV,qaV,eJ,eJ,<-h]
 rw [show a.toList.drop a.size=[] by simp,gH,qcZ]
theorem MI.lastA (h:MI O rk a b out ia ib) (ha:ia+1=a.size) (hl:∀ i,i < b.size->O.blt (rk (kyd b i)) (rk (kyd a (a.size - 1)))=true):(out++b.extract ib b.size++a.extract ia a.size).toList=mrg O rk a.toList b.toList:=by
 unfold MI at h
 rw [qaV,qaV,eJ,eJ,<-h,dC (by lia:ia < a.size),show a.toList.drop (ia+1)=[] by simp;lia,nZ,qbD]
 intro y hy
 obtain⟨i,hi,rfl⟩:=t9 (qeg hy)
 rw [show ia=a.size - 1 by lia]
 exact hl i hi
noncomputable def MH (O:KeyOrd) (rk:Keyed->O.α) (a b out:Array Keyed) (na nb:Nat):Prop:=mrg O rk (a.toList.take na) (b.toList.take nb)++out.toList.reverse=mrg O rk a.toList b.toList
variable {na nb:Nat}
theorem MH.start:MH O rk a b #[] a.size b.size:=by
 unfold MH
 rw [qbY (by simp),qbY (by simp)];simp
theorem MH.a1 (h:MH O rk a b out (na+1) nb) (ha:na < a.size) (hl:∀ i,i < nb->i < b.size->O.blt (rk (kyd b i)) (rk (kyd a na))=true):MH O rk a b (out.push (kyd a na)) na nb:=by
 unfold MH at *
 rw [lG ha,jh _ _ λy hy=>?_] at h
 ·rw [<-h];simp
 ·obtain⟨i,hi,e⟩:=qcc.mp hy
  have hi':i < nb/\i < b.size:=by simp at hi;lia
  have q:=aS hi'.2
  rw [qar hi'.2] at q
  have:y=kyd b i:=by rw [<-e,<-qaD q];simp
  rw [this];exact hl i hi'.1 hi'.2
theorem MH.b1 (h:MH O rk a b out na (nb+1)) (hb:nb < b.size) (hl:∀ i,i < na->i < a.size->O.blt (rk (kyd b nb)) (rk (kyd a i))=false):MH O rk a b (out.push (kyd b nb)) na nb:=by
 unfold MH at *
 rw [lG hb,jc _ _ λy hy=>?_] at h
 ·rw [<-h];simp
 ·obtain⟨i,hi,e⟩:=qcc.mp hy
  have hi':i < na/\i < a.size:=by simp at hi;lia
  have q:=aS hi'.2
  rw [qar hi'.2] at q
  have:y=kyd a i:=by rw [<-e,<-qaD q];simp
  rw [this];exact hl i hi'.1 hi'.2
end
section
variable {prog:Program}{w:World}{A:Around}{E:Value->Shared->Prop}{s:Shared}{κ:SortKind}{O:KeyOrd}{rk:Keyed->O.α}{S:Keyed->Prop}{st:SortSt}{a b:Array Keyed}
noncomputable def Gs (st st':SortSt):Prop:=∃ g,st'=Bl st g
theorem Gs.refl:Gs st st:=⟨gallopOf st,rfl⟩
theorem Gs.kind {st':SortSt} (h:Gs st st'):kindOf st'=kindOf st:=by obtain⟨g,rfl⟩:=h;rfl
theorem Gs.set {st':SortSt} (h:Gs st st') (g:Nat):Gs st (SortSt.mk' (kindOf st') (arrOf st') (pendingOf st') g (failedOf st')):=by obtain⟨g',rfl⟩:=h;exact⟨g,rfl⟩
structure Two (O:KeyOrd) (rk:Keyed->O.α) (S:Keyed->Prop) (a b:Array Keyed):Prop where
 sa:∀ i,i < a.size->S (kyd a i)
 sb:∀ i,i < b.size->S (kyd b i)
 ua:Up rk a 0 a.size
 ub:Up rk b 0 b.size
 pa:0 < a.size
 pb:0 < b.size
 first:O.blt (rk (kyd b 0)) (rk (kyd a 0))=true
 last:∀ i,i < b.size->O.blt (rk (kyd b i)) (rk (kyd a (a.size - 1)))=true
theorem Two.galA (T:Two O rk S a b) {ia na:Nat}{key:Keyed} (hn:ia+na<=a.size):∀ i j,i<=j->j < na->bey O rk false key (kyd a (ia+j))=true->bey O rk false key (kyd a (ia+i))=true:=λi j hij hj h=>by
 simp only [bey,qap,if_false,qbX] at h ⊢
 exact qbf (O:=O) (T.ua (ia+i) (ia+j) (qaI _) (by lia) (by lia)) h
theorem Two.galB (T:Two O rk S a b) {ib nb:Nat}{key:Keyed} (hn:ib+nb<=b.size):∀ i j,i<=j->j < nb->bey O rk true key (kyd b (ib+j))=true->bey O rk true key (kyd b (ib+i))=true:=λi j hij hj h=>by
 simp only [bey,if_true] at h ⊢
 exact qdB (O:=O) (T.ub (ib+i) (ib+j) (qaI _) (by lia) (by lia)) h
set_option maxHeartbeats 4000000 in
structure Hid (G:Prop):Prop where
 out:G
theorem shr {C:Prop} [Decidable C] {G P:Prop} (hp:C->Hid G->P) (hn:¬ C->Hid G->P) (g:G):P:=if h:C then hp h ⟨g⟩ else hn h ⟨g⟩
theorem zR (hC:Cm prog w A s κ O rk S) {Q:Array Keyed->SortSt->Prop} (hk:kindOf st=κ) (T:Two O rk S a b)
  (h:∀ r st',Gs st st'->r.toList=mrg O rk a.toList b.toList->Q r st'):wpS (model prog w) A E s (Cv a b) Q st:=by
 refine qau (ft ?_)
 refine qau (bh (aS T.pb) ?_)
 have I0:MI O rk a b #[kyd b 0] 0 1:=MI.start.b1 T.pb T.pa T.first
 dsimp -zeta only
 by_cases e1:1=b.size
 ·refine aZ (by simpa using e1) ?_
  exact qaA (h _ _ .refl (I0.doneB e1))
 refine aQ (by simpa using e1) ?_
 by_cases e2:0+1=a.size
 ·refine aZ (by simpa using e2) ?_
  exact qaA (h _ _ .refl (I0.lastA e2 T.last))
 refine aQ (by simpa using e2) ?_
 have pa:=T.pa
 have pb:=T.pb
 refine qau (qdq ?_)
 refine qau (qc8 (qbz (I:=λx c st'=>∃ out ia ib g,c=(none,out,ia,ib,g)/\MI O rk a b out ia ib/\ia+1 < a.size/\ib < b.size/\x+1<=ia+ib/\Gs st st')
  (Q:=λc st'=>∃ r c',c=(some r,c')/\r.toList=mrg O rk a.toList b.toList/\Gs st st') ?_ ?_ ?_) ?_)
 ·rintro x c st' _ hx ⟨out,ia,ib,g,rfl,I,ha,hb,hp,hG⟩
  have hk':kindOf st'=κ:=hG.kind.trans hk
  refine qau (qc8 (qbz (I:=λy c st2=>st2=st'/\∃ out ja jb ac bc,c=(none,out,ja,jb,ac,bc)/\MI O rk a b out ja jb/\ja+1 < a.size/\jb < b.size/\ia+ib+y<=ja+jb)
   (Q:=λc st2=>st2=st'/\((∃ r c',c=(some r,c')/\r.toList=mrg O rk a.toList b.toList)\/∃ out ja jb ac bc,c=(none,out,ja,jb,ac,bc)/\MI O rk a b out ja jb/\ja+1 < a.size/\jb < b.size/\ia+ib+1<=ja+jb)) ?_ ?_ ?_) ?_)
  ·rintro y c st2 _ hy ⟨rfl,out2,ja,jb,ac,bc,rfl,I2,ha2,hb2,hp2⟩
   dsimp only
   refine qau (bh (aS hb2) (qau (bh (aS (by lia)) (qau (qz hC hk' (T.sb _ hb2) (T.sa _ (by lia)) ?_)))))
   cases hl:O.blt (rk (kyd b jb)) (rk (kyd a ja)) with
   | true=>
    dsimp only
    refine aZ rfl ?_
    refine qau (bh (aS hb2) ?_)
    have I3:=I2.b1 hb2 (by lia) hl
    by_cases e3:jb+1=b.size
    ·refine aZ (by simpa using e3) ?_
     exact qaA ⟨rfl,.inl ⟨_,_,rfl,I3.doneB e3⟩⟩
    ·refine aQ (by simpa using e3) ?_
     split
     ·exact qaA ⟨rfl,.inr ⟨_,_,_,_,_,rfl,I3,ha2,by lia,by lia⟩⟩
     ·exact qaA ⟨rfl,_,_,_,_,_,rfl,I3,ha2,by lia,by lia⟩
   | false=>
    dsimp only
    refine aQ (by simp) ?_
    refine qau (bh (aS (by lia)) ?_)
    have I3:=I2.a1 hb2 (by lia) hl
    by_cases e3:ja+1+1=a.size
    ·refine aZ (by simpa using e3) ?_
     exact qaA ⟨rfl,.inl ⟨_,_,rfl,I3.lastA e3 T.last⟩⟩
    ·refine aQ (by simpa using e3) ?_
     split
     ·exact qaA ⟨rfl,.inr ⟨_,_,_,_,_,rfl,I3,by lia,hb2,by lia⟩⟩
     ·exact qaA ⟨rfl,_,_,_,_,_,rfl,I3,by lia,hb2,by lia⟩
  ·rintro c st2 ⟨rfl,out2,ja,jb,ac,bc,rfl,I2,ha2,hb2,hp2⟩
   exact⟨rfl,.inr ⟨_,_,_,_,_,rfl,I2,ha2,hb2,by lia⟩⟩
  ·exact⟨rfl,out,ia,ib,0,0,rfl,I,ha,hb,by lia⟩
  ·rintro c st2 ⟨rfl,⟨r,c',rfl,hr⟩ | ⟨out2,ja,jb,ac,bc,rfl,I2,ha2,hb2,hp2⟩⟩
   ·exact qaA ⟨_,_,rfl,hr,hG⟩
   refine qau (ft ?_)
   refine qau (qc8 (qbz (I:=λy c st3=>Gs st st3/\∃ out ja jb g ac bc,c=(none,out,ja,jb,g,ac,bc)/\MI O rk a b out ja jb/\ja+1 < a.size/\jb < b.size/\ia+ib+1<=ja+jb)
    (Q:=λc st3=>Gs st st3/\((∃ r c',c=(some r,c')/\r.toList=mrg O rk a.toList b.toList)\/∃ out ja jb g ac bc,c=(none,out,ja,jb,g,ac,bc)/\MI O rk a b out ja jb/\ja+1 < a.size/\jb < b.size/\ia+ib+1<=ja+jb)) ?_ ?_ ?_) ?_)
   ·rintro y c st3 _ hy ⟨hG3,out3,ja,jb,g3,ac,bc,rfl,I3,ha3,hb3,hp3⟩
    dsimp -zeta only
    have gal1:∀ (g4:Nat) (Q':Option Nat->SortSt->Prop),(∀ k,k<=a.size - ja->(∀ i,i < k->bey O rk false (kyd b jb) (kyd a (ja+i))=true)->(∀ i,k<=i->i < a.size - ja->bey O rk false (kyd b jb) (kyd a (ja+i))=false)->Q' (some k) (SortSt.mk' (kindOf st3) (arrOf st3) (pendingOf st3) g4 (failedOf st3)))->
      wpS (model prog w) A E s (nL false (kyd b jb) a ja (a.size - ja) 0) Q' (SortSt.mk' (kindOf st3) (arrOf st3) (pendingOf st3) g4 (failedOf st3)):=λg4 Q' hq=>
     dS hC (hG3.kind.trans hk) (T.sb _ hb3) (by lia) (λi hi=>T.sa _ (by lia)) (by lia) (T.galA (by lia)) hq
    dsimp only
    apply shr (C:=g3 > 1)
    case hp=>
     intro hg1 tail
     refine aZ hg1 ?_
     generalize g3 - 1=g4
     revert g4
     exact tail.out
    case hn=>
     intro hg1 tail
     refine aQ hg1 ?_
     exact tail.out g3
    case g=>
     intro g4
     refine qau (qct ?_)
     refine qau (bh (aS hb3) (qau (gal1 _ _ λk hk1 hk2 hk3=>?_)))
     have I4:=I3.as hb3 k (by lia) hk2
     clear gal1 hk2
     dsimp only
     apply shr (C:=k > 0)
     case hp=>
      intro hk0 tail
      refine aZ hk0 ?_
      by_cases e3:ja+k+1=a.size
      ·refine aZ (by simpa using e3) ?_
       exact qaA ⟨hG3.set _,.inl ⟨_,_,rfl,I4.lastA e3 T.last⟩⟩
      refine aQ (by simpa using e3) ?_
      by_cases e4:ja+k=a.size
      ·refine aZ (by simpa using e4) ?_
       exact qaA ⟨hG3.set _,.inl ⟨_,_,rfl,I4.doneA e4⟩⟩
      refine aQ (by simpa using e4) ?_
      have hb5:O.blt (rk (kyd b jb)) (rk (kyd a (ja+k)))=true:=by simpa [bey] using hk3 k (qan _) (by lia)
      have z:MI O rk a b (out3++a.extract ja (ja+k)) (ja+k) jb/\O.blt (rk (kyd b jb)) (rk (kyd a (ja+k)))=true/\ja+k+1 < a.size/\ia+ib+1<=ja+k+jb:=⟨I4,hb5,by lia,by lia⟩
      generalize out3++a.extract ja (ja+k)=out5 at z ⊢
      generalize ja+k=ja5 at z ⊢
      generalize k=ac5
      revert z
      revert ac5 out5 ja5
      exact tail.out
     case hn=>
      intro hk0 tail
      refine aQ hk0 ?_
      have hb5:O.blt (rk (kyd b jb)) (rk (kyd a ja))=true:=by simpa [bey] using hk3 0 (by lia) (by lia)
      exact tail.out _ _ _ ⟨I3,hb5,ha3,hp3⟩
     case g=>
      clear I4 hk3 hk1 I3
      intro out5 ja5 ac5 z
      obtain⟨I4,hb5,ha5,hp5⟩:=z
      refine qau (bh (aS hb3) ?_)
      have I5:=I4.b1 hb3 (by lia) hb5
      by_cases e5:jb+1=b.size
      ·refine aZ (by simpa using e5) ?_
       exact qaA ⟨hG3.set _,.inl ⟨_,_,rfl,I5.doneB e5⟩⟩
      refine aQ (by simpa using e5) ?_
      refine qau (bh (aS (by lia)) (qau (dS hC (hG3.kind.trans hk) (T.sa _ (by lia)) (by lia) (λi hi=>T.sb _ (by lia)) (by lia) (T.galB (by lia)) λk2 hk1 hk2 hk3=>?_)))
      have I6:=I5.bs (by lia) k2 (by lia) hk2
      clear hk2
      dsimp only
      apply shr (C:=k2 > 0)
      case hp=>
       intro hk20 tail
       refine aZ hk20 ?_
       by_cases e6:jb+1+k2=b.size
       ·refine aZ (by simpa using e6) ?_
        exact qaA ⟨hG3.set _,.inl ⟨_,_,rfl,I6.doneB e6⟩⟩
       refine aQ (by simpa using e6) ?_
       have hb7:O.blt (rk (kyd b (jb+1+k2))) (rk (kyd a ja5))=false:=by simpa [bey] using hk3 k2 (qan _) (by lia)
       have z:MI O rk a b (out5.push (kyd b jb)++b.extract (jb+1) (jb+1+k2)) ja5 (jb+1+k2)/\O.blt (rk (kyd b (jb+1+k2))) (rk (kyd a ja5))=false/\jb+1+k2 < b.size/\ia+ib+1<=ja5+1+(jb+1+k2):=⟨I6,hb7,by lia,by lia⟩
       generalize out5.push (kyd b jb)++b.extract (jb+1) (jb+1+k2)=out7 at z ⊢
       generalize jb+1+k2=jb7 at z ⊢
       generalize k2=bc7
       revert z
       revert bc7 out7 jb7
       exact tail.out
      case hn=>
       intro hk20 tail
       refine aQ hk20 ?_
       have hb7:O.blt (rk (kyd b (jb+1))) (rk (kyd a ja5))=false:=by simpa [bey] using hk3 0 (by lia) (by lia)
       exact tail.out _ _ _ ⟨I5,hb7,by lia,by lia⟩
      case g=>
       clear I6 hk3 hk1 I5 I4
       intro out7 jb7 bc7 z
       obtain⟨I6,hb7,hj7,hp7⟩:=z
       refine qau (bh (aS (by lia)) ?_)
       have I7:=I6.a1 hj7 (by lia) hb7
       by_cases e7:ja5+1+1=a.size
       ·refine aZ (by simpa using e7) ?_
        exact qaA ⟨hG3.set _,.inl ⟨_,_,rfl,I7.lastA e7 T.last⟩⟩
       refine aQ (by simpa using e7) ?_
       split
       ·exact qaA ⟨hG3.set _,.inr ⟨_,_,_,_,_,_,rfl,I7,by lia,hj7,hp7⟩⟩
       ·exact qaA ⟨hG3.set _,_,_,_,_,_,_,rfl,I7,by lia,hj7,hp7⟩
   ·rintro c st3 ⟨hG3,out3,ja,jb,g3,ac,bc,rfl,I3,ha3,hb3,hp3⟩
    exact⟨hG3,.inr ⟨_,_,_,_,_,_,rfl,I3,ha3,hb3,hp3⟩⟩
   ·exact⟨hG,_,_,_,_,_,_,rfl,I2,ha2,hb2,hp2⟩
   ·rintro c st3 ⟨hG3,⟨r,c',rfl,hr⟩ | ⟨out3,ja,jb,g3,ac,bc,rfl,I3,ha3,hb3,hp3⟩⟩
    ·exact qaA ⟨_,_,rfl,hr,hG3⟩
    ·refine qau (qct (qaA ⟨out3,ja,jb,_,rfl,I3,ha3,hb3,by lia,hG3.set _⟩))
 ·rintro c st' ⟨out,ia,ib,g,rfl,I,ha,hb,hp,hG⟩
  exfalso;lia
 ·exact⟨_,_,_,_,rfl,I0,by lia,by lia,by lia,.refl⟩
 ·rintro c st' ⟨r,c',rfl,hr,hG⟩
  exact qaA (h r st' hG hr)
end
section
variable {prog:Program}{w:World}{A:Around}{E:Value->Shared->Prop}{s:Shared}{κ:SortKind}{O:KeyOrd}{rk:Keyed->O.α}{S:Keyed->Prop}{st:SortSt}{a b out:Array Keyed}{na nb:Nat}
theorem gt {a:Array Keyed}{n:Nat}:(a.extract 0 n).toList=a.toList.take n:=by
 rw [qbn,qby];simp
theorem MH.doneA (h:MH O rk a b out na nb) (e:na=0):(a.extract 0 na++b.extract 0 nb++out.reverse).toList=mrg O rk a.toList b.toList:=by
 unfold MH at h
 subst e
 rw [qaV,qaV,gt,gt,qed,<-h,qej,gH,qce]
theorem MH.doneB (h:MH O rk a b out na nb) (e:nb=0):(a.extract 0 na++b.extract 0 nb++out.reverse).toList=mrg O rk a.toList b.toList:=by
 unfold MH at h
 subst e
 rw [qaV,qaV,gt,gt,qed,<-h,qej,fA,qcZ]
theorem MH.firstB (T:Two O rk S a b) (h:MH O rk a b out na nb) (ha:0 < na) (e:nb=1):(b.extract 0 nb++a.extract 0 na++out.reverse).toList=mrg O rk a.toList b.toList:=by
 unfold MH at h
 subst e
 have e1:b.toList.take 1=[kyd b 0]:=by rw [lG T.pb];simp
 have e2:a.toList.take na=kyd a 0::(a.toList.drop 1).take (na - 1):=by
  obtain⟨m,rfl⟩:∃ m,na=m+1:=⟨na - 1,by lia⟩
  have:=dC T.pa
  rw [qdA] at this
  rw [this];simp
 rw [qaV,qaV,gt,gt,qed,<-h,e1,e2,kR T.first,fA]
 rfl
theorem Two.belowB (T:Two O rk S a b) {i j:Nat}{x:Keyed} (hij:i<=j) (hj:j < b.size) (h:O.blt (rk (kyd b j)) (rk x)=true):O.blt (rk (kyd b i)) (rk x)=true:=
 qdB (O:=O) (T.ub i j (qaI _) hij (by lia)) h
theorem Two.belowA (T:Two O rk S a b) {i j:Nat}{x:Keyed} (hij:i<=j) (hj:j < a.size) (h:O.blt (rk x) (rk (kyd a j))=false):O.blt (rk x) (rk (kyd a i))=false:=
 qbf (O:=O) (T.ua i j (qaI _) hij (by lia)) h
theorem qD {a:Array Keyed}{t k:Nat} (h:t+k < a.size):out++(a.extract t (t+(k+1))).reverse=(out.push (kyd a (t+k)))++(a.extract t (t+k)).reverse:=by
 apply qaY.mp
 have e:=lX (out:=#[]) (a:=a) (i:=t) (k:=k) h
 have e':a.extract t (t+(k+1))=(a.extract t (t+k)).push (kyd a (t+k)):=by
  have z:∀ x:Array Keyed,#[]++x=x:=λx=>by simp
  rw [z,z] at e;exact e
 rw [e'];simp
theorem MH.as (T:Two O rk S a b) {t:Nat} (hb:∀ i,i < nb->i < b.size->∀ j,t<=j->j < a.size->O.blt (rk (kyd b i)) (rk (kyd a j))=true):∀ (k:Nat) {out:Array Keyed},MH O rk a b out (t+k) nb->t+k<=a.size->MH O rk a b (out++(a.extract t (t+k)).reverse) t nb
 | 0,out,h,_=>by
  have:out++(a.extract t (t+0)).reverse=out:=by apply qaY.mp;simp
  rw [this];exact h
 | k+1,out,h,hz=>by
  rw [qD (by lia)]
  exact MH.as T hb k (MH.a1 (na:=t+k) h (by lia) λi h1 h2=>hb i h1 h2 (t+k) (by lia) (by lia)) (by lia)
theorem MH.bs (T:Two O rk S a b) {t:Nat} (hb:∀ i,i < na->i < a.size->∀ j,t<=j->j < b.size->O.blt (rk (kyd b j)) (rk (kyd a i))=false):∀ (k:Nat) {out:Array Keyed},MH O rk a b out na (t+k)->t+k<=b.size->MH O rk a b (out++(b.extract t (t+k)).reverse) na t
 | 0,out,h,_=>by
  have:out++(b.extract t (t+0)).reverse=out:=by apply qaY.mp;simp
  rw [this];exact h
 | k+1,out,h,hz=>by
  rw [qD (by lia)]
  exact MH.bs T hb k (MH.b1 (nb:=t+k) h (by lia) λi h1 h2=>hb i h1 h2 (t+k) (by lia) (by lia)) (by lia)
theorem MH.a1' (T:Two O rk S a b) (h:MH O rk a b out na nb) (ha:0 < na) (hz:na<=a.size) (hb:0 < nb) (hz2:nb<=b.size) (hl:O.blt (rk (kyd b (nb - 1))) (rk (kyd a (na - 1)))=true):MH O rk a b (out.push (kyd a (na - 1))) (na - 1) nb:=
 MH.a1 (by rw [show na - 1+1=na by lia];exact h) (by lia) λi h1 h2=>T.belowB (by lia) (by lia) hl
theorem MH.b1' (T:Two O rk S a b) (h:MH O rk a b out na nb) (ha:0 < na) (hz:na<=a.size) (hb:0 < nb) (hz2:nb<=b.size) (hl:O.blt (rk (kyd b (nb - 1))) (rk (kyd a (na - 1)))=false):MH O rk a b (out.push (kyd b (nb - 1))) na (nb - 1):=
 MH.b1 (by rw [show nb - 1+1=nb by lia];exact h) (by lia) λi h1 h2=>T.belowA (by lia) (by lia) hl
theorem MH.as' (T:Two O rk S a b) {t:Nat} (h:MH O rk a b out na nb) (ht:t<=na) (hz:na<=a.size) (hb:0 < nb) (hz2:nb<=b.size) (hq:∀ i,t<=i->i < na->bey O rk false (kyd b (nb - 1)) (kyd a (0+i))=false):MH O rk a b (out++(a.extract t na).reverse) t nb:=by
 by_cases e:t=na
 ·subst e
  have:out++(a.extract t t).reverse=out:=by apply qaY.mp;simp
  rw [this];exact h
 have e2:t+(na - t)=na:=by lia
 have:=MH.as T (t:=t) (nb:=nb) (a:=a) (b:=b) (λi h1 h2 j h3 h4=>?_) (na - t) (out:=out) (by rw [e2];exact h) (by lia)
 ·rw [e2] at this;exact this
 ·have q:=hq t (qan _) (by lia)
  simp only [bey,qap,if_false,qeJ,qbo] at q
  exact T.belowB (j:=nb - 1) (by lia) (by lia) (qfr (O:=O) q (T.ua t j (qaI _) h3 (by lia)))
theorem MH.bs' (T:Two O rk S a b) {t:Nat} (h:MH O rk a b out na nb) (ht:t<=nb) (hz:nb<=b.size) (ha:0 < na) (hz2:na<=a.size) (hq:∀ i,t<=i->i < nb->bey O rk true (kyd a (na - 1)) (kyd b (0+i))=false):MH O rk a b (out++(b.extract t nb).reverse) na t:=by
 by_cases e:t=nb
 ·subst e
  have:out++(b.extract t t).reverse=out:=by apply qaY.mp;simp
  rw [this];exact h
 have e2:t+(nb - t)=nb:=by lia
 have:=MH.bs T (t:=t) (na:=na) (a:=a) (b:=b) (λi h1 h2 j h3 h4=>?_) (nb - t) (out:=out) (by rw [e2];exact h) (by lia)
 ·rw [e2] at this;exact this
 ·have q:=hq t (qan _) (by lia)
  simp only [bey,if_true,qbo] at q
  exact T.belowA (j:=na - 1) (by lia) (by lia) (qbf (O:=O) q (T.ub t j (qaI _) h3 (by lia)))
set_option maxHeartbeats 4000000 in
theorem zW (hC:Cm prog w A s κ O rk S) {Q:Array Keyed->SortSt->Prop} (hk:kindOf st=κ) (T:Two O rk S a b)
  (h:∀ r st',Gs st st'->r.toList=mrg O rk a.toList b.toList->Q r st'):wpS (model prog w) A E s (Cz a b) Q st:=by
 have pa:=T.pa
 have pb:=T.pb
 refine qau (ft ?_)
 refine qau (bh (aS (by lia)) ?_)
 have I0:MH O rk a b #[kyd a (a.size - 1)] (a.size - 1) b.size:=by
  have e:a.size - 1+1=a.size:=by lia
  exact MH.a1 (out:=#[]) (by rw [e];exact MH.start) (by lia) λi h1 h2=>T.last i h2
 dsimp -zeta only
 by_cases e1:a.size - 1=0
 ·refine aZ (by simpa using e1) ?_
  exact qaA (h _ _ .refl (I0.doneA e1))
 refine aQ (by simpa using e1) ?_
 by_cases e2:b.size=1
 ·refine aZ (by simpa using e2) ?_
  exact qaA (h _ _ .refl (I0.firstB T (by lia) e2))
 refine aQ (by simpa using e2) ?_
 refine qau (qdq ?_)
 refine qau (qc8 (qbz (I:=λx c st'=>∃ out na nb g,c=(none,na,nb,out,g)/\MH O rk a b out na nb/\0 < na/\1 < nb/\na<=a.size/\nb<=b.size/\na+nb+x+1<=a.size+b.size/\Gs st st')
  (Q:=λc st'=>∃ r c',c=(some r,c')/\r.toList=mrg O rk a.toList b.toList/\Gs st st') ?_ ?_ ?_) ?_)
 ·rintro x c st' _ hx ⟨out,na,nb,g,rfl,I,ha,hb,hza,hzb,hp,hG⟩
  have hk':kindOf st'=κ:=hG.kind.trans hk
  refine qau (qc8 (qbz (I:=λy c st2=>st2=st'/\∃ out ma mb ac bc,c=(none,ma,mb,out,ac,bc)/\MH O rk a b out ma mb/\0 < ma/\1 < mb/\ma<=a.size/\mb<=b.size/\ma+mb+y<=na+nb)
   (Q:=λc st2=>st2=st'/\((∃ r c',c=(some r,c')/\r.toList=mrg O rk a.toList b.toList)\/∃ out ma mb ac bc,c=(none,ma,mb,out,ac,bc)/\MH O rk a b out ma mb/\0 < ma/\1 < mb/\ma<=a.size/\mb<=b.size/\ma+mb+1<=na+nb)) ?_ ?_ ?_) ?_)
  ·rintro y c st2 _ hy ⟨rfl,out2,ma,mb,ac,bc,rfl,I2,ha2,hb2,za2,zb2,hp2⟩
   dsimp only
   refine qau (bh (aS (by lia)) (qau (bh (aS (by lia)) (qau (qz hC hk' (T.sb _ (by lia)) (T.sa _ (by lia)) ?_)))))
   cases hl:O.blt (rk (kyd b (mb - 1))) (rk (kyd a (ma - 1))) with
   | true=>
    dsimp only
    refine aZ rfl ?_
    refine qau (bh (aS (by lia)) ?_)
    have I3:=I2.a1' T ha2 za2 (by lia) zb2 hl
    by_cases e3:ma - 1=0
    ·refine aZ (by simpa using e3) ?_
     exact qaA ⟨rfl,.inl ⟨_,_,rfl,I3.doneA e3⟩⟩
    ·refine aQ (by simpa using e3) ?_
     split
     ·exact qaA ⟨rfl,.inr ⟨_,_,_,_,_,rfl,I3,by lia,hb2,by lia,zb2,by lia⟩⟩
     ·exact qaA ⟨rfl,_,_,_,_,_,rfl,I3,by lia,hb2,by lia,zb2,by lia⟩
   | false=>
    dsimp only
    refine aQ (by simp) ?_
    refine qau (bh (aS (by lia)) ?_)
    have I3:=I2.b1' T ha2 za2 (by lia) zb2 hl
    by_cases e3:mb - 1=1
    ·refine aZ (by simpa using e3) ?_
     exact qaA ⟨rfl,.inl ⟨_,_,rfl,I3.firstB T ha2 e3⟩⟩
    ·refine aQ (by simpa using e3) ?_
     split
     ·exact qaA ⟨rfl,.inr ⟨_,_,_,_,_,rfl,I3,ha2,by lia,za2,by lia,by lia⟩⟩
     ·exact qaA ⟨rfl,_,_,_,_,_,rfl,I3,ha2,by lia,za2,by lia,by lia⟩
  ·rintro c st2 ⟨rfl,out2,ma,mb,ac,bc,rfl,I2,ha2,hb2,za2,zb2,hp2⟩
   exact⟨rfl,.inr ⟨_,_,_,_,_,rfl,I2,ha2,hb2,za2,zb2,by lia⟩⟩
  ·exact⟨rfl,out,na,nb,0,0,rfl,I,ha,hb,hza,hzb,by lia⟩
  ·rintro c st2 ⟨rfl,⟨r,c',rfl,hr⟩ | ⟨out2,ma,mb,ac,bc,rfl,I2,ha2,hb2,za2,zb2,hp2⟩⟩
   ·exact qaA ⟨_,_,rfl,hr,hG⟩
   refine qau (ft ?_)
   refine qau (qc8 (qbz (I:=λy c st3=>Gs st st3/\∃ out ma mb g ac bc,c=(none,ma,mb,out,g,ac,bc)/\MH O rk a b out ma mb/\0 < ma/\1 < mb/\ma<=a.size/\mb<=b.size/\ma+mb+1<=na+nb)
    (Q:=λc st3=>Gs st st3/\((∃ r c',c=(some r,c')/\r.toList=mrg O rk a.toList b.toList)\/∃ out ma mb g ac bc,c=(none,ma,mb,out,g,ac,bc)/\MH O rk a b out ma mb/\0 < ma/\1 < mb/\ma<=a.size/\mb<=b.size/\ma+mb+1<=na+nb)) ?_ ?_ ?_) ?_)
   ·rintro y c st3 _ hy ⟨hG3,out3,ma,mb,g3,ac,bc,rfl,I3,ha3,hb3,za3,zb3,hp3⟩
    have gal1:∀ (g4:Nat) (Q':Option Nat->SortSt->Prop),(∀ k,k<=ma->(∀ i,i < k->bey O rk false (kyd b (mb - 1)) (kyd a (0+i))=true)->(∀ i,k<=i->i < ma->bey O rk false (kyd b (mb - 1)) (kyd a (0+i))=false)->Q' (some k) (SortSt.mk' (kindOf st3) (arrOf st3) (pendingOf st3) g4 (failedOf st3)))->
      wpS (model prog w) A E s (nL false (kyd b (mb - 1)) a 0 ma (ma - 1)) Q' (SortSt.mk' (kindOf st3) (arrOf st3) (pendingOf st3) g4 (failedOf st3)):=λg4 Q' hq=>
     dS hC (hG3.kind.trans hk) (T.sb _ (by lia)) (by lia) (λi hi=>T.sa _ (by lia)) (by lia) (T.galA (by lia)) hq
    dsimp only
    apply shr (C:=g3 > 1)
    case hp=>
     intro hg1 tail
     refine aZ hg1 ?_
     generalize g3 - 1=g4
     revert g4
     exact tail.out
    case hn=>
     intro hg1 tail
     refine aQ hg1 ?_
     exact tail.out g3
    case g=>
     intro g4
     refine qau (qct ?_)
     refine qau (bh (aS (by lia)) (qau (gal1 _ _ λt hk1 hk2 hk3=>?_)))
     have I4:=I3.as' T hk1 za3 (by lia) zb3 hk3
     have hb5:∀ i,i < t->O.blt (rk (kyd b (mb - 1))) (rk (kyd a i))=false:=λi hi=>by simpa [bey] using hk2 i hi
     clear hk2 hk3 gal1
     dsimp only
     apply shr (C:=ma - t > 0)
     case hp=>
      intro hk0 tail
      refine aZ hk0 ?_
      by_cases e3:t=0
      ·refine aZ (by simpa using e3) ?_
       exact qaA ⟨hG3.set _,.inl ⟨_,_,rfl,I4.doneA e3⟩⟩
      refine aQ (by simpa using e3) ?_
      have ha5:0 < t:=by lia
      have za5:t<=a.size:=by lia
      have hp5:t+mb+1<=na+nb:=by lia
      have J4:=I4
      have jb5:=hb5
      generalize out3++(a.extract t ma).reverse=out5 at J4 ⊢
      generalize ma - t=ac5
      generalize t=t5 at jb5 J4 ha5 za5 hp5 ⊢
      revert jb5 J4 ha5 za5 hp5
      revert ac5 out5 t5
      exact tail.out
     case hn=>
      intro hk0 tail
      refine aQ hk0 ?_
      have e0:t=ma:=by lia
      subst e0
      have e9:out3++(a.extract t t).reverse=out3:=by apply qaY.mp;simp
      rw [e9] at I4
      exact tail.out _ _ t hb5 I4 ha3 za3 hp3
     case g=>
      clear I4 hb5 hk1
      intro out5 ac5 t hb5 I4 ha5 za5 hp5
      refine qau (bh (aS (by lia)) ?_)
      have I5:=I4.b1' T ha5 za5 (by lia) zb3 (hb5 _ (by lia))
      by_cases e5:mb - 1=1
      ·refine aZ (by simpa using e5) ?_
       exact qaA ⟨hG3.set _,.inl ⟨_,_,rfl,I5.firstB T ha5 e5⟩⟩
      refine aQ (by simpa using e5) ?_
      refine qau (bh (aS (by lia)) (qau (dS hC (hG3.kind.trans hk) (T.sa _ (by lia)) (by lia) (λi hi=>T.sb _ (by lia)) (by lia) (T.galB (by lia)) λu hk1 hk2 hk3=>?_)))
      have I6:=I5.bs' T hk1 (by lia) ha5 za5 hk3
      have hb7:∀ i,i < u->O.blt (rk (kyd b i)) (rk (kyd a (t - 1)))=true:=λi hi=>by simpa [bey] using hk2 i hi
      clear hk2 hk3
      dsimp only
      apply shr (C:=mb - 1 - u > 0)
      case hp=>
       intro hk20 tail
       refine aZ hk20 ?_
       by_cases e6:u=1
       ·refine aZ (by simpa using e6) ?_
        exact qaA ⟨hG3.set _,.inl ⟨_,_,rfl,I6.firstB T ha5 e6⟩⟩
       refine aQ (by simpa using e6) ?_
       by_cases e7:u=0
       ·refine aZ (by simpa using e7) ?_
        exact qaA ⟨hG3.set _,.inl ⟨_,_,rfl,I6.doneB e7⟩⟩
       refine aQ (by simpa using e7) ?_
       have hj7:1 < u:=by lia
       have zj7:u<=b.size:=by lia
       have hp7:t+u+1<=na+nb:=by lia
       have J6:=I6
       have jb7:=hb7
       generalize out5.push (kyd b (mb - 1))++(b.extract u (mb - 1)).reverse=out7 at J6 ⊢
       generalize mb - 1 - u=bc7
       generalize u=u7 at jb7 J6 hj7 zj7 hp7 ⊢
       revert jb7 J6 hj7 zj7 hp7
       revert bc7 out7 u7
       exact tail.out
      case hn=>
       intro hk20 tail
       refine aQ hk20 ?_
       have e0:u=mb - 1:=by lia
       subst e0
       have e9:out5.push (kyd b (mb - 1))++(b.extract (mb - 1) (mb - 1)).reverse=out5.push (kyd b (mb - 1)):=by apply qaY.mp;simp
       rw [e9] at I6
       exact tail.out _ _ (mb - 1) hb7 I6 (by lia) (by lia) (by lia)
      case g=>
       clear I6 hb7 hk1
       intro out7 bc7 u hb7 I6 hj7 zj7 hp7
       refine qau (bh (aS (by lia)) ?_)
       have I7:=I6.a1' T ha5 za5 (by lia) zj7 (hb7 _ (by lia))
       by_cases e7:t - 1=0
       ·refine aZ (by simpa using e7) ?_
        exact qaA ⟨hG3.set _,.inl ⟨_,_,rfl,I7.doneA e7⟩⟩
       refine aQ (by simpa using e7) ?_
       split
       ·exact qaA ⟨hG3.set _,.inr ⟨_,_,_,_,_,_,rfl,I7,by lia,hj7,by lia,zj7,by lia⟩⟩
       ·exact qaA ⟨hG3.set _,_,_,_,_,_,_,rfl,I7,by lia,hj7,by lia,zj7,by lia⟩
   ·rintro c st3 ⟨hG3,out3,ja,jb,g3,ac,bc,rfl,I3,ha3,hb3,za3,zb3,hp3⟩
    exact⟨hG3,.inr ⟨_,_,_,_,_,_,rfl,I3,ha3,hb3,za3,zb3,hp3⟩⟩
   ·exact⟨hG,_,_,_,_,_,_,rfl,I2,ha2,hb2,za2,zb2,hp2⟩
   ·rintro c st3 ⟨hG3,⟨r,c',rfl,hr⟩ | ⟨out3,ja,jb,g3,ac,bc,rfl,I3,ha3,hb3,za3,zb3,hp3⟩⟩
    ·exact qaA ⟨_,_,rfl,hr,hG3⟩
    ·refine qau (qct (qaA ⟨out3,ja,jb,_,rfl,I3,ha3,hb3,za3,zb3,by lia,hG3.set _⟩))
 ·rintro c st' ⟨out,ia,ib,g,rfl,I,ha,hb,hza,hzb,hp,hG⟩
  exfalso;lia
 ·exact⟨_,_,_,_,rfl,I0,by lia,by lia,by lia,by lia,by lia,.refl⟩
 ·rintro c st' ⟨r,c',rfl,hr,hG⟩
  exact qaA (h r st' hG hr)
end
section
variable {prog:Program}{w:World}{A:Around}{E:Value->Shared->Prop}{s:Shared}{κ:SortKind}{O:KeyOrd}{rk:Keyed->O.α}{S:Keyed->Prop}{st:SortSt}{arr:Array Keyed}{n1 n2:Nat}
theorem tJ (sa:Nat):∀ (l:List Keyed) (n:Nat) (arr:Array Keyed),sa+n+l.length<=arr.size->
  ((l.zipIdx n).foldl (λ(a:Array Keyed) x=>match x with | (p,j)=>a.setIfInBounds (sa+j) p) arr).toList=arr.toList.take (sa+n)++l++arr.toList.drop (sa+n+l.length)
 | [],n,arr,h=>by simp
 | p::l,n,arr,h=>by
  rw [List.zipIdx_cons,qbG,tJ sa l (n+1) _ (by simp only [qaq] at h;simp;lia)]
  have hn:sa+n < arr.toList.length:=by simp only [qaq] at h;simp;lia
  rw [Array.toList_setIfInBounds,<-qf5,qc2 (by rw [qcg];exact hn),List.getElem_set_self,List.take_set_of_le (qan _),List.drop_set_of_lt (by lia),qaq]
  simp [qf5,qgk 1]
theorem dP {a:Array Keyed}{i j k:Nat} (h:k < j - i) (hj:j<=a.size):kyd (a.extract i j) k=kyd a (i+k):=by
 apply cM
 rw [Array.getElem?_extract_of_lt (by lia),qar (by lia)]
theorem ni {a:Array Keyed} (h:Up rk a 0 a.size):a.toList.Pairwise λx y=>O.kle (rk x) (rk y):=by
 rw [qca]
 intro i j hi hj hij
 have hi':i < a.size:=by simpa using hi
 have hj':j < a.size:=by simpa using hj
 have q:=h i j (qaI _) (by lia) (by lia)
 have e1:=aS hi'
 have e2:=aS hj'
 rw [qar hi'] at e1
 rw [qar hj'] at e2
 rw [<-qaD e1,<-qaD e2] at q
 simpa using q
theorem ox {a:Array Keyed}{i j:Nat} (h:Up rk a i (j - i)) (hj:j<=a.size):Up rk (a.extract i j) 0 (a.extract i j).size:=by
 intro x y _ hxy hy
 have hs:(a.extract i j).size=j - i:=by simp;lia
 rw [dP (by lia) hj,dP (by lia) hj]
 exact h _ _ (by lia) (by lia) (by lia)
theorem kl {a:Array Keyed}{i j:Nat}{x:Keyed} (h:x ∈ (a.extract i j).toList) (hj:j<=a.size):∃ k,i<=k/\k < j/\x=kyd a k:=by
 obtain⟨k,hk,rfl⟩:=t9 h
 have hs:(a.extract i j).size=j - i:=by simp;lia
 exact⟨i+k,by lia,by lia,by rw [dP (by lia) hj]⟩
theorem BG {a:Array Keyed}{i j k:Nat} (h1:i<=j) (h2:j<=k) (h3:k<=a.size):a.toList=a.toList.take i++(a.extract i j).toList++(a.extract j k).toList++a.toList.drop k:=by
 have e1:(a.extract i j).toList=(a.toList.drop i).take (j - i):=by rw [qbn,qby]
 have e2:(a.extract j k).toList=(a.toList.drop j).take (k - j):=by rw [qbn,qby]
 rw [e1,e2]
 have c1:a.toList.take i++(a.toList.drop i).take (j - i)=a.toList.take j:=by
  rw [<-qhf,show i+(j - i)=j by lia]
 have c2:a.toList.take j++(a.toList.drop j).take (k - j)=a.toList.take k:=by
  rw [<-qhf,show j+(k - j)=k by lia]
 rw [c1,c2,qcv]
set_option maxHeartbeats 2000000 in
theorem yA (hC:Cm prog w A s κ O rk S) {Q:Bool->SortSt->Prop}{p q:Nat} (hk:kindOf st=κ) (hf:failedOf st=none) (hp:pendingOf st=#[(0,n1,p),(n1,n2,q)]) (hS:∀ x ∈ (arrOf st).toList,S x) (hz:(arrOf st).size=n1+n2) (h1:0 < n1) (h2:0 < n2)
  (u1:Up rk (arrOf st) 0 n1) (u2:Up rk (arrOf st) n1 n2)
  (h:∀ st',(arrOf st').toList.Perm (arrOf st).toList->(arrOf st').toList.Pairwise (λx y=>O.kle (rk x) (rk y))->failedOf st'=none->pendingOf st'=#[(0,n1+n2,p)]->Q true st'):wpS (model prog w) A E s (Ac 0) Q st:=by
 have hSi:∀ i,i < n1+n2->S (kyd (arrOf st) i):=λi hi=>by
  have hi':i < (arrOf st).size:=by lia
  refine hS _ ?_
  have e:=aS hi'
  rw [qar hi'] at e
  rw [<-qaD e];exact qfF hi'
 refine qau (qdq ?_)
 have e1:(pendingOf st)[0]?=some (0,n1,p):=by rw [hp];rfl
 have e2:(pendingOf st)[0+1]?=some (n1,n2,q):=by rw [hp];rfl
 rw [e1,e2]
 refine qau ?_
 have hset:∀ (x:SortSt) (Q':PUnit->SortSt->Prop) (st0:SortSt),Q' ⟨⟩ x->wpS (model prog w) A E s (set x:StateT SortSt Sem PUnit) Q' st0:=λx Q' st0 hq=>by
  unfold wpS;exact qab ⟨rfl,hq⟩
 refine hset _ _ _ ?_
 have e3:((pendingOf st).setIfInBounds 0 (0,n1+n2,p)).eraseIdxIfInBounds (0+1)=#[(0,n1+n2,p)]:=by
  rw [hp];apply qaY.mp;simp [Array.eraseIdxIfInBounds]
 rw [e3]
 clear e1 e2 e3 hp
 delta arrOf kindOf failedOf gallopOf at *
 obtain⟨kd,arr,pn,gl,fl⟩:=st
 dsimp only at hk hf hS hz u1 u2 h hSi
 dsimp -zeta only
 have h:∀ st',(arrOf st').toList.Perm arr.toList->(arrOf st').toList.Pairwise (λx y=>O.kle (rk x) (rk y))->failedOf st'=none->pendingOf st'=#[(0,n1+n2,p)]->Q true st':=h
 have k2:kindOf (SortSt.mk' kd arr #[(0,n1+n2,p)] gl fl)=κ:=hk
 have a2:arrOf (SortSt.mk' kd arr #[(0,n1+n2,p)] gl fl)=arr:=rfl
 have f2:failedOf (SortSt.mk' kd arr #[(0,n1+n2,p)] gl fl)=none:=hf
 have p2:pendingOf (SortSt.mk' kd arr #[(0,n1+n2,p)] gl fl)=#[(0,n1+n2,p)]:=rfl
 have whole:O.kle (rk (kyd arr (n1 - 1))) (rk (kyd arr n1))->arr.toList.Pairwise λx y=>O.kle (rk x) (rk y):=λhm=>ni λi j _ hij hj=>by
  by_cases c1:j < n1
  ·exact u1 i j (qaI _) hij (by lia)
  ·by_cases c2:n1<=i
   ·exact u2 i j c2 hij (by lia)
   ·exact qbf (qbf (u1 i (n1 - 1) (qaI _) (by lia) (by lia)) hm) (u2 n1 j (qan _) (by lia) (by lia))
 have ok:arr.toList.Pairwise (λx y=>O.kle (rk x) (rk y))->Q true (SortSt.mk' kd arr #[(0,n1+n2,p)] gl fl):=λhw=>h (SortSt.mk' kd arr #[(0,n1+n2,p)] gl fl) (by rw [a2]) (by rw [a2];exact hw) f2 p2
 refine qau (bh (aS (by lia)) (qau (dS hC k2 (hSi _ (by lia)) (by lia) (λi hi=>hSi _ (by lia)) (by lia) (λi j hij hj hb=>?_) λk hk1 hk2 hk3=>?_)))
 ·simp only [bey,qap,if_false,qbX] at hb ⊢
  exact qbf (O:=O) (u1 (0+i) (0+j) (qaI _) (by lia) (by lia)) hb
 simp only [bey,qap,if_false,qbX,qeJ,qbo] at hk2 hk3
 dsimp only
 by_cases c1:n1 - k=0
 ·refine aZ (by simpa using c1) ?_
  exact qaA (ok (whole (hk2 (n1 - 1) (by lia))))
 refine aQ (by simpa using c1) ?_
 rw [show 0+k+(n1 - k) - 1=n1 - 1 by lia,qbo]
 refine qau (bh (aS (by lia)) (qau (dS hC k2 (hSi _ (by lia)) (by lia) (λi hi=>hSi _ (by lia)) (by lia) (λi j hij hj hb=>?_) λnb hb1 hb2 hb3=>?_)))
 ·simp only [bey,if_true] at hb ⊢
  exact qdB (O:=O) (u2 (n1+i) (n1+j) (by lia) (by lia) (by lia)) hb
 simp only [bey,if_true] at hb2 hb3
 dsimp only
 by_cases c2:nb=0
 ·refine aZ (by simpa using c2) ?_
  exact qaA (ok (whole (hb3 0 (by lia) (by lia))))
 refine aQ (by simpa using c2) ?_
 have sx:(arr.extract k n1).size=n1 - k:=by simp;lia
 have sy:(arr.extract n1 (n1+nb)).size=nb:=by simp;lia
 have T:Two O rk S (arr.extract k n1) (arr.extract n1 (n1+nb)):=by
  refine⟨λi hi=>?_,λi hi=>?_,ox (λi j a b c=>u1 i j (qaI _) b (by lia)) (by lia),ox (λi j a b c=>u2 i j a b (by lia)) (by lia),by lia,by lia,?_,λi hi=>?_⟩
  ·rw [dP (by lia) (by lia)];exact hSi _ (by lia)
  ·rw [dP (by lia) (by lia)];exact hSi _ (by lia)
  ·rw [dP (by lia) (by lia),dP (by lia) (by lia)];exact hk3 _ (by lia) (by lia)
  ·rw [dP (by lia) (by lia),dP (by lia) (by lia),sx,show k+(n1 - k - 1)=n1 - 1 by lia];exact hb2 i (by lia)
 have fin:∀ (r:Array Keyed) st',Gs (SortSt.mk' kd arr #[(0,n1+n2,p)] gl fl) st'->r.toList=mrg O rk (arr.extract k n1).toList (arr.extract n1 (n1+nb)).toList->
   Q true (SortSt.mk' (kindOf st') ((r.toList.zipIdx).foldl (λ(a:Array Keyed) x=>match x with | (p,j)=>a.setIfInBounds (k+j) p) (arrOf st')) (pendingOf st') (gallopOf st') (failedOf st')):=by
  rintro r st' ⟨g,rfl⟩ hr
  have hl:r.toList.length=n1 - k+nb:=by rw [hr,(lZ _ _).length_eq,qaK,qav,qav,sx,sy]
  have e5:=tJ k r.toList 0 arr (by lia)
  rw [qim,hl,show k+(n1 - k+nb)=n1+nb by lia,hr] at e5
  have e6:=BG (a:=arr) (i:=k) (j:=n1) (k:=n1+nb) (by lia) (by lia) (by lia)
  refine h _ ?_ ?_ f2 p2
  ·show (List.foldl _ (arrOf (SortSt.mk' kd arr #[(0,n1+n2,p)] gl fl)) _).toList.Perm _
   rw [a2,hr,e5]
   conv=>rhs;rw [e6]
   exact ((lZ _ _).append_left _ |>.append_right _).trans (by rw [qbD,qbD,qbD,qbD])
  ·show (List.foldl _ (arrOf (SortSt.mk' kd arr #[(0,n1+n2,p)] gl fl)) _).toList.Pairwise _
   rw [a2,hr,e5]
   have m1:∀ x ∈ arr.toList.take k,∃ i,i < k/\x=kyd arr i:=λx hx=>by
    rw [<-gt] at hx
    obtain⟨i,_,hi,e⟩:=kl hx (by lia)
    exact⟨i,hi,e⟩
   have m2:∀ x ∈ arr.toList.drop (n1+nb),∃ i,n1+nb<=i/\i < arr.size/\x=kyd arr i:=λx hx=>by
    rw [<-eJ] at hx
    obtain⟨i,h1,h2,e⟩:=kl hx (qan _)
    exact⟨i,h1,h2,e⟩
   have m3:∀ x ∈ mrg O rk (arr.extract k n1).toList (arr.extract n1 (n1+nb)).toList,∃ i,k<=i/\i < n1+nb/\x=kyd arr i:=λx hx=>by
    rcases qbx.mp ((lZ _ _).mem_iff.mp hx) with hx | hx
    ·obtain⟨i,h1,h2,e⟩:=kl hx (by lia);exact⟨i,h1,by lia,e⟩
    ·obtain⟨i,h1,h2,e⟩:=kl hx (by lia);exact⟨i,by lia,h2,e⟩
   have lowHi:∀ i j,i < k->n1<=j->j < n1+n2->O.kle (rk (kyd arr i)) (rk (kyd arr j)):=λi j hi h3 h4=>qbf (hk2 i hi) (u2 n1 j (qan _) h3 h4)
   have hiHi:∀ i j,i < n1->n1+nb<=j->j < n1+n2->O.kle (rk (kyd arr i)) (rk (kyd arr j)):=λi j hi h3 h4=>by
    have:=hb3 (j - n1) (by lia) (by lia)
    rw [show n1+(j - n1)=j by lia] at this
    exact qbf (u1 i (n1 - 1) (qaI _) (by lia) (by lia)) this
   refine qcE.mpr ⟨qcE.mpr ⟨?_,BW (ni T.ua) (ni T.ub),?_⟩,?_,?_⟩
   ·rw [<-gt]
    exact ni (ox (λi j a b c=>u1 i j (qaI _) b (by lia)) (by lia))
   ·intro x hx y hy
    obtain⟨i,hi,rfl⟩:=m1 x hx
    obtain⟨j,j1,j2,rfl⟩:=m3 y hy
    by_cases c:j < n1
    ·exact u1 i j (qaI _) (by lia) (by lia)
    ·exact lowHi i j hi (by lia) (by lia)
   ·rw [<-eJ]
    exact ni (ox (λi j a b c=>u2 i j (by lia) b (by lia)) (qan _))
   ·intro x hx y hy
    obtain⟨j,j1,j2,rfl⟩:=m2 y hy
    have hx':∃ i,i < n1+nb/\x=kyd arr i:=by
     rcases qbx.mp hx with hx | hx
     ·obtain⟨i,hi,e⟩:=m1 x hx;exact⟨i,by lia,e⟩
     ·obtain⟨i,_,hi,e⟩:=m3 x hx;exact⟨i,hi,e⟩
    obtain⟨i,hi,rfl⟩:=hx'
    by_cases c:i < n1
    ·exact hiHi i j c j1 (by lia)
    ·exact u2 i j (by lia) (by lia) (by lia)
 have isn:∀ st',Gs (SortSt.mk' kd arr #[(0,n1+n2,p)] gl fl) st'->failedOf st'=none:=by rintro st' ⟨g,rfl⟩;exact f2
 split
 ·refine qau (zR hC k2 T λr st' hG hr=>?_)
  refine qau (qct (qau (qdq (qaA ?_))))
  have:=fin r st' hG hr
  have e:=isn st' hG
  have e':(failedOf st').isNone=true:=by rw [e];rfl
  rw [<-e'] at this
  exact this
 ·refine qau (zW hC k2 T λr st' hG hr=>?_)
  refine qau (qct (qau (qdq (qaA ?_))))
  have:=fin r st' hG hr
  have e:=isn st' hG
  have e':(failedOf st').isNone=true:=by rw [e];rfl
  rw [<-e'] at this
  exact this
end
section
variable {prog:Program}{w:World}{A:Around}{E:Value->Shared->Prop}{s:Shared}{κ:SortKind}{O:KeyOrd}{rk:Keyed->O.α}{S:Keyed->Prop}{st:SortSt}{a0:Array Keyed}
structure Bg (κ:SortKind) (O:KeyOrd) (rk:Keyed->O.α) (a0:Array Keyed) (n1:Nat) (st:SortSt):Prop where
 perm:(arrOf st).Perm a0
 kind:kindOf st=κ
 fail:failedOf st=none
 pend:pendingOf st=#[(0,n1,0)]
 up:Up rk (arrOf st) 0 n1
structure ye (κ:SortKind) (O:KeyOrd) (rk:Keyed->O.α) (a0:Array Keyed) (st:SortSt):Prop where
 perm:(arrOf st).Perm a0
 kind:kindOf st=κ
 fail:failedOf st=none
 ex:∃ n1 n2 p,0 < n1/\0 < n2/\n1+n2=a0.size/\pendingOf st=#[(0,n1,p),(n1,n2,0)]/\Up rk (arrOf st) 0 n1/\Up rk (arrOf st) n1 n2
theorem CM {n:Nat} (h2:2<=n) (h64:n<=64):(n < 64/\minRun' n n 0=n)\/n=64/\minRun' n n 0=32:=by
 by_cases h:n=64
 ·subst h;exact .inr ⟨rfl,rfl⟩
 ·obtain⟨f,rfl⟩:∃ f,n=f+1:=⟨n - 1,by lia⟩
  exact .inl ⟨by lia,by rw [minRun'_succ,if_pos (by lia)]⟩
set_option maxHeartbeats 2000000 in
theorem zc (hC:Cm prog w A s κ O rk S) {Q:Unit->SortSt->Prop} (hk:kindOf st=κ) (hf:failedOf st=none) (hp:pendingOf st=#[]) (ha:arrOf st=a0) (hS:∀ x ∈ a0.toList,S x) (h2:2<=a0.size) (h64:a0.size<=64)
  (h:∀ st',(arrOf st').toList.Perm a0.toList->(arrOf st').toList.Pairwise (λx y=>O.kle (rk x) (rk y))->failedOf st'=none->Q () st'):wpS (model prog w) A E s sortRuns' Q st:=by
 obtain⟨mr,hm0,hmr⟩:∃ mr,(sortPriv% PySem.Builtin.minRun) a0.size a0.size 0=mr/\((a0.size < 64/\mr=a0.size)\/a0.size=64/\mr=32):=⟨_,rfl,CM h2 h64⟩
 refine qau (qdq ?_)
 have hz:(arrOf st).size=a0.size:=by rw [ha]
 dsimp only
 rw [hz,hm0]
 refine qau (qc8 (qbz (I:=λx c st'=>(x=0/\c=(none,0)/\SB κ a0 0 #[] (gallopOf st) st')\/(∃ n1,c=(none,n1)/\Bg κ O rk a0 n1 st'/\1<=x/\(n1=a0.size\/x=1/\32<=n1/\n1 < 64/\a0.size=64))\/(c=(none,a0.size)/\ye κ O rk a0 st'/\1<=x))
  (Q:=λc st'=>c.1=none/\(Bg κ O rk a0 a0.size st'\/ye κ O rk a0 st')) ?_ ?_ ?_) ?_)
 ·rintro x c st' _ hx H
  rcases H with⟨rfl,rfl,hB⟩ | ⟨n1,rfl,hR,hx1,hor⟩ | ⟨rfl,hR,hx1⟩
  ·dsimp only
   refine aQ (by lia) ?_
   refine qau (t7 hC hS hB (by lia) (by lia) λm st2 hB2 m1 m2 u=>?_)
   have put:∀ n st3,SB κ a0 0 #[] (gallopOf st) st3->Up rk (arrOf st3) 0 n->mr<=n->n<=a0.size->
     Bg κ O rk a0 n (SortSt.mk' (kindOf st3) (arrOf st3) ((pendingOf st3).push (0,n,0)) (gallopOf st3) (failedOf st3))/\(n=a0.size\/0+1=1/\32<=n/\n < 64/\a0.size=64):=λn st3 hB3 u3 h1 h2=>
    ⟨⟨hB3.perm,hB3.kind,hB3.fail,by show (pendingOf st3).push _=_;rw [hB3.pend];rfl,u3⟩,by lia⟩
   dsimp only
   by_cases hlt:m < mr
   ·refine aZ hlt ?_
    refine qau (ft (qau (pS hC hS hB2 m1 (by lia) (by lia) u λst3 hB3 u3=>?_)))
    refine aQ (by simp) ?_
    have hP:=put _ st3 hB3 u3 (by lia) (by lia)
    refine qau (qdq ?_)
    have hb:(pendingOf st3).back?=none:=by rw [hB3.pend];rfl
    rw [hb]
    exact qau (qct (qaA (.inr (.inl ⟨_,by rw [qbo],hP.1,by lia,hP.2⟩))))
   ·refine aQ hlt ?_
    have hP:=put m st2 hB2 u (by lia) (by lia)
    refine qau (qdq ?_)
    have hb:(pendingOf st2).back?=none:=by rw [hB2.pend];rfl
    rw [hb]
    exact qau (qct (qaA (.inr (.inl ⟨_,by rw [qbo],hP.1,by lia,hP.2⟩))))
  ·dsimp only
   by_cases hge:n1>=a0.size
   ·refine aZ hge ?_
    have e:n1=a0.size:=by lia
    subst e
    exact qaA ⟨rfl,.inl hR⟩
   refine aQ hge ?_
   have hsz:(arrOf st').size=a0.size:=hR.perm.size_eq
   have hS':∀ x ∈ (arrOf st').toList,S x:=λx hx=>hS x ((qb3.mp hR.perm).mem_iff.mp hx)
   have hB:SB κ (arrOf st') n1 #[(0,n1,0)] (gallopOf st') st':=⟨qjG _,λ_ _=>rfl,hR.kind,hR.fail,hR.pend,rfl⟩
   have hn:32<=n1/\n1 < 64/\a0.size=64/\mr=32:=by lia
   refine qau (t7 hC hS' hB (by lia) (by lia) λm st2 hB2 m1 m2 u=>?_)
   have put:∀ n pw st3,n=a0.size - n1->SB κ (arrOf st') n1 #[(0,n1,0)] (gallopOf st') st3->Up rk (arrOf st3) n1 n->
     ye κ O rk a0 (SortSt.mk' (kindOf st3) (arrOf st3) (((pendingOf st3).modify ((pendingOf st3).size - 1) λx=>(x.1,x.2.1,pw)).push (n1,n,0)) (gallopOf st3) (failedOf st3)):=λn pw st3 hn3 hB3 u3=>
    ⟨hB3.perm.trans hR.perm,hB3.kind,hB3.fail,n1,n,pw,by lia,by lia,by lia,by show (Array.modify (pendingOf st3) _ _).push _=_;rw [hB3.pend];simp,λi j a b c=>by
     show O.kle (rk (kyd (arrOf st3) i)) (rk (kyd (arrOf st3) j))
     rw [cM (hB3.pre i (by lia)),cM (hB3.pre j (by lia))]
     exact hR.up i j a b c,u3⟩
   have inner:∀ st3,SB κ (arrOf st') n1 #[(0,n1,0)] (gallopOf st') st3->∀ (f:Nat->Option Unit×Unit->StateT SortSt Sem (ForInStep (Option Unit×Unit))) (Q':Option Unit×Unit->SortSt->Prop),
     (∀ x,∀ Q'':ForInStep (Option Unit×Unit)->SortSt->Prop,Q'' (.done (none,())) st3->wpS (model prog w) A E s (f x (none,())) Q'' st3)->Q' (none,()) st3->wpS (model prog w) A E s (forIn [0:a0.size] (none,()) f) Q' st3:=λst3 hB3 f Q' hf hq=>
    qbz (I:=λ_ c st4=>c=(none,())/\st4=st3) (λi c st4 _ _ hI=>by
     obtain⟨rfl,rfl⟩:=hI
     exact hf i _ hq) (λc st4 hI=>by obtain⟨rfl,rfl⟩:=hI;exact hq) ⟨rfl,rfl⟩
   dsimp only
   by_cases hlt:m < mr
   case' pos=>
    refine aZ hlt ?_
    refine qau (ft (qau (pS hC hS' hB2 m1 (by lia) (by lia) u λst3 hB3 u3=>?_)))
    refine aQ (by simp) ?_
    have e9:min (a0.size - n1) mr=a0.size - n1:=by lia
    rw [e9] at u3 ⊢
   case' neg=>
    refine aQ hlt ?_
    have e9:m=a0.size - n1:=by lia
    subst e9
    have hB3:=hB2
    have u3:=u
    revert hB3 u3
    clear u hB2
    generalize st2=st3
    intro hB3 u3
   all_goals
    refine qau (qdq ?_)
    have hb:(pendingOf st3).back?=some (0,n1,0):=by rw [hB3.pend];rfl
    rw [hb]
    refine qau (inner st3 hB3 _ _ (λx Q'' hq=>?_) ?_)
    ·refine qau (qdq ?_)
     have hb2:(if (pendingOf st3).size > 1 then (pendingOf st3)[(pendingOf st3).size - 2]? else none)=none:=by rw [hB3.pend];rfl
     rw [hb2]
     exact qaA hq
    ·refine qau (qct (qau (qct (qaA (.inr (.inr ⟨?_,put _ _ st3 rfl hB3 u3,by lia⟩))))))
     rw [show n1+(a0.size - n1)=a0.size by lia]
  ·dsimp only
   refine aZ (qan _) ?_
   exact qaA ⟨rfl,.inr hR⟩
 ·rintro c st' (⟨hx,_⟩ | ⟨n1,rfl,hR,hx1,hor⟩ | ⟨rfl,hR,hx1⟩)
  ·lia
  ·have e:n1=a0.size:=by lia
   subst e
   exact⟨rfl,.inl hR⟩
  ·exact⟨rfl,.inr hR⟩
 ·exact .inl ⟨rfl,rfl,by rw [ha],λ_ _=>by rw [ha],hk,hf,hp,rfl⟩
 ·rintro⟨c1,c2⟩ st' ⟨rfl,hR⟩
  dsimp only
  refine qau (qc8 (qbz (I:=λy c st2=>c=(none,())/\((y=0/\ye κ O rk a0 st2)\/((pendingOf st2).size=1/\(arrOf st2).toList.Perm a0.toList/\(arrOf st2).toList.Pairwise (λx y=>O.kle (rk x) (rk y))/\failedOf st2=none)))
   (Q:=λc st2=>c=(none,())/\(arrOf st2).toList.Perm a0.toList/\(arrOf st2).toList.Pairwise (λx y=>O.kle (rk x) (rk y))/\failedOf st2=none) ?_ ?_ ?_) ?_)
  ·rintro y c st2 _ hy ⟨rfl,⟨rfl,hR2⟩ | ⟨h1,h2',h3,h4⟩⟩
   ·refine qau (qdq ?_)
    obtain⟨n1,n2,p,z1,z2,z3,z4,u1,u2⟩:=hR2.ex
    have hsz:(arrOf st2).size=a0.size:=hR2.perm.size_eq
    have z5:(sortPriv% PySem.Builtin.SortState.pending) st2=#[(0,n1,p),(n1,n2,0)]:=z4
    rw [z5]
    refine qau (m:=Ac 0) (yA hC hR2.kind hR2.fail z4 (λx hx=>hS x ((qb3.mp hR2.perm).mem_iff.mp hx)) (by lia) z1 z2 u1 u2 λst3 a1 a2 a3 a4=>?_)
    refine aQ (by simp) ?_
    exact qaA ⟨rfl,.inr ⟨by rw [a4];rfl,a1.trans (qb3.mp hR2.perm),a2,a3⟩⟩
   ·refine qau (qdq ?_)
    have h1':(pendingOf st2).size<=1:=by lia
    refine aZ h1' ?_
    exact qaA ⟨rfl,h2',h3,h4⟩
  ·rintro c st2 ⟨rfl,⟨hy,_⟩ | ⟨h1,h2',h3,h4⟩⟩
   ·lia
   ·exact⟨rfl,h2',h3,h4⟩
  ·refine⟨rfl,?_⟩
   rcases hR with hR | hR
   ·have hsz:(arrOf st').size=a0.size:=hR.perm.size_eq
    exact .inr ⟨by rw [hR.pend];rfl,qb3.mp hR.perm,ni (by rw [hsz];exact hR.up),hR.fail⟩
   ·exact .inl ⟨rfl,hR⟩
  ·rintro c st2 ⟨rfl,h2',h3,h4⟩
   exact qaA (h st2 h2' h3 h4)
end
end L2
namespace L2
open PySem PySem.Spec PyProof.Rows PySem.SeqAt
open MeetsSeq MeetsSeq2 MeetsSeq3 SeqRoads2
open AutoSeq1 (wpAny_loadPart')
noncomputable def mD (A:Around) (s:Shared) (y x:Value) (b:Bool):Prop:=∀ (prog:Program) (w:World) (E:Value->Shared->Prop) (Q:Value->Shared->Prop),Q (.bool b) s->wpAny (model prog w) A (richCompare .Lt y x) Q E s
noncomputable def lY (e l:Nat->Bool) (fin:Bool):Nat->Nat->Bool
 | 0,_=>fin
 | k+1,i=>if e i=true then lY e l fin k (i+1) else l i
theorem lH (p q:Addr) (us vs:Array Value) (n n2:Nat) (dd dd2:Option Addr) (sl sl2:Array (Option Value)) (e l:Nat->Bool) :
  Meets (Builtin.«tuple.__lt__» ⟨[.ref p,.ref q],[]⟩)
   (λA R s=>(s.heap.get? p=some ⟨.type "tuple",dd,.seq us n,sl⟩/\s.heap.get? q=some ⟨.type "tuple",dd2,.seq vs n2,sl2⟩)/\
     (∀ j (h1:j < us.size) (h2:j < vs.size),EqAt A.in1 s us[j] vs[j] (e j)/\(e j=false->mD A.in1 s us[j] vs[j] (l j)))/\
     R (.ok (.ret (.bool (lY e l (decide (us.size < vs.size)) (min us.size vs.size) 0)))) s):=
 .of_wp λprog w A R s h=>by
  obtain⟨hp,g,d,tk,os⟩:=s
  obtain⟨⟨h1,h2⟩,he,h⟩:=h
  have f2:=qfd
  have hZ:(us.toList.zip vs.toList).length=min us.size vs.size:=by simp
  wp_walk using wpAny_loadPart' h1,wpAny_loadPart' h2,wpAny_forIn_list _ (λrest b s'=>b.1=none/\s'=⟨hp,g,d,tk,os⟩/\∃ i,i<=min us.size vs.size/\rest=(us.toList.zip vs.toList).drop i/\
   R (.ok (.ret (.bool (lY e l (decide (us.size < vs.size)) (min us.size vs.size - i) i)))) ⟨hp,g,d,tk,os⟩) _
  case turn=>
   rintro⟨y,x⟩ rest b s' ⟨hb',rfl,i,hi,hz,hR⟩
   have hlt:i < (us.toList.zip vs.toList).length:=by
    rcases qil i (us.toList.zip vs.toList).length with h' | h'
    ·exact h'
    ·rw [List.drop_of_length_le h'] at hz;cases hz
   rw [hZ] at hlt
   have g1:i < us.size:=by lia
   have g2:i < vs.size:=by lia
   rw [qbM (by rw [hZ];exact hlt)] at hz
   injection hz with hyx hrest
   have hy:y=us[i]:=by have:=congrArg Prod.fst hyx;simpa using this
   have hx:x=vs[i]:=by have:=congrArg Prod.snd hyx;simpa using this
   subst hy hx
   obtain⟨k,hk⟩:∃ k,min us.size vs.size - i=k+1:=⟨min us.size vs.size - i - 1,by lia⟩
   rw [hk] at hR
   have hR':R (.ok (.ret (.bool (if e i=true then lY e l (decide (us.size < vs.size)) k (i+1) else l i)))) ⟨hp,g,d,tk,os⟩:=hR
   refine qaa ((he i g1 g2).1 prog w _ _ ?_)
   cases hy:e i with
   | true=>
    rw [hy,if_pos rfl] at hR'
    wp_walk
    exact⟨rfl,rfl,i+1,by lia,hrest,by rw [show min us.size vs.size - (i+1)=k by lia];exact hR'⟩
   | false=>
    rw [hy,if_neg (by simp)] at hR'
    simp only [qdd,if_true]
    refine qaa (qcu ?_)
    refine qaa ((he i g1 g2).2 hy prog w _ _ ?_)
    wp_walk
    exact⟨_,rfl,hR'⟩
  case fin=>
   rintro⟨b1,b2⟩ s' ⟨hb',rfl,i,hi,hz,hR⟩
   simp only at hb'
   subst hb'
   have hge:min us.size vs.size<=i:=by
    rcases qil i (us.toList.zip vs.toList).length with h' | h'
    ·rw [qbM h'] at hz;cases hz
    ·rw [hZ] at h';exact h'
   rw [show min us.size vs.size - i=0 by lia] at hR
   wp_walk
   exact⟨_,rfl,by simpa [Builtin.Tuple.tupleCompareSizes,lY] using hR⟩
  case h=>exact⟨rfl,rfl,0,qaI _,rfl,h⟩
section
variable {A:Around}{s:Shared}{p q:Addr}{us vs:Array Value}{e l:Nat->Bool}
theorem mD.tuples (hl:s.heap.IsTuple p us) (hb:s.heap.IsTuple q vs) (hu:A.units < cLine) (he:∀ j (h1:j < us.size) (h2:j < vs.size),EqAt A.in1 s us[j] vs[j] (e j)/\(e j=false->mD A.in1 s us[j] vs[j] (l j))) :
  mD A s (.ref p) (.ref q) (lY e l (decide (us.size < vs.size)) (min us.size vs.size) 0):=λprog w E Q h=>by
 obtain⟨⟨cls,dd,data,sl⟩,ho,hc,n,hd⟩:=id hl
 obtain⟨⟨cls2,dd2,data2,sl2⟩,ho2,hc2,n2,hd2⟩:=id hb
 simp only at hc hd hc2 hd2
 subst hc hd hc2 hd2
 exact richCompare_meets_room (op:=.Lt) ⟨_,ho,rfl⟩ ⟨_,ho2,rfl⟩ qdS qfy (qfn _ _) (lH p q us vs n n2 dd dd2 sl sl2 e l)
  ⟨⟨ho,ho2⟩,he,(λx=>nomatch x),h⟩ hu
end
end L2
namespace L2
open PySem PySem.Spec PyProof.Rows PySem.SeqAt PySem.W
noncomputable def bI:List Int->List Int->Bool
 | [],[]=>false
 | [],_::_=>true
 | _::_,[]=>false
 | a::as,b::bs=>if a=b then bI as bs else decide (a < b)
theorem im:∀ a,bI a a=false
 | []=>rfl
 | a::as=>by unfold bI;rw [if_pos rfl];exact im as
theorem gw:∀ a b,bI a b=false->bI b a=false->a=b
 | [],[],_,_=>rfl
 | [],_::_,h,_=>by cases h
 | _::_,[],_,h=>by cases h
 | a::as,b::bs,h,h'=>by
  unfold bI at h h'
  by_cases e:a=b
  ·subst e
   rw [if_pos rfl] at h h'
   rw [gw as bs h h']
  ·rw [if_neg e] at h
   rw [if_neg (qbR e)] at h'
   rw [decide_eq_false_iff_not] at h h'
   lia
theorem kq:∀ a b c,bI a b=true->bI b c=true->bI a c=true
 | [],[],_,h,_=>by cases h
 | [],_::_,[],_,h=>by cases h
 | [],_::_,_::_,_,_=>rfl
 | _::_,[],_,h,_=>by cases h
 | _::_,_::_,[],_,h=>by cases h
 | a::as,b::bs,c::cs,h,h'=>by
  unfold bI at h h' ⊢
  by_cases e:a=b
  ·subst e
   rw [if_pos rfl] at h
   by_cases e2:a=c
   ·subst e2;rw [if_pos rfl] at h' ⊢;exact kq as bs cs h h'
   ·rw [if_neg e2] at h' ⊢;exact h'
  ·rw [if_neg e,decide_eq_true_iff] at h
   by_cases e2:b=c
   ·subst e2;rw [if_neg e,decide_eq_true_iff];exact h
   ·rw [if_neg e2,decide_eq_true_iff] at h'
    rw [if_neg (by lia),decide_eq_true_iff];lia
theorem xP:∀ a b c,bI a c=true->bI a b=true\/bI b c=true
 | a,b,c,h=>by
  by_cases h1:bI a b=true
  ·exact .inl h1
  ·rw [qdV] at h1
   by_cases h2:bI b a=true
   ·exact .inr (kq b a c h2 h)
   ·rw [qdV] at h2
    rw [gw a b h1 h2] at h;exact .inr h
noncomputable def OI:KeyOrd:=⟨List Int,bI,im,kq,xP,gw⟩
noncomputable def TuI (h:Heap) (v:Value) (l:List Int):Prop:=∃ a its,v=.ref a/\h.IsTuple a its/\IntsAre its.toList l
noncomputable def aV:Value->Int
 | .int n _=>n
 | _=>0
noncomputable def tuI (h:Heap):Value->List Int
 | .ref a=>match h.get? a with
  | some o=>match o.data with
   | .seq its _=>its.toList.map aV
   | _=>[]
  | none=>[]
 | _=>[]
theorem iK:∀ {us:List Value}{l:List Int},IntsAre us l->us.map aV=l
 | _,_,.nil=>rfl
 | _,_,.cons n t h=>by rw [qaj,iK h];rfl
theorem cR:∀ {us:List Value}{l:List Int},IntsAre us l->us.length=l.length
 | _,_,.nil=>rfl
 | _,_,.cons n t h=>by rw [qaq,qaq,cR h]
theorem fJ:∀ {us:List Value}{l:List Int},IntsAre us l->∀ (j:Nat) (h:j < us.length),∃ t,us[j]=.int (l.getD j 0) t
 | _,_,.nil,j,h=>absurd h (qci j)
 | _,_,.cons n t hh,0,h=>⟨t,rfl⟩
 | _,_,.cons n t hh,j+1,h=>by
  obtain⟨t',e⟩:=fJ hh j (qf8 h)
  exact⟨t',by simpa using e⟩
theorem TuI.is {h:Heap}{v:Value}{l:List Int} (t:TuI h v l):tuI h v=l:=by
 obtain⟨a,its,rfl,⟨o,ho,hc,n,hd⟩,hi⟩:=t
 simp only [tuI,ho,hd]
 exact iK hi
theorem TuI.fit {h h':Heap}{v:Value}{l:List Int} (t:TuI h v l) (hk:∀ b o,h.get? b=some o->h'.get? b=some o):TuI h' v l:=by
 obtain⟨a,its,rfl,⟨o,ho,r⟩,hi⟩:=t
 exact⟨a,its,rfl,⟨o,hk _ _ ho,r⟩,hi⟩
theorem lP:∀ (l m:List Int) (i:Nat) (e f:Nat->Bool),(∀ j,j < l.length->j < m.length->e (i+j)=decide (l.getD j 0=m.getD j 0)/\f (i+j)=decide (l.getD j 0 < m.getD j 0))->
  lY e f (decide (l.length < m.length)) (min l.length m.length) i=bI l m
 | [],[],i,e,f,_=>by simp [lY,bI]
 | [],b::m,i,e,f,_=>by simp [lY,bI]
 | a::l,[],i,e,f,_=>by simp [lY,bI]
 | a::l,b::m,i,e,f,h=>by
  have h0:=h 0 (by simp) (by simp)
  rw [qaq,qaq,show min (l.length+1) (m.length+1)=min l.length m.length+1 by lia]
  have e1:decide (l.length+1 < m.length+1)=decide (l.length < m.length):=by rw [qdp];simp
  rw [e1]
  show (if e i=true then lY e f (decide (l.length < m.length)) (min l.length m.length) (i+1) else f i)=if a=b then bI l m else decide (a < b)
  rw [qim] at h0
  rw [h0.1,h0.2]
  by_cases q:a=b
  ·subst q
   simp only [qaO,decide_true,if_true]
   exact lP l m (i+1) e f λj h1 h2=>by
    have:=h (j+1) (by simpa using h1) (by simpa using h2)
    rw [show i+1+j=i+(j+1) by lia]
    simpa using this
  ·simp [q]
section
variable {prog:Program}{w:World}{A:Around}{E:Value->Shared->Prop}{s:Shared}{x y:Value}{l m:List Int}
theorem mD.ints {a b:Int}{t u:Tok}:mD A s (.int a t) (.int b u) (decide (a < b)):=λprog w E Q h=>qff h
theorem EqAt.ints {a b:Int}{t u:Tok}:EqAt A s (.int a t) (.int b u) (decide (a=b)):=by
 have:=r8 (A:=A) (s:=s) (y:=.int a) (x:=.int b) (u:=.int a t) (v:=.int b u) ⟨t,rfl⟩ ⟨u,rfl⟩ rfl rfl
 have e:eqV (.int a) (.int b)=decide (a=b):=by simp [eqV,Bool.beq_eq_decide_eq]
 rw [e] at this;exact this
theorem TuI.lt (tx:TuI s.heap x l) (ty:TuI s.heap y m) (hu:A.units < cLine):mD A s x y (bI l m):=by
 obtain⟨a,us,rfl,h1,i1⟩:=tx
 obtain⟨b,vs,rfl,h2,i2⟩:=ty
 have e1:us.size=l.length:=by rw [<-qav];exact cR i1
 have e2:vs.size=m.length:=by rw [<-qav];exact cR i2
 have z:=mD.tuples (A:=A) (e:=λj=>decide (l.getD j 0=m.getD j 0)) (l:=λj=>decide (l.getD j 0 < m.getD j 0)) h1 h2 hu λj g1 g2=>by
  obtain⟨t,q1⟩:=fJ i1 j (by simpa using g1)
  obtain⟨t',q2⟩:=fJ i2 j (by simpa using g2)
  rw [qcD] at q1 q2
  rw [q1,q2]
  exact⟨EqAt.ints,λ_=>mD.ints⟩
 rw [e1,e2,lP l m 0 _ _ λj h1 h2=>by rw [qbo];exact⟨rfl,rfl⟩] at z
 exact z
theorem TuI.one (tx:TuI s.heap x l) (ty:TuI s.heap y m) (hu:A.units < cLine) {Q:Bool->Shared->Prop} (h:Q (bI l m) s) (b:Bool):wpAny (model prog w) A (oneLt' b x y) Q E s:=by
 cases b with
 | false=>exact kat_one _ _ (tx.lt ty hu _ _ _ _ h)
 | true=>
  rw [oneLt'_eq]
  simp only [if_true]
  refine qaa (wpAny_cRoomFor hu ?_)
  obtain⟨a,us,rfl,h1,i1⟩:=id tx
  obtain⟨c,vs,rfl,h2,i2⟩:=id ty
  obtain⟨⟨cls,dd,data,sl⟩,ho,hc,n,hd⟩:=id h1
  obtain⟨⟨cls2,dd2,data2,sl2⟩,ho2,hc2,n2,hd2⟩:=id h2
  simp only at hc hd hc2 hd2
  subst hc hd hc2 hd2
  have e1:us.size=l.length:=by rw [<-qav];exact cR i1
  have e2:vs.size=m.length:=by rw [<-qav];exact cR i2
  refine qaa (wpAny_callSpecialIfBound?_slot (T:="tuple") ⟨_,ho,rfl⟩ qdS (qcN qdS ⟨_,ho,rfl⟩ qfy (qfn _ _)
   (lH a c us vs n n2 dd dd2 sl sl2 (λj=>decide (l.getD j 0=m.getD j 0)) λj=>decide (l.getD j 0 < m.getD j 0)) ⟨⟨ho,ho2⟩,λj g1 g2=>?_,?_⟩))
  ·obtain⟨t,q1⟩:=fJ i1 j (by simpa using g1)
   obtain⟨t',q2⟩:=fJ i2 j (by simpa using g2)
   rw [qcD] at q1 q2
   rw [q1,q2]
   exact⟨EqAt.ints,λ_=>mD.ints⟩
  ·rw [e1,e2,lP l m 0 _ _ λj h1 h2=>by rw [qbo];exact⟨rfl,rfl⟩]
   exact qcL h
theorem wu {Q:Bool->Shared->Prop}{fin:Bool}:∀ {us vs:List Value}{l m:List Int} (i:Nat),IntsAre us l->IntsAre vs m->(fin=decide (l.length < m.length))->Q (bI l m) s->KatLex prog w A true fin Q (us.zip vs) i s
 | _,_,_,_,i,.nil,.nil,hf,h=>kat_nil (by rw [hf];exact h)
 | _,_,_,_,i,.nil,.cons n t r,hf,h=>kat_nil (by rw [hf];simpa [bI] using h)
 | _,_,_,_,i,.cons n t r,.nil,hf,h=>kat_nil (by rw [hf];simpa [bI] using h)
 | _,_,_,_,i,.cons (vs:=us) (ns:=l) a t r,.cons (vs:=vs) (ns:=m) b u r',hf,h=>by
  rw [qgF]
  refine kat_cons (EqAt.ints prog w _ _ ?_)
  unfold bI at h
  by_cases e:a=b
  ·subst e
   rw [if_pos rfl] at h
   rw [decide_eq_true rfl]
   exact kat_yes (wu (i+1) r r' (by rw [hf,qdp];simp) h)
  ·rw [if_neg e] at h
   rw [decide_eq_false e]
   refine kat_no ?_
   cases (true && i==0) with
   | true=>exact oneLt_int h
   | false=>exact kat_one _ _ (qff h)
theorem TuI.tups (tx:TuI s.heap x l) (ty:TuI s.heap y m) {Q:Bool->Shared->Prop} (h:Q (bI l m) s):wpAny (model prog w) A (keyLt' (tuples' true) x y) Q E s:=by
 obtain⟨a,us,rfl,⟨o,ho,hc,n,hd⟩,i1⟩:=tx
 obtain⟨c,vs,rfl,⟨o2,ho2,hc2,n2,hd2⟩,i2⟩:=ty
 have e1:us.size=l.length:=by rw [<-qav];exact cR i1
 have e2:vs.size=m.length:=by rw [<-qav];exact cR i2
 exact kat_lt ho hd ho2 hd2 (wu 0 i1 i2 (by rw [e1,e2]) h)
end
section
variable {prog:Program}{w:World}{A:Around}{E:Value->Shared->Prop}{s:Shared}{O:KeyOrd}{rk:Keyed->O.α}{S:Keyed->Prop}{vs:List Value}
theorem oY:∀ (vs:List Value),vs.zip vs=vs.map λv=>(v,v)
 | []=>rfl
 | v::vs=>by rw [qgF,oY vs];rfl
theorem B5 {α β:Type}{f:α->β}{R:β->β->Prop}:∀ {vs:List α},vs.toArray.size < 2->(vs.map f).Pairwise R
 | [],_=>List.Pairwise.nil
 | [v],_=>qcW _ _
 | _::_::_,h=>absurd h (by simp)
set_option maxHeartbeats 1000000 in
theorem gL {a:Addr}{n:Nat}{P:PySem.Fin->Shared->Prop} (ho:s.heap.get? a=some (seqObj "list" vs.toArray n)) (h64:vs.length<=64)
  (hyp:∀ h',(∀ b o,b≠a->s.heap.get? b=some o->h'.get? b=some o)->∃ κ,(2<=vs.length->∀ (Q':SortKind->Shared->Prop) E',Q' κ { s with heap:=h' }->wpAny (model prog w) A (keyKind' vs.toArray) Q' E' { s with heap:=h' })/\Cm prog w A { s with heap:=h' } κ O rk S)
  (hS:∀ v ∈ vs,S (v,v))
  (h:∀ out:List Value,out.Perm vs->out.Pairwise (λx y=>O.kle (rk (x,x)) (rk (y,y)))->P (.done (.ret .none)) { s with heap:=sortedHeap s.heap a vs out.toArray }) :
  wpAny (model prog w) A (Builtin.«list.sort» ⟨[.ref a],[]⟩) P E s:=by
 rw [list_sort_plain]
 have hlt:a < s.heap.objs.size:=qak ho
 have hsz:vs.toArray.size=vs.length:=by simp
 refine qaa (listItems_at ho rfl ?_)
 refine qaa (qgB ho rfl ?_ (by rw [hsz,qbi];lia))
 obtain⟨e1,ho1⟩:∃ e1,(s.heap.update a (Obj.mapSeq λ_=>#[])).get? a=some (seqObj "list" #[] e1):=⟨_,get?_update_seq ho (λ_=>#[])⟩
 refine qaa (qg5 ho1 rfl ?_)
 refine qaa (wpAny_newTuple ?_ (by rw [qbi];show vs.toArray.toList.length<=_;simp;lia))
 refine qaa (qcM ?_)
 refine qaT ?_
 have z1:(s.heap.update a (Obj.mapSeq λ_=>(#[]:Array Value))).objs.size=s.heap.objs.size:=qgY ..
 have keepN:∀ b o,b < s.heap.objs.size->(s.heap.update a (Obj.mapSeq λ_=>(#[]:Array Value))).get? b=some o->
   (((s.heap.update a (Obj.mapSeq λ_=>#[])).push (seqObj "tuple" vs.toArray 0)).push (seqObj "list" #[] 0)).get? b=some o:=λb o hb q=>by
  rw [qch _ _ _ (qam (by rw [qfl,z1];exact qaF hb)),qch _ _ _ (qam (by rw [z1];exact hb))]
  exact q
 have ho6:=keepN a _ hlt ho1
 obtain⟨κ,hkk,hC⟩:=hyp (((s.heap.update a (Obj.mapSeq λ_=>#[])).push (seqObj "tuple" vs.toArray 0)).push (seqObj "list" #[] 0)) λb o hb q=>
  keepN b o (qak q) (by rw [qgw _ _ _ _ hb];exact q)
 show wpAny (model prog w) A _ P E { s with heap:=((s.heap.update a (Obj.mapSeq λ_=>#[])).push (seqObj "tuple" vs.toArray 0)).push (seqObj "list" #[] 0) }
 have pt:(vs.toArray.zip vs.toArray).toList=vs.map λv=>(v,v):=by rw [<-oY];simp
 have fin:∀ st':SortSt,(arrOf st').toList.Perm (vs.map λv=>(v,v))->(arrOf st').toList.Pairwise (λx y=>O.kle (rk x) (rk y))->∃ out:List Value,out.length=vs.length/\(arrOf st').map (·.2)=out.toArray/\P (.done (.ret .none)) { s with heap:=sortedHeap s.heap a vs out.toArray }:=λst' h1 h2=>by
  refine⟨(arrOf st').toList.map (·.2),by rw [qai,h1.length_eq,qai],by apply qaY.mp;simp,h _ ?_ ?_⟩
  ·have:=h1.map (·.2)
   rw [qaJ] at this
   have e:(vs.map ((λx=>x.2) ∘ λv=>((v,v):Keyed)))=vs:=by rw [show ((λx:Keyed=>x.2) ∘ λv=>((v,v):Keyed))=id from rfl,qc6]
   rw [e] at this;exact this
  ·rw [qbV]
   refine h2.imp_of_mem λ{x y} hx hy q=>?_
   have dx:x=(x.2,x.2):=by obtain⟨v,_,rfl⟩:=qaB.mp (h1.mem_iff.mp hx);rfl
   have dy:y=(y.2,y.2):=by obtain⟨v,_,rfl⟩:=qaB.mp (h1.mem_iff.mp hy);rfl
   rw [<-dx,<-dy];exact q
 dsimp only
 by_cases h2:vs.toArray.size < 2
 ·rw [if_pos h2,if_pos h2]
  refine qaa (qab ?_)
  rw [StateT.run_pure]
  refine qaa (qab ?_)
  dsimp only
  obtain⟨out,q0,q1,q2⟩:=fin (SortSt.mk' general' (vs.toArray.zip vs.toArray) #[] 7 none) (by rw [pt]) (by rw [pt];exact B5 h2)
  refine qaa (qg5 ho6 rfl ?_)
  rw [q1]
  refine qaa (qgB ho6 rfl ?_ (hsz2:=by show out.length<=_;rw [q0,qbi];lia))
  simp only [bne_self_eq_false,qap,if_false]
  exact qab q2
 ·rw [if_neg h2,if_neg h2]
  refine qaa (hkk (by lia) _ _ ?_)
  refine qaa (qb1 (zc hC (st:=SortSt.mk' κ (vs.toArray.zip vs.toArray) #[] 7 none) (a0:=vs.toArray.zip vs.toArray) (Q:=λ_ st'=>(arrOf st').toList.Perm (vs.map λv=>(v,v))/\(arrOf st').toList.Pairwise (λx y=>O.kle (rk x) (rk y))/\failedOf st'=none)
   rfl rfl rfl rfl (λx hx=>?_) (by simp;lia) (by simp;lia) λst' a1 a2 a3=>⟨by rw [<-pt];exact a1,a2,a3⟩) ?_ λ_ _ e=>e)
  ·rw [pt] at hx
   obtain⟨v,hv,rfl⟩:=qaB.mp hx
   exact hS v hv
  rintro⟨⟨⟩,st'⟩ s' ⟨rfl,a1,a2,a3⟩
  dsimp only
  obtain⟨out,q0,q1,q2⟩:=fin st' a1 a2
  refine qaa (qg5 ho6 rfl ?_)
  rw [q1]
  refine qaa (qgB ho6 rfl ?_ (hsz2:=by show out.length<=_;rw [q0,qbi];lia))
  rw [a3]
  simp only [bne_self_eq_false,qap,if_false]
  exact qab q2
theorem kC {l:Addr}{Q:Value->Shared->Prop} (hl:s.heap.IsList l vs.toArray) (h64:vs.length<=64)
  (hyp:∀ h',(∀ b o,s.heap.get? b=some o->h'.get? b=some o)->∃ κ,(2<=vs.length->∀ (Q':SortKind->Shared->Prop) E',Q' κ { s with heap:=h' }->wpAny (model prog w) A.in1.in1 (keyKind' vs.toArray) Q' E' { s with heap:=h' })/\Cm prog w A.in1.in1 { s with heap:=h' } κ O rk S)
  (hS:∀ v ∈ vs,S (v,v))
  (h:∀ out:List Value,out.Perm vs->out.Pairwise (λx y=>O.kle (rk (x,x)) (rk (y,y)))->Q (.ref (s.heap.objs.size+1)) { s with heap:=sortedAll s.heap vs out.toArray }) :
  wpAny (model prog w) A (call (.builtin "sorted") [.ref l]) Q E s:=by
 refine qcJ qf1 qfu qfv (qfw _) ?_
 unfold Builtin.«sorted»
 refine qaa (m:=checkCount "sorted" 1 1 _) (qab ?_)
 refine qaa (collect_list hl ?_ (by rw [qbi];lia))
 refine qaa (qcM ?_ (by rw [qbi];lia))
 have hz:((s.heap.push (seqObj "list" #[] 0)).update s.heap.objs.size (Obj.mapSeq (·++vs.toArray))).objs.size=s.heap.objs.size+1:=by rw [qgY,qfl]
 generalize hh:((s.heap.push (seqObj "list" #[] 0)).update s.heap.objs.size (Obj.mapSeq (·++vs.toArray)))=hB at hz ⊢
 have hoL:(hB.push (seqObj "list" vs.toArray 0)).get? (s.heap.objs.size+1)=some (seqObj "list" vs.toArray 0):=by
  rw [<-hz];exact qao _ rfl
 have keep:∀ b o,s.heap.get? b=some o->b≠s.heap.objs.size+1/\(hB.push (seqObj "list" vs.toArray 0)).get? b=some o:=λb o q=>by
  have hlt:b < s.heap.objs.size:=qak q
  refine⟨qam (qaF hlt),?_⟩
  rw [qch _ _ _ (qam (by rw [hz];exact qaF hlt)),<-hh,qgw _ _ _ _ (qam hlt),qch _ _ _ (qam hlt)]
  exact q
 show wpAny _ _ _ _ _ { s with heap:=hB.push (seqObj "list" vs.toArray 0) }
 rw [hz]
 refine qaa (qaT (qaU qeP ⟨_,hoL,rfl⟩ qex (gL (s:={ s with heap:=hB.push (seqObj "list" vs.toArray 0) }) hoL h64 (λh' hk=>hyp h' λb o q=>hk b o (keep b o q).1 (keep b o q).2) hS λout a1 a2=>⟨_,rfl,?_⟩) (qeR _)))
 refine qab ⟨_,rfl,?_⟩
 have:=h out a1 a2
 unfold sortedAll at this
 rw [hh] at this
 exact this
end
noncomputable def jr (h:Heap):Value->Option Value
 | .ref a=>match h.get? a with
  | some o=>match o.data with
   | .seq its _=>its[0]?
   | _=>none
  | none=>none
 | _=>none
theorem TuI.fst {h:Heap}{v:Value}{l:List Int} (t:TuI h v l):jr h v=none\/∃ n t,jr h v=some (.int n t):=by
 obtain⟨a,its,rfl,⟨o,ho,hc,n,hd⟩,hi⟩:=t
 simp only [jr,ho,hd]
 by_cases hz:0 < its.size
 ·obtain⟨t,e⟩:=fJ hi 0 (by simpa using hz)
  exact .inr ⟨_,t,by rw [qar hz];rw [qcD] at e;rw [e]⟩
 ·exact .inl (qaR (by lia))
section
variable {prog:Program}{w:World}{A:Around}{E:Value->Shared->Prop}{s:Shared}
theorem tQ {v:Value}{l:List Int} (t:TuI s.heap v l) {Q:Value->Shared->Prop} (h:Q (.type "tuple") s):wpAny (model prog w) A (typeOf v) Q E s:=by
 obtain⟨a,its,rfl,⟨o,ho,hc,n,hd⟩,hi⟩:=t
 refine Looks.here (show Looks (model prog w) s.heap (typeOf (.ref a)) o.cls from (Looks.ld ho).andThen .now) ?_
 rw [hc];exact h
theorem vt {v:Value}{l:List Int} (t:TuI s.heap v l) {Q:Option Value->Shared->Prop} (h:Q (jr s.heap v) s):wpAny (model prog w) A (firstOfTuple' v) Q E s:=by
 rw [kas_first_eq]
 refine qaa (tQ t ?_)
 obtain⟨a,its,rfl,⟨o,ho,hc,n,hd⟩,hi⟩:=t
 rw [if_neg (by simp)]
 simp only [jr,ho,hd] at h
 exact qaa (listItems_at ho hd (qab h))
theorem fM:∀ {vs:List Value}{Q:List (Option Value)->Shared->Prop},(∀ v ∈ vs,∃ l,TuI s.heap v l)->Q (vs.map (jr s.heap)) s->wpAny (model prog w) A (vs.mapM firstOfTuple') Q E s
 | [],_,_,h=>by rw [List.mapM_nil];exact qab h
 | v::vs,Q,t,h=>by
  rw [List.mapM_cons]
  obtain⟨l,tv⟩:=t v qah
  refine qaa (vt tv (qaa (fM (Q:=λbs s'=>wpAny (model prog w) A (pure (jr s.heap v::bs)) Q E s') (λu hu=>t u (qaf _ hu)) (qab h))))
theorem se {x y:Value}{l m:List Int} (hx:TuI s.heap x l) (hy:TuI s.heap y m) {Q:Bool->Shared->Prop} (h:Q (OI.blt (tuI s.heap x) (tuI s.heap y)) s):Q (bI l m) s:=by
 have h':Q (bI (tuI s.heap x) (tuI s.heap y)) s:=h
 rw [hx.is,hy.is] at h';exact h'
theorem mw {vs:List Value} (t:∀ v ∈ vs,∃ l,TuI s.heap v l) (hu:A.units < cLine):∃ κ,(2<=vs.length->∀ (Q':SortKind->Shared->Prop) E',Q' κ s->wpAny (model prog w) A (keyKind' vs.toArray) Q' E' s)/\
  Cm prog w A s κ OI (λp=>tuI s.heap p.1) (λp=>∃ l,TuI s.heap p.1 l):=by
 by_cases c1:(vs.map (jr s.heap)).toArray.all (·.isSome)=true
 ·refine⟨tuples' true,λh2 Q' E' hq=>?_,λx y ⟨l,hx⟩ ⟨m,hy⟩ Q E h=>hx.tups hy (se hx hy h)⟩
  rw [qg6,qc7,map_eq_pure_bind]
  refine qaa (qaa (fM t (qab ?_)))
  rw [if_pos c1]
  refine qaa (qcu ?_)
  have hf:∀ v ∈ (vs.map (jr s.heap)).filterMap id,∃ n t,v=.int n t:=λv hv=>by
   obtain⟨o,ho,e⟩:=qeH.mp hv
   obtain⟨u,hu,rfl⟩:=qaB.mp ho
   obtain⟨l,tu⟩:=t u hu
   rcases tu.fst with q | ⟨n,t',q⟩
   ·rw [q] at e;cases e
   ·rw [q] at e;exact⟨n,t',(qaD e).symm⟩
  have hl:∃ f fr,(vs.map (jr s.heap)).filterMap id=f::fr:=by
   match vs,h2,c1 with
   | v::vs,_,c1=>
    simp only [qaj,qe6,qbg,qaL] at c1
    obtain⟨u,hu⟩:=qcb.mp c1.1
    exact⟨u,(vs.map (jr s.heap)).filterMap id,by rw [qaj,qcj,hu];rfl⟩
  obtain⟨f,fr,e⟩:=hl
  have e2:(vs.map (jr s.heap)).toArray.filterMap id=(f::fr).toArray:=by rw [<-e];simp
  rw [e2,qiq,qc7,map_eq_pure_bind]
  refine qaa (qaa (qaa (kas_mapM (r:=.type "int") _ (λv hv Q'' hq'=>?_) (qab ?_))))
  ·rw [<-e] at hv
   obtain⟨n,t',rfl⟩:=hf v hv
   exact qab hq'
  ·have h0:(List.map (λ_=>Value.type "int") (f::fr)).toArray[0]?=some (.type "int"):=by simp
   rw [h0]
   have hall:((List.map (λ_=>Value.type "int") (f::fr)).toArray.all λx=>x==.type "int")=true:=by
    simp only [qe6,qeV,qaw];intro _ _;rfl
   simp only [hall,if_true]
   exact qab (qab hq)
 ·by_cases c2:((vs.map (jr s.heap)).toArray[0]?.bind id).isSome=true
  ·refine⟨general',λh2 Q' E' hq=>?_,λx y ⟨l,hx⟩ ⟨m,hy⟩ Q E h=>hx.one hy hu (se hx hy h) false⟩
   rw [qg6,qc7,map_eq_pure_bind]
   refine qaa (qaa (fM t (qab ?_)))
   rw [if_neg c1,if_pos c2]
   exact qab hq
  ·refine⟨oneType',λh2 Q' E' hq=>?_,λx y ⟨l,hx⟩ ⟨m,hy⟩ Q E h=>hx.one hy hu (se hx hy h) true⟩
   rw [qg6,qc7,map_eq_pure_bind]
   refine qaa (qaa (fM t (qab ?_)))
   rw [if_neg c1,if_neg c2,qiq,qc7,map_eq_pure_bind]
   refine qaa (qaa (qaa (kas_mapM (r:=.type "tuple") _ (λv hv Q'' hq'=>?_) (qab ?_))))
   ·obtain⟨l,tv⟩:=t v hv
    exact tQ tv hq'
   ·obtain⟨v,vs,rfl⟩:∃ v r,vs=v::r:=by
     match vs,h2 with
     | v::r,_=>exact⟨v,r,rfl⟩
    have h0:(List.map (λ_=>Value.type "tuple") (v::vs)).toArray[0]?=some (.type "tuple"):=by simp
    rw [h0]
    have hall:((List.map (λ_=>Value.type "tuple") (v::vs)).toArray.all λx=>x==.type "tuple")=true:=by
     simp only [qe6,qeV,qaw];intro _ _;rfl
    simp only [hall,if_true]
    exact qab (qab hq)
theorem ql {vs:List Value}{ns:List Int} (t:IntsAre vs ns):(2<=vs.length->∀ (Q':SortKind->Shared->Prop) E',Q' oneType' s->wpAny (model prog w) A (keyKind' vs.toArray) Q' E' s)/\
  Cm prog w A s oneType' OI (λp=>[aV p.1]) (λp=>∃ n t,p.1=.int n t):=by
 refine⟨λh2 Q' E' hq=>?_,λx y ⟨n,t,hx⟩ ⟨m,u,hy⟩ Q E h=>?_⟩
 ·match vs,h2,t with
  | v1::v2::r,_,t=>rw [keyKind_ints t];exact qab hq
 ·rw [keyLt'_oneType,hx,hy]
  refine oneLt_int ?_
  have e:OI.blt [aV x.1] [aV y.1]=decide (n < m):=by
   rw [hx,hy]
   show (if n=m then bI [] [] else decide (n < m))=_
   by_cases q:n=m
   ·subst q;simp [bI]
   ·rw [if_neg q]
  rw [e] at h;exact h
end
noncomputable def sF (x:List Int):List (List Int)->List (List Int)
 | []=>[x]
 | y::ys=>if bI y x=true then y::sF x ys else x::y::ys
noncomputable def aT:List (List Int)->List (List Int)
 | []=>[]
 | x::xs=>sF x (aT xs)
theorem i6 (x:List Int):∀ ys,(sF x ys).Perm (x::ys)
 | []=>qbE _
 | y::ys=>by
  unfold sF
  split
  ·exact (List.Perm.cons y (i6 x ys)).trans (List.Perm.swap x y ys)
  ·exact qbE _
theorem bi:∀ xs,(aT xs).Perm xs
 | []=>qbE _
 | x::xs=>(i6 x _).trans (List.Perm.cons x (bi xs))
noncomputable def leL (a b:List Int):Prop:=bI b a=false
theorem u8 {a b c:List Int} (h:leL a b) (h':leL b c):leL a c:=qbf (O:=OI) h h'
theorem xv {a b:List Int} (h:leL a b) (h':leL b a):a=b:=gw a b h' h
theorem jH (x:List Int):∀ {ys:List (List Int)},ys.Pairwise leL->(sF x ys).Pairwise leL
 | [],_=>by simp [sF]
 | y::ys,h=>by
  unfold sF
  split
  ·rename_i hxy
   refine qa9.mpr ⟨λz hz=>?_,jH x (qa9.mp h).2⟩
   rcases qaz.mp ((i6 x ys).mem_iff.mp hz) with rfl | hz
   ·exact qgG (O:=OI) hxy
   ·exact (qa9.mp h).1 z hz
  ·rename_i hxy
   rw [qdV] at hxy
   refine qa9.mpr ⟨λz hz=>?_,h⟩
   rcases qaz.mp hz with rfl | hz
   ·exact hxy
   ·exact u8 hxy ((qa9.mp h).1 z hz)
theorem cg:∀ xs,(aT xs).Pairwise leL
 | []=>List.Pairwise.nil
 | x::xs=>jH x (cg xs)
theorem db {xs ys:List (List Int)} (p:xs.Perm ys) (h1:xs.Pairwise leL) (h2:ys.Pairwise leL):xs=ys:=
 qds (λa b _ _ h1 h2=>xv h1 h2) h1 h2 p
noncomputable def ie:List D->Option (List (List Int))
 | []=>some []
 | .tup l::ds=>(aE l).bind λns=>(ie ds).map λr=>ns::r
 | _=>none
noncomputable def aj (l:List Int):D:=.tup (l.map D.int)
theorem gn:∀ {ds:List D}{ls:List (List Int)},ie ds=some ls->ds=ls.map aj
 | [],_,h=>by cases h;rfl
 | .tup l::ds,_,h=>by
  simp only [ie,qac,qae] at h
  obtain⟨ns,e1,r,e2,rfl⟩:=h
  rw [gn e2,cw e1];rfl
 | .non::_,_,h=>by cases h
 | .bl _::_,_,h=>by cases h
 | .int _::_,_,h=>by cases h
 | .str _::_,_,h=>by cases h
 | .ty _::_,_,h=>by cases h
 | .dct::_,_,h=>by cases h
 | .scr _::_,_,h=>by cases h
 | .lst _::_,_,h=>by cases h
theorem ic:∀ (ls:List (List Int)),ie (ls.map aj)=some ls
 | []=>rfl
 | l::ls=>by
  have:aE (l.map D.int)=some l:=by
   induction l with
   | nil=>rfl
   | cons a l ih=>simp [aE,ih]
  simp only [qaj,aj,ie,this,qag]
  rw [show List.map aj ls=List.map aj ls from rfl,ic ls];rfl
noncomputable def qS (ds:List D):Option (List D):=match aE ds with
 | some ns=>some ((kP ns).map D.int)
 | none=>(ie ds).map λls=>(aT ls).map aj
noncomputable def kI (st:Sto):List W->Option (List D)
 | [w]=>(lsD st w).bind λds=>if ds.length<=64 then qS ds else none
 | _=>none
section
variable {K:PySem.W.Frag}{X:Cx}{pins:List (Addr×Obj)}{σ:St}{H:Hp}{s:Shared}{φ:List Addr}
noncomputable def toV:Value->V
 | .ref a=>.ref a
 | _=>.non
theorem zI {l:List Int}{v:V}{u:Value} (I:Inv X pins σ H s) (r:Rl X.K H φ (aj l) v) (q:aA v u):TuI s.heap u l/\v=toV u/\aA (toV u) u:=by
 obtain⟨a,vs,rfl,h1,h2⟩:=r
 obtain⟨its,rv,p,_⟩:=I.tuple (SqT.of h1)
 have e:=h2.ints
 subst e
 have e:u=.ref a:=q
 subst e
 exact⟨⟨a,its.toArray,rfl,p,by simpa using en rv⟩,rfl,rfl⟩
theorem iA (I:Inv X pins σ H s):∀ {ls:List (List Int)}{vs:List V}{us:List Value},Rls X.K H φ (ls.map aj) vs->av vs us->
  us.map (tuI s.heap)=ls/\∀ u ∈ us,TuI s.heap u (tuI s.heap u)/\Rl X.K H φ (aj (tuI s.heap u)) (toV u)/\aA (toV u) u
 | [],_,us,h,q=>by cases h;cases q;exact⟨rfl,λu hu=>by cases hu⟩
 | l::ls,_,us,h,q=>by
  obtain⟨v,r,rfl,h1,h2⟩:=h
  cases q with
  | cons q1 q2=>
   rename_i u us
   obtain⟨t,e,e'⟩:=zI I h1 q1
   obtain⟨i1,i2⟩:=iA I h2 q2
   refine⟨by rw [qaj,i1,t.is],λx hx=>?_⟩
   rcases qaz.mp hx with rfl | hx
   ·rw [t.is,<-e];exact⟨t,h1,q1⟩
   ·exact i2 x hx
theorem ix:∀ {us:List Value},(∀ u ∈ us,TuI s.heap u (tuI s.heap u)/\Rl K H φ (aj (tuI s.heap u)) (toV u)/\aA (toV u) u)->Rls K H φ (us.map λu=>aj (tuI s.heap u)) (us.map toV)/\av (us.map toV) us
 | [],_=>⟨rfl,.nil⟩
 | u::us,h=>by
  have h1:=h u qah
  have h2:=ix λx hx=>h x (qaf _ hx)
  exact⟨⟨_,_,rfl,h1.2.1,h2.1⟩,.cons h1.2.2 h2.2⟩
theorem gv:∀ {us:List Value}{l:List Int},IntsAre us l->∀ u ∈ us,∃ n t,u=.int n t
 | _,_,.nil,u,hu=>by cases hu
 | _,_,.cons n t h,u,hu=>by
  rcases qaz.mp hu with rfl | hu
  ·exact⟨n,t,rfl⟩
  ·exact gv h u hu
theorem i5:∀ {us:List Value},(∀ u ∈ us,∃ n t,u=.int n t)->IntsAre us (us.map aV)
 | [],_=>.nil
 | u::us,h=>by
  obtain⟨n,t,rfl⟩:=h u qah
  exact .cons n t (i5 λx hx=>h x (qaf _ hx))
theorem wt {k:Nat} (hr:bn k X.A) (hK:X.K=K:=by rfl):Ag K X (.builtin "sorted") kI:=by
 subst hK
 refine⟨λst ws d h=>?_⟩
 unfold kI at h
 split at h
 next w=>
  simp only [qac] at h
  obtain⟨ds,e1,h⟩:=h
  split at h
  ·rename_i hl
   intro pins s σ H xs us Q I rv q
   obtain⟨φ,S,⟨v,r,rfl,r1,rfl⟩,q⟩:=q
   obtain⟨a,vs,rfl,h1,h2⟩:=ii S r1 e1
   obtain⟨u,rfl,ru⟩:=gD rv
   cases ru
   obtain⟨its,rv',pl,hz⟩:=I.list (.inl h1)
   have hlen:its.length<=64:=by
    have:=rv'.length
    have:=h2.length
    lia
   have hun:X.A.in1.in1.units < cLine:=by
    have:=hr.un
    show X.A.units+1+1 < cLine
    lia
   have hn:H (s.heap.objs.size+1)=none:=I.hok.fresh (qcm _)
   have lay:∀ (out:List Value) (vs':List V),av vs' out->out.length<=64->Inv X pins σ (upd H (s.heap.objs.size+1) (.lst vs')) { s with heap:=sortedAll s.heap its out.toArray }:=λout vs' hv ho=>by
    obtain⟨ep,he⟩:=sortedAll_at s.heap its out.toArray
    refine I.laid (t':=s.toks) (a:=s.heap.objs.size+1) (o:=.lst vs') (λb o q=>sortedAll_old q) (qcm _) ⟨?_,out,ep,hv,by simpa [seqObj] using he⟩
    rw [hv.length];exact fz (by lia)
   unfold qS at h
   cases hi:aE ds with
   | some ns=>
    rw [hi] at h
    cases h
    cases cw hi
    cases h2.ints
    have hI:=en rv'
    refine kC (O:=OI) (rk:=λp=>[aV p.1]) (S:=λp=>∃ n t,p.1=.int n t) pl.isList hlen (λh' _=>⟨oneType',ql (s:={ s with heap:=h' }) hI⟩) (λv hv=>gv hI v hv) λout a1 a2=>?_
    have ho:∀ u ∈ out,∃ n t,u=.int n t:=λu hu=>gv hI u (a1.mem_iff.mp hu)
    have hp:(out.map aV).Perm ns:=by
     have:=a1.map aV
     rw [iK hI] at this;exact this
    have hs:(out.map aV).Pairwise (·<=·):=by
     rw [qbV]
     refine a2.imp λ{x y} q=>?_
     have q':bI [aV y] [aV x]=false:=q
     by_cases e:aV y=aV x
     ·lia
     ·have:bI [aV y] [aV x]=decide (aV y < aV x):=by show (if _ then _ else _)=_;rw [if_neg e]
      rw [this,decide_eq_false_iff_not] at q';lia
    have e:out.map aV=kP ns:=jO (hp.trans (jM ns).symm) hs (g9 ns)
    have hv:=fB (i5 ho)
    rw [e] at hv
    exact⟨.ref _,_,lay out _ hv (by rw [a1.length_eq];exact hlen),rfl,q _ _ H (bm.refl H) hn (Rls.of_ints _)⟩
   | none=>
    rw [hi] at h
    obtain⟨ls,hls,rfl⟩:=qae.mp h
    cases gn hls
    obtain⟨m1,m2⟩:=iA I h2 rv'
    refine kC (O:=OI) (rk:=λp=>tuI s.heap p.1) (S:=λp=>∃ l,TuI s.heap p.1 l) pl.isList hlen (λh' hk=>?_) (λv hv=>⟨_,(m2 v hv).1⟩) λout a1 a2=>?_
    ·obtain⟨κ,k1,k2⟩:=mw (prog:=X.prog) (w:=X.w) (s:={ s with heap:=h' }) (vs:=its) (λv hv=>⟨_,(m2 v hv).1.fit hk⟩) hun
     refine⟨κ,k1,λx y ⟨l,hx⟩ ⟨m,hy⟩ Q E hq=>k2 x y ⟨l,hx.fit hk⟩ ⟨m,hy.fit hk⟩ Q E ?_⟩
     have hx':=hx.fit hk
     have hy':=hy.fit hk
     have hq':Q (bI (tuI s.heap x.1) (tuI s.heap y.1)) { s with heap:=h' }:=hq
     show Q (bI (tuI h' x.1) (tuI h' y.1)) { s with heap:=h' }
     rw [hx'.is,hy'.is]
     rw [hx.is,hy.is] at hq'
     exact hq'
    ·have ho:=λu hu=>m2 u (a1.mem_iff.mp hu)
     obtain⟨b1,b2⟩:=ix (K:=X.K) (H:=H) (φ:=φ) ho
     have hp:(out.map (tuI s.heap)).Perm ls:=by
      have:=a1.map (tuI s.heap)
      rw [m1] at this;exact this
     have hs:(out.map (tuI s.heap)).Pairwise leL:=by
      rw [qbV]
      exact a2.imp λ{x y} q=>q
     have e:out.map (tuI s.heap)=aT ls:=db (hp.trans (bi ls).symm) hs (cg ls)
     have e2:(out.map λu=>aj (tuI s.heap u))=(aT ls).map aj:=by rw [<-e,qaJ];rfl
     rw [e2] at b1
     exact⟨.ref _,_,lay out _ b2 (by rw [a1.length_eq];exact hlen),rfl,q _ _ H (bm.refl H) hn b1⟩
  ·cases h
 next=>cases h
end
end L2
namespace L2
open PySem PySem.Spec PyProof.Rows
open PySem.AutoSeq1 (wpAny_loadPart')
section
variable {prog:Program}{w:World}{A:Around}{E:Value->Shared->Prop}{s:Shared}{k k2:Bool}
variable {z TI TO i1 i2 l1 l2:Addr}{n:Nat}{xs ys:Array Value}{a b:Value}
end
section
variable {prog:Program}{w:World}{A:Around}{E:Value->Shared->Prop}{s:Shared}{k k2:Bool}
end
section
variable {K:PySem.W.Frag}{X:Cx}{a b:Expr}{pos:Pos}{af:Af}
end
end L2
namespace L2
open PySem PySem.Spec PyProof.Rows
noncomputable def fR:List Int->Int->Int
 | [],m=>m
 | n::ns,m=>fR ns (if n > m then n else m)
section
variable {prog:Program}{w:World}{A:Around}{s:Shared}{I l S:Addr}{items:Array Value}{ns:List Int}{kw:List (Str×Value)}{R:Result->Shared->Prop}
theorem qL (h:IntsAre items.toList ns) {j:Nat}{n:Int} (hn:ns[j]?=some n):∃ t,items[j]?=some (.int n t):=by
 have hj:j < items.toList.length:=by rw [cR h];exact (qax.mp hn).1
 obtain⟨t,e⟩:=fJ h j hj
 refine⟨t,?_⟩
 have hj':j < items.size:=by simpa using hj
 rw [qar hj']
 rw [qcD] at e
 rw [e,qbk,hn];rfl
theorem qE (h:IntsAre items.toList ns) {j:Nat} (hn:ns[j]?=none):items[j]?=none:=by
 rw [qfA] at hn
 have:=cR h
 rw [Array.getElem?_eq_none_iff]
 rw [qav] at this
 lia
theorem BP (hh:A.handled=none) (hi:IntsAre items.toList ns) (hSI:S≠I) (hlI:l≠I) (hlS:l≠S):∀ (rest:List Int) (j:Nat) (s:Shared) (m:Int) (t:Tok) (c:Nat),ns.drop j=rest->s.heap.IsListIter I l j->s.heap.IsList l items->
  s.heap.get? S=some { cls:=.type "list",dict:=none,data:=.seq #[.int m t,.int m t] c,slots:=#[] }->
  (∀ t' h',(∀ b o,b≠I->b≠S->s.heap.get? b=some o->h'.get? b=some o)->R (.ok (.ret (.int (fR rest m) t'))) { s with heap:=h' })->codeAny (model prog w) A (.builtin "max.loop" ⟨[.ref I,.none,.ref S],kw⟩) R s:=by
 have hname:(toString "max"++toString ".loop" : String) = "max.loop":=by decide
 intro rest
 induction rest with
 | nil=>
  intro j s m t c hd hit hl hS hR
  have hn:ns[j]?=none:=by
   rw [qfA]
   have:=congrArg List.length hd
   simp at this;lia
  refine qa7 qft ?_
  rw [qbF qcp _]
  show wpAny _ A.in1 (seqItems? (.ref S) >>= _) _ _ s
  refine qaa (qdh hS rfl ?_)
  show wpAny _ A.in1 (tryCatch (pyNext (.ref I)) _ >>= _) _ _ s
  refine qaa (qdR (qet hh hit hl (qE hi hn) λh1 e1=>?_))
  show wpAny _ A.in1 (updateSeq S (λ_=>#[]) >>= _) _ _ _
  refine qaa (qer (e1 _ _ hSI hS) rfl (qaa (qfZ (qab ?_))))
  exact hR t _ λb o hb1 hb2 q=>(qa6 _ _ (qbR hb2)).trans (e1 _ _ hb1 q)
 | cons n rest ih=>
  intro j s m t c hd hit hl hS hR
  have hn:ns[j]?=some n:=by
   have:=congrArg (λl=>l[0]?) hd
   simpa using this
  have hd':ns.drop (j+1)=rest:=by
   have:=congrArg (List.drop 1) hd
   simpa [List.drop_drop,qgk] using this
  obtain⟨tn,hx⟩:=qL hi hn
  refine qa7 qft ?_
  rw [qbF qcp _]
  show wpAny _ A.in1 (seqItems? (.ref S) >>= _) _ _ s
  refine qaa (qdh hS rfl ?_)
  show wpAny _ A.in1 (tryCatch (pyNext (.ref I)) _ >>= _) _ _ s
  refine qaa (qdR (qeh hit hl hx λh1 hit1 s1=>?_))
  have e1:=s1.extBut
  have hS1:=e1 _ _ hSI hS
  show wpAny _ A.in1 (tryCatch (holding [.int n tn,.int n tn] (richCompare .Gt (.int n tn) (.int m t) >>= _)) _ >>= _) _ _ _
  refine qaa (qdR (qaT (qaa (qia ?_))))
  refine qaa (qaT (qcL ?_))
  refine qaa (qfZ (qab ?_))
  by_cases hb:n > m
  ·have hb':decide (n > m)=true:=by simp [hb]
   rw [hb']
   simp only [if_true]
   refine qaa (qer hS1 rfl (qaa (qfZ ?_)))
   rw [hname]
   refine qab ⟨qdc qcp _,ih (j+1) _ n tn _ hd' (hit1.at λo q=>(qa6 _ _ hSI).trans q) (Heap.IsList.at hl λo q=>(qa6 _ _ (qbR hlS)).trans (e1 _ _ hlI q)) (qbb _ hS1 rfl) λt' h' k=>?_⟩
   have:=hR t' h' λb o hb1 hb2 q=>k b o hb1 hb2 ((qa6 _ _ (qbR hb2)).trans (e1 _ _ hb1 q))
   rw [fR,if_pos hb] at this
   exact this
  ·have hb':decide (n > m)=false:=by simp [hb]
   rw [hb']
   simp only [qap,if_false]
   refine qaa (qfZ ?_)
   rw [hname]
   refine qab ⟨qdc qcp _,ih (j+1) _ m t c hd' hit1 (Heap.IsList.at hl λo q=>e1 _ _ hlI q) hS1 λt' h' k=>?_⟩
   have:=hR t' h' λb o hb1 hb2 q=>k b o hb1 hb2 (e1 _ _ hb1 q)
   rw [fR,if_neg hb] at this
   exact this
variable {E:Value->Shared->Prop}
theorem iM {id:String}{b:Builtin}{args:List Value}{kw:List (Str×Value)}{Q:Value->Shared->Prop} (hk:builtinKind id=none) (hp:plainId id=true) (hb:entryFor table id=some b) (ha:argsOk id ⟨args,kw⟩)
  (hc:wpAny (model prog w) A.in1 (b ⟨args,kw⟩) (λfin s'=>match fin with
    | .done f=>(match (Except.ok f:Result) with | .ok (.ret v)=>Q v s' | .ok _=>False | .error e=>E e s')
    | .again c'=>c'.quiet=true/\codeAny (model prog w) A c' (λr s'=>match r with | .ok (.ret v)=>Q v s' | .ok _=>False | .error e=>E e s') s') E s) :
  wpAny (model prog w) A (call (.builtin id) args kw) Q E s:=by
 refine qfk (qdt hp hb ?_)
 simp only [checkBuiltinCall,hk]
 cases hsig:Manifest.signature? id with
 | none=>exact qab hc
 | some sig=>
  have h2:Bind.checkArgs id sig ⟨args,kw⟩=pure ():=by simpa only [argsOk,hsig] using ha
  show wpAny _ A.in1 (Bind.checkArgs id sig ⟨args,kw⟩) _ _ s
  rw [h2];exact qab hc
theorem vo (a v:Value):argsOk "max" ⟨[a],[(Str.ofString "default",v)]⟩:=by unfold argsOk;kernel_rfl
noncomputable def xT (ns:List Int) (d:Option Int):Option Int:=match ns with
 | n::r=>some (fR r n)
 | []=>d
theorem va (hh:A.handled=none) (hi:IntsAre items.toList ns) (hSI:S≠I) (hlI:l≠I) (hlS:l≠S) {c:Nat} (hit:s.heap.IsListIter I l 0) (hl:s.heap.IsList l items) (hS:s.heap.get? S=some { cls:=.type "list",dict:=none,data:=.seq #[] c,slots:=#[] })
  (hR:∀ v h',(∀ b o,b≠I->b≠S->s.heap.get? b=some o->h'.get? b=some o)->(∀ n r,ns=n::r->∃ t,v=.int (fR r n) t)->(ns=[]->∃ k,kw=[(k,v)])->R (.ok (.ret v)) { s with heap:=h' })
  (h0:ns=[]->∃ k v,kw=[(k,v)]):codeAny (model prog w) A (.builtin "max.loop" ⟨[.ref I,.none,.ref S],kw⟩) R s:=by
 have hname:(toString "max"++toString ".loop" : String) = "max.loop":=by decide
 refine qa7 qft ?_
 rw [qbF qcp _]
 show wpAny _ A.in1 (seqItems? (.ref S) >>= _) _ _ s
 refine qaa (qdh hS rfl ?_)
 show wpAny _ A.in1 (tryCatch (pyNext (.ref I)) _ >>= _) _ _ s
 cases hn:ns with
 | nil=>
  obtain⟨k,v,rfl⟩:=h0 hn
  refine qaa (qdR (qet hh hit hl (qE hi (j:=0) (by rw [hn];rfl)) λh1 e1=>?_))
  refine qaa (qcu (qab ?_))
  exact hR v _ (λb o hb1 _ q=>e1 _ _ hb1 q) (λn r e=>by rw [hn] at e;cases e) λ_=>⟨k,rfl⟩
 | cons n rest=>
  obtain⟨tn,hx⟩:=qL hi (j:=0) (n:=n) (by rw [hn];rfl)
  refine qaa (qdR (qeh hit hl hx λh1 hit1 s1=>?_))
  have e1:=s1.extBut
  have hS1:=e1 _ _ hSI hS
  show wpAny _ A.in1 (updateSeq S (λ_=>#[.int n tn,.int n tn]) >>= _) _ _ _
  refine qaa (qer hS1 rfl ?_)
  rw [hname]
  refine qab ⟨qdc qcp _,BP hh hi hSI hlI hlS rest 1 _ n tn _ (by rw [hn];rfl) (hit1.at λo q=>(qa6 _ _ hSI).trans q) (Heap.IsList.at hl λo q=>(qa6 _ _ (qbR hlS)).trans (e1 _ _ hlI q)) (qbb _ hS1 rfl) λt' h' k=>?_⟩
  exact hR _ h' (λb o hb1 hb2 q=>k b o hb1 hb2 ((qa6 _ _ (qbR hb2)).trans (e1 _ _ hb1 q))) (λn' r' e=>by rw [hn] at e;cases e;exact⟨t',rfl⟩) λe=>by rw [hn] at e;cases e
theorem oz {Q:Value->Shared->Prop} (hh:A.handled=none) (hi:IntsAre items.toList ns) (hl:s.heap.IsList l items) (hk:kw=[]\/∃ v,kw=[(Str.ofString "default",v)]) (h0:ns=[]->kw≠[])
  (h:∀ v h',(∀ b o,s.heap.get? b=some o->h'.get? b=some o)->(∀ n r,ns=n::r->∃ t,v=.int (fR r n) t)->(ns=[]->∃ k,kw=[(k,v)])->Q v { s with heap:=h' }) :
  wpAny (model prog w) A (call (.builtin "max") [.ref l] kw) Q E s:=by
 have hname:(toString "max"++toString ".loop" : String) = "max.loop":=by decide
 have hlt:l < s.heap.objs.size:=by obtain⟨_,e,_⟩:=hl;exact qak e
 have hsz:(s.heap.push { cls:=.type "list_iterator",data:=.fields #[.ref l,.int 0 0] }).objs.size=s.heap.objs.size+1:=qa0 ..
 have fin:∀ dd:List Value,kw=dd.map (λd=>((Str.ofString "default",d):Str×Value))->wpAny (model prog w) A.in1 (do
   let it <-pyIter (.ref l)
   let b <-newList []
   PySem.again (.builtin "max.loop" ⟨[it,.none,b],dd.map λd=>(Str.ofString "default",d)⟩)) (λfin s'=>match fin with
   | .done f=>(match (Except.ok f:Result) with | .ok (.ret v)=>Q v s' | .ok _=>False | .error e=>E e s')
   | .again c'=>c'.quiet=true/\codeAny (model prog w) A c' (λr s'=>match r with | .ok (.ret v)=>Q v s' | .ok _=>False | .error e=>E e s') s') E s:=λdd hdd=>by
  refine qaa (qdg hl (qaa (qaS ?_)))
  refine qab ⟨qdc qcp _,?_⟩
  rw [<-hdd]
  refine va (S:=(s.heap.push { cls:=.type "list_iterator",data:=.fields #[.ref l,.int 0 0] }).objs.size) (I:=s.heap.objs.size) (l:=l) hh hi (by rw [hsz];exact qfa _) (qam hlt) (by rw [hsz];exact qam (qaF hlt))
   ⟨_,qad _ (qao _ rfl),rfl,rfl⟩ (Heap.IsList.at hl λo q=>qad _ (qad _ q)) (qao _ rfl) (λv h' k h1 h2=>?_) (λe=>?_)
  ·refine h v h' (λb o q=>?_) h1 h2
   have hb:=qak q
   exact k b o (qam hb) (by rw [hsz];exact qam (qaF hb)) (qad _ (qad _ q))
  ·rcases hk with hk | ⟨v,hk⟩
   ·exact absurd hk (h0 e)
   ·exact⟨_,v,hk⟩
 rcases hk with rfl | ⟨v,rfl⟩
 ·refine iM F.kind_max F.plain_max F.entry_max (F.args_max1 _) ?_
  show wpAny _ A.in1 (Builtin.Builtins.bindParams "max" ["key","default"] 0 ⟨[],[]⟩ >>= _) _ _ s
  refine qaa (qdE (show Builtin.Builtins.bindParams "max" ["key","default"] 0 ⟨[],[]⟩=pure [none,none] from rfl) ?_)
  refine qaa (qab ?_)
  have:=fin [] rfl
  rw [<-hname] at this
  exact this
 ·refine iM F.kind_max F.plain_max F.entry_max (vo _ _) ?_
  show wpAny _ A.in1 (Builtin.Builtins.bindParams "max" ["key","default"] 0 ⟨[],[(Str.ofString "default",v)]⟩ >>= _) _ _ s
  refine qaa (qdE (show Builtin.Builtins.bindParams "max" ["key","default"] 0 ⟨[],[(Str.ofString "default",v)]⟩=pure [none,some v] from by kernel_rfl) ?_)
  refine qaa (qab ?_)
  have:=fin [v] rfl
  rw [<-hname] at this
  exact this
end
section
variable {K:PySem.W.Frag}{X:Cx}{e a b:Expr}{es:List Expr}{pos:Pos}{f fa fb:Ef}{af:Af}
noncomputable def lsI (st:Sto) (w:W):Option (List Int):=(lsD st w).bind aE
theorem uE (hc:X.calm=true) {kw:List (Str×Value)}{d:Option V}{ns:List Int}{pins:List (Addr×Obj)}{σ:St}{H:Hp}{s:Shared}{ad:Addr}{Q:VK}{E:XK}{r:Int} (I:Inv X pins σ H s) (hl:Rd H ad (.lst (ns.map V.int)))
  (hk:(kw=[]/\ns≠[])\/∃ c t,kw=[(Str.ofString "default",.int c t)]/\(ns=[]->r=c)) (hr:∀ n q,ns=n::q->r=fR q n) (q:Q (.int r) H) :
  wpAny (model X.prog X.w) X.A (call (.builtin "max") [.ref ad] kw) (EP X pins σ Q) X.xe s:=by
 obtain⟨its,rv,pl,hz⟩:=I.list (.inl hl)
 refine oz (items:=its.toArray) (ns:=ns) (I.ok.hd hc) (by simpa using en rv) pl.isList ?_ ?_ λv h' kp h1 h2=>?_
 ·rcases hk with hk | ⟨c,t,hk,_⟩
  ·exact .inl hk.1
  ·exact .inr ⟨_,hk⟩
 ·intro e z
  rcases hk with hk | ⟨c,t,hk,_⟩
  ·exact hk.2 e
  ·rw [hk] at z;cases z
 ·have hv:∃ t,v=.int r t:=by
   cases hn:ns with
   | nil=>
    obtain⟨k,hk2⟩:=h2 hn
    rcases hk with hk | ⟨c,t,hk,hc'⟩
    ·exact absurd hn hk.2
    ·rw [hk] at hk2
     cases hk2
     rw [hc' hn];exact⟨t,rfl⟩
   | cons n q=>
    rw [hr n q hn]
    exact h1 n q hn
  exact⟨.int r,H,I.kept kp,hv,q⟩
theorem yv {st:Sto}{H:Hp}{φ:List Addr}{w:W}{v:V}{ns:List Int} (S:Sr K H φ st) (r:Rw K H φ w v) (h:lsI st w=some ns):∃ ad,v=.ref ad/\Rd H ad (.lst (ns.map V.int)):=by
 obtain⟨ds,e1,e2⟩:=qac.mp h
 obtain⟨ad,vs,rfl,h1,h2⟩:=ii S r e1
 cases cw e2
 cases h2.ints
 exact⟨ad,rfl,h1⟩
noncomputable def lO (a d:Ef):Ef
 | env,st=>(a env st).bind λx=>(d env x.2).bind λy=>(lsI y.2 x.1).bind λns=>match y.1 with
  | .d (.int c)=>(xT ns (some c)).map λr=>(.d (.int r),y.2)
  | _=>none
theorem xo {p kpos:Pos}{d:Expr}{fd:Ef} (hg:Gl X "max") (hm:X.mg "max" = none) (ha:IE K X a fa) (hd:IE K X d fd) (hs:az a=true:=by rfl) (hc:X.calm=true:=by rfl) :
  IE K X (.Call (.Name "max" p) [a] [⟨some (Str.ofString "default"),d,kpos⟩] pos) (lO fa fd):=by
 refine⟨λenv st r hr=>?_⟩
 simp only [lO,qac] at hr
 obtain⟨⟨x,s1⟩,hx,⟨y,s2⟩,hy,ns,e1,hr⟩:=hr
 cases y with
 | h n=>cases hr
 | d yd=>
  cases yd with
  | int c=>
   obtain⟨rr,e2,rfl⟩:=qae.mp hr
   have ha':=(aa (es:=[]) ha ai hs).run env st ([x],s1) (by simp only [ae,ak,hx,qag,qaC])
   have hd':=zz (nm:=some (Str.ofString "default")) (kpos:=kpos) (kws:=[]) (hd.run env s1 (.d (.int c),s2) hy) Bu
   intro pins s σ H Q I h
   obtain⟨φ,hE,hS,q⟩:=h
   refine qbT (ef I hg hm qic ?_ (by decide) (by decide))
   refine callWith_kw (thn (ha' pos pins s σ H (λvs H1=>∃ φ1,Fw φ φ1 H H1/\Sr K H1 φ1 s1/\Rws K H1 φ1 [x] vs) I ⟨φ,hE,hS,λvs H1 φ1 f1 S1 w1=>⟨φ1,f1,S1,w1⟩⟩) λus t1 z1=>?_) (by rw [aN hs];rfl) (by rw [aN hs];simp [starEach,backTo]) rfl rfl
   obtain⟨vs,H1,I1,r1,φ1,f1,S1,w1⟩:=z1
   refine thn (hd' pos pins t1 σ H1 (λzs H2=>∃ φ2 v,zs=[v]/\Fw φ1 φ2 H1 H2/\Sr K H2 φ2 s2/\Rw K H2 φ2 (.d (.int c)) v) I1 ⟨φ1,hE.fw hS f1,S1,λv H2 φ2 f2 S2 w2=>⟨φ2,v,rfl,f2,S2,w2⟩⟩) λws t2 z2=>?_
   obtain⟨zs,H2,I2,r2,φ2,v,ez,f2,S2,w2⟩:=z2
   subst ez
   obtain⟨v0,rr',rfl,rx,rfl⟩:=w1
   obtain⟨ad,rfl,hl⟩:=yv S2 (rx.fw S1 f2) e1
   obtain⟨u,rfl,ru⟩:=gD r1
   cases ru
   obtain⟨u2,rfl,ru2⟩:=gD r2
   have w2':v=.int c:=w2
   subst w2'
   obtain⟨t,rfl⟩:=ru2
   refine uE (E:=λ_ _ _=>False) (d:=none) (r:=rr) hc I2 hl (.inr ⟨c,t,rfl,λe=>by rw [e] at e2;exact (qaD e2).symm⟩) (λn q hn=>by rw [hn] at e2;exact (qaD e2).symm) ?_
   exact q _ H2 φ2 (f1.trans f2) S2 rfl
  | _=>cases hr
end
section
variable {K:PySem.W.Frag}{X:Cx}
noncomputable def rp (_:Sto):W->W->Option D
 | .d (.int i),.d (.int j)=>some (.int (Builtin.bitAnd i j))
 | _,_=>none
theorem rX:OpD K X (binaryOp .BitAnd) rp:=nu (λ_=>rfl) (λ_ _=>rfl) λi j=>AV.imp λvx vy H Q h=>⟨i,j,h.1,h.2.1,h.2.2⟩
end
section
variable {K:PySem.W.Frag}{X:Cx}{pos:Pos}{a b:Expr}{af:Af}
end
noncomputable def fF (a b:Ef):Ef
 | env,st=>(a env st).bind λx=>(b env x.2).bind λy=>match x.1,y.1 with
 | .h n,.d (.int i)=>(match y.2[n]? with
  | some (.n ws)=>(atI ws i).map λw=>(w,y.2)
  | _=>none)
 | _,_=>none
noncomputable def tH (a:Af):Ef
 | env,st=>(a env st).bind λr=>if r.1.length<=1000 then some (.h r.2.length,r.2++[.n r.1]) else none
noncomputable def iE (o i v:Ef):Sf
 | env,st=>(v env st).bind λrv=>(o env rv.2).bind λro=>(i env ro.2).bind λri=>match ro.1,ri.1,rv.1 with
 | .h n,.d (.int k),.d x=>(match ri.2[n]? with
  | some (.n ws)=>(ixN ws.length k).map λj=>.nx env (ri.2.set n (.n (ws.set j (.d x))))
  | _=>none)
 | _,_,_=>none
noncomputable def wl (ds:List D):List W->Option (D×List D)
 | [.d (.int i)]=>(ixN ds.length i).bind λk=>(ds[k]?).bind λd=>if cr d=true/\-(2 ^ 62)<=i/\i < 2 ^ 62 then some (d,ds.eraseIdx k) else none
 | _=>none
noncomputable def nF (i j l:Nat) (a:Af):Sf
 | env,st=>(a env st).bind λr=>match r.1 with
 | [x,y,z]=>some (.nx (((env.set i (some x)).set j (some y)).set l (some z)) r.2)
 | _=>none
section
variable {K:PySem.W.Frag}{X:Cx}{pos:Pos}{e a b c:Expr}{es:List Expr}{f fa fb:Ef}{af:Af}
theorem Rws.get {H:Hp}{φ:List Addr}:∀ {ds:List W}{vs:List V},Rws K H φ ds vs->∀ {i:Nat}{d:W},ds[i]?=some d->∃ v,vs[i]?=some v/\Rw K H φ d v
 | [],_,h,i,d,e=>by simp at e
 | d::ds,_,h,i,e,q=>by
  obtain⟨v,r,rfl,h1,h2⟩:=h
  cases i with
  | zero=>simp at q;subst q;exact⟨v,rfl,h1⟩
  | succ i=>simpa using Rws.get h2 (i:=i) (d:=e) (by simpa using q)
theorem Rws.set {H:Hp}{φ:List Addr}:∀ {ds:List W}{vs:List V} (n:Nat) {d:W}{v:V},Rws K H φ ds vs->Rw K H φ d v->Rws K H φ (ds.set n d) (vs.set n v)
 | [],_,_,_,_,h,_=>by cases h;exact rfl
 | e::ds,_,0,d,v,h,hd=>by
  obtain⟨u,r,rfl,h1,h2⟩:=h
  exact⟨v,r,rfl,hd,h2⟩
 | e::ds,_,n+1,d,v,h,hd=>by
  obtain⟨u,r,rfl,h1,h2⟩:=h
  exact⟨u,_,rfl,h1,Rws.set n h2 hd⟩
theorem Rws.mem {H:Hp}{φ:List Addr}:∀ {ds:List W}{vs:List V},Rws K H φ ds vs->∀ {m:Nat},W.h m ∈ ds->m < φ.length
 | [],_,_,m,hm=>nomatch hm
 | d::ds,_,h,m,hm=>by
  obtain⟨v,r,rfl,h1,h2⟩:=h
  rcases qaz.mp hm with z | z
  ·subst z
   obtain⟨a,e,_⟩:=h1
   exact (qax.mp e).1
  ·exact Rws.mem h2 z
theorem Sr.atn {H:Hp}{φ:List Addr}{st:Sto} (S:Sr K H φ st) {n:Nat}{p:Addr}{ws:List W} (e1:φ[n]?=some p) (e2:st[n]?=some (.n ws)):∃ vs,H p=some (.lst vs)/\Rws K H φ ws vs/\∀ m,W.h m ∈ ws->m < n:=S.at_ n p _ e1 e2
theorem zX {H:Hp}{φ:List Addr}{ds:List W}{vs:List V}{i:Int}{d:W} (r:Rws K H φ ds vs) (e:atI ds i=some d):∃ v,atI vs i=some v/\Rw K H φ d v:=by
 unfold atI at e ⊢
 rw [<-r.length]
 obtain⟨j,e1,e2⟩:=qac.mp e
 obtain⟨v,ev,rv⟩:=r.get e2
 exact⟨v,by rw [e1];exact ev,rv⟩
theorem dJ (ha:IE K X a fa) (hb:IE K X b fb) (hs:jg b=true:=by rfl) (hK:X.K=K:=by rfl):IE K X (.Subscript a b pos) (fF fa fb):=by
 subst hK
 refine⟨λenv st r hr=>?_⟩
 simp only [fF,qac] at hr
 obtain⟨⟨x,s1⟩,hx,⟨y,s2⟩,hy,hr⟩:=hr
 match x,y,hr with
 | .h n,.d (.int i),hr=>
  dsimp only at hr
  split at hr
  ·rename_i ws hws
   obtain⟨w,hw,rfl⟩:=qae.mp hr
   refine (Ah sE (ha.run _ _ _ hx) (hb.run _ _ _ hy) (qT hs)).imp ?_
   rintro σ H Q ⟨φ,hE,hS,q⟩
   refine⟨φ,hE,hS,λv H1 φ1 f1 S1 w1=>⟨φ1,hE.fw hS f1,S1,λu H2 φ2 f2 S2 w2=>?_⟩⟩
   obtain⟨p,ep,rfl⟩:=w1.fw S1 f2
   obtain⟨vs,hv,rl,_⟩:=S2.atn ep hws
   obtain⟨z,ez,rz⟩:=zX rl hw
   exact .inl ⟨p,vs,i,z,rfl,w2,SqL.of hv,ez,q z H2 φ2 (f1.trans f2) S2 rz⟩
  ·cases hr
theorem yi (h:IA K X es af):IE K X (.List es pos) (tH af):=by
 refine⟨λenv st r hr=>?_⟩
 simp only [tH,qac] at hr
 obtain⟨y,hy,hr⟩:=hr
 split at hr
 ·cases hr
  rename_i hl
  refine (wX (h.run _ _ _ hy)).imp ?_
  rintro σ H Q ⟨φ,hE,hS,q⟩
  refine⟨φ,hE,hS,λvs H1 φ1 f1 s1 w1=>?_⟩
  refine⟨by rw [<-w1.length];exact fz hl,λp hp=>?_⟩
  exact q _ _ (φ1++[p]) (f1.trans (Fw.more hp)) (s1.moreC hp ⟨vs,aI,w1.fw s1 (Fw.more hp),λm hm=>w1.mem hm⟩) ⟨p,by rw [<-s1.len];simp,rfl⟩
 ·cases hr
theorem vG {tpos:Pos} (ho:IE K X a fa) (hi:IE K X b fb) (hv:IE K X e f) (hb:jg b=true:=by rfl) (hs:swapsWithSole [.Subscript a b tpos] e pos.line X.env=pure false:=by rfl) (hw:swappedStores [.Subscript a b tpos] e X.env=pure none:=by rfl) :
  IS K X (.Assign [.Subscript a b tpos] e pos) (iE fa fb f):=by
 refine⟨λenv st r hr=>?_⟩
 simp only [iE,qac] at hr
 obtain⟨⟨rv,s1⟩,ev,⟨ro,s2⟩,eo,⟨ri,s3⟩,ei,hr⟩:=hr
 match ro,ri,rv,hr with
 | .h n,.d (.int k),.d x,hr=>
  dsimp only at hr
  split at hr
  ·rename_i ws hws
   obtain⟨j,ej,rfl⟩:=qae.mp hr
   refine (wL (hv.run _ _ _ ev) (vQ (ho.run _ _ _ eo) (hi.run _ _ _ ei) pY (uc hb)) hs hw (ul rfl)).imp ?_
   rintro D σ H ⟨φ,hE,hS,q⟩
   refine⟨φ,hE,hS,λv H1 φ1 f1 s1 w1=>⟨φ1,hE.fw hS f1,s1,λo H2 φ2 f2 s2 w2=>⟨φ2,(hE.fw hS f1).fw s1 f2,s2,λi H3 φ3 f3 s3 w3=>?_⟩⟩⟩
   have e3:=((hE.fw hS f1).fw s1 f2).fw s2 f3
   have w1':=(w1.fw s1 f2).fw s2 f3
   obtain⟨p,ep,rfl⟩:=w2.fw s2 f3
   obtain⟨vs,hp,rl,bd⟩:=s3.atn ep hws
   have w3':i=.int k:=w3
   subst w3'
   obtain⟨f4,s4⟩:=s3.putC (o:=.lst (vs.set j v)) (c:=.n (ws.set j (.d x))) ep λf=>⟨_,aI,(Rws.set j rl w1').fw s3 f,λm hm=>by
    rcases List.mem_or_eq_of_mem_set hm with z | z
    ·exact bd m z
    ·cases z⟩
   refine⟨p,vs,k,j,rfl,rfl,hp,by rw [<-rl.length];exact ej,?_⟩
   exact q _ _ φ3 (((f1.trans f2).trans f3).trans f4) (e3.fw s3 f4) s4
  ·cases hr
theorem Rls.erase {H:Hp}{φ:List Addr}:∀ {ds:List D}{vs:List V} (n:Nat),Rls K H φ ds vs->Rls K H φ (ds.eraseIdx n) (vs.eraseIdx n)
 | [],_,_,h=>by cases h;exact rfl
 | d::ds,_,0,h=>by
  obtain⟨v,r,rfl,h1,h2⟩:=h
  exact h2
 | d::ds,_,n+1,h=>by
  obtain⟨v,r,rfl,h1,h2⟩:=h
  exact⟨v,_,rfl,h1,Rls.erase n h2⟩
theorem BU {apos:Pos} (ho:IE K X a fa) (ha:IA K X (e::es) af) (hbase:attributeBase a "pop" X.env (eval a X.env)=eval a X.env:=by rfl)
  (hall:(e::es).all az=true:=by rfl) (hfl30:(e::es).length < 30:=by decide) (hline:(apos.endLine==pos.line)=true:=by rfl) (hK:X.K=K:=by rfl) :
  IE K X (.Call (.Attribute a "pop" apos) (e::es) [] pos) (eY wl fa af):=by
 refine sJ PySem.F.slot_list_pop PySem.F.type_list_pop xB (λH φ st n ad ds vs ws us y Q S ea eds hv rl rw hy q=>?_) (λds ws y h=>?_) ho ha hbase hall hfl30 hline hK
 ·match ws,hy with
  | [.d (.int i)],hy=>
   simp only [wl,qac] at hy
   obtain⟨k,hk,d,hd,hy⟩:=hy
   split at hy
   ·rename_i hl
    cases hy
    obtain⟨v,r,rfl,r1,rfl⟩:=rw
    obtain⟨x,ex,rx⟩:=rl.get hd
    refine⟨ad,vs,i,k,x,rfl,by rw [show v=.int i from r1],hv,by lia,by lia,by rw [<-rl.length];exact (oJ hk).1,ex,q _ _ rx (rl.erase k) λb z=>?_⟩
    obtain⟨z1,z2⟩:=dv hl.1 rx
    rw [z] at z2
    cases z2
   ·cases hy
 ·match ws,h with
  | [.d (.int i)],h=>
   simp only [wl,qac] at h
   obtain⟨k,hk,d,hd,h⟩:=h
   split at h
   ·rename_i hl
    cases h;exact hl.1
   ·cases h
noncomputable def Cd (i j l:Nat) (ta:TA):TS:=λD σ H=>ta σ H λvs H1=>∃ v w u,vs=[v,w,u]/\D.nx (((σ.set i (some v)).set j (some w)).set l (some u)) H1
theorem zw {i j l:Nat}{x y z:Str}{ta:TA}{px py pz pt:Pos}{kt k2 pt2} (hc:X.calm=true) (hN:X.N.Nodup) (hi:X.N[i]?=some x) (hj:X.N[j]?=some y) (hl:X.N[l]?=some z) (hij:i≠j) (hil:i≠l) (hjl:j≠l)
  (hx:X.env.scope.names.lookup x=some .local) (hy:X.env.scope.names.lookup y=some .local) (hz:X.env.scope.names.lookup z=some .local) (ha:PA X [a,b,c] ta)
  (hw:swappedStores [.Tuple [.Name x px,.Name y py,.Name z pz] kt pt] (.Tuple [a,b,c] k2 pt2) X.env=pure (some [x,y,z]))
  (hs:swapsWithSole [.Tuple [.Name x px,.Name y py,.Name z pz] kt pt] (.Tuple [a,b,c] k2 pt2) pos.line X.env=pure false) :
  PS X (.Assign [.Tuple [.Name x px,.Name y py,.Name z pz] kt pt] (.Tuple [a,b,c] k2 pt2) pos) (Cd i j l ta):=by
 intro pins s σ H D I h
 rw [exec_Assign_arm]
 refine qaa (qdu ?_)
 rw [hs]
 refine qaa (qab ?_)
 rw [if_neg (by decide)]
 refine qaa (Tuple_ (thn (ha _ pins s σ H _ I h) λus s1 ⟨vs,H1,I1,r1,q1⟩=>?_))
 obtain⟨v,w,u,e1,q1⟩:=q1
 subst e1
 obtain⟨u1,u2,u3,rfl,rv,rw',ru⟩:∃ u1 u2 u3,us=[u1,u2,u3]/\aA v u1/\aA w u2/\aA u u3:=by
  cases r1 with
  | cons p q=>
   cases q with
   | cons p' q'=>
    cases q' with
    | cons p2 q2=>
     cases q2
     exact⟨_,_,_,rfl,p,p',p2⟩
 refine qaS ?_ (by show 3<=sizeLine;decide)
 have I2:Inv X pins σ H1 { s1 with heap:=s1.heap.push { cls:=.type "tuple",data:=.seq [u1,u2,u3].toArray } }:=I1.kept (t':=s1.toks) λb o e=>qad _ e
 rw [hw]
 refine qaa (qab ?_)
 show wpAny (model X.prog X.w) X.A (do rule "assign.swapped-stores";let items <-unpackItems (.ref s1.heap.objs.size) 3 none;assignInOrder [λv=>bindName X.env z v,λv=>bindName X.env y v,λv=>bindName X.env x v] items.reverse;pure Flow.next) _ _ _
 refine qaa (qcu (qaa (unpackItems_tuple (items:=#[u1,u2,u3]) (I.ok.hd hc) (IsTup.new s1.heap _) λh' hx'=>?_)))
 have I3:=I2.kept (h':=h') (t':=s1.toks) λb o e=>hx' b o (qam (qak e)) e
 show wpAny _ _ (assignInOrder [λv=>bindName X.env z v,λv=>bindName X.env y v,λv=>bindName X.env x v] [u3,u2,u1] >>= λ_=>pure Flow.next) _ _ _
 refine qaa (qdN (qgd (e8 I3 hN hl (.inl hz) ru (λs2 I4=>?_) (.inr hz))))
 refine qdN (qgd (e8 I4 hN hj (.inl hy) rw' (λs3 I5=>?_) (.inr hy)))
 refine qdN (qgd (e8 I5 hN hi (.inl hx) rv (λs4 I6=>qhq (qab ?_)) (.inr hx)))
 rw [qfU _ _ (qbR hij),qfU _ _ (qbR hil),qfU _ _ (qbR hjl)] at I6
 exact⟨_,H1,I6,q1⟩
theorem yh {i j l:Nat}{x y z:Str}{px py pz pt:Pos}{kt k2 pt2} (hc:X.calm=true) (hN:X.N.Nodup) (hi:X.N[i]?=some x) (hj:X.N[j]?=some y) (hl:X.N[l]?=some z) (hij:i≠j) (hil:i≠l) (hjl:j≠l)
  (hx:X.env.scope.names.lookup x=some .local) (hy:X.env.scope.names.lookup y=some .local) (hz:X.env.scope.names.lookup z=some .local) (ha:IA K X [a,b,c] af)
  (hw:swappedStores [.Tuple [.Name x px,.Name y py,.Name z pz] kt pt] (.Tuple [a,b,c] k2 pt2) X.env=pure (some [x,y,z]))
  (hs:swapsWithSole [.Tuple [.Name x px,.Name y py,.Name z pz] kt pt] (.Tuple [a,b,c] k2 pt2) pos.line X.env=pure false) :
  IS K X (.Assign [.Tuple [.Name x px,.Name y py,.Name z pz] kt pt] (.Tuple [a,b,c] k2 pt2) pos) (nF i j l af):=by
 refine⟨λenv st r hr=>?_⟩
 simp only [nF,qac] at hr
 obtain⟨⟨ws,s1⟩,hy',hr⟩:=hr
 match ws,hr with
 | [wx,wy,wz],hr=>
  cases hr
  refine (zw hc hN hi hj hl hij hil hjl hx hy hz (ha.run _ _ _ hy') hw hs).imp ?_
  rintro D σ H ⟨φ,hE,hS,q⟩
  refine⟨φ,hE,hS,λvs H1 φ1 f1 S1 w1=>?_⟩
  obtain⟨v,r,rfl,r1,u,r',rfl,r2,u3,r'',rfl,r3,r4⟩:=w1
  cases r4
  exact⟨v,u,u3,rfl,q _ H1 φ1 f1 ((((hE.fw hS f1).set i r1).set j r2).set l r3) S1⟩
end
noncomputable def al (m:Nat):List Nat:=(List.range 6).filter λk=>m.testBit k
noncomputable def B4 (m k:Nat):Bool:=((al m).toArray[SetTable.below (al m).toArray k]?==some k)==m.testBit k
theorem uR:∀ m:Fin 64,∀ k:Fin 6,B4 m.1 k.1=true:=by decide +kernel
theorem sj {m k:Nat} (hm:m < 64) (hk:k < 6):((al m).toArray[SetTable.below (al m).toArray k]?==some k)=m.testBit k:=eq_of_beq (uR ⟨m,hm⟩ ⟨k,hk⟩)
noncomputable def xU (m k:Nat):Bool:=m.testBit k || (al (m ||| 1 <<< k)==(al m).take (SetTable.below (al m).toArray k)++k::(al m).drop (SetTable.below (al m).toArray k))
theorem vb:∀ m:Fin 64,∀ k:Fin 6,xU m.1 k.1=true:=by decide +kernel
theorem rR {m k:Nat} (hm:m < 64) (hk:k < 6) (hb:m.testBit k=false):al (m ||| 1 <<< k)=(al m).take (SetTable.below (al m).toArray k)++k::(al m).drop (SetTable.below (al m).toArray k):=by
 have:=vb ⟨m,hm⟩ ⟨k,hk⟩
 unfold xU at this
 rw [show (⟨m,hm⟩:Fin 64).1=m from rfl,show (⟨k,hk⟩:Fin 6).1=k from rfl,hb,qdm] at this
 exact eq_of_beq this
noncomputable def vL (m k:Nat):Bool:=!m.testBit k || ((al m)[SetTable.below (al m).toArray k]?==some k && (al (m ^^^ 1 <<< k)==(al m).take (SetTable.below (al m).toArray k)++(al m).drop (SetTable.below (al m).toArray k+1)))
theorem uM:∀ m:Fin 64,∀ k:Fin 6,vL m.1 k.1=true:=by decide +kernel
theorem rZ {m k:Nat} (hm:m < 64) (hk:k < 6) (hb:m.testBit k=true):(al m)[SetTable.below (al m).toArray k]?=some k/\al (m ^^^ 1 <<< k)=(al m).take (SetTable.below (al m).toArray k)++(al m).drop (SetTable.below (al m).toArray k+1):=by
 have:=uM ⟨m,hm⟩ ⟨k,hk⟩
 unfold vL at this
 rw [show (⟨m,hm⟩:Fin 64).1=m from rfl,show (⟨k,hk⟩:Fin 6).1=k from rfl,hb,qa2,qdm,qaL] at this
 exact⟨eq_of_beq this.1,eq_of_beq this.2⟩
noncomputable def gZ:List Nat:=[7,15,31]
noncomputable def A2 (m mask:Nat):Bool:=SetTable.laid mask 0 0 true true ((al m).map λ(k:Nat)=>(k:Int)).toArray==some (⟨mask,(al m).toArray,#[],0,true,0,true⟩,Array.range (al m).length)
theorem uB:∀ m:Fin 64,(gZ.all λq=>A2 m.1 q)=true:=by decide +kernel
theorem xS (mask f mv:Nat) (l p:Bool) (hs:Array Int):SetTable.laid mask f mv l p hs=(SetTable.laid mask 0 0 true true hs).map λx=>({ x.1 with finger:=f,led:=l,moves:=mv,plain:=p },x.2):=by
 unfold SetTable.laid
 cases SetTable.layClean mask hs<;>rfl
theorem sX {m mask:Nat} (hm:m < 64) (hq:mask ∈ gZ) (f mv:Nat) (l p:Bool):SetTable.laid mask f mv l p ((al m).map λ(k:Nat)=>(k:Int)).toArray=some (⟨mask,(al m).toArray,#[],f,l,mv,p⟩,Array.range (al m).length):=by
 have:=qaw.mp (uB ⟨m,hm⟩) mask hq
 rw [xS,eq_of_beq this];rfl
noncomputable def tm (m i:Nat):Bool:=i < (al m).length.succ && !(SetTable.below (al m).toArray (if i=0 then 0 else (al m).getD (i - 1) 0+1)==i) 
theorem rh:∀ m:Fin 64,∀ i:Fin 7,tm m.1 i.1=false:=by decide +kernel
noncomputable def lD (m i:Nat):Nat:=if i=0 then 0 else (al m).getD (i - 1) 0+1
theorem rC:∀ m:Fin 64,(al m.1).length<=6:=by decide +kernel
theorem fI {m:Nat} (hm:m < 64):(al m).length<=6:=rC ⟨m,hm⟩
theorem zA {m i:Nat} (hm:m < 64) (hi:i<=(al m).length):SetTable.below (al m).toArray (lD m i)=i:=by
 have hl:=fI hm
 have:=rh ⟨m,hm⟩ ⟨i,by lia⟩
 unfold tm at this
 have h1:decide (i < (al m).length.succ)=true:=decide_eq_true (by lia)
 rw [show (⟨m,hm⟩:Fin 64).1=m from rfl,show ((⟨i,by lia⟩:Fin 7)).1=i from rfl,h1,Bool.true_and,qeJ] at this
 exact eq_of_beq this
noncomputable def tV (m d:Nat):Bool:=m &&& d != 0 || decide ((al m).length+(al d).length<=6)
theorem re:∀ m:Fin 64,∀ d:Fin 64,tV m.1 d.1=true:=by decide +kernel
theorem yb {m d:Nat} (hm:m < 64) (hd:d < 64) (h:m &&& d=0):(al m).length+(al d).length<=6:=by
 have:=re ⟨m,hm⟩ ⟨d,hd⟩
 unfold tV at this
 rw [show (⟨m,hm⟩:Fin 64).1=m from rfl,show (⟨d,hd⟩:Fin 64).1=d from rfl,h] at this
 simpa using this
theorem mo {m k:Nat}:k ∈ al m↔k < 6/\m.testBit k=true:=by
 unfold al;rw [qcf,qaP]
theorem sV {m k:Nat} (h:k ∈ al m):k < 6:=(mo.mp h).1
theorem n4 {m k:Nat} (hm:m < 64) (hk:k < 6):m ||| 1 <<< k < 64:=Nat.or_lt_two_pow (n:=6) hm (by
 rw [qeU];exact qgs (by decide) hk)
theorem oX {m k:Nat} (hm:m < 64) (hk:k < 6):m ^^^ 1 <<< k < 64:=Nat.xor_lt_two_pow (n:=6) hm (by
 rw [qeU];exact qgs (by decide) hk)
theorem fH {k j:Nat}:(1 <<< k).testBit j=decide (k=j):=by rw [qeU,Nat.testBit_two_pow]
noncomputable def aB (m:Nat) (f:Nat->Tok):Array (Int×Value):=((al m).map λ(k:Nat)=>((k:Int),Value.int k (f k))).toArray
theorem aB.size (m:Nat) (f:Nat->Tok):(aB m f).size=(al m).length:=by simp [aB]
theorem aB.toList (m:Nat) (f:Nat->Tok):(aB m f).toList=(al m).map λ(k:Nat)=>((k:Int),Value.int k (f k)):=by simp [aB]
theorem aB.hashes (m:Nat) (f:Nat->Tok):(aB m f).map (·.1)=((al m).map λ(k:Nat)=>(k:Int)).toArray:=by
 simp [aB,qaJ,Function.comp_def]
structure dI (b:Bool) (t:SetTable) (m d:Nat):Prop where
 msk:t.mask ∈ gZ
 pl:t.place=(al m).toArray
 du:t.dummies=(al d).toArray
 led:t.led=!b
 plain:t.plain=true
section
variable {b:Bool}{t:SetTable}{m d k:Nat}
theorem dI.fits (T:dI b t m d) (hm:m < 64) (hd:d < 64) (h:m &&& d=0) (f:Nat->Tok):t.fits (aB m f).size=true:=by
 have:=yb hm hd h
 have hk:=T.msk
 have h7:7<=t.mask:=by
  have hk:t.mask=7\/t.mask=15\/t.mask=31:=by simpa [gZ] using hk
  lia
 simp only [SetTable.fits,SetTable.fill,T.pl,T.du,aB.size,qas,qaL,beq_iff_eq,decide_eq_true_eq,true_and]
 lia
theorem rY {k mask:Nat} (hk:k < 6) (hq:mask ∈ gZ):SetTable.bits (k:Int) % (mask+1)=k:=by
 have hq:mask=7\/mask=15\/mask=31:=by simpa [gZ] using hq
 unfold SetTable.bits
 have e:((k:Int) % (2 ^ 64:Int)).toNat=k:=by lia
 rw [e]
 rcases hq with rfl | rfl | rfl<;>lia
theorem dI.slot (T:dI b t m d) (hm:m < 64) (hd:d < 64) (hk:k < 6) (h1:m.testBit k=false) (h2:d.testBit k=false):t.slot k=.empty:=by
 unfold SetTable.slot SetTable.has
 dsimp only
 rw [T.pl,T.du,sj hm hk,sj hd hk,h1,h2]
 rfl
theorem dI.free (T:dI b t m d) (hm:m < 64) (hd:d < 64) (hk:k < 6) (h1:m.testBit k=false) (h2:d.testBit k=false):t.freeSlot (k:Int)=some (k,false):=by
 have e:t.probe (λ_=>(k:Int)+1) k (t.probeStart k)=some (.empty k none):=by
  unfold SetTable.probe
  have hf:∃ n,10*SetTable.turns t.mask=n+1:=⟨10*SetTable.turns t.mask - 1,by unfold SetTable.turns;lia⟩
  obtain⟨n,hn⟩:=hf
  rw [hn]
  unfold SetTable.probe.go SetTable.probeStart
  dsimp only
  rw [rY hk T.msk,T.slot hm hd hk h1 h2]
 unfold SetTable.freeSlot
 rw [e];rfl
theorem aB.ins (f:Nat->Tok) (tk:Tok) (hm:m < 64) (hk:k < 6) (h1:m.testBit k=false):SetTable.insertAt (aB m f) (SetTable.below (al m).toArray k) ((k:Int),Value.int k tk)=aB (m ||| 1 <<< k) (λj=>if j=k then tk else f j):=by
 apply qaY.mp
 rw [qb9,aB.toList,aB.toList,rR hm hk h1,qbm,qaj,<-qhg,<-qhh]
 have hn:∀ j ∈ al m,j≠k:=λj hj e=>by
  rw [e,mo] at hj
  rw [hj.2] at h1;cases h1
 congr 1
 ·exact qa5 λj hj=>by rw [if_neg (hn j (qgl hj))]
 ·rw [if_pos rfl]
  congr 1
  exact qa5 λj hj=>by rw [if_neg (hn j (qeg hj))]
theorem dI.put (T:dI b t m d) (hm:m < 64) (hk:k < 6) (h1:m.testBit k=false) (hd:d < 64) (h2:d.testBit k=false):dI b (t.put k).1 (m ||| 1 <<< k) d/\(t.put k).2=SetTable.below (al m).toArray k:=by
 unfold SetTable.put
 dsimp only
 have hh:SetTable.has t.dummies k=false:=by unfold SetTable.has;rw [T.du,sj hd hk,h2]
 rw [hh]
 refine⟨⟨T.msk,?_,T.du,T.led,T.plain⟩,by rw [T.pl]⟩
 apply qaY.mp
 show (SetTable.insertAt t.place (SetTable.below t.place k) k).toList=_
 rw [qb9,T.pl,rR hm hk h1]
theorem sT (h:m &&& d=0) (h2:d.testBit k=false):(m ||| 1 <<< k) &&& d=0:=by
 apply qcd
 intro j
 have:=congrArg (λx=>x.testBit j) h
 simp only [qdr,qbK] at this
 rw [qdr,qbO,fH,qbK]
 by_cases e:k=j
 ·subst e;rw [h2,qfE]
 ·rw [decide_eq_false e,qdl,this]
theorem dI.lay (T:dI b t m d) (hm:m < 64) (hk:k < 6) (h1:m.testBit k=false) (hd:d < 64) (h2:d.testBit k=false) (h:m &&& d=0) (f:Nat->Tok) (tk:Tok) :
  layNew t (aB m f) k (.int k tk)=(aB (m ||| 1 <<< k) (λj=>if j=k then tk else f j),(t.put k).1,false,false):=by
 have T':=T.put hm hk h1 hd h2
 have hf:=T'.1.fits (n4 hm hk) hd (sT h h2) (λj=>if j=k then tk else f j)
 unfold layNew
 rw [T.free hm hd hk h1 h2]
 dsimp only
 rw [T'.2,aB.ins f tk hm hk h1]
 unfold SetTable.orStandIn
 rw [hf];rfl
theorem ij {n:Nat} (h:n < 32):SetTable.sizeAbove n - 1 ∈ gZ/\SetTable.sizeAbove n<=32:=by
 have:∀ n:Fin 32,SetTable.sizeAbove n.1 - 1 ∈ gZ/\SetTable.sizeAbove n.1<=32:=by decide +kernel
 exact this ⟨n,h⟩
theorem vw (n:Nat):coversAll (Array.range n) n=true:=by
 unfold coversAll
 rw [qgx]
 exact List.isPerm_iff.mpr (qbE _)
theorem iN {α:Type} (es:Array α):(Array.range es.size).filterMap (es[·]?)=es:=by
 apply qaY.mp
 rw [qdW,qgx]
 exact filterMap_getElem?_range es
theorem dI.relaid (T:dI b t m d) (hm:m < 64) {n:Nat} (hn:n < 32):∃ t',dI b t' m 0/\t.relaid ((al m).map λ(k:Nat)=>(k:Int)).toArray n=some (t',Array.range (al m).length):=by
 unfold SetTable.relaid
 rw [sX hm (ij hn).1]
 refine⟨_,?_,rfl⟩
 exact⟨(ij hn).1,rfl,by simp [al],T.led,T.plain⟩
theorem dI.relayAll (T:dI b t m d) (hm:m < 64) (f:Nat->Tok) {n:Nat} (hn:n < 32):∃ t',dI b t' m 0/\relayAll t (aB m f) n=(aB m f,t',false):=by
 obtain⟨t',T',e⟩:=T.relaid hm hn
 refine⟨t',T',?_⟩
 unfold PySem.relayAll
 rw [aB.hashes,e]
 dsimp only
 have h0:m &&& 0=0:=qea m
 rw [<-aB.size m f,vw,iN,T'.fits hm (by decide) h0 f]
 rfl
end
noncomputable def byT (w:World):Bool:=w.params.followText "set-order"
noncomputable def yC (w:World) (o:Obj) (m d:Nat):Prop:=m < 64/\d < 64/\m &&& d=0/\o.ExactSet/\∃ f ep t,o.data=.set (aB m f) ep t/\dI (byT w) t m d
noncomputable def aC (w:World) (h:Heap) (a:Addr) (m d:Nat):Prop:=∃ o,h.get? a=some o/\yC w o m d
theorem sq:∀ k:_root_.Fin 6,hashInt ((k.1:Nat):Int)=(k.1:Int):=by decide +kernel
theorem oa {k:Nat} (hk:k < 6):hashInt (k:Int)=k:=sq ⟨k,hk⟩
section
variable {prog:Program}{w:World}{A:Around}{E:Value->Shared->Prop}{s:Shared}{a:Addr}{m d k:Nat}
theorem aC.type (S:aC w s.heap a m d):s.TypeIs (.ref a) "set":=let ⟨o,ho,_,_,_,hx,_⟩:=S;⟨o,ho,hx.1⟩
theorem aC.at' {h h':Heap} (S:aC w h a m d) (e:∀ o,h.get? a=some o->h'.get? a=some o):aC w h' a m d:=let ⟨o,ho,r⟩:=S;⟨o,e o ho,r⟩
theorem uw (m:Nat) (f:Nat->Tok):ElemsOf (intKind prog w) (aB m f).toList:=by
 intro e he
 rw [aB.toList] at he
 obtain⟨j,hj,rfl⟩:=qaB.mp he
 exact⟨⟨(j:Int),qfm _ _ _ _,(oa (sV hj)).symm⟩,rfl⟩
noncomputable def AE (m k:Nat):Bool:=(al m).findIdx? (λj=>j==k)==(if m.testBit k then some (SetTable.below (al m).toArray k) else none)
theorem vC:∀ m:_root_.Fin 64,∀ k:_root_.Fin 6,AE m.1 k.1=true:=by decide +kernel
theorem v7 (hm:m < 64) (hk:k < 6) (f:Nat->Tok):(aB m f).toList.findIdx? (λe=>(intKind prog w).is (k:Int) e.2)=(if m.testBit k then some (SetTable.below (al m).toArray k) else none):=by
 rw [<-eq_of_beq (vC ⟨m,hm⟩ ⟨k,hk⟩),aB.toList,List.findIdx?_map]
 congr 1
 funext j
 show (((j:Int))==(k:Int))=(j==k)
 by_cases e:j=k
 ·subst e;simp
 ·rw [beq_false_of_ne e,beq_false_of_ne (by lia)]
theorem ln (hm:m < 64) (f:Nat->Tok):(aB m f).size < scanBound:=by
 have:=fI hm
 rw [aB.size];unfold scanBound;lia
theorem dW {o:Obj}{es:Array (Int×Value)}{ep:Nat}{t t':SetTable}{m' d':Nat}{f':Nat->Tok}{h:Heap} (ho:h.get? a=some o) (hx:o.ExactSet) (hd:o.data=.set es ep t) (h1:m' < 64) (h2:d' < 64) (h3:m' &&& d'=0) (T:dI (byT w) t' m' d') :
  ∃ o',(h.update a (Obj.putSet (aB m' f') t')).get? a=some o'/\o'.ExactSet/\o'.data=.set (aB m' f') (ep+1) t'/\aC w (h.update a (Obj.putSet (aB m' f') t')) a m' d':=by
 have hg:(h.update a (Obj.putSet (aB m' f') t')).get? a=some { o with data:=.set (aB m' f') (ep+1) t' }:=by
  have:=qbb (Obj.putSet (aB m' f') t') ho (by rw [qgT _ t' hd];rfl)
  rw [qgT _ t' hd] at this;exact this
 exact⟨_,hg,hx,rfl,_,hg,h1,h2,h3,hx,f',ep+1,t',rfl,T⟩
theorem dq {m:Nat} (hm:m < 64) (f:Nat->Tok):(aB m f).size<=sizeLine:=by
 have:=fI hm
 rw [aB.size,qbi];lia
theorem qx (h:m.testBit k=true):m ||| 1 <<< k=m:=by
 apply qcd
 intro j
 rw [qbO,fH]
 by_cases e:k=j
 ·subst e;rw [h];rfl
 ·rw [decide_eq_false e,qdl]
theorem oF {tk:Tok}{Q:Bool->Shared->Prop} (S:aC w s.heap a m d) (hk:k < 6) (hdk:m.testBit k=true\/d.testBit k=false)
  (h:∀ h' d' b,Heap.SameBut a s.heap h'->aC w h' a (m ||| 1 <<< k) d'->(d'=d\/d'=0)->Q b { s with heap:=h' }) :
  wpAny (model prog w) A (setAddHashed a (.int k tk) (k:Int)) Q E s:=by
 obtain⟨o,ho,hm,hd,h0,hx,f,ep,t,hdat,T⟩:=id S
 have hf:=T.fits hm hd h0 f
 have hel:=uw (prog:=prog) (w:=w) m f
 unfold setAddHashed setAddHashedIn
 refine qaT (qaa (qb0 ho hdat hf ?_))
 dsimp only
 rw [byScan_of (knd:=intKind prog w) rfl (ln hm f) hel]
 simp only [↓reduceIte]
 unfold setAddByScan
 refine qaa ?_
 refine qaa (qcu ?_)
 have key:(intKind prog w).is (k:Int) (.int k tk)=true:=qfm _ _ _ _
 have hh:(k:Int)=(intKind prog w).hash (k:Int):=(oa hk).symm
 refine qaa ?_
 rw [show setScan a (Value.int k tk) (k:Int) true (aB m f)=setScan a (Value.int k tk) ((intKind prog w).hash (k:Int)) true (aB m f) from by rw [<-hh]]
 refine qhy (knd:=intKind prog w) key ho hdat hf hel ?_
 rw [v7 hm hk f]
 cases hb:m.testBit k with
 | true=>
  rw [if_pos rfl]
  dsimp only
  refine qab (qab ?_)
  have e:s={ s with heap:=s.heap }:=by cases s;rfl
  have:=h s.heap d false (qdk a s.heap) (by rw [qx hb];exact S) (.inl rfl)
  rw [e];exact this
 | false=>
  rw [if_neg qal]
  dsimp only
  have hdk':d.testBit k=false:=by
   rcases hdk with z | z
   ·rw [hb] at z;cases z
   ·exact z
  rw [T.lay hm hk hb hd hdk' h0 f tk]
  dsimp only
  have T1:=(T.put hm hk hb hd hdk').1
  have h01:=sT (m:=m) h0 hdk'
  have hm1:=n4 hm hk
  refine qaa (m:=pure ()) (qab ?_)
  have hpl:(t.put k).1.plain=true:=T1.plain
  rw [if_pos hpl]
  refine qaa ?_
  rw [hashByValue_scannable 8 rfl]
  refine qab ?_
  dsimp only [plainKind]
  rw [if_pos rfl]
  refine qaa (qck ho hdat ?_ (dq hm1 _))
  obtain⟨o1,ho1,hx1,hd1,S1⟩:=dW (w:=w) (f':=λj=>if j=k then tk else f j) ho hx hdat hm1 hd h01 T1
  have hsb1:=qaN s.heap a (Obj.putSet (aB (m ||| 1 <<< k) (λj=>if j=k then tk else f j)) (t.put k).1)
  split
  ·have hn:SetTable.grown (aB (m ||| 1 <<< k) (λj=>if j=k then tk else f j)).size < 32:=by
    have:=fI hm1
    rw [aB.size];unfold SetTable.grown;split<;>lia
   obtain⟨t2,T2,e2⟩:=T1.relayAll hm1 (λj=>if j=k then tk else f j) hn
   rw [e2]
   dsimp only
   refine qaa (m:=pure ()) (qab ?_)
   refine qaa (qck ho1 hd1 ?_ (dq hm1 _))
   obtain⟨o2,ho2,hx2,hd2,S2⟩:=dW (w:=w) (f':=λj=>if j=k then tk else f j) ho1 hx1 hd1 hm1 (by decide) (qea _) T2
   refine qab (qab ?_)
   exact h _ 0 true (hsb1.trans (qaN _ a _)) S2 (.inr rfl)
  ·refine qab (qab ?_)
   exact h _ d true hsb1 S1 (.inl rfl)
end
theorem aJ:Slot "set_iterator" "__next__" "set_iterator.__next__":=
 .of (owner:="set_iterator") (n:="__next__") (by rw [qip,qgV];kernel_rfl) (by decide +kernel) (by decide +kernel) (by decide +kernel)
  (by first | exact .inl (by decide +kernel) | exact .inr (by decide +kernel)) (by rw [qdj];kernel_rfl)
theorem cJ:entryFor table "set_iterator.__next__" = some Builtin.«set_iterator.__next__»:=entryFor_of_tree (by kernel_rfl)
theorem mx:Manifest.owners.lookup (String.ofList ['r','o','t','a','r','e','t','i','_','t','e','s'].reverse)=some Manifest.sig_set_iterator:=by kernel_rfl
theorem de (a:Value):argsOk "set_iterator.__next__" ⟨[a],[]⟩:=by
 unfold argsOk;rw [signature?_of (id:="set_iterator.__next__") (n:=['_','_','t','x','e','n','_','_']) (o:=['r','o','t','a','r','e','t','i','_','t','e','s']) (by kernel_rfl) mx];kernel_rfl
theorem gC:Slot "set_iterator" "__iter__" "set_iterator.__iter__":=
 .of (owner:="set_iterator") (n:="__iter__") (by rw [qip,qgV];kernel_rfl) (by decide +kernel) (by decide +kernel) (by decide +kernel)
  (by first | exact .inl (by decide +kernel) | exact .inr (by decide +kernel)) (by rw [qdj];kernel_rfl)
theorem jZ:entryFor table "set_iterator.__iter__" = some Builtin.«dict_keyiterator.__iter__»:=
 qeQ (id':="dict_keyiterator.__iter__") (by kernel_rfl) rfl (by decide +kernel) (by kernel_rfl)
theorem lW (a:Value):argsOk "set_iterator.__iter__" ⟨[a],[]⟩:=by
 unfold argsOk;rw [signature?_of (id:="set_iterator.__iter__") (n:=['_','_','r','e','t','i','_','_']) (o:=['r','o','t','a','r','e','t','i','_','t','e','s']) (by kernel_rfl) mx];kernel_rfl
theorem gk:entryFor table "set.__iter__" = some Builtin.«frozenset.__iter__»:=
 qeQ (id':="frozenset.__iter__") (by kernel_rfl) rfl (by decide +kernel) (by kernel_rfl)
noncomputable def bz (w:World) (h:Heap) (a:Addr) (m d:Nat) (f:Nat->Tok) (ep:Nat):Prop:=m < 64/\d < 64/\m &&& d=0/\∃ o t,h.get? a=some o/\o.ExactSet/\o.data=.set (aB m f) ep t/\dI (byT w) t m d
theorem aC.dat {w:World}{h:Heap}{a:Addr}{m d:Nat} (S:aC w h a m d):∃ f ep,bz w h a m d f ep:=let ⟨o,ho,h1,h2,h3,hx,f,ep,t,hd,T⟩:=S;⟨f,ep,h1,h2,h3,o,t,ho,hx,hd,T⟩
theorem bz.at' {w:World}{h h':Heap}{a:Addr}{m d ep:Nat}{f:Nat->Tok} (S:bz w h a m d f ep) (e:∀ o,h.get? a=some o->h'.get? a=some o):bz w h' a m d f ep:=let ⟨h1,h2,h3,o,t,ho,r⟩:=S;⟨h1,h2,h3,o,t,e o ho,r⟩
noncomputable def gB (w:World) (a:Addr) (m:Nat) (f:Nat->Tok) (ep:Nat):Array (Int×Value):=if byT w then pickOrder (w.params.setOrder a ep) (aB m f) else aB m f
noncomputable def cn (h:Heap) (it a:Addr) (x:Nat) (i n ep:Nat):Prop:=∃ o,h.get? it=some o/\o.cls=.type "set_iterator"/\o.data=.fields #[.int x 0,.int i 0,.ref a,.int n 0,.int ep 0]
theorem cn.typeIs {s:Shared}{it a:Addr}{x i n ep:Nat} (h:cn s.heap it a x i n ep):s.TypeIs (.ref it) "set_iterator":=let ⟨o,ho,hc,_⟩:=h;⟨o,ho,hc⟩
theorem cn.at' {h h':Heap}{it a:Addr}{x i n ep:Nat} (z:cn h it a x i n ep) (e:∀ o,h.get? it=some o->h'.get? it=some o):cn h' it a x i n ep:=let ⟨o,ho,r⟩:=z;⟨o,e o ho,r⟩
theorem mj {α:Type}:∀ (l:List α) (i:Nat) (h:i < l.length),([l[i]]++l.eraseIdx i).Perm l
 | x::l,0,_=>qbE _
 | x::l,i+1,h=>by
  have ih:=mj l i (by simpa using h)
  simp only [List.getElem_cons_succ,List.eraseIdx_cons_succ]
  exact (List.Perm.swap x _ _).trans (List.Perm.cons x ih)
theorem fD {α:Type} (nx:Nat->Nat):∀ (fuel k:Nat) (l:List α) (out:Array α),l.length<=fuel->(pickOrder.go nx fuel k l out).toList.Perm (out.toList++l)
 | 0,k,l,out,h=>by
  have:l=[]:=qdQ.mp (Nat.le_zero.mp h)
  subst this
  simp [pickOrder.go]
 | fuel+1,k,[],out,h=>by simp [pickOrder.go]
 | fuel+1,k,x::l,out,h=>by
  unfold pickOrder.go
  have hlt:nx k % (x::l).length < (x::l).length:=qjF _ (by simp)
  rw [qaH hlt]
  dsimp only
  refine (fD nx fuel (k+1) ((x::l).eraseIdx (nx k % (x::l).length)) _ (by rw [List.length_eraseIdx_of_lt hlt];simp at h ⊢;lia)).trans ?_
  rw [qgJ,qbD]
  refine List.Perm.append_left _ ?_
  exact mj _ _ hlt
theorem mn (w:World) (a:Addr) (m:Nat) (f:Nat->Tok) (ep:Nat):(gB w a m f ep).toList.Perm (aB m f).toList:=by
 unfold gB
 split
 ·unfold pickOrder
  exact (fD _ _ _ _ _ (by simp)).trans (by simp)
 ·exact qbE _
theorem iI (w:World) (a:Addr) (m:Nat) (f:Nat->Tok) (ep:Nat):(gB w a m f ep).size=(al m).length:=by
 have:=(mn w a m f ep).length_eq
 rw [qav,qav,aB.size] at this;exact this
section
variable {prog:Program}{w:World}{A:Around}{E:Value->Shared->Prop}{s:Shared}{a it:Addr}{m d ep i:Nat}{f:Nat->Tok}
theorem bz.state {Q:(Array (Int×Value)×Nat×SetTable)->Shared->Prop} (S:bz w s.heap a m d f ep) (h:∀ t,dI (byT w) t m d->Q (aB m f,ep,t) s):wpAny (model prog w) A (setState a) Q E s:=by
 obtain⟨h1,h2,h3,o,t,ho,hx,hd,T⟩:=S
 exact qb0 ho hd (T.fits h1 h2 h3 f) (h t T)
theorem cP {Q:Bool->Shared->Prop} (h:Q (byT w) s):wpAny (model prog w) A setsByText Q E s:=by
 unfold setsByText
 exact qaa (qee (qab h))
theorem bz.walk {Q:Array (Int×Value)->Shared->Prop} (S:bz w s.heap a m d f ep) (h:Q (gB w a m f ep) s):wpAny (model prog w) A (setWalk a) Q E s:=by
 unfold setWalk
 refine qaa (S.state λt T=>?_)
 dsimp only
 refine qaa (cP ?_)
 unfold gB at h
 cases hb:byT w with
 | true=>
  rw [hb,if_pos rfl] at h
  rw [if_pos rfl]
  exact qaa (qee (qab h))
 | false=>
  rw [hb,if_neg qal] at h
  rw [if_neg qal]
  have hl:t.led=true:=by rw [T.led,hb];rfl
  refine qcl (λz=>?_) λ_=>?_
  ·exfalso
   revert z
   show ¬ ((!t.plain && _)=true)
   rw [T.plain];simp
  ·refine qaa (Q:=_) ?_
   show wpAny _ _ (if (!t.led && _)=true then _ else _) _ _ _
   rw [hl]
   simp only [qa2,qdD,qap,↓reduceIte]
   exact qab (qab h)
theorem ww {Q:Value->Shared->Prop} (S:bz w s.heap a m d f ep)
  (hQ:Q (.ref s.heap.objs.size) { s with heap:=s.heap.push { cls:=.type "set_iterator",data:=.fields #[.int 0 0,.int 0 0,.ref a,.int (al m).length 0,.int ep 0] } }) :
  wpAny (model prog w) A (pyIter (.ref a)) Q E s:=by
 have hT:s.TypeIs (.ref a) "set":=let ⟨_,_,_,o,t,ho,hx,_⟩:=S;⟨o,ho,hx.1⟩
 refine qd0 hT qc4 (qaU qc4 hT gk ?_ (qfo _))
 unfold Builtin.«frozenset.__iter__» Builtin.Frozenset.slot0 slotArgs
 simp only [qb4,qa2,qap,↓reduceIte,bind_assoc,qba,bne_self_eq_false]
 unfold Builtin.Frozenset.addrOf Builtin.Frozenset.sizeOf setEntries setDrawn
 refine qaa (qab ?_)
 try dsimp only
 refine qaa (qab ?_)
 refine qaa (qaa (qaa (S.state λt T=>qab (qab ?_))))
 refine qaa (qaa (S.state λt T=>?_))
 dsimp only
 refine qaa (cP (qab ?_))
 have e0:(!byT w && (!t.plain && decide ((aB m f).size > 1)))=false:=by rw [T.plain];simp
 refine qcl (λz=>absurd (z.symm.trans (show _=false from e0)) (by simp)) λ_=>?_
 refine qaa (qab ?_)
 unfold setEpoch
 refine qaa (qaa (S.state λt T=>qab ?_))
 simp only [newFields]
 refine qaa (qaS (qab ⟨_,rfl,"set_iterator",_,⟨_,qao _ rfl,rfl⟩,aJ.lookup,?_⟩))
 simpa [rawInt,aB.size] using hQ
end
section
variable {prog:Program}{w:World}{A:Around}{E:Value->Shared->Prop}{s:Shared}{a it:Addr}{m d ep i:Nat}{f:Nat->Tok}
noncomputable def fg (w:World) (m i:Nat):Nat:=if byT w then 0 else lD m i
theorem bz.next {Q:Option (Value×Nat)->Shared->Prop} (S:bz w s.heap a m d f ep) (hi:i<=(al m).length)
  (h:Q ((gB w a m f ep)[i]?.map λe=>(e.2,fg w m (i+1))) s):wpAny (model prog w) A (setNext a (fg w m i) i ep) Q E s:=by
 have hm:m < 64:=S.1
 unfold setNext
 refine qaa (S.state λt T=>?_)
 dsimp only
 refine qaa (cP ?_)
 cases hb:byT w with
 | true=>
  rw [if_pos rfl]
  simp only [bne_self_eq_false,qap,↓reduceIte]
  refine qaa (S.walk (qab ?_))
  unfold fg at h
  rw [hb,if_pos rfl] at h
  unfold fg
  rw [hb,if_pos rfl]
  exact h
 | false=>
  rw [if_neg qal]
  have hl:t.led=true:=by rw [T.led,hb];rfl
  refine qcl (λz=>?_) λ_=>?_
  ·exfalso
   revert z
   show ¬ ((!t.plain && _)=true)
   rw [T.plain];simp
  ·refine qaa (Q:=_) ?_
   show wpAny _ _ (if (!t.led && _)=true then _ else _) _ _ _
   rw [hl]
   simp only [qa2,qdD,qap,↓reduceIte]
   refine qab ?_
   unfold fg at h
   rw [hb,if_neg qal] at h
   unfold gB at h
   rw [hb,if_neg qal] at h
   unfold fg
   rw [hb,if_neg qal,T.pl,zA hm hi]
   refine qab ?_
   by_cases hlt:i < (al m).length
   ·have e1:(aB m f)[i]?=some (((al m)[i]:Int),Value.int ((al m)[i]:Nat) (f (al m)[i])):=by
     rw [<-qa8,aB.toList,qaW,qaH hlt];rfl
    have e2:(al m).toArray[i]?=some (al m)[i]:=by simp [hlt]
    rw [e1,e2]
    rw [e1] at h
    have e3:lD m (i+1)=(al m)[i]+1:=by
     unfold lD
     rw [if_neg (by lia)]
     simp [qbk,hlt]
    rw [e3] at h
    exact h
   ·have e1:(aB m f)[i]?=none:=qaR (by rw [aB.size];lia)
    rw [e1] at h ⊢
    exact h
theorem mQ {Q:Option Value->Shared->Prop} (hit:cn s.heap it a (fg w m i) i (al m).length ep) (S:bz w s.heap a m d f ep) (hi:i < (al m).length) {e:Int×Value} (he:(gB w a m f ep)[i]?=some e)
  (hQ:∀ h',cn h' it a (fg w m (i+1)) (i+1) (al m).length ep->Heap.SameBut it s.heap h'->Q (some e.2) { s with heap:=h' }) :
  wpAny (model prog w) A (pyNext (.ref it)) Q E s:=by
 obtain⟨o,ho,hc,hd⟩:=id hit
 unfold pyNext
 refine qaa (qda (qbc (name:=Str.ofString "__next__") hit.typeIs aJ
  (qaU aJ hit.typeIs cJ ?_ (de _))))
 unfold Builtin.«set_iterator.__next__» slotArgs
 simp only [qb4,qa2,qap,↓reduceIte,qba,bne_self_eq_false]
 refine qaa (qab ?_)
 dsimp only
 unfold fieldsOf
 dsimp only
 refine qaa ?_
 refine qaa (qdy ho ?_)
 rw [hd]
 refine qab ?_
 dsimp only
 unfold setEntries
 refine qaa (qaa (S.state λt T=>qab ?_))
 have e1:(((aB m f).size:Int) != ((al m).length:Int))=false:=by rw [aB.size];simp
 dsimp only
 rw [if_neg (by rw [e1];exact qal)]
 refine qaa ?_
 simp only [qaX]
 refine S.next (qcA hi) ?_
 rw [he]
 dsimp only [Option.map]
 refine qaa (qbZ ho hd (by simp) ?_)
 have ho1:=qbb (Obj.mapFields λxs=>xs.setIfInBounds 0 (rawInt (fg w m (i+1)))) ho (qb8 (qbh hd _))
 have hd1:=qbh hd (λxs=>xs.setIfInBounds 0 (rawInt (fg w m (i+1))))
 refine qaa (qbZ ho1 hd1 (by simp) (qab ⟨e.2,rfl,qab (hQ _ ?_ ((qaN ..).trans (qaN ..)))⟩))
 refine⟨_,qbb _ ho1 (qb8 (qbh hd1 _)),(qcC ..).trans ((qcC ..).trans hc),?_⟩
 rw [qbh hd1];simp [rawInt]
theorem oA {Q:Option Value->Shared->Prop} (hh:A.handled=none) (hit:cn s.heap it a (fg w m (al m).length) (al m).length (al m).length ep) (S:bz w s.heap a m d f ep)
  (hQ:∀ h',Heap.ExtBut it s.heap h'->Q none { s with heap:=h' }):wpAny (model prog w) A (pyNext (.ref it)) Q E s:=by
 obtain⟨o,ho,hc,hd⟩:=id hit
 unfold pyNext
 refine qaa (qda (qbc (name:=Str.ofString "__next__") hit.typeIs aJ
  (qaU aJ hit.typeIs cJ ?_ (de _))))
 unfold Builtin.«set_iterator.__next__» slotArgs
 simp only [qb4,qa2,qap,↓reduceIte,qba,bne_self_eq_false]
 refine qaa (qab ?_)
 dsimp only
 unfold fieldsOf
 dsimp only
 refine qaa ?_
 refine qaa (qdy ho ?_)
 rw [hd]
 refine qab ?_
 dsimp only
 unfold setEntries
 refine qaa (qaa (S.state λt T=>qab ?_))
 have e1:(((aB m f).size:Int) != ((al m).length:Int))=false:=by rw [aB.size];simp
 dsimp only
 rw [if_neg (by rw [e1];exact qal)]
 refine qaa ?_
 simp only [qaX]
 refine S.next (qan _) ?_
 rw [qaR (by rw [iI];exact qan _)]
 dsimp only [Option.map]
 refine qaa (qbZ ho hd (by simp) ?_)
 show wpAny _ _ (newExc (.type "StopIteration") [] >>= _) _ _ _
 refine qaa ?_
 simp only [newExc,newTuple]
 refine qaa (qaS ?_ (by size_fits))
 refine qaa (m:=firstArgMember _ _) (qdE (a:=Value.none) (by first | rfl | (simp only [firstArgMember];rfl)) ?_)
 refine qaS ?_ (by size_fits)
 simp only [raiseNew]
 refine qaa (qe8 ?_)
 rw [show A.in1.handled=none from hh]
 refine qaa (qab (qfX ?_))
 refine qaa (qcU (T:="StopIteration") (b:=true) ⟨_,qao _ rfl,rfl⟩ qgg ?_)
 exact qab (hQ _ (((qaN ..).extBut.push _).push _))
theorem qR {x i n:Nat}{Q:Value->Shared->Prop} (hit:cn s.heap it a x i n ep) (h:Q (.ref it) s):wpAny (model prog w) A (pyIter (.ref it)) Q E s:=by
 refine qd0 hit.typeIs gC (qaU gC hit.typeIs jZ ?_ (lW _))
 show wpAny _ _ (ret (.ref it)) _ _ s
 exact qab ⟨_,rfl,"set_iterator",_,hit.typeIs,aJ.lookup,h⟩
theorem uy (hh:A.handled=none) (I a:Addr) (hne:a≠I) (m d ep:Nat) (f:Nat->Tok) :
  Walks prog w A I [I,a] [I] (al m).length (λi v=>∃ e,(gB w a m f ep)[i]?=some e/\v=e.2) (λi h=>cn h I a (fg w m i) i (al m).length ep/\bz w h a m d f ep) where
 sub:=λb hb=>by simp at hb;simp [hb]
 frame:=λ_ _ _ st hk=>⟨st.1.at' λo e=>hk I (by simp) o e,st.2.at' λo e=>hk a (by simp) o e⟩
 item:=λi s Q E hi st hQ=>by
  obtain⟨e,he⟩:∃ e,(gB w a m f ep)[i]?=some e:=⟨_,qar (by rw [iI];exact hi)⟩
  refine mQ st.1 st.2 hi he λh' hit' hs'=>?_
  exact hQ _ h' s.toks ⟨e,he,rfl⟩ ⟨hit',st.2.at' λo q=>hs'.extBut a o hne q⟩ λb o hb q=>hs'.extBut b o (λh=>hb (by simp [h])) q
 done:=λs Q E st hQ=>oA hh st.1 st.2 λh' he'=>hQ h' s.toks λb o hb e=>he' b o (λh=>hb (by simp [h])) e
 self:=λ_ _ _ _ st hQ=>qR st.1 hQ
theorem pP {Q:Bool->Shared->Prop} (hT:s.TypeIs (.ref a) "set") (h:Q false s):wpAny (model prog w) A (Builtin.List.listLengthHint (.ref a)) Q E s:=by
 unfold Builtin.List.listLengthHint
 refine qaa (qfY hT PySem.F.slot_set_len.lookup ?_)
 generalize hid:("set.__len__" : String)=id0
 wp_delta
 rw [show splitId id0=some ("set","__len__") from by subst hid;decide +kernel]
 subst hid
 refine qaa (qcU (T:="set") (b:=true) hT (by rw [qdj];kernel_rfl) ?_)
 refine qcl (λhab=>absurd hab (by decide)) (λ_=>?_)
 refine qcl (λ_=>?_) (λhab=>absurd (by decide +kernel) hab)
 refine qaa (qes hT ?_)
 exact qab h
theorem yK (prog:Program) (w:World) (a:Addr) (m d ep:Nat) (f:Nat->Tok):PySem.W.KdlSrc prog w "set" a a (al m).length (λi v=>∃ e,(gB w a m f ep)[i]?=some e/\v=e.2) (λh=>bz w h a m d f ep) where
 type:=λs S=>let ⟨_,_,_,o,t,ho,hx,_⟩:=S;⟨o,ho,hx.1⟩
 there:=λh S=>let ⟨_,_,_,o,t,ho,hx,_⟩:=S;⟨qak ho,qak ho⟩
 keep:=λh h' S hk=>S.at' λo e=>hk a (.inl rfl) o e
 notList:=by decide
 notTuple:=by decide
 hint:=λA E s Q S h=>pP (let ⟨_,_,_,o,t,ho,hx,_⟩:=S;⟨o,ho,hx.1⟩) h
 iter:=λA s hh S=>⟨_,_,λE Q h=>ww S h,uy hh s.heap.objs.size a (let ⟨_,_,_,o,t,ho,hx,_⟩:=S;qam (qak ho)) m d ep f,
  ⟨⟨_,qao _ rfl,rfl,by unfold fg lD;split<;>rfl⟩,S.at' λo e=>qad _ e⟩⟩
end
noncomputable def aq (l:List Int):Nat:=l.foldl (λm k=>m ||| 1 <<< k.toNat) 0
noncomputable def in6 (l:List Int):Bool:=l.all λk=>decide (0<=k/\k < 6)
theorem pM (l:List Int) (k:Int):aq (l++[k])=aq l ||| 1 <<< k.toNat:=by unfold aq;rw [qgO];rfl
theorem qA {l:List Int}{i:Nat} (h:i < l.length):aq (l.take (i+1))=aq (l.take i) ||| 1 <<< (l.getD i 0).toNat:=by
 rw [qc5,qaH h]
 show aq (l.take i++[l[i]])=_
 rw [pM,qbk,qaH h];rfl
theorem zp {l:List Int} (h:in6 l=true) {i:Nat} (hi:i < l.length):0<=l.getD i 0/\l.getD i 0 < 6:=by
 have:=qaw.mp h l[i] (qdU hi)
 rw [qbk,qaH hi]
 simpa using this
section
variable {prog:Program}{w:World}{A:Around}{E:Value->Shared->Prop}{s:Shared}
theorem nj (led:Bool) (hl:led=!byT w):yC w { cls:=.type "set",dict:=none,data:=.set #[] 0 (.fresh 0 0 led) } 0 0:=
 ⟨by decide,by decide,rfl,⟨rfl,rfl,rfl⟩,λ_=>0,0,.fresh 0 0 led,by simp [aB,al],⟨by simp [SetTable.fresh,gZ],by simp [SetTable.fresh,al],by simp [SetTable.fresh,al],hl,rfl⟩⟩
end
section
variable {prog:Program}{w:World}{A:Around}{R:Result->Shared->Prop}{I:Addr}{fp wr:List Addr}{G:Array GenState->Array GenState->Prop}{P:Nat->Value->Prop}{St:Nat->Shared->Prop}
theorem qh {ns:List Int} (W:WalksS prog w A.in1 I fp wr G ns.length P St) (S:Addr) (hSf:S ∉ fp) (hval:∀ i v,P i v->∃ t,v=.int (ns.getD i 0) t) (h6:in6 ns=true) :
  ∀ (k i:Nat) (s:Shared),ns.length - i=k->i<=ns.length->St i s->aC w s.heap S (aq (ns.take i)) 0->
   (∀ s',Moved (S::wr) G s s'->aC w s'.heap S (aq ns) 0->R (.ok (.ret .none)) s')->
   codeAny (model prog w) A (.builtin "set.update.loop" ⟨[.ref S,.ref I],[]⟩) R s:=by
 have hSw:S ∉ wr:=λh=>hSf (W.sub _ h)
 have hsub:∀ b ∈ wr,b ∈ S::wr:=λb hb=>qaf _ hb
 intro k
 induction k with
 | zero=>
  intro i s hk hi hst hS hR
  have hin:i=ns.length:=by lia
  subst hin
  refine qa7 qbN ?_
  rw [qbF qbd _]
  show wpAny _ A.in1 (pyNext (.ref I) >>= _) _ _ s
  refine qaa (W.done s _ _ hst λs' hm=>?_)
  show wpAny _ A.in1 (ret Value.none) _ _ s'
  refine qab (hR s' (hm.mono hsub) ?_)
  rw [qbQ] at hS
  exact hS.at' λo e=>hm.heap S _ hSw e
 | succ k ih=>
  intro i s hk hi hst hS hR
  have hlt:i < ns.length:=by lia
  refine qa7 qbN ?_
  rw [qbF qbd _]
  show wpAny _ A.in1 (pyNext (.ref I) >>= _) _ _ s
  refine qaa (W.item i s _ _ hlt hst λv s' hP hst' hm=>?_)
  obtain⟨t,rfl⟩:=hval i v hP
  have hS':aC w s'.heap S (aq (ns.take i)) 0:=hS.at' λo e=>hm.heap S _ hSw e
  obtain⟨hg0,hg6⟩:=zp h6 hlt
  have hbt:=qA hlt
  generalize hgv:ns.getD i 0=g at hg0 hg6 hbt ⊢
  obtain⟨g',rfl⟩:=qcn hg0
  have hg6':g' < 6:=by lia
  rw [qaX] at hbt
  show wpAny _ A.in1 (holding [Value.int (g':Int) t] (setAdd S (.int (g':Int) t)) >>= _) _ _ s'
  refine qaa (qaT ?_)
  unfold setAdd
  refine qaT ?_
  refine qaa ((intKind prog w).pyHash (k:=(g':Int)) (qfm _ _ _ _) ?_)
  rw [show (intKind prog w).hash ((g':Nat):Int)=(g':Int) from oa hg6']
  refine oF (s:={ s' with toks:=s'.toks+1 }) hS' hg6' (.inr (qbK _)) λh' d' b hsb hS2 hd'=>?_
  have hd0:d'=0:=by rcases hd' with z | z<;>exact z
  subst hd0
  rw [<-hbt] at hS2
  refine qab ⟨qdc qbd _,ih (i+1) _ (by lia) hlt (W.frame _ s' _ _ hst' (qcm _) λb hb o e=>?_) hS2 λs'' hm'' hS''=>?_⟩
  ·rw [hsb.2 b (λh:b=S=>hSf (by rw [<-h];exact hb))];exact e
  ·refine hR s'' (qht W.gtrans ((hm.mono hsub).then_heap (qcm _) λb o hb e=>?_) hm'') hS''
   rw [hsb.2 b (λh:b=S=>hb (by rw [h];exact qah))];exact e
end
section
variable {prog:Program}{w:World}{A:Around}{E:Value->Shared->Prop}{s:Shared}
theorem d4 (a:Value) {Q₁:Value->Shared->Prop}
  (h:Q₁ (.ref s.heap.objs.size) { s with heap:=s.heap.push { cls:=.type "set",dict:=none,data:=.set #[] 0 (.fresh 0 0 (!byT w)) } }) :
  codeAny (model prog w) A (.call (.builtin "set.__new__") ⟨[.type "set",a],[]⟩) (wants Q₁ E) s:=by
 refine qey ?_
 show wpAny _ A.in1 (do checkBuiltinCall "set.__new__" ⟨[.type "set",a],[]⟩;again (.builtin "set.__new__" ⟨[.type "set",a],[]⟩)) _ _ s
 refine qaa (qdE (PySem.F.newCall_set_1 a) (qab ⟨qdc qfL _,qa7 PySem.F.entry_set_new ?_⟩))
 rw [qbF qfL _]
 unfold Builtin.«set.__new__» Builtin.Frozenset.newClass
 have hsub:=sub_set_self
 obtain⟨hp,g,d,tk,os⟩:=s
 dsimp only
 wp_walk
 refine qee (qab ?_)
 dsimp only
 simp only [newObj]
 refine qaa (qg3 (qab ?_))
 exact qab h
theorem mC:isSubtype (.type "tuple") (.type "set")=pure false:=by rw [qdj];kernel_rfl
theorem gN:isSubtype (.type "tuple") (.type "frozenset")=pure false:=by rw [qdj];kernel_rfl
set_option maxHeartbeats 3200000 in
theorem mE {l:Addr}{items:Array Value}{ns:List Int}{Q:Value->Shared->Prop}
  (hh:A.handled=none) (hl:s.heap.IsList l items) (hi:PyProof.Rows.IntsAre items.toList ns) (h6:in6 ns=true)
  (h:∀ (h':Heap) (tk:Nat),aC w h' s.heap.objs.size (aq ns) 0->
    (∀ b o,b < s.heap.objs.size->s.heap.get? b=some o->h'.get? b=some o)->Q (.ref s.heap.objs.size) { s with heap:=h',toks:=tk }) :
  wpAny (model prog w) A (call (.type "set") [.ref l]) Q E s:=by
 obtain⟨c,tl,hmro⟩:=qaG.mro
 have hmade:=qaG.made
 have hsub:=qaG.sub
 refine qfk (qey ?_)
 show wpAny _ _ (callAny (.type "set") _) _ _ _
 refine qab ⟨qcq _ (by decide +kernel),qa7 qdG ?_⟩
 rw [qeq (qew "set" [.ref l] []) rfl]
 have h1:=qaG.notType
 have h2:=qaG.canCreate
 have hct:=qdK (.ref l)
 repeat (any_goals (first | assumption | wp_step))
 refine qcI (d4 (.ref l) (E:=E) (Q₁:=λobj s₁=>obj=.ref s.heap.objs.size/\s₁={ s with heap:=s.heap.push { cls:=.type "set",dict:=none,data:=.set #[] 0 (.fresh 0 0 (!byT w)) } }) ⟨rfl,rfl⟩) λr s₁ hr=>?_
 cases r with
 | error e=>exact hr
 | ok fl=>
  cases fl with
  | ret obj=>
   obtain⟨rfl,rfl⟩:=hr
   have hS:(s.heap.push { cls:=.type "set",dict:=none,data:=.set #[] 0 (.fresh 0 0 (!byT w)) }).get? s.heap.objs.size=some { cls:=.type "set",dict:=none,data:=.set #[] 0 (.fresh 0 0 (!byT w)) }:=qao _ rfl
   have hT:Shared.TypeIs { s with heap:=s.heap.push { cls:=.type "set",dict:=none,data:=.set #[] 0 (.fresh 0 0 (!byT w)) } } (.ref s.heap.objs.size) "set":=⟨_,hS,rfl⟩
   have hli:=qaG.init.lookup
   have hbi:=qaG.init.bind (.ref s.heap.objs.size)
   repeat (any_goals (first | assumption | wp_step))
   refine qcI (qdt (R:=wants (λr s₂=>r=.none/\∃ h' tk,s₂={ s with heap:=h',toks:=tk }/\
     aC w h' s.heap.objs.size (aq ns) 0/\
     (∀ b o,b < s.heap.objs.size->s.heap.get? b=some o->h'.get? b=some o)) E) qaG.init.plain qdM (qfI hT ?_)) λr₂ s₂ hr₂=>?_
   ·generalize hled:(!byT w)=led at hS hT ⊢
    obtain⟨ol,hol,hcl,nl,hdl⟩:=hl
    obtain⟨ocls,odict,odata,oslots⟩:=ol
    simp only at hcl hdl
    subst hcl;subst hdl
    have hol':(s.heap.push { cls:=.type "set",dict:=none,data:=.set #[] 0 (.fresh 0 0 led) }).get? l=some { cls:=.type "list",dict:=odict,data:=.seq items nl,slots:=oslots }:=qad _ hol
    have hsls:=qfS
    have hslf:=qeX
    have hne:(Value.type "list"==Value.type "dict")=false:=by decide
    have hl1:(s.heap.push { cls:=.type "set",dict:=none,data:=.set #[] 0 (.fresh 0 0 led) }).IsList l items:=⟨_,hol',rfl,nl,rfl⟩
    unfold Builtin.«set.__init__» noKeywords Builtin.Frozenset.updateFrom
    generalize hPI:pyIter=PI
    wp_walk
    subst hPI
    refine qdg hl1 ?_
    refine qaa (qdi ?_)
    have hlS:l < s.heap.objs.size:=qak hol
    have hh3:A.in1.in1.in1.handled=none:=by simp [hh]
    have hneI:l≠(s.heap.push { cls:=.type "set",dict:=none,data:=.set #[] 0 (.fresh 0 0 led) }).objs.size:=by
     rw [qa0];exact qam (qaF hlS)
    have hSf:s.heap.objs.size ∉ [(s.heap.push { cls:=.type "set",dict:=none,data:=.set #[] 0 (.fresh 0 0 led) }).objs.size,l]:=by
     rw [qa0];simp only [qaz,qay,qcP,or_false,not_or]
     exact⟨qam (qbt _),qa4 hlS⟩
    have hval:∀ (i:Nat) (v:Value),items[i]?=some v->∃ t,v=.int (ns.getD i 0) t:=λi v hv=>
     qdP hi i v (by rw [qa8];exact hv)
    have hlen:items.size=ns.length:=by
     have:=qdO hi
     rw [qav] at this;exact this
    have WW:=(qgC (prog:=prog) (w:=w) hh3 (s.heap.push { cls:=.type "set",dict:=none,data:=.set #[] 0 (.fresh 0 0 led) }).objs.size l hneI items).toS
    rw [hlen] at WW
    refine qh WW s.heap.objs.size hSf hval h6 (ns.length - 0) 0 _ (by lia) (qaI _)
     ⟨⟨_,qao _ rfl,rfl,rfl⟩,(hl1.push _)⟩ ?hS0 ?hR
    case hS0=>
     have hget:((s.heap.push { cls:=.type "set",dict:=none,data:=.set #[] 0 (.fresh 0 0 led) }).push { cls:=.type "list_iterator",data:=.fields #[.ref l,.int 0 0] }).get? s.heap.objs.size
       = some { cls:=.type "set",dict:=none,data:=.set #[] 0 (.fresh 0 0 led) }:=qad _ hS
     exact⟨_,hget,nj led hled.symm⟩
    case hR=>
     intro s' hm hS'
     obtain⟨h',g',d',tk',os'⟩:=s'
     have eg:g'=s.gens:=hm.gens
     have ed:d'=s.drawn:=hm.drawn
     have eo:os'=s.os:=hm.os
     subst eg;subst ed;subst eo
     show wpAny _ _ _ _ _ _
     refine qab ?_
     show wpAny _ _ (ret Value.none) _ _ _
     refine qab ⟨rfl,h',tk',rfl,hS',λb o hb e=>?_⟩
     have hb1:b≠s.heap.objs.size:=qam hb
     have hb2:b≠(s.heap.push { cls:=.type "set",dict:=none,data:=.set #[] 0 (.fresh 0 0 led) }).objs.size:=by
      rw [qa0];exact qam (qaF hb)
     exact hm.heap b o (by simp only [qaz,qay,qcP,or_false,not_or];exact⟨hb1,hb2⟩) (qad _ (qad _ e))
   ·cases r₂ with
    | error e=>exact hr₂
    | ok fl₂=>
     cases fl₂ with
     | ret r=>
      obtain⟨rfl,h',tk,rfl,hS',hk'⟩:=hr₂
      repeat (any_goals (first | assumption | wp_step))
      exact h _ _ hS' hk'
     | _=>exact hr₂.elim
  | _=>exact hr.elim
set_option maxHeartbeats 3200000 in
theorem ml {l:Addr}{items:Array Value}{ns:List Int}{Q:Value->Shared->Prop}
  (hh:A.handled=none) (hl:s.heap.IsTuple l items) (hi:PyProof.Rows.IntsAre items.toList ns) (h6:in6 ns=true)
  (h:∀ (h':Heap) (tk:Nat),aC w h' s.heap.objs.size (aq ns) 0->
    (∀ b o,b < s.heap.objs.size->s.heap.get? b=some o->h'.get? b=some o)->Q (.ref s.heap.objs.size) { s with heap:=h',toks:=tk }) :
  wpAny (model prog w) A (call (.type "set") [.ref l]) Q E s:=by
 obtain⟨c,tl,hmro⟩:=qaG.mro
 have hmade:=qaG.made
 have hsub:=qaG.sub
 refine qfk (qey ?_)
 show wpAny _ _ (callAny (.type "set") _) _ _ _
 refine qab ⟨qcq _ (by decide +kernel),qa7 qdG ?_⟩
 rw [qeq (qew "set" [.ref l] []) rfl]
 have h1:=qaG.notType
 have h2:=qaG.canCreate
 have hct:=qdK (.ref l)
 repeat (any_goals (first | assumption | wp_step))
 refine qcI (d4 (.ref l) (E:=E) (Q₁:=λobj s₁=>obj=.ref s.heap.objs.size/\s₁={ s with heap:=s.heap.push { cls:=.type "set",dict:=none,data:=.set #[] 0 (.fresh 0 0 (!byT w)) } }) ⟨rfl,rfl⟩) λr s₁ hr=>?_
 cases r with
 | error e=>exact hr
 | ok fl=>
  cases fl with
  | ret obj=>
   obtain⟨rfl,rfl⟩:=hr
   have hS:(s.heap.push { cls:=.type "set",dict:=none,data:=.set #[] 0 (.fresh 0 0 (!byT w)) }).get? s.heap.objs.size=some { cls:=.type "set",dict:=none,data:=.set #[] 0 (.fresh 0 0 (!byT w)) }:=qao _ rfl
   have hT:Shared.TypeIs { s with heap:=s.heap.push { cls:=.type "set",dict:=none,data:=.set #[] 0 (.fresh 0 0 (!byT w)) } } (.ref s.heap.objs.size) "set":=⟨_,hS,rfl⟩
   have hli:=qaG.init.lookup
   have hbi:=qaG.init.bind (.ref s.heap.objs.size)
   repeat (any_goals (first | assumption | wp_step))
   refine qcI (qdt (R:=wants (λr s₂=>r=.none/\∃ h' tk,s₂={ s with heap:=h',toks:=tk }/\
     aC w h' s.heap.objs.size (aq ns) 0/\
     (∀ b o,b < s.heap.objs.size->s.heap.get? b=some o->h'.get? b=some o)) E) qaG.init.plain qdM (qfI hT ?_)) λr₂ s₂ hr₂=>?_
   ·generalize hled:(!byT w)=led at hS hT ⊢
    obtain⟨ol,hol,hcl,nl,hdl⟩:=hl
    obtain⟨ocls,odict,odata,oslots⟩:=ol
    simp only at hcl hdl
    subst hcl;subst hdl
    have hol':(s.heap.push { cls:=.type "set",dict:=none,data:=.set #[] 0 (.fresh 0 0 led) }).get? l=some { cls:=.type "tuple",dict:=odict,data:=.seq items nl,slots:=oslots }:=qad _ hol
    have hsls:=mC
    have hslf:=gN
    have hne:(Value.type "tuple"==Value.type "dict")=false:=by decide
    have hl1:(s.heap.push { cls:=.type "set",dict:=none,data:=.set #[] 0 (.fresh 0 0 led) }).IsTuple l items:=⟨_,hol',rfl,nl,rfl⟩
    unfold Builtin.«set.__init__» noKeywords Builtin.Frozenset.updateFrom
    generalize hPI:pyIter=PI
    wp_walk
    subst hPI
    refine qc9 hl1 ?_
    refine qaa (qdi ?_)
    have hlS:l < s.heap.objs.size:=qak hol
    have hh3:A.in1.in1.in1.handled=none:=by simp [hh]
    have hneI:l≠(s.heap.push { cls:=.type "set",dict:=none,data:=.set #[] 0 (.fresh 0 0 led) }).objs.size:=by
     rw [qa0];exact qam (qaF hlS)
    have hSf:s.heap.objs.size ∉ [(s.heap.push { cls:=.type "set",dict:=none,data:=.set #[] 0 (.fresh 0 0 led) }).objs.size,l]:=by
     rw [qa0];simp only [qaz,qay,qcP,or_false,not_or]
     exact⟨qam (qbt _),qa4 hlS⟩
    have hval:∀ (i:Nat) (v:Value),items[i]?=some v->∃ t,v=.int (ns.getD i 0) t:=λi v hv=>
     qdP hi i v (by rw [qa8];exact hv)
    have hlen:items.size=ns.length:=by
     have:=qdO hi
     rw [qav] at this;exact this
    have WW:=(Walks.tuple (prog:=prog) (w:=w) hh3 (s.heap.push { cls:=.type "set",dict:=none,data:=.set #[] 0 (.fresh 0 0 led) }).objs.size l hneI items).toS
    rw [hlen] at WW
    refine qh WW s.heap.objs.size hSf hval h6 (ns.length - 0) 0 _ (by lia) (qaI _)
     ⟨⟨_,qao _ rfl,rfl,rfl⟩,(hl1.push _)⟩ ?hS0 ?hR
    case hS0=>
     have hget:((s.heap.push { cls:=.type "set",dict:=none,data:=.set #[] 0 (.fresh 0 0 led) }).push { cls:=.type "tuple_iterator",data:=.fields #[.ref l,.int 0 0] }).get? s.heap.objs.size
       = some { cls:=.type "set",dict:=none,data:=.set #[] 0 (.fresh 0 0 led) }:=qad _ hS
     exact⟨_,hget,nj led hled.symm⟩
    case hR=>
     intro s' hm hS'
     obtain⟨h',g',d',tk',os'⟩:=s'
     have eg:g'=s.gens:=hm.gens
     have ed:d'=s.drawn:=hm.drawn
     have eo:os'=s.os:=hm.os
     subst eg;subst ed;subst eo
     show wpAny _ _ _ _ _ _
     refine qab ?_
     show wpAny _ _ (ret Value.none) _ _ _
     refine qab ⟨rfl,h',tk',rfl,hS',λb o hb e=>?_⟩
     have hb1:b≠s.heap.objs.size:=qam hb
     have hb2:b≠(s.heap.push { cls:=.type "set",dict:=none,data:=.set #[] 0 (.fresh 0 0 led) }).objs.size:=by
      rw [qa0];exact qam (qaF hb)
     exact hm.heap b o (by simp only [qaz,qay,qcP,or_false,not_or];exact⟨hb1,hb2⟩) (qad _ (qad _ e))
   ·cases r₂ with
    | error e=>exact hr₂
    | ok fl₂=>
     cases fl₂ with
     | ret r=>
      obtain⟨rfl,h',tk,rfl,hS',hk'⟩:=hr₂
      repeat (any_goals (first | assumption | wp_step))
      exact h _ _ hS' hk'
     | _=>exact hr₂.elim
  | _=>exact hr.elim
end
section
variable {prog:Program}{w:World}{A:Around}{E:Value->Shared->Prop}{s:Shared}{a r o:Addr}{m m1 m2 d k ep:Nat}{f:Nat->Tok}
theorem vk {n:Nat}{Q:Unit->Shared->Prop} (S:aC w s.heap a m d) (hn:n < 32) (h:∀ h',Heap.SameBut a s.heap h'->aC w h' a m 0->Q () { s with heap:=h' }) :
  wpAny (model prog w) A (setRelay a n) Q E s:=by
 obtain⟨ob,ho,hm,hd,h0,hx,f,ep,t,hdat,T⟩:=id S
 have hf:=T.fits hm hd h0 f
 unfold setRelay
 refine qaa (qb0 ho hdat hf ?_)
 dsimp only
 rw [if_neg (by have:=(ij hn).2;rw [qbi];lia)]
 obtain⟨t',T',e⟩:=T.relaid hm hn
 refine qaa ?_
 rw [aB.hashes,e]
 wp_delta
 have hs:((Array.range (al m).length).filterMap ((aB m f)[·]?))=aB m f:=by rw [<-aB.size m f];exact iN _
 simp only [hs,bne_self_eq_false,qap,↓reduceIte]
 refine qab ?_
 dsimp only
 obtain⟨o1,ho1,hx1,hd1,S1⟩:=dW (w:=w) (f':=f) ho hx hdat hm (by decide) (qea _) T'
 exact qck ho hdat (h _ (qaN ..) S1) (dq hm f)
theorem xw {n:Nat}{Q:Unit->Shared->Prop} (S:aC w s.heap a m d) (hn:n<=6) (h:∀ h' d',Heap.SameBut a s.heap h'->aC w h' a m d'->(d'=d\/d'=0)->Q () { s with heap:=h' }) :
  wpAny (model prog w) A (setRoomFor a n) Q E s:=by
 obtain⟨ob,ho,hm,hd,h0,hx,f,ep,t,hdat,T⟩:=id S
 have hf:=T.fits hm hd h0 f
 unfold setRoomFor
 refine qaa (qb0 ho hdat hf ?_)
 dsimp only
 have e:s={ s with heap:=s.heap }:=by cases s;rfl
 unfold SetTable.roomFor
 split
 ·rename_i x hx
  split at hx
  ·cases hx
   refine vk S ?_ λh' a1 a2=>h h' 0 a1 a2 (.inr rfl)
   have:=fI hm
   rw [T.pl,qas];lia
  ·cases hx
 ·refine qab ?_
  have:=h s.heap d (qdk ..) S (.inl rfl)
  rw [e];exact this
theorem ll {α:Type} (J:List α->Shared->Prop) {g:α->PUnit->Sem (ForInStep PUnit)} (hg:∀ x l s,J (x::l) s->wpAny (model prog w) A (g x ⟨⟩) (λr s'=>r=.yield ⟨⟩/\J l s') E s) :
  ∀ (l:List α) (s:Shared) (Q:PUnit->Shared->Prop),J l s->(∀ s',J [] s'->Q ⟨⟩ s')->wpAny (model prog w) A (forIn l ⟨⟩ g) Q E s
 | [],s,Q,h,hQ=>by rw [qel];exact qab (hQ s h)
 | x::l,s,Q,h,hQ=>by
  rw [qfh]
  refine qaa (qb1 (hg x l s h) (λr s' hr=>?_) λ_ _ e=>e)
  obtain⟨rfl,hj⟩:=hr
  exact ll J hg l s' Q hj hQ
noncomputable def d7 (l:List Nat):Nat:=l.foldl (λm k=>m ||| 1 <<< k) 0
theorem oW:∀ (l:List Nat) (m:Nat),l.foldl (λm k=>m ||| 1 <<< k) m=m ||| d7 l
 | [],m=>(qgE m).symm
 | k::l,m=>by
  unfold d7
  rw [qbG,qbG,oW l,oW l (0 ||| 1 <<< k),qeA,qij]
theorem kU (k:Nat) (l:List Nat):d7 (k::l)=1 <<< k ||| d7 l:=by
 show (k::l).foldl (λm k=>m ||| 1 <<< k) 0=_
 rw [qbG,oW,qeA]
theorem d0 (j:Nat):∀ l:List Nat,(d7 l).testBit j=decide (j ∈ l)
 | []=>by simp [d7]
 | k::l=>by
  rw [kU,qbO,fH,d0 j l]
  by_cases e:k=j
  ·subst e;simp
  ·rw [decide_eq_false e,qdm]
   simp [show ¬ j=k from λz=>e z.symm]
theorem kJ {l l':List Nat} (p:l.Perm l'):d7 l=d7 l':=by
 apply qcd
 intro j
 rw [d0,d0]
 exact decide_eq_decide.mpr p.mem_iff
theorem oG:∀ m:_root_.Fin 64,d7 (al m.1)=m.1:=by decide +kernel
theorem iw (hm:m < 64):d7 (al m)=m:=oG ⟨m,hm⟩
noncomputable def zx (l:List (Int×Value)):Prop:=∀ e ∈ l,∃ k:Nat,∃ t:Tok,k < 6/\e=((k:Int),Value.int k t)
noncomputable def gU (l:List (Int×Value)):List Nat:=l.map λe=>e.1.toNat
theorem ku (w:World) (a:Addr) (m:Nat) (f:Nat->Tok) (ep:Nat):zx (gB w a m f ep).toList:=λe he=>by
 have:=(mn w a m f ep).mem_iff.mp he
 rw [aB.toList] at this
 obtain⟨k,hk,rfl⟩:=qaB.mp this
 exact⟨k,f k,sV hk,rfl⟩
theorem fX (w:World) (a:Addr) (m:Nat) (f:Nat->Tok) (ep:Nat):(gU (gB w a m f ep).toList).Perm (al m):=by
 have:=(mn w a m f ep).map (λe:Int×Value=>e.1.toNat)
 rw [aB.toList,qaJ] at this
 have e:((λe:Int×Value=>e.1.toNat) ∘ λ(k:Nat)=>((k:Int),Value.int k (f k)))=id:=by funext k;simp
 rw [e,qc6] at this
 exact this
theorem bz.unseen {Q:Array (Int×Value)->Shared->Prop}{os:List Addr}{fl:Option Addr} (S:bz w s.heap a m d f ep) (h:Q (gB w a m f ep) s):wpAny (model prog w) A (setWalkUnseen a os fl) Q E s:=by
 unfold setWalkUnseen
 refine qaa (S.state λt T=>?_)
 dsimp only
 refine qaa (cP ?_)
 have e:(byT w || t.led && t.plain)=true:=by rw [T.led,T.plain];cases byT w<;>rfl
 rw [if_pos (by rw [e];rfl)]
 exact S.walk h
theorem m7 {each:Sem Unit}{Q:Unit->Shared->Prop} (hne:r≠o) (S1:aC w s.heap r m1 0) (S2:bz w s.heap o m2 0 f ep)
  (he:∀ (s':Shared) (Q':Unit->Shared->Prop),bz w s'.heap o m2 0 f ep->Q' () s'->wpAny (model prog w) A each Q' E s')
  (h:∀ h',Heap.SameBut r s.heap h'->aC w h' r (m1 ||| m2) 0->Q () { s with heap:=h' }) :
  wpAny (model prog w) A (setMerge r o each) Q E s:=by
 have es:s={ s with heap:=s.heap }:=by cases s;rfl
 have hm2:m2 < 64:=S2.1
 have keepO:∀ {h':Heap},Heap.SameBut r s.heap h'->bz w h' o m2 0 f ep:=λsb=>S2.at' λob q=>(sb.2 o (qbR hne)).trans q
 unfold setMerge
 rw [if_neg (by simpa using hne)]
 refine qaa (S2.state λt2 T2=>?_)
 dsimp only
 by_cases hem:(aB m2 f).isEmpty=true
 ·rw [if_pos hem]
  refine qab ?_
  have h0:(al m2).length=0:=by rw [<-aB.size m2 f];simpa using hem
  have z:m2=0:=by
   have:=iw hm2
   rw [qdQ.mp h0] at this
   exact this.symm
  have:=h s.heap (qdk ..) (by rw [z,qgE];exact S1)
  rw [es];exact this
 ·rw [if_neg hem]
  refine qaa (xw S1 (by rw [aB.size];exact fI hm2) λh1 d' sb1 S1' hd'=>?_)
  have hd0:d'=0:=by rcases hd' with z | z<;>exact z
  subst hd0
  obtain⟨o1,ho1,hm1,_,h01,hx1,f1,ep1,t1,hd1,T1⟩:=id S1'
  have hf1:=T1.fits hm1 (by decide) h01 f1
  refine qaa (qb0 ho1 hd1 hf1 ?_)
  dsimp only
  have z1:t1.fill=0->m1=0:=λz=>by
   have hp:(al m1).length=0:=by
    unfold SetTable.fill at z
    rw [T1.pl,qas] at z;lia
   have:=iw hm1
   rw [qdQ.mp hp] at this
   exact this.symm
  have hled:(t1.led && t2.led)=!byT w:=by rw [T1.led,T2.led];cases byT w<;>rfl
  have hpl:(t1.plain && t2.plain)=true:=by rw [T1.plain,T2.plain];rfl
  generalize hrd:t1.road t2=rd
  unfold SetTable.road at hrd
  by_cases hf0:(t1.fill != 0)=true
  ·rw [if_pos hf0] at hrd
   subst hrd
   dsimp only
   refine qaa (Q:=_) ((keepO sb1).unseen ?_)
   rw [<-qeD]
   refine qaa (ll (λl s'=>∃ h' m',s'={ s with heap:=h' }/\Heap.SameBut r s.heap h'/\aC w h' r m' 0/\m' ||| d7 (gU l)=m1 ||| m2/\zx l) (λx l s' hJ=>?_) _ _ _ ⟨h1,m1,rfl,sb1,S1',?_,ku _ _ _ _ _⟩ λs' hJ=>?_)
   ·obtain⟨h',m',rfl,sb,S',hbm,hE⟩:=hJ
    obtain⟨k,tk,hk,rfl⟩:=hE x qah
    dsimp only
    refine qaa (qaT (oF (s:={ s with heap:=h' }) S' hk (.inr (qbK _)) λh2 d' b sb2 S2' hd'=>?_))
    have hd0:d'=0:=by rcases hd' with z | z<;>exact z
    subst hd0
    have sb3:Heap.SameBut r s.heap h2:=sb.trans sb2
    refine qaa (he { s with heap:=h2 } _ (keepO sb3) ?_)
    refine qaa ((keepO sb3).state (s:={ s with heap:=h2 }) λt T=>?_)
    simp only [bne_self_eq_false,qap,↓reduceIte]
    refine qab ⟨rfl,h2,_,rfl,sb3,S2',?_,λe he=>hE e (qaf _ he)⟩
    rw [<-hbm]
    show _=m' ||| d7 ((k:Int).toNat::gU l)
    rw [qaX,kU,qij]
   ·rw [kJ (fX ..),iw hm2]
   ·obtain⟨h',m',rfl,sb,S',hbm,hE⟩:=hJ
    have e0:m'=m1 ||| m2:=by rw [<-hbm];exact (qgE m').symm
    rw [e0] at S'
    exact qab (h h' sb S')
  ·rw [if_neg hf0] at hrd
   have hm10:m1=0:=z1 (by simpa using hf0)
   subst hm10
   rw [qeA] at h
   split at hrd
   ·subst hrd
    dsimp only
    have T':dI (byT w) { t2 with finger:=t1.finger,led:=t1.led && t2.led,moves:=t1.moves,plain:=t1.plain && t2.plain } m2 0:=⟨T2.msk,T2.pl,T2.du,hled,hpl⟩
    obtain⟨o',ho',hx',hd',S'⟩:=dW (w:=w) (f':=f) ho1 hx1 hd1 hm2 (by decide) (qea _) T'
    exact qck ho1 hd1 (h _ (sb1.trans (qaN ..)) S') (dq hm2 f)
   ·subst hrd
    dsimp only
    refine qaa ?_
    rw [aB.hashes,sX hm2 T1.msk]
    wp_delta
    have hs:((Array.range (al m2).length).filterMap ((aB m2 f)[·]?))=aB m2 f:=by rw [<-aB.size m2 f];exact iN _
    simp only [hs,bne_self_eq_false,qap,↓reduceIte]
    refine qab ?_
    dsimp only
    have T':dI (byT w) (⟨t1.mask,(al m2).toArray,#[],t1.finger,t1.led && t2.led,t1.moves,t1.plain && t2.plain⟩:SetTable) m2 0:=⟨T1.msk,rfl,by simp [al],hled,hpl⟩
    obtain⟨o',ho',hx',hd',S'⟩:=dW (w:=w) (f':=f) ho1 hx1 hd1 hm2 (by decide) (qea _) T'
    exact qck ho1 hd1 (h _ (sb1.trans (qaN ..)) S') (dq hm2 f)
end
theorem oV:entryFor table "set.__or__" = some Builtin.«frozenset.__or__»:=
 qeQ (id':="frozenset.__or__") (by kernel_rfl) rfl (by decide +kernel) (by kernel_rfl)
theorem mP:entryFor table "set.__xor__" = some Builtin.«frozenset.__xor__»:=
 qeQ (id':="frozenset.__xor__") (by kernel_rfl) rfl (by decide +kernel) (by kernel_rfl)
theorem jN:isSubtype (.type "set") (.type "set")=pure true:=by rw [qdj];kernel_rfl
section
variable {prog:Program}{w:World}{A:Around}{E:Value->Shared->Prop}{s:Shared}{a b r o:Addr}{m m1 m2 d k ep:Nat}{f:Nat->Tok}
theorem gI {Q:Bool->Shared->Prop} (hT:s.TypeIs (.ref a) "set") (h:Q true s):wpAny (model prog w) A (Builtin.Frozenset.isAnySet (.ref a)) Q E s:=by
 unfold Builtin.Frozenset.isAnySet orM
 refine qaa (qcU (T:="set") (b:=true) hT jN ?_)
 exact qab h
theorem pN {Q:Value->Shared->Prop} (hT:s.TypeIs (.ref a) "set") (h:Q (.type "set") s):wpAny (model prog w) A (Builtin.Frozenset.baseOf a) Q E s:=by
 unfold Builtin.Frozenset.baseOf
 refine qaa (qcU (T:="set") (b:=true) hT jN ?_)
 exact qab h
theorem uv {Q:Value->Shared->Prop} (h:aC w (s.heap.push { cls:=.type "set",dict:=none,data:=.set #[] 0 (.fresh 0 0 (!byT w)) }) s.heap.objs.size 0 0->Q (.ref s.heap.objs.size) { s with heap:=s.heap.push { cls:=.type "set",dict:=none,data:=.set #[] 0 (.fresh 0 0 (!byT w)) } }) :
  wpAny (model prog w) A (newSet (.type "set")) Q E s:=by
 unfold newSet
 refine qaa (cP ?_)
 simp only [newObj]
 refine qaa (qg3 (qab (h ⟨_,qao _ rfl,?_⟩)))
 exact⟨by decide,by decide,rfl,⟨rfl,rfl,rfl⟩,λ_=>0,0,.fresh 0 0 (!byT w),by simp [aB,al],⟨by simp [SetTable.fresh,gZ],by simp [SetTable.fresh,al],by simp [SetTable.fresh,al],rfl,rfl⟩⟩
theorem aC.keep {h h':Heap} (S:aC w h a m d) (hne:a≠r) (sb:Heap.SameBut r h h'):aC w h' a m d:=S.at' λo q=>(sb.2 a hne).trans q
theorem bz.keep {h h':Heap} (S:bz w h a m d f ep) (hne:a≠r) (sb:Heap.SameBut r h h'):bz w h' a m d f ep:=S.at' λo q=>(sb.2 a hne).trans q
theorem vR {id:String} (s':Shared) (Q':Unit->Shared->Prop) (S:bz w s'.heap o m 0 f ep) (h:Q' () s'):wpAny (model prog w) A (Builtin.Frozenset.unchanged id o ep) Q' E s':=by
 unfold Builtin.Frozenset.unchanged setEpoch
 refine qaa (qaa (S.state λt T=>qab ?_))
 simp only [bne_self_eq_false,qap,↓reduceIte]
 exact qab h
theorem vg {id:String}{Q:Unit->Shared->Prop} (hne:r≠o) (S1:aC w s.heap r m1 0) (S2:aC w s.heap o m2 0)
  (h:∀ h',Heap.SameBut r s.heap h'->aC w h' r (m1 ||| m2) 0->Q () { s with heap:=h' }):wpAny (model prog w) A (Builtin.Frozenset.merge id r o) Q E s:=by
 obtain⟨f,ep,D⟩:=S2.dat
 unfold Builtin.Frozenset.merge setEpoch
 refine qaa (qaa (D.state λt T=>qab ?_))
 exact m7 hne S1 D (λs' Q' Sd hq=>vR s' Q' Sd hq) h
theorem lN {id:String}{Q:Unit->Shared->Prop} (hne:r≠o) (S1:aC w s.heap r m1 0) (S2:aC w s.heap o m2 0)
  (h:∀ h',Heap.SameBut r s.heap h'->aC w h' r (m1 ||| m2) 0->Q () { s with heap:=h' }):wpAny (model prog w) A (Builtin.Frozenset.updateFrom id r (.ref o)) Q E s:=by
 unfold Builtin.Frozenset.updateFrom
 refine qaa (gI S2.type ?_)
 rw [if_pos rfl]
 refine qaa (m:=pure o) (qab ?_)
 exact vg hne S1 S2 h
theorem vf {Q:Value->Shared->Prop} (S1:aC w s.heap a m1 0) (S2:aC w s.heap b m2 0) (hab:a≠b)
  (h:∀ h' p,(∀ c o,s.heap.get? c=some o->h'.get? c=some o)->s.heap.objs.size<=p->aC w h' p (m1 ||| m2) 0->Q (.ref p) { s with heap:=h' }) :
  wpAny (model prog w) A (binaryOp .BitOr (.ref a) (.ref b)) Q E s:=by
 refine qg2 (op:=.BitOr) (T:="set") S1.type S2.type PySem.F.fills_set_or qf4 (qaU qf4 S1.type oV ?_ (PySem.F.args_set_or_2 _ _))
 unfold Builtin.«frozenset.__or__»
 wp_delta
 unfold Builtin.Frozenset.slot1 slotArgs
 simp only [qb4,qa2,qap,↓reduceIte,qba,qaq,bne_self_eq_false]
 refine qaa (qaa (qab (qab ?_)))
 dsimp only
 refine qaa ?_
 unfold andM
 refine qaa (gI S1.type ?_)
 show wpAny _ _ (Builtin.Frozenset.isAnySet (.ref b)) _ _ _
 refine gI S2.type ?_
 simp only [qa2,qap,↓reduceIte]
 unfold Builtin.Frozenset.addrOf
 refine qaa (qab ?_)
 try dsimp only
 refine qaa ?_
 wp_delta
 unfold Builtin.Frozenset.copyOf
 refine qaa (qaa (pN S1.type ?_))
 refine qaa (uv λS0=>?_)
 have la:a < s.heap.objs.size:=let ⟨o,ho,_⟩:=S1;qak ho
 have lb:b < s.heap.objs.size:=let ⟨o,ho,_⟩:=S2;qak ho
 refine qaa (m:=pure s.heap.objs.size) (qab ?_)
 have S1':aC w (s.heap.push { cls:=.type "set",dict:=none,data:=.set #[] 0 (.fresh 0 0 (!byT w)) }) a m1 0:=S1.at' λo e=>qad _ e
 obtain⟨f1,ep1,D1⟩:=S1'.dat
 refine qaa (m7 (s:={ s with heap:=s.heap.push { cls:=.type "set",dict:=none,data:=.set #[] 0 (.fresh 0 0 (!byT w)) } }) (qa4 la) S0 D1 (λs' Q' _ hq=>qab hq) λh1 sb1 T1=>?_)
 refine qab ?_
 rw [qeA] at T1
 have hb:(Value.ref b != Value.ref a)=true:=by simp [qbR hab]
 rw [if_pos hb]
 have S2':aC w h1 b m2 0:=(S2.at' λo e=>qad _ e).keep (qam lb) sb1
 refine qaa (m:=pure s.heap.objs.size) (qab ?_)
 refine qaa (qaT ?_)
 refine lN (s:={ s with heap:=h1 }) (qa4 lb) T1 S2' λh2 sb2 T2=>?_
 refine qab (qab ⟨_,rfl,?_,h h2 _ (λc o e=>?_) (qan _) T2⟩)
 ·exact λe=>nomatch e
 ·have hc:c≠s.heap.objs.size:=qam (qak e)
  exact (sb2.2 c hc).trans ((sb1.2 c hc).trans (qad _ e))
end
section
variable {prog:Program}{w:World}{A:Around}{E:Value->Shared->Prop}{s:Shared}{a b r o:Addr}{m m1 m2 d k ep:Nat}{f:Nat->Tok}
theorem xF (h0:m &&& d=0):(m ^^^ 1 <<< k) &&& (d ||| 1 <<< k)=0↔m.testBit k=true:=by
 constructor
 ·intro h
  have:=congrArg (λx=>x.testBit k) h
  simp only [qdr,qc0,qbO,fH,qbK,decide_true,Bool.or_true,qfW] at this
  simpa using this
 ·intro h
  apply qcd
  intro j
  have hj:=congrArg (λx=>x.testBit j) h0
  simp only [qdr,qbK] at hj
  rw [qdr,qc0,qbO,fH,qbK]
  by_cases e:k=j
  ·subst e;rw [h];simp
  ·rw [decide_eq_false e,qfD,qdl,hj]
theorem q9 (h:m.testBit k=false):m ||| 1 <<< k=m ^^^ 1 <<< k:=by
 apply qcd
 intro j
 rw [qbO,qc0,fH]
 by_cases e:k=j
 ·subst e;rw [h];simp
 ·rw [decide_eq_false e];simp
theorem wJ (hm:m < 64) (hk:k < 6) (h1:m.testBit k=true) (f:Nat->Tok):SetTable.eraseAt (aB m f) (SetTable.below (al m).toArray k)=aB (m ^^^ 1 <<< k) f:=by
 apply qaY.mp
 unfold SetTable.eraseAt
 rw [qaV,qbn,qbn,aB.toList,aB.toList,(rZ hm hk h1).2,qbm,aB.size]
 simp only [qby,qdA,qe1,qhg,qhh]
 congr 1
 rw [qbY (by simp)]
theorem zl {t:SetTable}{by_:Bool} (T:dI by_ t m d) (hm:m < 64) (hd:d < 64) (hk:k < 6) (h1:m.testBit k=true) (h2:d.testBit k=false):dI by_ (t.drop (SetTable.below (al m).toArray k)) (m ^^^ 1 <<< k) (d ||| 1 <<< k):=by
 have e:t.place[SetTable.below (al m).toArray k]?=some k:=by rw [T.pl];simpa using (rZ hm hk h1).1
 unfold SetTable.drop
 rw [e]
 refine⟨T.msk,?_,?_,T.led,T.plain⟩
 ·apply qaY.mp
  show (SetTable.eraseAt t.place (SetTable.below (al m).toArray k)).toList=_
  unfold SetTable.eraseAt
  rw [T.pl,qaV,qbn,qbn,(rZ hm hk h1).2]
  simp only [qby,qdA,qe1]
  congr 1
  rw [qbY (by simp)]
 ·apply qaY.mp
  show (SetTable.insertAt t.dummies (SetTable.below t.dummies k) k).toList=_
  rw [qb9,T.du,rR hd hk h2]
theorem wo (hd:d < 64) (hk:k < 6):d ||| 1 <<< k < 64:=n4 hd hk
theorem v6 {tk:Tok}{Q:Unit->Shared->Prop} (S:aC w s.heap a m d) (hk:k < 6) (hdk:d.testBit k=false)
  (h:∀ h' d',Heap.SameBut a s.heap h'->aC w h' a (m ^^^ 1 <<< k) d'->(∀ j,j≠k->d.testBit j=false->d'.testBit j=false)->Q () { s with heap:=h' }) :
  wpAny (model prog w) A (holding [Value.int k tk] (do
   if !(<-setDiscardHashed a (.int k tk) (k:Int)) then
    let _ <-setAddHashed a (.int k tk) (k:Int))) Q E s:=by
 obtain⟨ob,ho,hm,hd,h0,hx,f,ep,t,hdat,T⟩:=id S
 have hf:=T.fits hm hd h0 f
 have hel:=uw (prog:=prog) (w:=w) m f
 have es:s={ s with heap:=s.heap }:=by cases s;rfl
 have key:(intKind prog w).is (k:Int) (.int k tk)=true:=qfm _ _ _ _
 have hh:(k:Int)=(intKind prog w).hash (k:Int):=(oa hk).symm
 refine qaT (qaa ?_)
 unfold setDiscardHashed setFind setFindIn
 refine qaa (qaa (qb0 ho hdat hf ?_))
 dsimp only
 rw [byScan_of (knd:=intKind prog w) rfl (ln hm f) hel]
 simp only [↓reduceIte]
 refine qaa (qcu ?_)
 refine qaa ?_
 rw [show setScan a (Value.int k tk) (k:Int) false (aB m f)=setScan a (Value.int k tk) ((intKind prog w).hash (k:Int)) false (aB m f) from by rw [<-hh]]
 refine qhy (knd:=intKind prog w) key ho hdat hf hel ?_
 rw [v7 hm hk f]
 cases hb:m.testBit k with
 | true=>
  rw [if_pos rfl]
  dsimp only
  refine qab ?_
  dsimp only
  refine qaa (qb0 ho hdat hf ?_)
  dsimp only
  rw [qbo,wJ hm hk hb f]
  have T':=zl T hm hd hk hb hdk
  obtain⟨o1,ho1,hx1,hd1,S1⟩:=dW (w:=w) (f':=f) ho hx hdat (oX hm hk) (wo hd hk) ((xF h0).mpr hb) T'
  refine qaa (qck ho hdat ?_ (dq (oX hm hk) f))
  refine qaa (wpAny_point (qab ?_))
  simp only [qa2,qap,↓reduceIte]
  refine qab (h _ _ (qaN ..) S1 λj hj hdj=>?_)
  rw [qbO,fH,hdj,decide_eq_false (qbR hj)];rfl
 | false=>
  rw [if_neg qal]
  dsimp only
  refine qab ?_
  dsimp only
  refine qab ?_
  simp only [qdd,↓reduceIte]
  refine qaa (oF S hk (.inr hdk) λh' d' b sb S' hd'=>qab ?_)
  rw [q9 hb] at S'
  refine h h' d' sb S' λj hj hdj=>?_
  rcases hd' with z | z
  ·rw [z];exact hdj
  ·rw [z];exact qbK _
noncomputable def qi (l:List Nat):Nat:=l.foldl (λm k=>m ^^^ 1 <<< k) 0
theorem jB:∀ (l:List Nat) (m:Nat),l.foldl (λm k=>m ^^^ 1 <<< k) m=m ^^^ qi l
 | [],m=>(qig m).symm
 | k::l,m=>by
  unfold qi
  rw [qbG,qbG,jB l,jB l (0 ^^^ 1 <<< k),qif,qhs]
theorem m4 (k:Nat) (l:List Nat):qi (k::l)=1 <<< k ^^^ qi l:=by
 show (k::l).foldl (λm k=>m ^^^ 1 <<< k) 0=_
 rw [qbG,jB,qif]
theorem nC (j:Nat):∀ l:List Nat,l.Nodup->(qi l).testBit j=decide (j ∈ l)
 | [],_=>by simp [qi]
 | k::l,hn=>by
  have hn':=qbs.mp hn
  rw [m4,qc0,fH,nC j l hn'.2]
  by_cases e:k=j
  ·subst e;simp [hn'.1]
  ·rw [decide_eq_false e,Bool.false_xor]
   simp [show ¬ j=k from λz=>e z.symm]
theorem uJ {l:List Nat} (h:l.Nodup):qi l=d7 l:=by
 apply qcd
 intro j
 rw [nC j l h,d0]
theorem pG (m:Nat):(al m).Nodup:=qhw _ qgW
theorem yz {Q:Value->Shared->Prop} (S1:aC w s.heap a m1 0) (S2:aC w s.heap b m2 0) (hab:a≠b)
  (h:∀ h' p d,(∀ c o,s.heap.get? c=some o->h'.get? c=some o)->s.heap.objs.size<=p->aC w h' p (m2 ^^^ m1) d->Q (.ref p) { s with heap:=h' }) :
  wpAny (model prog w) A (binaryOp .BitXor (.ref a) (.ref b)) Q E s:=by
 refine qg2 (op:=.BitXor) (T:="set") S1.type S2.type PySem.F.fills_set_xor qfT (qaU qfT S1.type mP ?_ (PySem.F.args_set_xor_2 _ _))
 unfold Builtin.«frozenset.__xor__»
 wp_delta
 unfold Builtin.Frozenset.slot1 slotArgs
 simp only [qb4,qa2,qap,↓reduceIte,qba,qaq,bne_self_eq_false]
 refine qaa (qaa (qab (qab ?_)))
 dsimp only
 refine qaa ?_
 unfold andM
 refine qaa (gI S1.type ?_)
 show wpAny _ _ (Builtin.Frozenset.isAnySet (.ref b)) _ _ _
 refine gI S2.type ?_
 simp only [qa2,qap,↓reduceIte]
 unfold Builtin.Frozenset.addrOf
 refine qaa (qab ?_)
 try dsimp only
 refine qaa ?_
 wp_delta
 unfold Builtin.Frozenset.newFrom
 refine qaa (pN S1.type ?_)
 refine qaa (qaa (uv λS0=>?_))
 have la:a < s.heap.objs.size:=let ⟨o,ho,_⟩:=S1;qak ho
 have lb:b < s.heap.objs.size:=let ⟨o,ho,_⟩:=S2;qak ho
 refine qaa (m:=pure s.heap.objs.size) (qab ?_)
 refine qaa (qaT ?_)
 have S2':aC w (s.heap.push { cls:=.type "set",dict:=none,data:=.set #[] 0 (.fresh 0 0 (!byT w)) }) b m2 0:=S2.at' λo e=>qad _ e
 refine lN (s:={ s with heap:=s.heap.push { cls:=.type "set",dict:=none,data:=.set #[] 0 (.fresh 0 0 (!byT w)) } }) (qa4 lb) S0 S2' λh1 sb1 T1=>?_
 rw [qeA] at T1
 refine qab ?_
 refine qaa (m:=pure s.heap.objs.size) (qab ?_)
 refine qaa (qaT ?_)
 have S1':aC w h1 a m1 0:=(S1.at' λo e=>qad _ e).keep (qam la) sb1
 obtain⟨f1,ep1,D1⟩:=S1'.dat
 unfold Builtin.Frozenset.symmetricDifferenceUpdate
 have hne:(Value.ref a==Value.ref s.heap.objs.size)=false:=by simp [qam la]
 rw [if_neg (by rw [hne];exact qal)]
 dsimp only
 refine qaa (qes (T:="set") (S1'.type (s:={ s with heap:=h1 })) ?_)
 rw [if_neg (by decide)]
 refine qaa (gI (s:={ s with heap:=h1 }) S1'.type ?_)
 rw [if_pos rfl]
 refine qaa (qab ?_)
 refine qaa (m:=pure a) (qab ?_)
 unfold setEpoch
 refine qaa (qaa (D1.state (s:={ s with heap:=h1 }) λt T=>qab ?_))
 dsimp only
 refine qaT ?_
 refine qaa (D1.unseen (s:={ s with heap:=h1 }) ?_)
 rw [<-qeD]
 have kp:∀ {h':Heap},Heap.SameBut s.heap.objs.size h1 h'->bz w h' a m1 0 f1 ep1:=λsb=>D1.keep (qam la) sb
 refine qaa (ll (λl s'=>∃ h' m' d',s'={ s with heap:=h' }/\Heap.SameBut s.heap.objs.size h1 h'/\aC w h' s.heap.objs.size m' d'/\m' ^^^ qi (gU l)=m2 ^^^ m1/\zx l/\(gU l).Nodup/\∀ j ∈ gU l,d'.testBit j=false) (λx l s' hJ=>?_) _ _ _ ⟨h1,m2,0,rfl,qdk ..,T1,?_,ku _ _ _ _ _,(fX w a m1 f1 ep1).nodup_iff.mpr (pG m1),λj _=>qbK j⟩ λs' hJ=>?_)
 ·obtain⟨h',m',d',rfl,sb,S',hbm,hE,hN,hD⟩:=hJ
  obtain⟨k,tk,hk,rfl⟩:=hE x qah
  have eK:gU (((k:Int),Value.int k tk)::l)=k::gU l:=by show (k:Int).toNat::gU l=_;rw [qaX]
  rw [eK] at hbm hN hD
  dsimp only
  refine qaa (v6 (s:={ s with heap:=h' }) S' hk (hD k qah) λh2 d2 sb2 S2' hd2=>?_)
  refine qaa (vR { s with heap:=h2 } _ (kp (sb.trans sb2)) (qab ⟨rfl,h2,_,d2,rfl,sb.trans sb2,S2',?_,λe he=>hE e (qaf _ he),(qbs.mp hN).2,λj hj=>hd2 j (λe=>(qbs.mp hN).1 (e ▸ hj)) (hD j (qaf _ hj))⟩))
  rw [<-hbm,m4,qhs]
 ·rw [uJ ((fX w a m1 f1 ep1).nodup_iff.mpr (pG m1)),kJ (fX ..),iw D1.1]
 ·obtain⟨h',m',d',rfl,sb,S',hbm,hE,hN,hD⟩:=hJ
  have e0:m'=m2 ^^^ m1:=by rw [<-hbm];exact (qig m').symm
  rw [e0] at S'
  refine qab (qab (qab ⟨_,rfl,(λe=>nomatch e),h h' _ d' (λc o e=>?_) (qan _) S'⟩))
  have hc:c≠s.heap.objs.size:=qam (qak e)
  exact (sb.2 c hc).trans ((sb1.2 c hc).trans (qad _ e))
end
section
variable {prog:Program}{w:World}{A:Around}{E:Value->Shared->Prop}{s:Shared}{a:Addr}{m d ep:Nat}{f:Nat->Tok}
theorem qB {Q:List Value->Shared->Prop} (S:bz w s.heap a m d f ep) (hh:A.handled=none)
  (h:∀ h' tk,(∀ b o,s.heap.get? b=some o->h'.get? b=some o)->s.heap.objs.size < h'.objs.size->Q ((gB w a m f ep).toList.map (·.2)) { s with heap:=h',toks:=tk }) :
  wpAny (model prog w) A (collect (.ref a)) Q E s:=by
 have hlt:a < s.heap.objs.size:=let ⟨_,_,_,o,t,ho,_⟩:=S;qak ho
 have hn:(al m).length<=sizeLine:=by have:=fI S.1;rw [qbi];lia
 unfold collect
 refine qaa (qdi (qa7 qeK ?_))
 show wpAny _ _ (do again (.builtin "list.__iadd__" ⟨[<-newList [],.ref a],[]⟩)) _ _ s
 refine qaa (qcM (qab ⟨qcq _ (by decide +kernel),qa7 qfH ?_⟩))
 show wpAny _ _ (Builtin.List.listExtendWith (.ref s.heap.objs.size) (.ref a) (.ref s.heap.objs.size)) _ _ { s with heap:=s.heap.push (seqObj "list" #[] 0) }
 refine qei (A:=A) (R:=λr s'=>match r with
   | .ok (.ret v)=>wpAny (model prog w) A (match v with
     | .ref a=>do
      let o <-load a
      match o.data with
      | .seq xs _=>pure xs.toList
      | _=>unsupported "internal:collect"
     | _=>unsupported "internal:collect") Q E s'
   | .ok _=>False
   | .error e=>E e s') (s:={ s with heap:=s.heap.push (seqObj "list" #[] 0) }) (yK prog w a m d ep f) hh (S.at' λo e=>qad _ e) s.heap.objs.size (qa4 hlt) (qa4 hlt) (.ref s.heap.objs.size) 0 (qao _ rfl) (λh' tk acc c hk hS hI=>?_) hn
 show wpAny (model prog w) A (do
   let o <-load s.heap.objs.size
   match o.data with
   | .seq xs _=>pure xs.toList
   | _=>unsupported "internal:collect") Q E { s with heap:=h',toks:=tk }
 refine qaa (qdy hS ?_)
 show wpAny _ _ (pure acc.toList) Q E _
 have e:acc.toList=(gB w a m f ep).toList.map (·.2):=by
  apply qeS
  intro i
  rw [qaW,qa8,qa8]
  by_cases hi:i < acc.size
  ·obtain⟨e,he,hv⟩:=hI.2 i acc[i] (qar hi)
   rw [he,qar hi,hv];rfl
  ·rw [qaR (by lia),qaR (by rw [iI,<-hI.1];lia)];rfl
 rw [e]
 refine qab (h h' tk (λb o q=>?_) (qak hS))
 exact hk b o (qam (qak q)) (qad _ q)
theorem pA (w:World) (a:Addr) (m:Nat) (f:Nat->Tok) (ep:Nat):∀ {l:List (Int×Value)},zx l->IntsAre (l.map (·.2)) (l.map (·.1))
 | [],_=>.nil
 | e::l,h=>by
  obtain⟨k,t,_,rfl⟩:=h e qah
  exact .cons _ _ (pA w a m f ep λe he=>h e (qaf _ he))
theorem uz (m:Nat):((al m).map λk=>((k:Nat):Int)).Pairwise (·<=·):=by
 rw [qbV]
 have:(List.range 6).Pairwise (· < ·):=qdX
 exact (this.filter _).imp λ{a b} h=>by lia
theorem sG {Q:Value->Shared->Prop} (S:aC w s.heap a m d) (hh:A.in1.handled=none)
  (h:∀ (h':Heap) (tk:Nat) (p:Addr) (ep:Nat) (out:List Value),(∀ b o,s.heap.get? b=some o->h'.get? b=some o)->s.heap.objs.size<=p->h'.get? p=some (seqObj "list" out.toArray ep)->av (((al m).map λk=>((k:Nat):Int)).map V.int) out->Q (.ref p) { s with heap:=h',toks:=tk }) :
  wpAny (model prog w) A (call (.builtin "sorted") [.ref a]) Q E s:=by
 obtain⟨f,ep,D⟩:=S.dat
 refine qcJ qf1 qfu qfv (qfw _) ?_
 unfold Builtin.«sorted»
 refine qaa (m:=checkCount "sorted" 1 1 _) (qab ?_)
 refine qaa (qB D hh λh1 tk hk hlt=>?_)
 have hI:=pA w a m f ep (ku w a m f ep)
 generalize hvs:(gB w a m f ep).toList.map (·.2)=vs at hI ⊢
 have hv64:vs.length<=64:=by
  have:=fI D.1
  rw [<-hvs,qai,qav,iI];lia
 refine qaa (qcM ?_ (by rw [qbi];lia))
 have hoL:(h1.push (seqObj "list" vs.toArray 0)).get? h1.objs.size=some (seqObj "list" vs.toArray 0):=qao _ rfl
 show wpAny _ _ _ _ _ { s with heap:=h1.push (seqObj "list" vs.toArray 0),toks:=tk }
 refine qaa (qaT (qaU qeP ⟨_,hoL,rfl⟩ qex (gL (O:=OI) (rk:=λp=>[aV p.1]) (S:=λp=>∃ n t,p.1=.int n t) (s:={ s with heap:=h1.push (seqObj "list" vs.toArray 0),toks:=tk }) hoL hv64 (λh' _=>⟨oneType',ql (s:={ s with heap:=h',toks:=tk }) hI⟩) (λv hv=>gv hI v hv) λout a1 a2=>⟨_,rfl,?_⟩) (qeR _)))
 refine qab ⟨_,rfl,?_⟩
 obtain⟨ep',he⟩:=qgz (out:=out.toArray) hoL
 refine h _ tk h1.objs.size ep' out (λb o q=>?_) (qcA hlt) he ?_
 ·have q1:=hk b o q
  have hb:b < h1.objs.size:=qak q1
  show (sortedHeap (h1.push (seqObj "list" vs.toArray 0)) h1.objs.size vs out.toArray).get? b=some o
  rw [qgf (qam hb) (by rw [qfl];exact qaF hb),qch _ _ _ (qam hb)]
  exact q1
 ·have ho:∀ u ∈ out,∃ n t,u=.int n t:=λu hu=>gv hI u (a1.mem_iff.mp hu)
  have hpm:(out.map aV).Perm ((al m).map λk=>((k:Nat):Int)):=by
   have z1:=a1.map aV
   rw [iK hI] at z1
   have z2:=(fX w a m f ep).map (λk=>((k:Nat):Int))
   refine z1.trans (List.Perm.trans ?_ z2)
   unfold gU
   rw [qaJ]
   refine List.Perm.of_eq (qa5 λe he=>?_)
   obtain⟨k,t,_,rfl⟩:=ku w a m f ep e he
   simp
  have hs:(out.map aV).Pairwise (·<=·):=by
   rw [qbV]
   refine a2.imp λ{x y} q=>?_
   have q':bI [aV y] [aV x]=false:=q
   by_cases e:aV y=aV x
   ·lia
   ·have:bI [aV y] [aV x]=decide (aV y < aV x):=by show (if _ then _ else _)=_;rw [if_neg e]
    rw [this,decide_eq_false_iff_not] at q';lia
  have e:=jO hpm hs (uz m)
  have hvv:=fB (i5 ho)
  rw [e] at hvv;exact hvv
end
noncomputable def PX (X:Cx) (z:Bool) (e:Expr) (t:St->Hp->(Nat->Hp->Prop)->Prop):Prop:=
 ∀ (pins:List (Addr×Obj)) (s:Shared) (σ:St) (H:Hp) (Q:Nat->Hp->Prop),Inv X pins σ H s->t σ H Q->wpAny (model X.prog X.w) X.A (eval e X.env)
  (λu s'=>∃ a o m d H',u=.ref a/\s'.heap.get? a=some o/\yC X.w o m d/\(z=true->d=0)/\H' a=none/\a≠X.env.locals/\a ∉ X.fs/\(∀ p ∈ pins,p.1≠a)/\Inv X pins σ H' s'/\Q m H') X.xe s
abbrev Xf:=Ev->Sto->Option (Nat×Sto)
noncomputable def tIX (K:PySem.W.Frag) (env:Ev) (st:Sto) (r:Nat×Sto):St->Hp->(Nat->Hp->Prop)->Prop:=λσ H Q=>∃ φ,Er K H φ env σ/\Sr K H φ st/\∀ H' φ',Fw φ φ' H H'->Sr K H' φ' r.2->Q r.1 H'
structure IX (K:PySem.W.Frag) (X:Cx) (z:Bool) (e:Expr) (f:Xf):Prop where
 run:∀ env st r,f env st=some r->PX X z e (tIX K env st r)
noncomputable def cX (fe:Ef):Xf
 | env,st=>(fe env st).bind λx=>(eV x.2 x.1).bind λds=>(aE ds).bind λns=>if in6 ns=true then some (aq ns,x.2) else none
noncomputable def kG (fa fb:Xf):Xf
 | env,st=>(fa env st).bind λx=>(fb env x.2).map λy=>(x.1 ||| y.1,y.2)
noncomputable def iB (fa fb:Xf):Xf
 | env,st=>(fa env st).bind λx=>(fb env x.2).map λy=>(y.1 ^^^ x.1,y.2)
noncomputable def fW (fx:Xf):Lf
 | env,st=>(fx env st).map λx=>((al x.1).map λk=>D.int (k:Nat),x.2)
section
variable {K:PySem.W.Frag}{X:Cx}{pos p:Pos}{e a b:Expr}{fe:Ef}{fa fb:Xf}
theorem nY (hg:Gl X "set") (hm:X.mg "set" = none) (ha:IE K X e fe) (hc:X.calm=true:=by rfl) (hs:az e=true:=by rfl) (hK:X.K=K:=by rfl):IX K X true (.Call (.Name "set" p) [e] [] pos) (cX fe):=by
 subst hK
 refine⟨λenv st r hr=>?_⟩
 simp only [cX,qac] at hr
 obtain⟨⟨x,s1⟩,hx,ds,hds,ns,hns,hr⟩:=hr
 split at hr
 ·rename_i h6
  cases hr
  intro pins s σ H Q I h
  refine qbT (ef I hg hm qeY ?_)
  refine qbB ?_ (aN hs) (cb (es:=[]) rfl)
  rw [aN hs]
  show wpAny _ _ (spliced ((false,eval e X.env)::backTo pos (starEach [] X.env))) _ _ s
  obtain⟨φ,hE,hS,q⟩:=h
  refine qb6 (thn ((ha.run _ _ _ hx) pins s σ H (λv H'=>∃ φ',Sr X.K H' φ' s1/\Fw φ φ' H H'/\Rw X.K H' φ' x v) I ⟨φ,hE,hS,λv H' φ' f1 S1 w1=>⟨φ',S1,f1,w1⟩⟩) λu s2 ⟨v,H1,I1,r1,φ1,S1,f1,w1⟩=>?_)
  show wpAny _ _ (spliced []) _ _ s2
  refine qcB ?_
  obtain⟨ad,vs,rfl,h1,h2⟩:=iD S1 w1 hds
  cases r1
  cases cw hns
  cases h2.ints
  have fin:∀ (h':Heap) (tk:Nat),aC X.w h' s2.heap.objs.size (aq ns) 0->(∀ b o,b < s2.heap.objs.size->s2.heap.get? b=some o->h'.get? b=some o)->
    ∃ a o m d H',Value.ref s2.heap.objs.size=.ref a/\(({ s2 with heap:=h',toks:=tk }:Shared)).heap.get? a=some o/\yC X.w o m d/\(true=true->d=0)/\H' a=none/\a≠X.env.locals/\a ∉ X.fs/\(∀ p ∈ pins,p.1≠a)/\Inv X pins σ H' { s2 with heap:=h',toks:=tk }/\Q m H':=λh' tk ⟨o,ho,so⟩ hk=>by
   refine⟨_,o,_,0,H1,rfl,ho,so,λ_=>rfl,I1.hok.fresh (qan _),qa4 I1.lt,I1.nofs (qan _),λp hp=>qam (qak (I1.pin p (qat _ hp)).1),I1.kept (λb u e=>hk b u (qak e) e),q H1 φ1 f1 S1⟩
  rcases h1 with h1 | h1
  ·obtain⟨its,rv,pl,_⟩:=I1.list h1
   exact mE (items:=its.toArray) (ns:=ns) (I1.ok.hd hc) pl.isList (by simpa using en rv) h6 fin
  ·obtain⟨its,rv,pl,_⟩:=I1.tuple h1
   exact ml (items:=its.toArray) (ns:=ns) (I1.ok.hd hc) pl (by simpa using en rv) h6 fin
 ·cases hr
theorem xE {op:Operator}{g:Nat->Nat->Nat}{env:Ev}{st:Sto}{x y:Nat×Sto} (ha:PX X true a (tIX K env st x)) (hb:PX X true b (tIX K env x.2 y))
  (hop:∀ (s:Shared) (u v:Addr) (m1 m2:Nat) (Q:Value->Shared->Prop),aC X.w s.heap u m1 0->aC X.w s.heap v m2 0->u≠v->
    (∀ h' p d,(∀ c o,s.heap.get? c=some o->h'.get? c=some o)->s.heap.objs.size<=p->aC X.w h' p (g m1 m2) d->Q (.ref p) { s with heap:=h' })->wpAny (model X.prog X.w) X.A (binaryOp op (.ref u) (.ref v)) Q X.xe s) :
  PX X false (.BinOp a op b pos) (tIX K env st (g x.1 y.1,y.2)):=by
 intro pins s σ H Q I h
 obtain⟨φ,hE,hS,q⟩:=h
 refine wpAny_BinOp (thn (ha pins s σ H (λm H'=>m=x.1/\∃ φ',Sr K H' φ' x.2/\Fw φ φ' H H') I ⟨φ,hE,hS,λH' φ' f1 S1=>⟨rfl,φ',S1,f1⟩⟩) λu s1 hu=>?_)
 obtain⟨a1,o1,m1,d1,H1,rfl,g1,so1,z1,n1,l1,fs1,pn1,I1,rfl,φ1,S1,f1⟩:=hu
 have cells:∀ v,o1.data≠.cell v:=λv hv=>by obtain⟨_,_,_,_,f,ep,t,hd,_⟩:=so1;rw [hd] at hv;cases hv
 have I1':Inv X ((a1,o1)::pins) σ H1 s1:=I1.pins_of λp hp=>by
  rcases qaz.mp hp with rfl | hp
  ·exact⟨g1,n1,l1,fs1,cells⟩
  ·exact I1.pin p (qat _ hp)
 refine thn (hb ((a1,o1)::pins) s1 σ H1 (λm H'=>m=y.1/\∃ φ',Sr K H' φ' y.2/\Fw φ1 φ' H1 H') I1' ⟨φ1,hE.fw hS f1,S1,λH' φ' f2 S2=>⟨rfl,φ',S2,f2⟩⟩) λv s2 hv=>?_
 obtain⟨a2,o2,m2,d2,H2,rfl,g2,so2,z2,n2,l2,fs2,pn2,I2,rfl,φ2,S2,f2⟩:=hv
 cases z1 rfl
 cases z2 rfl
 have ga:=(I2.pin (a1,o1) (qat _ qah)).1
 refine hop s2 a1 a2 x.1 y.1 _ ⟨o1,ga,so1⟩ ⟨o2,g2,so2⟩ (pn2 _ qah) λh' p d hk hp ⟨o3,g3,so3⟩=>?_
 have I2':Inv X pins σ H2 s2:=I2.pins_of λp hp=>I2.pin p (qat _ (qaf _ hp))
 have I3:Inv X pins σ H2 { s2 with heap:=h' }:=I2'.kept (t':=s2.toks) hk
 exact⟨p,o3,_,d,H2,rfl,g3,so3,(λz=>nomatch z),I2.hok.fresh hp,qa4 (qaE I2.lt hp),I2.nofs hp,λp' hp'=>qam (qaE (qak (I2'.pin p' (qat _ hp')).1) hp),I3,q H2 φ2 (f1.trans f2) S2⟩
theorem Dl (ha:IX K X true a fa) (hb:IX K X true b fb):IX K X false (.BinOp a .BitOr b pos) (kG fa fb):=by
 refine⟨λenv st r hr=>?_⟩
 simp only [kG,qac,qae] at hr
 obtain⟨x,hx,y,hy,rfl⟩:=hr
 exact xE (g:=λm1 m2=>m1 ||| m2) (ha.run _ _ _ hx) (hb.run _ _ _ hy) λs u v m1 m2 Q S1 S2 hne h=>vf S1 S2 hne λh' p hk hp S=>h h' p 0 hk hp S
theorem Bf (ha:IX K X true a fa) (hb:IX K X true b fb):IX K X false (.BinOp a .BitXor b pos) (iB fa fb):=by
 refine⟨λenv st r hr=>?_⟩
 simp only [iB,qac,qae] at hr
 obtain⟨x,hx,y,hy,rfl⟩:=hr
 exact xE (g:=λm1 m2=>m2 ^^^ m1) (ha.run _ _ _ hx) (hb.run _ _ _ hy) λs u v m1 m2 Q S1 S2 hne h=>yz S1 S2 hne λh' p d hk hp S=>h h' p d hk hp S
theorem qk {z:Bool} (hg:Gl X "sorted") (hm:X.mg "sorted" = none) (ha:IX K X z e fa) (hc:X.calm=true:=by rfl) (hs:az e=true:=by rfl):IL K X (.Call (.Name "sorted" p) [e] [] pos) (fW fa):=by
 refine⟨λenv st r hr=>?_⟩
 simp only [fW,qae] at hr
 obtain⟨x,hx,rfl⟩:=hr
 intro pins s σ H Q I h
 obtain⟨φ,hE,hS,q⟩:=h
 refine qbT (ef I hg hm qcz ?_)
 refine qcT ?_ (aN hs) (cb (es:=[]) rfl)
 rw [aN hs]
 show wpAny _ _ (spliced ((false,eval e X.env)::backTo pos (starEach [] X.env))) _ _ s
 refine qb6 (thn ((ha.run _ _ _ hx) pins s σ H (λm H'=>m=x.1/\∃ φ',Sr K H' φ' x.2/\Fw φ φ' H H') I ⟨φ,hE,hS,λH' φ' f1 S1=>⟨rfl,φ',S1,f1⟩⟩) λu s1 hu=>?_)
 obtain⟨a1,o1,m1,d1,H1,rfl,g1,so1,z1,n1,l1,fs1,pn1,I1,rfl,φ1,S1,f1⟩:=hu
 show wpAny _ _ (spliced []) _ _ s1
 refine qcB ?_
 refine sG ⟨o1,g1,so1⟩ (I1.ok.hd hc) λh' tk p' ep out hk hp he hv=>?_
 have hn:H1 p'=none:=I1.hok.fresh hp
 have hlen:out.length<=1000:=by
  have:=fI so1.1
  rw [<-hv.length,qai,qai];lia
 have hlay:Inv X pins σ (upd H1 p' (.lst (((al x.1).map λk=>((k:Nat):Int)).map V.int))) { s1 with heap:=h',toks:=tk }:=by
  refine I1.laid (t':=tk) (a:=p') (o:=.lst (((al x.1).map λk=>((k:Nat):Int)).map V.int)) hk hp ⟨?_,out,ep,hv,by simpa [seqObj] using he⟩
  rw [hv.length];exact fz hlen
 refine⟨.ref p',_,hlay,rfl,q p' _ H1 φ1 f1 S1 hn ?_⟩
 have:=Rls.of_ints (K:=K) (H:=H1) (φ:=φ1) ((al x.1).map λk=>((k:Nat):Int))
 rw [qaJ] at this
 exact this
end
theorem pig:∀ (n:Nat) (l:List Nat),(∀ j,j < n->j ∈ l)->n<=l.length
 | 0,_,_=>qaI _
 | n+1,l,h=>by
  have hm:=h n (qbt n)
  have:=pig n (l.erase n) λj hj=>(qgm (by lia)).mpr (h j (by lia))
  rw [qfO hm] at this
  have:0 < l.length:=qf6 hm
  lia
theorem DI {n:Nat}{l:List Nat} (h:l.length < n):∃ j,j < n/\j ∉ l:=by
 apply qb2
 intro z
 have:=pig n l λj hj=>qb2 λq=>z ⟨j,hj,q⟩
 lia
theorem wV {l:List Nat}{i j:Nat} (h:i < l.length):l.toArray.getD i j=l[i]:=by
 simp [Array.getD,h]
theorem kN {l:List Nat} (hl:l.Pairwise (· < ·)) (j:Nat):∀ (fuel lo hi:Nat),hi - lo<=fuel->lo<=hi->hi<=l.length->(∀ i (h:i < l.length),i < lo->l[i] < j)->(∀ i (h:i < l.length),hi<=i->j<=l[i])->
  SetTable.below.go l.toArray j fuel lo hi<=l.length/\(∀ i (h:i < l.length),i < SetTable.below.go l.toArray j fuel lo hi->l[i] < j)/\(∀ i (h:i < l.length),SetTable.below.go l.toArray j fuel lo hi<=i->j<=l[i])
 | 0,lo,hi,h1,h2,h3,h4,h5=>by
  have:lo=hi:=by lia
  subst this
  exact⟨h3,h4,h5⟩
 | fuel+1,lo,hi,h1,h2,h3,h4,h5=>by
  unfold SetTable.below.go
  by_cases hlt:lo < hi
  ·rw [if_pos hlt]
   dsimp only
   have hm:(lo+hi) / 2 < l.length:=by lia
   rw [wV hm]
   by_cases hc:l[(lo+hi) / 2] < j
   ·rw [if_pos hc]
    refine kN hl j fuel _ _ (by lia) (by lia) h3 (λi h hi'=>?_) h5
    by_cases e:i=(lo+hi) / 2
    ·subst e;exact hc
    ·exact qd9 (qca.mp hl i _ h hm (by lia)) hc
   ·rw [if_neg hc]
    refine kN hl j fuel _ _ (by lia) (by lia) (by lia) h4 (λi h hi'=>?_)
    by_cases e:i=(lo+hi) / 2
    ·subst e;exact qfb hc
    ·exact qaQ (qfb hc) (qcA (qca.mp hl _ i hm h (by lia)))
  ·rw [if_neg hlt]
   have:lo=hi:=by lia
   subst this
   exact⟨h3,h4,h5⟩
theorem lu {l:List Nat} (hl:l.Pairwise (· < ·)) (j:Nat):SetTable.below l.toArray j<=l.length/\(∀ i (h:i < l.length),i < SetTable.below l.toArray j->l[i] < j)/\(∀ i (h:i < l.length),SetTable.below l.toArray j<=i->j<=l[i]):=by
 unfold SetTable.below
 exact kN hl j _ _ _ (by simp) (qaI _) (by simp) (λi h z=>absurd z (qci _)) (λi h z=>absurd z (by simp at *;lia))
noncomputable def hU (l:List Nat) (i:Nat):Nat:=if i=0 then 0 else l.getD (i - 1) 0+1
theorem rG {l:List Nat} (hl:l.Pairwise (· < ·)) {i:Nat} (hi:i<=l.length):SetTable.below l.toArray (hU l i)=i:=by
 obtain⟨h1,h2,h3⟩:=lu hl (hU l i)
 generalize hk:SetTable.below l.toArray (hU l i)=k at h1 h2 h3
 by_cases hi0:i=0
 ·subst hi0
  have e:hU l 0=0:=rfl
  rw [e] at h2
  by_cases hk0:k=0
  ·exact hk0
  ·exact absurd (h2 0 (by lia) (by lia)) (qci _)
 ·have hi1:i - 1 < l.length:=by lia
  have e:hU l i=l[i - 1]+1:=by unfold hU;rw [if_neg hi0,qbk,qaH hi1];rfl
  rw [e] at h2 h3
  by_cases c1:k < i
  ·have:=h3 (i - 1) hi1 (by lia);lia
  ·by_cases c2:i < k
   ·have a1:=h2 i (by lia) c2
    have a2:=qca.mp hl (i - 1) i hi1 (by lia) (by lia)
    lia
   ·lia
noncomputable def lp (M i:Nat):Nat:=(i*5+1) % M
noncomputable def lpN (M:Nat):Nat->Nat->Nat
 | 0,i=>i
 | n+1,i=>lpN M n (lp M i)
noncomputable def lpB (M:Nat):Nat->Nat->Nat->Nat
 | 0,_,acc=>acc
 | n+1,i,acc=>lpB M n (lp M i) (acc ||| 1 <<< i)
theorem pr (M j:Nat):∀ n i acc,(lpB M n i acc).testBit j=true->acc.testBit j=true\/∃ q,q < n/\lpN M q i=j
 | 0,i,acc,h=>.inl h
 | n+1,i,acc,h=>by
  rcases pr M j n (lp M i) (acc ||| 1 <<< i) h with z | ⟨q,hq,e⟩
  ·rw [qbO,fH,qcy] at z
   rcases z with z | z
   ·exact .inl z
   ·exact .inr ⟨0,qe0 n,of_decide_eq_true z⟩
  ·exact .inr ⟨q+1,by lia,e⟩
noncomputable def gM:List Nat:=[7,31,127]
theorem Bn:(gM.all λm=>(List.range (m+1)).all λa=>lpB (m+1) (m+1) a 0==2 ^ (m+1) - 1)=true:=by decide +kernel
theorem AZ {m a j:Nat} (hm:m ∈ gM) (ha:a < m+1) (hj:j < m+1):∃ q,q < m+1/\lpN (m+1) q a=j:=by
 have h:=qaw.mp (qaw.mp Bn m hm) a (qaP.mpr ha)
 have:=pr (m+1) j (m+1) a 0 (by rw [eq_of_beq h,Nat.testBit_two_pow_sub_one];exact decide_eq_true hj)
 rcases this with z | z
 ·rw [qbK] at z;cases z
 ·exact z
noncomputable def cN (m:Nat):Nat->Nat×Nat->Nat×Nat
 | 0,x=>x
 | n+1,x=>cN m n (SetTable.leap m x.1 x.2)
theorem lF (m:Nat):∀ n x,cN m (n+1) x=SetTable.leap m (cN m n x).1 (cN m n x).2
 | 0,x=>rfl
 | n+1,x=>lF m n (SetTable.leap m x.1 x.2)
theorem mU (m:Nat):∀ n k x,cN m (n+k) x=cN m k (cN m n x)
 | 0,k,x=>by rw [qbo];rfl
 | n+1,k,x=>by rw [qih];exact mU m n k _
theorem sP (m:Nat):∀ n x,(cN m n x).2=x.2 / 32 ^ n
 | 0,x=>by simp [cN]
 | n+1,x=>by
  show (cN m n (SetTable.leap m x.1 x.2)).2=_
  rw [sP m n]
  show x.2 / 32 / 32 ^ n=_
  rw [Nat.div_div_eq_div_mul,qii,qik]
theorem tO (m:Nat):∀ n i,cN m n (i,0)=(lpN (m+1) n i,0)
 | 0,i=>rfl
 | n+1,i=>by
  show cN m n (SetTable.leap m i 0)=_
  have:SetTable.leap m i 0=(lp (m+1) i,0):=rfl
  rw [this,tO m n];rfl
theorem qg {m:Nat} (hm:m ∈ gM) (i p j:Nat) (hp:p < 2 ^ 64) (hj:j < m+1):∃ q,q < m+14/\(cN m q (i,p)).1=j:=by
 have e13:(cN m 13 (i,p)).2=0:=by
  rw [sP]
  exact Nat.div_eq_of_lt (qaE hp (by decide))
 have hlt:(cN m 13 (i,p)).1 < m+1:=by
  rw [lF m 12]
  exact qjF _ (qe0 m)
 obtain⟨q,hq,e⟩:=AZ hm hlt hj
 refine⟨13+q,by lia,?_⟩
 rw [mU]
 have:cN m 13 (i,p)=((cN m 13 (i,p)).1,0):=by rw [<-e13]
 rw [this,tO];exact e
theorem uf (h:Int):SetTable.bits h < 2 ^ 64:=by
 unfold SetTable.bits
 lia
structure fS (b:Bool) (t:SetTable) (l:List Nat):Prop where
 msk:t.mask ∈ gM
 pl:t.place=l.toArray
 ris:l.Pairwise (· < ·)
 du:t.dummies=#[]
 led:t.led=!b
 plain:t.plain=true
 few:l.length<=64
 few7:t.mask=7->l.length<=5
 few31:t.mask=31->l.length<=19
theorem ir {m:Nat} (h:m ∈ gM):m=7\/m=31\/m=127:=by simpa [gM] using h
section
variable {b:Bool}{t:SetTable}{l:List Nat}{j:Nat}{h:Int}{hashAt:Nat->Int}
theorem fS.room (T:fS b t l):l.length < t.mask+1:=by
 have h1:=T.few;have h2:=T.few7;have h3:=T.few31
 rcases ir T.msk with e | e | e<;>lia
theorem fS.fits (T:fS b t l):t.fits l.length=true:=by
 have:=T.room
 simp only [SetTable.fits,SetTable.fill,T.pl,T.du,qas,qaL,beq_iff_eq,decide_eq_true_eq,true_and,qas,qba]
 lia
theorem ou (j:Nat):SetTable.has #[] j=false:=by simp [SetTable.has]
theorem fS.slot_c (T:fS b t l) (j:Nat):(t.slot j=.empty/\j ∉ l)\/∃ i,i < l.length/\t.slot j=.live i:=by
 unfold SetTable.slot
 dsimp only
 rw [T.pl,T.du,ou]
 by_cases c:(l.toArray[SetTable.below l.toArray j]?==some j)=true
 ·rw [if_pos c]
  refine .inr ⟨_,?_,rfl⟩
  have:=eq_of_beq c
  by_cases z:SetTable.below l.toArray j < l.length
  ·exact z
  ·rw [qaR (by simp;lia)] at this;cases this
 ·rw [if_neg c]
  refine .inl ⟨rfl,λhj=>c ?_⟩
  obtain⟨i,hi,e⟩:=qep hj
  obtain⟨h1,h2,h3⟩:=lu T.ris j
  generalize SetTable.below l.toArray j=k at h1 h2 h3 ⊢
  have hk:k<=i:=by
   apply qb2
   intro z
   have:=h2 i hi (by lia)
   lia
  have hkl:k < l.length:=by lia
  have a1:=h3 k hkl (qan _)
  have a2:l[k]<=j:=by
   by_cases e2:k=i
   ·subst e2;lia
   ·have:=qca.mp T.ris k i hkl hi (by lia);lia
  have:l.toArray[k]?=some j:=by
   rw [List.getElem?_toArray,qaH hkl];congr 1;lia
  rw [this];simp
theorem fS.slot_e (T:fS b t l) (hj:j ∉ l):t.slot j=.empty:=by
 rcases T.slot_c j with z | ⟨i,hi,e⟩
 ·exact z.1
 ·exfalso
  unfold SetTable.slot at e
  dsimp only at e
  rw [T.pl,T.du,ou] at e
  split at e
  ·rename_i c
   have:=eq_of_beq c
   have hm:=Array.mem_of_getElem? this
   exact hj (by simpa using hm)
  ·simp at e
noncomputable def pX (t:SetTable):Nat->SetTable.Probe->SetTable.Probe
 | 0,p=>p
 | n+1,p=>pX t n (t.advance p)
theorem qf (t:SetTable):∀ n k p,pX t (n+k) p=pX t k (pX t n p)
 | 0,k,p=>by rw [qbo];rfl
 | n+1,k,p=>by rw [qih];exact qf t n k _
theorem nn (t:SetTable) (p:SetTable.Probe):(t.advance p).dummy=p.dummy:=by
 unfold SetTable.advance
 split
 ·rfl
 ·rfl
theorem fS.go (T:fS b t l) (hne:∀ i,i < l.length->hashAt i≠h):∀ n fuel p,n < fuel->p.dummy=none->t.slot (pX t n p).j=.empty->∃ j,SetTable.probe.go t hashAt h fuel p=some (.empty j none)/\j ∉ l
 | n,0,p,hn,_,_=>absurd hn (qci _)
 | n,fuel+1,p,hn,hd,he=>by
  unfold SetTable.probe.go
  rcases T.slot_c p.j with⟨z,zm⟩ | ⟨i,hi,e⟩
  ·rw [z]
   exact⟨p.j,by dsimp only;rw [hd],zm⟩
  ·rw [e]
   dsimp only
   rw [if_neg (by simpa using hne i hi)]
   cases n with
   | zero=>
    have:t.slot p.j=.empty:=he
    rw [e] at this;cases this
   | succ n=>exact fS.go T hne n fuel _ (by lia) (by rw [nn];exact hd) he
noncomputable def h8 (t:SetTable) (x:Nat×Nat):SetTable.Probe:={ j:=x.1,more:=SetTable.runEnd t.mask x.1 - x.1,i:=x.1,perturb:=x.2,dummy:=none }
theorem tM (t:SetTable):∀ more p,p.more=more->p.dummy=none->pX t (more+1) p=h8 t (SetTable.leap t.mask p.i p.perturb)
 | 0,p,h,hd=>by
  show t.advance p=_
  unfold SetTable.advance
  rw [if_neg (by lia)]
  simp only [h8,hd]
 | m+1,p,h,hd=>by
  have e:t.advance p={ p with j:=p.j+1,more:=p.more - 1 }:=by unfold SetTable.advance;rw [if_pos (by lia)]
  show pX t (m+1) (t.advance p)=_
  rw [tM t m _ (by rw [e];show p.more - 1=m;lia) (by rw [nn];exact hd),e]
theorem pB (t:SetTable):∀ q x,∃ n,n<=10*q/\pX t n (h8 t x)=h8 t (cN t.mask q x)
 | 0,x=>⟨0,qan _,rfl⟩
 | q+1,x=>by
  obtain⟨n,hn,e⟩:=pB t q (SetTable.leap t.mask x.1 x.2)
  refine⟨(h8 t x).more+1+n,?_,?_⟩
  ·have:(h8 t x).more<=9:=by
    show SetTable.runEnd t.mask x.1 - x.1<=9
    unfold SetTable.runEnd
    split<;>lia
   lia
  ·rw [qf,tM t _ _ rfl rfl]
   exact e
theorem fS.probe (T:fS b t l) (hne:∀ i,i < l.length->hashAt i≠h):∃ j,t.probe hashAt h (t.probeStart h)=some (.empty j none)/\j ∉ l:=by
 obtain⟨j,hj,hm⟩:=DI T.room
 obtain⟨q,hq,e⟩:=qg T.msk (SetTable.bits h % (t.mask+1)) (SetTable.bits h) j (uf h) hj
 obtain⟨n,hn,e2⟩:=pB t q (SetTable.bits h % (t.mask+1),SetTable.bits h)
 unfold SetTable.probe
 refine T.go hne n _ _ (by unfold SetTable.turns;lia) rfl ?_
 have e3:t.probeStart h=h8 t (SetTable.bits h % (t.mask+1),SetTable.bits h):=rfl
 rw [e3,e2]
 show t.slot (cN t.mask q _).1=_
 rw [e]
 exact T.slot_e hm
noncomputable def uT (l:List Nat) (j:Nat):List Nat:=l.take (SetTable.below l.toArray j)++j::l.drop (SetTable.below l.toArray j)
theorem wQ (hl:l.Pairwise (· < ·)) (hj:j ∉ l):(uT l j).Pairwise (· < ·):=by
 obtain⟨h1,h2,h3⟩:=lu hl j
 unfold uT
 generalize SetTable.below l.toArray j=k at h1 h2 h3 ⊢
 have a1:∀ x ∈ l.take k,x < j:=λx hx=>by
  obtain⟨i,hi,e⟩:=qep hx
  rw [List.getElem_take] at e
  rw [qcQ] at hi
  rw [<-e];exact h2 i (by lia) (by lia)
 have a2:∀ x ∈ l.drop k,j < x:=λx hx=>by
  obtain⟨i,hi,e⟩:=qep hx
  rw [List.getElem_drop] at e
  rw [qe3] at hi
  have b1:=h3 (k+i) (by lia) (by lia)
  have b2:x≠j:=λz=>hj (z ▸ qeg hx)
  lia
 have hp:=hl
 rw [<-qcv k l,qcE] at hp
 rw [qcE]
 refine⟨hp.1,qa9.mpr ⟨a2,hp.2.1⟩,λx hx y hy=>?_⟩
 rcases qaz.mp hy with rfl | hy
 ·exact a1 x hx
 ·exact qd9 (a1 x hx) (a2 y hy)
theorem ek:(uT l j).length=l.length+1:=by
 unfold uT
 rw [qaK,qaq,<-qf5,<-qaK,qcv]
theorem fS.put (T:fS b t l) (hj:j ∉ l) (h1:l.length < 64) (h2:t.mask=7->l.length < 5) (h3:t.mask=31->l.length < 19):fS b (t.put j).1 (uT l j)/\(t.put j).2=SetTable.below l.toArray j:=by
 unfold SetTable.put
 dsimp only
 rw [T.du,ou]
 refine⟨⟨T.msk,?_,wQ T.ris hj,rfl,T.led,T.plain,by rw [ek];exact h1,λe=>by rw [ek];exact h2 e,λe=>by rw [ek];exact h3 e⟩,by rw [T.pl]⟩
 apply qaY.mp
 show (SetTable.insertAt t.place (SetTable.below t.place j) j).toList=_
 rw [qb9,T.pl];rfl
theorem wg {α:Type} (es:Array α) (p:Nat) (x:α):(SetTable.insertAt es p x).toList.Perm (x::es.toList):=by
 rw [qb9]
 refine List.perm_middle.trans (List.Perm.cons x ?_)
 rw [qcv]
end
theorem ip {α β:Type}{f g:α->Option β}:∀ {l:List α},(∀ x ∈ l,f x=g x)->l.filterMap f=l.filterMap g
 | [],_=>rfl
 | x::l,h=>by
  rw [qcj,qcj,h x qah,ip λy hy=>h y (qaf _ hy)]
theorem wa {f g:Nat->Option Nat}{j k:Nat} (hf:f j=none) (hg:g j=some k) (hn:∀ x,x≠j->g x=f x):∀ L:List Nat,L.Nodup->j ∈ L->(L.filterMap g).Perm (k::L.filterMap f)
 | [],_,h=>nomatch h
 | x::L,hd,h=>by
  have hd':=qbs.mp hd
  by_cases e:x=j
  ·subst e
   have:L.filterMap g=L.filterMap f:=ip λy hy=>hn y λz=>hd'.1 (z ▸ hy)
   rw [qcS hg,qdJ hf,this]
  ·have ih:=wa hf hg hn L hd'.2 (by rcases qaz.mp h with z | z;exact absurd z.symm e;exact z)
   cases hx:f x with
   | none=>rw [qdJ hx,qdJ ((hn x e).trans hx)];exact ih
   | some y=>
    rw [qcS hx,qcS ((hn x e).trans hx)]
    exact (List.Perm.cons y ih).trans (List.Perm.swap _ _ _)
theorem uk {f:Nat->Option Nat}:∀ L:List Nat,(∀ x ∈ L,(f x).isSome=true)->(L.filterMap f).length=L.length
 | [],_=>rfl
 | x::L,h=>by
  obtain⟨y,hy⟩:=qcb.mp (h x qah)
  rw [qcS hy,qaq,qaq,uk L λz hz=>h z (qaf _ hz)]
structure uG (m:Nat) (owner:Array (Option Nat)) (k:Nat):Prop where
 size:owner.size=m+1
 perm:((List.range (m+1)).filterMap λj=>owner.getD j none).Perm (List.range k)
theorem t6 {m:Nat}{owner:Array (Option Nat)}:∀ q fuel i p,q < fuel->(owner.getD (cN m q (i,p)).1 (some 0)).isNone=true->∃ j,SetTable.layClean.free m owner fuel i p=some j/\(owner.getD j (some 0)).isNone=true
 | q,0,_,_,h,_=>absurd h (qci _)
 | q,fuel+1,i,p,h,he=>by
  unfold SetTable.layClean.free
  split
  ·rename_i k hk
   have:=List.find?_some (p:=λk=>(owner.getD (i+k) (some 0)).isNone) hk
   exact⟨_,rfl,this⟩
  ·rename_i hk
   cases q with
   | zero=>
    exfalso
    have:=List.find?_eq_none.mp hk 0 (qaP.mpr (by unfold SetTable.runEnd;split<;>lia))
    exact this he
   | succ q=>exact t6 q fuel _ _ (by lia) he
theorem yV {owner:Array (Option Nat)}{j:Nat} (h:(owner.getD j (some 0)).isNone=true):j < owner.size/\owner[j]?=some none:=by
 by_cases hj:j < owner.size
 ·refine⟨hj,?_⟩
  rw [Array.getD,dif_pos hj] at h
  rw [qar hj]
  congr 1
  exact Option.isNone_iff_eq_none.mp h
 ·rw [Array.getD,dif_neg hj] at h;cases h
theorem getD_none {owner:Array (Option Nat)} (j:Nat):owner.getD j none=(owner[j]?).join:=by
 by_cases hj:j < owner.size
 ·rw [Array.getD,dif_pos hj,qar hj];rfl
 ·rw [Array.getD,dif_neg hj,qaR (by lia)];rfl
theorem uG.free {m k:Nat}{owner:Array (Option Nat)} (O:uG m owner k) (hm:m ∈ gM) (hk:k < m+1) (h:Int):∃ j,SetTable.layClean.free m owner (SetTable.turns m) (SetTable.bits h % (m+1)) (SetTable.bits h)=some j/\uG m (owner.setIfInBounds j (some k)) (k+1):=by
 obtain⟨j0,hj0,he⟩:∃ j,j < m+1/\(owner.getD j (some 0)).isNone=true:=by
  apply qb2
  intro z
  have:=uk (f:=λj=>owner.getD j none) (List.range (m+1)) λx hx=>by
   have hx':=qaP.mp hx
   cases hc:owner.getD x none with
   | some y=>rfl
   | none=>
    exfalso
    refine z ⟨x,hx',?_⟩
    rw [Array.getD,dif_pos (by rw [O.size];exact hx')] at hc ⊢
    rw [hc];rfl
  rw [O.perm.length_eq,qbu,qbu] at this
  lia
 obtain⟨q,hq,e⟩:=qg hm (SetTable.bits h % (m+1)) (SetTable.bits h) j0 (uf h) hj0
 obtain⟨j,hj,hn⟩:=t6 (m:=m) (owner:=owner) q (SetTable.turns m) _ _ (by unfold SetTable.turns;lia) (by rw [e];exact he)
 obtain⟨n1,n2⟩:=yV hn
 refine⟨j,hj,by rw [Array.size_setIfInBounds];exact O.size,?_⟩
 have p:=wa (f:=λj=>owner.getD j none) (g:=λx=>(owner.setIfInBounds j (some k)).getD x none) (j:=j) (k:=k) (by rw [getD_none,n2];rfl) (by rw [getD_none,qe7,if_pos rfl,if_pos n1];rfl) (λx hx=>by rw [getD_none,getD_none,qe7,if_neg (qbR hx)]) (List.range (m+1)) qgW (qaP.mpr (by rw [<-O.size];exact n1))
 rw [List.range_succ (n:=k)]
 exact p.trans ((List.Perm.cons k O.perm).trans (qga (l₁:=[k])))
theorem qG {m:Nat} (hm:m ∈ gM):∀ (hs:List Int) (owner:Array (Option Nat)) (k:Nat),uG m owner k->k+hs.length<=m+1->
  ∃ ow,hs.foldl (λ(acc:Option (Array (Option Nat)×Nat)) h=>do
   let (owner,k) <-acc
   let j <-SetTable.layClean.free m owner (SetTable.turns m) (SetTable.bits h % (m+1)) (SetTable.bits h)
   pure (owner.setIfInBounds j (some k),k+1)) (some (owner,k))=some (ow,k+hs.length)/\uG m ow (k+hs.length)
 | [],owner,k,O,_=>⟨owner,rfl,O⟩
 | h::hs,owner,k,O,hk=>by
  rw [qaq] at hk
  obtain⟨j,hj,O'⟩:=O.free hm (by lia) h
  obtain⟨ow,e,O2⟩:=qG hm hs _ _ O' (by lia)
  refine⟨ow,?_,by rw [qaq,show k+(hs.length+1)=k+1+hs.length from by lia];exact O2⟩
  rw [qbG,qaq,show k+(hs.length+1)=k+1+hs.length from by lia,<-e]
  congr 1
  show (SetTable.layClean.free m owner (SetTable.turns m) (SetTable.bits h % (m+1)) (SetTable.bits h)).bind _=_
  rw [hj];rfl
theorem vX (m:Nat):uG m (Array.replicate (m+1) none) 0:=by
 refine⟨Array.size_replicate,?_⟩
 have:(List.range (m+1)).filterMap (λj=>(Array.replicate (m+1) (none:Option Nat)).getD j none)=[]:=by
  rw [List.filterMap_eq_nil_iff]
  intro j _
  rw [getD_none,Array.getElem?_replicate]
  split<;>rfl
 rw [this];exact qbE _
theorem AB {m:Nat} (hm:m ∈ gM) (f mv:Nat) (led p:Bool) (hs:Array Int) (hn:hs.size<=m+1):∃ (l o:List Nat),SetTable.laid m f mv led p hs=some (⟨m,l.toArray,#[],f,led,mv,p⟩,o.toArray)/\l.Pairwise (· < ·)/\l.length=hs.size/\o.Perm (List.range hs.size):=by
 obtain⟨ow,e,O⟩:=qG hm hs.toList _ 0 (vX m) (by rw [qav];lia)
 rw [qbo,qav] at e O
 have e1:SetTable.layClean m hs=some ow:=by
  unfold SetTable.layClean
  rw [<-Array.foldl_toList]
  have e':=congrArg (Option.map (·.1)) e
  exact e'
 unfold SetTable.laid
 rw [e1]
 refine⟨_,_,rfl,?_,?_,?_⟩
 ·rw [qeI]
  refine qhv _ (S:=(· < ·)) (R:=(· < ·)) (λa a' haa b hb b' hb'=>?_) qdX
  have z1:b=a:=by
   cases hc:ow.getD a none with
   | none=>rw [hc] at hb;cases hb
   | some y=>rw [hc] at hb;cases hb;rfl
  have z2:b'=a':=by
   cases hc:ow.getD a' none with
   | none=>rw [hc] at hb';cases hb'
   | some y=>rw [hc] at hb';cases hb';rfl
  rw [z1,z2];exact haa
 ·have:=O.perm.length_eq
  rw [qbu] at this
  rw [<-this,qai]
  have e2:((List.range (m+1)).filterMap λj=>ow.getD j none)=((List.range (m+1)).filterMap λj=>(ow.getD j none).map (j,·)).map (·.2):=by
   rw [qeI]
   refine ip λj _=>?_
   cases ow.getD j none<;>rfl
  rw [e2,qai]
 ·have e2:((List.range (m+1)).filterMap λj=>(ow.getD j none).map (j,·)).map (·.2)=((List.range (m+1)).filterMap λj=>ow.getD j none):=by
   rw [qeI]
   refine ip λj _=>?_
   cases ow.getD j none<;>rfl
  rw [e2];exact O.perm
theorem uA {α:Type} (es:Array α):(List.range es.size).filterMap (es[·]?)=es.toList:=by
 have:=congrArg Array.toList (iN es)
 rw [qdW] at this
 simpa using this
theorem AM {α:Type}{o:List Nat} (es:Array α) (hp:o.Perm (List.range es.size)):(o.toArray.filterMap (es[·]?)).toList.Perm es.toList:=by
 rw [qdW]
 have:=hp.filterMap (es[·]?)
 rw [uA] at this
 exact this
noncomputable def hT (l:List Int):Int:=reduceHash (Builtin.Tuple.tupleHashOf (l.map hashInt))
noncomputable def wS (t:SetTable) (n:Nat):Prop:=n<=64/\(t.mask=7->n < 5)/\(t.mask=31->n < 19)
noncomputable def cx (w:World) (h:Heap) (a:Addr) (es:Array (Int×Value)) (ep:Nat) (t:SetTable) (l:List Nat):Prop:=
 ∃ o,h.get? a=some o/\o.ExactSet/\o.data=.set es ep t/\fS (byT w) t l/\es.size=l.length
section
variable {prog:Program}{w:World}{A:Around}{E:Value->Shared->Prop}{s:Shared}{a:Addr}{es:Array (Int×Value)}{ep:Nat}{t:SetTable}{l:List Nat}{x:Value}{k:List Int}{h:Int}
theorem cx.type (S:cx w s.heap a es ep t l):s.TypeIs (.ref a) "set":=let ⟨o,ho,hx,_⟩:=S;⟨o,ho,hx.1⟩
theorem cx.at' {h h':Heap} (S:cx w h a es ep t l) (e:∀ o,h.get? a=some o->h'.get? a=some o):cx w h' a es ep t l:=let ⟨o,ho,r⟩:=S;⟨o,e o ho,r⟩
theorem cx.state {Q:(Array (Int×Value)×Nat×SetTable)->Shared->Prop} (S:cx w s.heap a es ep t l) (h:Q (es,ep,t) s):wpAny (model prog w) A (setState a) Q E s:=by
 obtain⟨o,ho,hx,hd,T,hs⟩:=S
 exact qb0 ho hd (by rw [hs];exact T.fits) h
theorem cx.store {es':Array (Int×Value)}{t':SetTable}{l':List Nat}{Q:Unit->Shared->Prop} (S:cx w s.heap a es ep t l) (T:fS (byT w) t' l') (hs:es'.size=l'.length)
  (h:∀ h',Heap.SameBut a s.heap h'->cx w h' a es' (ep+1) t' l'->Q () { s with heap:=h' }):wpAny (model prog w) A (storeSet a es' t') Q E s:=by
 obtain⟨o,ho,hx,hd,T0,hs0⟩:=S
 have hl:es'.size<=sizeLine:=by have:=T.few;rw [qbi];lia
 refine qck ho hd (h _ (qaN ..) ?_) hl
 have hg:(s.heap.update a (Obj.putSet es' t')).get? a=some { o with data:=.set es' (ep+1) t' }:=by
  have:=qbb (Obj.putSet es' t') ho (by rw [qgT _ t' hd];rfl)
  rw [qgT _ t' hd] at this;exact this
 exact⟨_,hg,hx,rfl,T,hs⟩
theorem pK {Q:Option Bool×Unit->Shared->Prop}:∀ {vs:List Value}{k:List Int},IntsAre vs k->Q (none,()) s->wpAny (model prog w) A (forIn vs ((none,()):Option Bool×Unit) λx _=>do
   let c <-hashByValue 7 x
   if (!c)=true then pure (ForInStep.done (some false,())) else pure (ForInStep.yield (none,()))) Q E s
 | _,_,.nil,h=>by rw [qel];exact qab h
 | _,_,.cons n t i,h=>by
  rw [qfh]
  refine qaa (qaa (m:=hashByValue 7 (.int n t)) ?_)
  show wpAny _ _ (pure true) _ _ _
  exact qab (qab (pK i h))
theorem uL (hx:TuI s.heap x k) {Q:Bool->Shared->Prop} (hQ:Q true s):wpAny (model prog w) A (hashByValue 8 x) Q E s:=by
 obtain⟨a,its,rfl,ht,hi⟩:=hx
 obtain⟨o,ho,hc,n,hd⟩:=id ht
 unfold hashByValue
 refine qaa (qfY ⟨o,ho,hc⟩ PySem.F.slot_tuple_hash.lookup ?_)
 dsimp only
 refine qaa (qdh ho hd ?_)
 rw [<-qeD]
 refine qaa (pK hi ?_)
 exact qab hQ
theorem cx.relay {n:Nat}{Q:Unit->Shared->Prop} (S:cx w s.heap a es ep t l) (hm:SetTable.sizeAbove n - 1 ∈ gM) (hz:SetTable.sizeAbove n<=128) (h1:SetTable.sizeAbove n - 1=7->l.length<=5) (h2:SetTable.sizeAbove n - 1=31->l.length<=19)
  (h:∀ h' es' t' l',Heap.SameBut a s.heap h'->cx w h' a es' (ep+1) t' l'->es'.toList.Perm es.toList->t'.mask=SetTable.sizeAbove n - 1->Q () { s with heap:=h' }) :
  wpAny (model prog w) A (setRelay a n) Q E s:=by
 obtain⟨o,ho,hx,hd,T,hs⟩:=id S
 unfold setRelay
 refine qaa (S.state ?_)
 dsimp only
 rw [if_neg (by rw [qbi];lia)]
 have hfew:=T.few
 have hsz:(es.map (·.1)).size=l.length:=by rw [Array.size_map];exact hs
 have hroom:l.length<=SetTable.sizeAbove n - 1+1:=by
  rcases ir hm with e | e | e
  ·have:=h1 e;lia
  ·have:=h2 e;lia
  ·lia
 obtain⟨l',od,e,hr,hl,hp⟩:=AB hm t.finger (t.movedTo (SetTable.sizeAbove n - 1)) t.led t.plain (es.map (·.1)) (by rw [hsz];exact hroom)
 have e':t.relaid (es.map (·.1)) n=_:=e
 refine qaa ?_
 rw [e']
 rw [hsz] at hl hp
 rw [<-hs] at hp
 have hper:=AM es hp
 have hps:(od.toArray.filterMap (es[·]?)).size=es.size:=by rw [<-qav,<-qav];exact hper.length_eq
 wp_delta
 rw [if_neg (by rw [hps];simp)]
 refine qab ?_
 dsimp only
 exact S.store (t':=⟨SetTable.sizeAbove n - 1,l'.toArray,#[],t.finger,t.led,t.movedTo (SetTable.sizeAbove n - 1),t.plain⟩) ⟨hm,rfl,hr,rfl,T.led,T.plain,by rw [hl];exact hfew,λz=>by rw [hl];exact h1 z,λz=>by rw [hl];exact h2 z⟩ (by rw [hps,hs,hl]) λh' sb S'=>h h' _ _ _ sb S' hper rfl
theorem cx.search {Q:SetFound->Shared->Prop} (S:cx w s.heap a es ep t l) (hne:∀ e ∈ es.toList,e.1≠h) (hQ:∀ j,j ∉ l->Q (.free j false) s):wpAny (model prog w) A (setSearch a x h true) Q E s:=by
 obtain⟨o,ho,hx,hd,T,hs⟩:=id S
 unfold setSearch setSearchFrom
 refine qaa (S.state ?_)
 dsimp only
 rw [if_neg (by unfold SetTable.gaveWay;rcases ir T.msk with e | e | e<;>rw [e]<;>decide)]
 obtain⟨j,e,hj⟩:=T.probe (h:=h) (hashAt:=λi=>(es[i]?.map (·.1)).getD 0) λi hi=>by
  have hi':i < es.size:=by lia
  rw [qar hi']
  exact hne _ (by rw [<-qcD];exact qdU _)
 split
 ·rename_i met hmet
  have e2:some met=some (SetTable.Met.empty j none):=hmet.symm.trans e
  cases e2
  dsimp only
  exact qab (hQ j hj)
 ·rename_i hno
  exact absurd (e.symm) (by intro z;exact hno _ z.symm)
theorem cx.add {Q:Bool->Shared->Prop} (S:cx w s.heap a es ep t l) (hc:wS t l.length) (hn:l.length < 64) (hx:TuI s.heap x k) (hne:∀ e ∈ es.toList,e.1≠h)
  (hQ:∀ h' es' ep' t' l',Heap.SameBut a s.heap h'->cx w h' a es' ep' t' l'->wS t' l'.length->es'.toList.Perm ((h,x)::es.toList)->Q true { s with heap:=h' }) :
  wpAny (model prog w) A (setAddHashed a x h) Q E s:=by
 obtain⟨q,its,rfl,ht,hi⟩:=id hx
 obtain⟨o,ho,hxx,hd,T,hs⟩:=id S
 unfold setAddHashed setAddHashedIn
 refine qaT (qaa (S.state ?_))
 dsimp only
 rw [if_neg (by unfold byScan;rw [show (Value.ref q).scannable=false from rfl];simp)]
 refine qaa (S.search hne λj hj=>?_)
 dsimp only
 refine qaa (S.state ?_)
 dsimp only
 obtain⟨T1,e1⟩:=T.put hj hn hc.2.1 hc.2.2
 rw [if_pos T1.plain]
 refine qaa (uL hx ?_)
 rw [if_pos rfl,e1]
 have hper:=wg es (SetTable.below l.toArray j) (h,Value.ref q)
 have hsz:(SetTable.insertAt es (SetTable.below l.toArray j) (h,Value.ref q)).size=(uT l j).length:=by
  rw [<-qav,hper.length_eq,ek,qaq,qav,hs]
 refine qaa (S.store T1 hsz λh' sb S'=>?_)
 have hfl:(t.put j).1.fill=l.length+1:=by
  unfold SetTable.fill
  rw [T1.pl,T1.du,qas,ek];rfl
 have hmk:(t.put j).1.mask=t.mask:=rfl
 by_cases hf:(t.put j).1.tooFull=true
 ·rw [if_pos (by rw [hf];rfl)]
  unfold SetTable.tooFull at hf
  have hf':=of_decide_eq_true hf
  rw [hfl,hmk] at hf'
  have hgr:SetTable.grown (es.size+1)=(l.length+1)*4:=by
   unfold SetTable.grown
   rw [if_neg (by lia),hs]
  have hcc:=hc
  obtain⟨_,c7,c31⟩:=hcc
  have hcases:(t.mask=7/\l.length=4)\/(t.mask=31/\l.length=18):=by
   rcases ir T.msk with e | e | e
   ·have:=c7 e;left;exact⟨e,by lia⟩
   ·have:=c31 e;right;exact⟨e,by lia⟩
   ·lia
  have key:SetTable.sizeAbove (SetTable.grown (es.size+1)) - 1 ∈ gM/\SetTable.sizeAbove (SetTable.grown (es.size+1))<=128/\(SetTable.sizeAbove (SetTable.grown (es.size+1)) - 1=31/\l.length=4\/SetTable.sizeAbove (SetTable.grown (es.size+1)) - 1=127):=by
   rw [hgr]
   rcases hcases with⟨_,e⟩ | ⟨_,e⟩
   ·rw [e];exact⟨by decide,by decide,.inl ⟨by decide,rfl⟩⟩
   ·rw [e];exact⟨by decide,by decide,.inr (by decide)⟩
  obtain⟨k1,k2,k3⟩:=key
  refine qaa (S'.relay (s:={ s with heap:=h' }) k1 k2 (λz=>by rcases k3 with k3 | k3<;>lia) (λz=>by rw [ek];rcases k3 with k3 | k3<;>lia) λh2 es2 t2 l2 sb2 S2 p2 m2=>?_)
  refine qab (hQ h2 es2 _ t2 l2 (sb.trans sb2) S2 ?_ (p2.trans hper))
  have hl2:l2.length=l.length+1:=by
   obtain⟨_,_,_,_,_,z⟩:=S2
   rw [<-z,<-qav,p2.length_eq,hper.length_eq,qaq,qav,hs]
  refine⟨by lia,λz=>?_,λz=>?_⟩
  ·rw [m2] at z;rcases k3 with k3 | k3<;>lia
  ·rw [m2] at z;rcases k3 with k3 | k3<;>lia
 ·rw [if_neg (by simpa using hf)]
  refine qab (hQ h' _ _ _ _ sb S' ?_ hper)
  have hf':¬ ((t.put j).1.fill*5>=(t.put j).1.mask*3):=λz=>hf (decide_eq_true z)
  rw [hfl,hmk] at hf'
  rw [ek]
  exact⟨hn,λz=>by rw [hmk] at z;lia,λz=>by rw [hmk] at z;lia⟩
end
section
variable {κ:Type} [DecidableEq κ]
noncomputable def fQ (kvs:List (κ×V)) (k:κ):Option V:=(kvs.find? λkv=>decide (kv.1=k)).map (·.2)
noncomputable def io (kvs:List (κ×V)) (k:κ) (v:V):List (κ×V):=
 if (kvs.any λkv=>decide (kv.1=k))=true then kvs.map (λkv=>if kv.1=k then (kv.1,v) else kv) else kvs++[(k,v)]
theorem lh {p:κ×V}{r:List (κ×V)}{k:κ} (e:p.1=k):fQ (p::r) k=some p.2:=by simp [fQ,qcY,e]
theorem mh {p:κ×V}{r:List (κ×V)}{k:κ} (e:¬ p.1=k):fQ (p::r) k=fQ r k:=by simp [fQ,qcY,e]
theorem qF (k:κ):∀ kvs:List (κ×V),(kvs.any λkv=>decide (kv.1=k))=(fQ kvs k).isSome
 | []=>rfl
 | p::r=>by
  rw [qbU]
  by_cases e:p.1=k
  ·simp only [lh e,decide_eq_true e,Bool.true_or,qgj]
  ·rw [mh e,decide_eq_false e,qdm];exact qF k r
theorem jI (kvs:List (κ×V)) (k:κ) (v:V):(io kvs k v).length<=kvs.length+1:=by
 unfold io
 split
 ·rw [qai];lia
 ·rw [qaK,qaq,qba];lia
theorem jC.isSome_eq {o:Option V}{u:Option Value} (r:jC o u):o.isSome=u.isSome:=by
 cases o with
 | none=>cases u with
  | none=>rfl
  | some _=>exact (show False from r).elim
 | some _=>cases u with
  | none=>exact (show False from r).elim
  | some _=>rfl
theorem jC.getD {o:Option V}{u:Option Value}{d:V}{d':Value} (r:jC o u) (rd:aA d d'):aA (o.getD d) (u.getD d'):=by
 cases o with
 | none=>cases u with
  | none=>exact rd
  | some _=>exact (show False from r).elim
 | some _=>cases u with
  | none=>exact (show False from r).elim
  | some _=>exact r
theorem KV.val {kvs:List (κ×V)}{vs:List (κ×Value)} (r:KV kvs vs) (k:κ):jC (fQ kvs k) (valueAt vs k):=by
 unfold KV at r
 induction r with
 | nil=>exact True.intro
 | @cons p q ps qs h t ih=>
  obtain⟨h1,h2⟩:=h
  by_cases e:p.1=k
  ·have e':q.1=k:=h1.symm.trans e
   have b:valueAt (q::qs) k=some q.2:=by simp [valueAt,qcY,e']
   rw [lh e,b];exact h2
  ·have e':¬ q.1=k:=λz=>e (h1.trans z)
   have b:valueAt (q::qs) k=valueAt qs k:=by simp [valueAt,qcY,e']
   rw [mh e,b];exact ih
theorem KV.any {kvs:List (κ×V)}{vs:List (κ×Value)} (r:KV kvs vs) (k:κ):(kvs.any λkv=>decide (kv.1=k))=vs.any λkv=>decide (kv.1=k):=by
 unfold KV at r
 induction r with
 | nil=>rfl
 | cons h t ih=>rw [qbU,qbU,ih,h.1]
theorem KV.repl {kvs:List (κ×V)}{vs:List (κ×Value)} (r:KV kvs vs) (k:κ) {y:V}{u:Value} (ry:aA y u) :
  KV (kvs.map λkv=>if kv.1=k then (kv.1,y) else kv) (vs.map λkv=>if kv.1=k then (kv.1,u) else kv):=by
 unfold KV at r ⊢
 induction r with
 | nil=>exact .nil
 | @cons p q ps qs h t ih=>
  rw [qaj,qaj]
  refine .cons ?_ ih
  obtain⟨h1,h2⟩:=h
  by_cases e:p.1=k
  ·rw [if_pos e,if_pos (h1.symm.trans e)];exact⟨h1,ry⟩
  ·rw [if_neg e,if_neg (λz=>e (h1.trans z))];exact⟨h1,h2⟩
theorem KV.put {kvs:List (κ×V)}{vs:List (κ×Value)} (r:KV kvs vs) (k:κ) {y:V}{u:Value} (ry:aA y u):KV (io kvs k y) (stored vs k u):=by
 unfold io stored
 rw [r.any k]
 by_cases e:(vs.any λkv=>decide (kv.1=k))=true
 ·rw [if_pos e,if_pos e];exact r.repl k ry
 ·rw [if_neg e,if_neg e];exact qhe r ⟨rfl,ry⟩
theorem KV.length {kvs:List (κ×V)}{vs:List (κ×Value)} (r:KV kvs vs):kvs.length=vs.length:=qen r
end
theorem t8 {P:Program}{w:World}{k:Key}{u:Value} (r:aA (kV k) u):(bU P w).is k u=true:=by
 cases k with
 | inl i=>obtain⟨t,e⟩:=(show ∃ t,u=Value.int i t from r);subst e;exact qN P w i t
 | inr x=>obtain⟨t,e⟩:=(show ∃ t,u=Value.str x t from r);subst e;exact pq P w x t
theorem m8 {P:Program}{w:World}:∀ {ks:List Key}{us:List Value},av (ks.map kV) us->ItemsAre (bU P w) ks us
 | [],_,r=>by rw [qcw] at r;cases r;exact .nil
 | k::ks,_,r=>by
  rw [qaj] at r
  cases r with
  | cons h t=>exact .cons (t8 h) (m8 t)
abbrev KT (H:Hp):List (List Key×V)->List (List Key×Addr×Value)->Prop:=Paired λp q=>p.1=q.1/\H q.2.1=some (.tup (p.1.map kV))/\aA p.2 q.2.2
theorem KT.val {H:Hp}{kvs:List (List Key×V)}{xs:List (List Key×Addr×Value)} (r:KT H kvs xs) (k:List Key):jC (fQ kvs k) ((atKey xs k).map (·.2)):=by
 induction r with
 | nil=>exact True.intro
 | @cons p q ps qs h t ih=>
  obtain⟨h1,_,h2⟩:=h
  by_cases e:p.1=k
  ·have e':q.1=k:=h1.symm.trans e
   have b:atKey (q::qs) k=some q.2:=by simp [atKey,qcY,e']
   rw [lh e,b];exact h2
  ·have e':¬ q.1=k:=λz=>e (h1.trans z)
   have b:atKey (q::qs) k=atKey qs k:=by simp [atKey,qcY,e']
   rw [mh e,b];exact ih
theorem KT.repl {H:Hp}{kvs:List (List Key×V)}{xs:List (List Key×Addr×Value)} (r:KT H kvs xs) (k:List Key) {y:V}{u:Value} (ry:aA y u) :
  KT H (kvs.map λkv=>if kv.1=k then (kv.1,y) else kv) (xs.map (putAt k u)):=by
 induction r with
 | nil=>exact .nil
 | @cons p q ps qs h t ih=>
  rw [qaj,qaj]
  refine .cons ?_ ih
  obtain⟨h1,h2,h3⟩:=h
  unfold putAt
  by_cases e:p.1=k
  ·rw [if_pos e,if_pos (h1.symm.trans e)];exact⟨h1,h2,ry⟩
  ·rw [if_neg e,if_neg (λz=>e (h1.trans z))];exact⟨h1,h2,h3⟩
theorem KT.put {H:Hp}{kvs:List (List Key×V)}{xs:List (List Key×Addr×Value)} (r:KT H kvs xs) (k:List Key) {b:Addr}{y:V}{u:Value} (hb:H b=some (.tup (k.map kV))) (ry:aA y u) :
  KT H (io kvs k y) (storedH xs k b u):=by
 have e:(kvs.any λkv=>decide (kv.1=k))=(atKey xs k).isSome:=by
  rw [qF,(r.val k).isSome_eq,Option.isSome_map]
 unfold io storedH
 rw [e]
 by_cases q:(atKey xs k).isSome=true
 ·rw [if_pos q,if_pos q];exact r.repl k ry
 ·rw [if_neg q,if_neg q];exact qhe r ⟨rfl,hb,ry⟩
theorem KT.keeps {H H':Hp}{kvs:List (List Key×V)}{xs:List (List Key×Addr×Value)} (r:KT H kvs xs) (ht:∀ b ys,H b=some (.tup ys)->H' b=some (.tup ys)):KT H' kvs xs:=
 Paired.mapP r λ_ _ z=>⟨z.1,ht _ _ z.2.1,z.2.2⟩
section
variable {P:Program}{w:World}{H:Hp}{h:Heap}{a:Addr}
theorem z7 {u:HO} (ok:HOk P w H h) (e:Rd H a u):bT P w H h a u:=e.ok ok
theorem qW {kvs:List (Key×V)} (ok:HOk P w H h) (e:Rd H a (.dK kvs)):kvs.length<=sizeLine/\(a==sysModules)=false/\∃ vs,KV kvs vs/\h.DictOf (bU P w) a vs:=
 show bT P w H h a (.dK kvs) from z7 ok e
theorem Cq {kvs:List (Key×V)} (ok:HOk P w H h) (e:H a=some (.dK kvs)):kvs.length<=sizeLine/\(a==sysModules)=false/\∃ vs,KV kvs vs/\h.DictOf (bU P w) a vs:=qW ok (.inl e)
theorem oP {ks:List Key} (ok:HOk P w H h) (e:H a=some (.tup (ks.map kV))):(tupleKind (bU P w)).is h ks a:=by
 obtain⟨_,its,r,o,h1,h2,⟨n,h3⟩,_⟩:=(show bT P w H h a (.tup (ks.map kV)) from ok a _ e)
 exact⟨o,its.toArray,n,h1,h2,h3,by simpa using m8 r⟩
theorem p7 {kvs:List (List Key×V)} (ok:HOk P w H h) (e:Rd H a (.dT kvs)):kvs.length<=sizeLine/\(a==sysModules)=false/\
  ∃ xs,KT H kvs xs/\h.DictOfH (tupleKind (bU P w)) a xs:=by
 obtain⟨z,y,xs,r,o,es,ep,h1,h2,h3,h4,h5⟩:=(show bT P w H h a (.dT kvs) from z7 ok e)
 refine⟨z,y,xs,r,o,es,ep,h1,h2,h3,h4,λx hx=>?_,h5⟩
 have all:∀ {l:List (List Key×V)}{m:List (List Key×Addr×Value)},KT H l m->∀ x ∈ m,(tupleKind (bU P w)).is h x.1 x.2.1:=by
  intro l m q
  induction q with
  | nil=>intro x hx;exact nomatch hx
  | @cons p q ps qs hq t ih=>
   intro x hx
   rcases qaz.mp hx with e | hx
   ·subst e
    exact oP ok (by rw [<-hq.1];exact hq.2.1)
   ·exact ih x hx
 exact all r x hx
theorem zZ {kvs:List (List Key×V)} (ok:HOk P w H h) (e:H a=some (.dT kvs)):kvs.length<=sizeLine/\(a==sysModules)=false/\
  ∃ xs,KT H kvs xs/\h.DictOfH (tupleKind (bU P w)) a xs:=p7 ok (.inl e)
end
noncomputable def nI (H:Hp) (a:Addr) (y:V) (r:Option V):Prop:=
 (∃ kvs k,Rd H a (.dK kvs)/\y=kV k/\r=fQ kvs k)\/∃ kvs k b,Rd H a (.dT kvs)/\y=.ref b/\H b=some (.tup (k.map kV))/\r=fQ kvs k
noncomputable def wM (H:Hp) (a:Addr) (y v:V) (H':Hp):Prop:=
 (∃ kvs k,H a=some (.dK kvs)/\y=kV k/\kvs.length < sizeLine/\H'=upd H a (.dK (io kvs k v)))\/
 ∃ kvs k b,H a=some (.dT kvs)/\y=.ref b/\H b=some (.tup (k.map kV))/\kvs.length < sizeLine/\H'=upd H a (.dT (io kvs k v))
theorem nI.t {H:Hp}{a b:Addr}{kvs:List (List Key×V)}{k:List Key} (e:H a=some (.dT kvs)) (eb:H b=some (.tup (k.map kV))):nI H a (.ref b) (fQ kvs k):=.inr ⟨kvs,k,b,.inl e,rfl,eb,rfl⟩
theorem wM.t {H:Hp}{a b:Addr}{kvs:List (List Key×V)}{k:List Key}{v:V} (e:H a=some (.dT kvs)) (eb:H b=some (.tup (k.map kV))) (hl:kvs.length < sizeLine) :
  wM H a (.ref b) v (upd H a (.dT (io kvs k v))):=.inr ⟨kvs,k,b,e,rfl,eb,hl,rfl⟩
section
variable {X:Cx}{pins:List (Addr×Obj)}{σ:St}{H:Hp}{s:Shared}{a:Addr}{y v:V}{u r:Value}{o:Option V}{A:Around}{E:Value->Shared->Prop}
theorem Inv.big (I:Inv X pins σ H s):sysModules < s.heap.objs.size:=by
 have h:mainGlobals < s.heap.objs.size:=(I.mod.glob.keeps I.bk).lt
 exact qd9 (by decide) h
theorem uW {Q:Value->Shared->Prop} (hu:A.units+1 < cLine) (I:Inv X pins σ H s) (g:nI H a y (some v)) (ry:aA y u) (h:∀ w' s',Inv X pins σ H s'->aA v w'->Q w' s') :
  wpAny (model X.prog X.w) A (getItem (.ref a) u) Q E s:=by
 rcases g with⟨kvs,k,e,ey,l⟩ | ⟨kvs,k,b,e,ey,eb,l⟩
 ·subst ey
  obtain⟨z,hd,vs,rel,dd⟩:=qW I.hok e
  obtain⟨w',hw,rw'⟩:=jC.some_of (v:=v) (o:=valueAt vs k) (by rw [l];exact rel.val k)
  exact wpAny_getItem_of (t8 ry) dd.mapOf hw (h w' _ (I.tok _) rw')
 ·subst ey
  cases (show u=Value.ref b from ry)
  obtain⟨z,hd,xs,rel,dd⟩:=p7 I.hok e
  obtain⟨w',hw,rw'⟩:=jC.some_of (v:=v) (o:=(atKey xs k).map (·.2)) (by rw [l];exact rel.val k)
  obtain⟨p,hp,hp2⟩:=qae.mp hw
  refine wpAny_getItem_heap (qe9 hu) (oP I.hok eb) dd hp ?_
  rw [hp2]
  exact h w' _ (I.tok _) rw'
theorem sS {h':Heap}{t':Nat}{ob:HO} (I:Inv X pins σ H s) (mu:Mut (H a)) (hs:Heap.SameBut a s.heap h') (he:∃ q,h'.get? a=some q) (new:bT X.prog X.w (upd H a ob) h' a ob) :
  Inv X pins σ (upd H a ob) { s with heap:=h',toks:=t' }:=
 I.write (x:=a) (e:=a) mu (.inl rfl) (λb q hb z=>(hs.2 b hb).trans z) he new
theorem A0 {P:Program}{w:World}{H':Hp}{h':Heap}{kvs:List (Key×V)}{vs:List (Key×Value)} (z:kvs.length<=sizeLine) (hd:(a==sysModules)=false) (rel:KV kvs vs) (dd:h'.DictOf (bU P w) a vs) :
  bT P w H' h' a (.dK kvs):=⟨z,hd,vs,rel,dd⟩
theorem uS {H':Hp}{Q:Unit->Shared->Prop} (hu:A.units+1 < cLine) (I:Inv X pins σ H s) (g:wM H a y v H') (ry:aA y u) (rv:aA v r) (h:∀ s',Inv X pins σ H' s'->Q () s') :
  wpAny (model X.prog X.w) A (setItem (.ref a) u r) Q E s:=by
 rcases g with⟨kvs,k,e,ey,l,eH⟩ | ⟨kvs,k,b,e,ey,eb,l,eH⟩
 ·subst ey eH
  obtain⟨z,hd,vs,rel,dd⟩:=Cq I.hok e
  have hz:vs.length<=sizeLine:=by rw [<-rel.length];exact z
  have hl:(io kvs k v).length<=sizeLine:=by have:=jI kvs k v;lia
  refine wpAny_setItem_pairs (hsz:=hz) (t8 ry) dd λh' dd' hs=>h _ ?_
  have he:∃ q,h'.get? a=some q:=let ⟨q,_,_,hq,_⟩:=dd';⟨q,hq⟩
  exact sS I (by rw [e];exact True.intro) hs he (A0 hl hd (rel.put k rv) dd')
 ·subst ey eH
  cases (show u=Value.ref b from ry)
  obtain⟨z,hd,xs,rel,dd⟩:=zZ I.hok e
  have hz:xs.length<=sizeLine:=by rw [<-qen rel];exact z
  have hl:(io kvs k v).length<=sizeLine:=by have:=jI kvs k v;lia
  refine wpAny_setItem_heap (hsz:=hz) (qe9 hu) (oP I.hok eb) dd λh' dd' hs=>h _ ?_
  obtain⟨q,es,ep,hq,h2,h3,h4,_,h5⟩:=dd'
  refine sS I (by rw [e];exact True.intro) hs ⟨q,hq⟩ ⟨hl,hd,_,(rel.put k eb rv).keeps λc ys ec=>?_,q,es,ep,hq,h2,h3,h4,h5⟩
  rw [aw (Ck ec e (λz=>nomatch z))]
  exact ec
end
section
variable {X:Cx}{pins:List (Addr×Obj)}{σ:St}{H:Hp}{s:Shared}{a:Addr}{kvs:List (Key×V)}{k:Key}{u:Value}{A:Around}{E:Value->Shared->Prop}
end
noncomputable def Aw (i:Expr):Prop:=∀ ov iv,subscripted i false ov iv=operate [ov,iv] (getItem ov iv)
theorem zj {prog:Program}{w:World}{A:Around}{E:Value->Shared->Prop}{s:Shared}{env:Env}{value slice:Expr}{pos:Pos}{T id:String}{Q:Value->Shared->Prop}
  (hl:typeLookup (.type T) "__getitem__" = pure (some (.builtin id))) (hs:Aw slice)
  (h:wpAny (model prog w) A (eval value env) (λo s₁=>wpAny (model prog w) A (eval slice env) (λi s₂=>s₂.TypeIs o T/\wpAny (model prog w) A (getItem o i) Q E s₂) E s₁) E s) :
  wpAny (model prog w) A (eval (.Subscript value slice pos) env) Q E s:=by
 refine qhr (qb1 h (λo s₁ h₁=>qb1 h₁ (λi s₂ h₂=>?_) λ_ _ x=>x) λ_ _ x=>x)
 obtain⟨hT,h₂⟩:=h₂
 unfold subscriptTail
 refine qaa ?_
 rw [getitemInPython_of_ne hT.not_modules]
 refine qaa (qfY hT hl ?_)
 have fin:wpAny (model prog w) A (subscripted slice false o i) (λr s₃=>wpAny (model prog w) A (letTemporaryGo value o r >>= λ_=>pure r) Q E s₃) E s₂:=by
  rw [hs o i]
  exact wpAny_operating (qb1 h₂ (λr s₃ h₃=>qaa (wpAny_letTemporaryGo (qab h₃))) λ_ _ x=>x)
 first
  | exact qab (qaa fin)
  | exact qaa (qab (qaa fin))
  | exact qaa fin
theorem qc {X:Cx}{pins:List (Addr×Obj)}{σ:St}{H:Hp}{s:Shared}{a:Addr}{y:V}{o:Option V} (I:Inv X pins σ H s) (g:nI H a y o):s.TypeIs (.ref a) "dict":=by
 rcases g with⟨kvs,k,e,_,_⟩ | ⟨kvs,k,b,e,_,_,_⟩
 ·obtain⟨_,_,vs,_,dd⟩:=qW I.hok e
  exact dd.typeIs
 ·obtain⟨_,_,xs,_,dd⟩:=p7 I.hok e
  exact dd.typeIs
noncomputable def CO (td ty:TE):TE:=λσ H Q=>td σ H λx H1=>ty σ H1 λy H2=>∃ a v,x=.ref a/\nI H2 a y (some v)/\Q v H2
noncomputable def C9 (td ty tv:TE):TS:=λD σ H=>tv σ H λv H1=>td σ H1 λx H2=>ty σ H2 λy H3=>∃ a H4,x=.ref a/\wM H3 a y v H4/\D.nx σ H4
section
variable {X:Cx}{o i e value:Expr}{pos pos' tpos:Pos}{td ty tv:TE}
theorem y0 (hu:X.A.units+1 < cLine) (ho:PE X o td) (hi:PE X i ty) (hs:Aw i):PE X (.Subscript o i pos) (CO td ty):=by
 intro pins s σ H Q I h
 refine zj PySem.F.slot_dict_getitem.lookup hs (thn (ho pins s σ H _ I h) λu s1 ⟨x,H1,I1,rx,q1⟩=>thn (hi pins s1 σ H1 _ I1 q1) λiv s2 ⟨y,H2,I2,ry,a,v,ex,g,q2⟩=>?_)
 subst ex
 obtain rfl:u=Value.ref a:=rx
 exact⟨qc I2 g,uW hu I2 g ry λw' s3 I3 rw'=>⟨v,H2,I3,rw',q2⟩⟩
theorem yy (hu:X.A.units+1 < cLine) (ho:PE X o td) (hi:PE X i ty) (hv:PE X value tv) (hs:swapsWith value (some (.Subscript o i pos')) pos.line X.env=pure false) :
  PS X (.Assign [.Subscript o i pos'] value pos) (C9 td ty tv):=by
 intro pins s σ H D I h
 refine wpAny_Assign_Subscript (thn (hv pins s σ H _ I h) λr s1 ⟨v,H1,I1,rv,q1⟩=>thn (ho pins s1 σ H1 _ I1 q1) λu s2 ⟨x,H2,I2,rx,q2⟩=>thn (hi pins s2 σ H2 _ I2 q2) λiv s3 ⟨y,H3,I3,ry,a,H4,ex,g,q3⟩=>?_) hs
 subst ex
 obtain rfl:u=Value.ref a:=rx
 exact uS hu I3 g ry rv λs4 I4=>⟨σ,H4,I4,q3⟩
end
theorem xh {P:Program}{w:World}{H:Hp} (h:Heap) (hb:sysModules < h.objs.size):bT P w H (h.push { cls:=.type "dict",data:=.dict #[] }) h.objs.size (.dT []):=
 ⟨qaI _,beq_eq_false_iff_ne.mpr (qbR (qam hb)),[],.nil,_,#[],0,qao _ rfl,⟨rfl,rfl,rfl⟩,rfl,rfl,qek⟩
noncomputable def Br:TE:=λ_ H Q=>∀ p,H p=none->Q (.ref p) (upd H p (.dT []))
section
variable {X:Cx}{pos:Pos}
theorem vZ:PE X (.Dict [] [] pos) Br:=λpins s σ H Q I h=>
 wpAny_Dict_empty ⟨.ref s.heap.objs.size,_,I.laid (a:=s.heap.objs.size) (o:=.dT []) (t':=s.toks) (λ_ _ q=>qad _ q) (qan _) (xh s.heap I.big),rfl,h _ (I.hok.fresh (qan _))⟩
end
structure M2 (X:Cx) (o:Expr) (m:Str) (apos:Pos) (e f:Expr) (cpos:Pos):Prop where
 base:attributeBase o m X.env (eval o X.env)=eval o X.env
 few:((backTo cpos (starEach [e,f] X.env)).all (λx=>!x.1) && (backToKw cpos (keywordEach [] X.env)).all (λx=>x.1.isSome)
  && decide (([e,f]:List Expr).length+([]:List Keyword).length+(if ([]:List Keyword).isEmpty then 0 else 1) < 30))=true
 line:(apos.endLine==cpos.line)=true
 trees:backTo cpos (starEach [e,f] X.env)=[(false,eval e X.env),(false,eval f X.env)]
noncomputable def IsD (H:Hp) (a:Addr):Prop:=(∃ kvs,Rd H a (.dK kvs))\/∃ kvs,Rd H a (.dT kvs)
theorem BV {X:Cx}{pins:List (Addr×Obj)}{σ:St}{H:Hp}{s:Shared}{a:Addr} (I:Inv X pins σ H s) (d:IsD H a) :
  s.TypeIs (.ref a) "dict"/\(∀ b,Value.ref a=.ref b->∃ ob,s.heap.get? b=some ob/\ob.dict=none)/\(a==sysModules)=false:=by
 rcases d with⟨kvs,e⟩ | ⟨kvs,e⟩
 ·obtain⟨_,hd,vs,_,dd⟩:=qW I.hok e
  refine⟨dd.typeIs,λb q=>?_,hd⟩
  cases q
  obtain⟨ob,_,_,h1,h2,_⟩:=dd
  exact⟨ob,h1,h2.2.1⟩
 ·obtain⟨_,hd,xs,_,dd⟩:=p7 I.hok e
  refine⟨dd.typeIs,λb q=>?_,hd⟩
  cases q
  obtain⟨ob,_,_,h1,h2,_⟩:=dd
  exact⟨ob,h1,h2.2.1⟩
section
variable {X:Cx}{pins:List (Addr×Obj)}{σ:St}{H:Hp}{s:Shared}{a:Addr}{y d:V}{u r:Value}{o:Option V}{A:Around}{E:Value->Shared->Prop}
theorem AL {Q:Value->Shared->Prop} (hu:A.units+1 < cLine) (I:Inv X pins σ H s) (g:nI H a y o) (ry:aA y u) (rd:aA d r) (h:∀ w' s',Inv X pins σ H s'->aA (o.getD d) w'->Q w' s') :
  wpAny (model X.prog X.w) A (call (.builtin "dict.get") [.ref a,u,r]) Q E s:=by
 rcases g with⟨kvs,k,e,ey,l⟩ | ⟨kvs,k,b,e,ey,eb,l⟩
 ·subst ey
  obtain⟨z,hd,vs,rel,dd⟩:=qW I.hok e
  refine call_meetsIn qdT dd.typeIs qfz (qfp _ _ _) (meets_dict_get_default (bU X.prog X.w) a (t8 ry) hd r) ⟨_,dd.mapOf,h _ _ (I.tok _) ?_⟩
  rw [l]
  exact (rel.val k).getD rd
 ·subst ey
  cases (show u=Value.ref b from ry)
  obtain⟨z,hd,xs,rel,dd⟩:=p7 I.hok e
  refine call_meetsIn qdT dd.typeIs qfz (qfp _ _ _) (meetsH_dict_get_default (tupleKind (bU X.prog X.w)) a b hd r) ⟨qe9 hu,k,xs,oP I.hok eb,dd,h _ _ (I.tok _) ?_⟩
  rw [l]
  exact (rel.val k).getD rd
end
noncomputable def AW (td ty tx:TE):TE:=λσ H Q=>td σ H λx H1=>∃ a,x=.ref a/\IsD H1 a/\ty σ H1 λy H2=>tx σ H2 λz H3=>∃ o,nI H3 a y o/\Q (o.getD z) H3
section
variable {X:Cx}{o e f:Expr}{apos cpos:Pos}{td ty tx:TE}
theorem vS (hu:X.A.units+1 < cLine) (ho:PE X o td) (he:PE X e ty) (hf:PE X f tx) (m:M2 X o "get" apos e f cpos):PE X (.Call (.Attribute o "get" apos) [e,f] [] cpos) (AW td ty tx):=by
 intro pins s σ H Q I h
 refine wpAny_Call_method m.base m.few m.line PySem.F.plainAttrs_dict qdT PySem.F.type_dict_get (thn (ho pins s σ H _ I h) λu s1 ⟨x,H1,I1,rx,a,ex,d,q1⟩=>?_)
 subst ex
 obtain rfl:u=Value.ref a:=rx
 obtain⟨t1,t2,_⟩:=BV I1 d
 refine⟨t1,t2,?_⟩
 rw [m.trees]
 refine qfV rfl (qgc (qb6 (thn (he pins s1 σ H1 _ I1 q1) λiv s2 ⟨y,H2,I2,ry,q2⟩=>
  qb6 (thn (hf pins s2 σ H2 _ I2 q2) λfv s3 ⟨z,H3,I3,rz,ov,g,q3⟩=>qcB ?_))))
 exact AL hu I3 g ry rz λw' s4 I4 rw'=>⟨_,H3,I4,rw',q3⟩
end
section
variable {X:Cx}{pins:List (Addr×Obj)}{σ:St}{H:Hp}{s:Shared}{a:Addr}{kvs:List (Key×V)}{A:Around}{E:Value->Shared->Prop}
end
section
variable {X:Cx}{pins:List (Addr×Obj)}{σ:St}{H:Hp}{s:Shared}{a:Addr}{y:V}{u:Value}{A:Around}{E:Value->Shared->Prop}
end
section
variable {prog:Program}{w:World}{A:Around}{E:Value->Shared->Prop}{s:Shared}{κ:Type} [DecidableEq κ] {knd:KeyKind prog w κ}{a:Addr}{kvs:List (κ×Value)}
end
section
variable {X:Cx}{pins:List (Addr×Obj)}{σ:St}{H:Hp}{s:Shared}{a:Addr}{kvs:List (Key×V)}{k:Key}{u r:Value}{A:Around}{E:Value->Shared->Prop}{z:V}
end
section
variable {K:PySem.W.Frag}{X:Cx}{pos:Pos}{e a b o f:Expr}{fe fa fb fo ff:Ef}
end
section
variable {K:PySem.W.Frag}{X:Cx}
end
noncomputable def iX (h:Heap) (d:Addr) (es:Array DictEntry) (ep:Nat):Prop:=∃ o,h.get? d=some o/\o.ExactDict/\o.data=.dict es ep
theorem iX.at' {h h':Heap}{d:Addr}{es:Array DictEntry}{ep:Nat} (x:iX h d es ep) (e:∀ o,h.get? d=some o->h'.get? d=some o):iX h' d es ep:=let ⟨o,ho,r⟩:=x;⟨o,e o ho,r⟩
theorem iX.type {s:Shared}{d:Addr}{es:Array DictEntry}{ep:Nat} (x:iX s.heap d es ep):s.TypeIs (.ref d) "dict":=let ⟨o,ho,hc,_⟩:=x;⟨o,ho,hc.1⟩
theorem iX.lt {h:Heap}{d:Addr}{es:Array DictEntry}{ep:Nat} (x:iX h d es ep):d < h.objs.size:=let ⟨o,ho,_⟩:=x;qak ho
section
variable {prog:Program}{w:World}{A:Around}{E:Value->Shared->Prop}{s:Shared}{d it:Addr}{es:Array DictEntry}{i ep:Nat}
theorem we {Q:Value->Shared->Prop} (hd:(d==sysModules)=false) (hm:iX s.heap d es ep)
  (hQ:Q (.ref s.heap.objs.size) { s with heap:=s.heap.push { cls:=.type "dict_keyiterator",data:=.fields #[.ref d,.int 0 0,.int es.size 0,.int ep 0] } }) :
  wpAny (model prog w) A (pyIter (.ref d)) Q E s:=by
 have hT:=hm.type
 obtain⟨o,ho,hc,hdat⟩:=id hm
 refine qd0 hT qfx (qaU qfx hT PySem.F.entry_dict_iter ?_ (PySem.F.args_dict_iter_1 _))
 unfold Builtin.«dict.__iter__»
 refine qaa ?_
 unfold Builtin.Dict.dictSlotNone
 refine qaa (wpAny_notOrdered_dict hT ?_)
 show wpAny _ _ (pure (Value.ref d)) _ _ s
 refine qab ?_
 show wpAny _ _ (Builtin.Dict.showsAll d >>= _) _ _ s
 unfold Builtin.Dict.showsAll
 rw [if_neg (by rw [hd];exact qal)]
 refine qaa (qab ?_)
 refine qaa (qfj ho hdat ?_)
 refine qaa (qf0 ho hdat ?_)
 refine qaa (qaS (qab ⟨_,rfl,"dict_keyiterator",_,⟨_,qao _ rfl,rfl⟩,qbC.lookup,?_⟩))
 simpa [rawInt] using hQ
theorem wp {Q:Option Value->Shared->Prop} (hit:s.heap.IsKeyIter it d i es.size ep) (hm:iX s.heap d es ep) (hlt':i < es.size)
  (hQ:∀ h',h'.IsKeyIter it d (i+1) es.size ep->Heap.SameBut it s.heap h'->Q (some es[i].key) { s with heap:=h' }) :
  wpAny (model prog w) A (pyNext (.ref it)) Q E s:=by
 obtain⟨o,ho,hc,hd⟩:=id hit
 obtain⟨od,hod,hcd,hdd⟩:=id hm
 unfold pyNext
 refine qaa (qda (qbc (name:=Str.ofString "__next__") hit.typeIs qbC
  (qaU qbC hit.typeIs qd7 ?_ (qd3 _))))
 refine qaa (qab ?_)
 refine qaa ?_
 refine qaa ?_
 first | refine qaa (qcs hit.typeIs (qab ?_)) | refine qaa (qc1 hit.typeIs (qab ?_))
 refine qaa (qix ho hd ?_)
 have hown:Builtin.Dict_items.ownsTuple "dict_keyiterator" = false:=by decide
 simp only [hown,qap,if_false]
 show wpAny _ _ (if (Value.ref d==Value.none)=true then _ else _) _ _ s
 rw [if_neg (show ¬ ((Value.ref d==Value.none)=true) from qal)]
 refine qaa (qab ?_)
 refine qaa (qfj hod hdd ?_)
 rw [if_neg (by simp)]
 refine qaa (qab ?_)
 refine qaa (qf0 hod hdd ?_)
 rw [if_neg (by simp)]
 refine qab ?_
 simp only [show ¬ ((i:Int) < 0) from by lia,if_false,qaX,qar hlt']
 refine qaa ?_
 first | refine qaa (qcs hit.typeIs (qab ?_)) | refine qaa (qc1 hit.typeIs (qab ?_))
 refine qaa (qgR hit.typeIs ?_)
 show wpAny _ _ (setField (.ref it) 1 (rawInt ((i:Int)+1)) >>= _) _ _ s
 refine qaa (qbZ ho hd (by simp) ?_)
 have hit':(s.heap.update it (Obj.mapFields (·.setIfInBounds 1 (rawInt ((i:Int)+1))))).IsKeyIter it d (i+1) es.size ep:=
  ⟨_,qbb _ ho (qb8 (qbh hd _)),(qcC ..).trans hc,by rw [qbh hd];simp [rawInt]⟩
 refine qaa (qaT ?_)
 refine qaa (qgR (s:={ s with heap:=s.heap.update it (Obj.mapFields (·.setIfInBounds 1 (rawInt ((i:Int)+1)))) }) hit'.typeIs ?_)
 show wpAny _ _ (pure es[i].key) _ _ _
 exact qab (qab ⟨_,rfl,qab (hQ _ hit' (qaN ..))⟩)
theorem yf {Q:Option Value->Shared->Prop} (hh:A.handled=none) (hit:s.heap.IsKeyIter it d es.size es.size ep) (hm:iX s.heap d es ep)
  (hQ:∀ h',Heap.ExtBut it s.heap h'->Q none { s with heap:=h' }):wpAny (model prog w) A (pyNext (.ref it)) Q E s:=by
 obtain⟨o,ho,hc,hd⟩:=id hit
 obtain⟨od,hod,hcd,hdd⟩:=id hm
 unfold pyNext
 refine qaa (qda (qbc (name:=Str.ofString "__next__") hit.typeIs qbC
  (qaU qbC hit.typeIs qd7 ?_ (qd3 _))))
 refine qaa (qab ?_)
 refine qaa ?_
 refine qaa ?_
 first | refine qaa (qcs hit.typeIs (qab ?_)) | refine qaa (qc1 hit.typeIs (qab ?_))
 refine qaa (qix ho hd ?_)
 have hown:Builtin.Dict_items.ownsTuple "dict_keyiterator" = false:=by decide
 simp only [hown,qap,if_false]
 show wpAny _ _ (if (Value.ref d==Value.none)=true then _ else _) _ _ s
 rw [if_neg (show ¬ ((Value.ref d==Value.none)=true) from qal)]
 refine qaa (qab ?_)
 refine qaa (qfj hod hdd ?_)
 rw [if_neg (by simp)]
 refine qaa (qab ?_)
 refine qaa (qf0 hod hdd ?_)
 rw [if_neg (by simp)]
 refine qab ?_
 have hge:es.size<=es.size:=qan _
 simp only [show ¬ ((es.size:Int) < 0) from by lia,if_false,qaX,qaR hge]
 refine qaa ?_
 first | refine qaa (qcs hit.typeIs (qab ?_)) | refine qaa (qc1 hit.typeIs (qab ?_))
 show wpAny _ _ (setField (.ref it) 0 .none >>= _) _ _ s
 refine qaa (qbZ ho hd (by simp) ?_)
 show wpAny _ _ (newExc (.type "StopIteration") [] >>= _) _ _ _
 refine qaa ?_
 simp only [newExc,newTuple]
 refine qaa (qaS ?_ (by size_fits))
 refine qaa (m:=firstArgMember _ _) (qdE (a:=Value.none) (by first | rfl | (simp only [firstArgMember];rfl)) ?_)
 refine qaS ?_ (by size_fits)
 simp only [raiseNew]
 refine qaa (qe8 ?_)
 rw [show A.in1.handled=none from hh]
 refine qaa (qab (qfX ?_))
 refine qaa (qcU (T:="StopIteration") (b:=true) ⟨_,qao _ rfl,rfl⟩ qgg ?_)
 exact qab (hQ _ (((qaN ..).extBut.push _).push _))
theorem uD (hh:A.handled=none) (I d:Addr) (hne:d≠I) (es:Array DictEntry) (ep:Nat) :
  Walks prog w A I [I,d] [I] es.size (λi v=>∃ e,es[i]?=some e/\v=e.key) (λi h=>h.IsKeyIter I d i es.size ep/\iX h d es ep) where
 sub:=λb hb=>by simp at hb;simp [hb]
 frame:=λ_ _ _ st hk=>⟨st.1.at λo e=>hk I (by simp) o e,st.2.at' λo e=>hk d (by simp) o e⟩
 item:=λi s Q E hi st hQ=>by
  refine wp st.1 st.2 hi λh' hit' hs'=>?_
  exact hQ _ h' s.toks ⟨es[i],by simp [hi],rfl⟩ ⟨hit',st.2.at' λo q=>hs'.extBut d o hne q⟩ λb o hb q=>hs'.extBut b o (λh=>hb (by simp [h])) q
 done:=λs Q E st hQ=>yf hh st.1 st.2 λh' he'=>hQ h' s.toks λb o hb e=>he' b o (λh=>hb (by simp [h])) e
 self:=λ_ _ _ _ st hQ=>wpAny_pyIter_keyiter st.1 hQ
theorem yB (prog:Program) (w:World) (d:Addr) (es:Array DictEntry) (ep:Nat) (lo:(d==sysModules)=false):PySem.W.KdlSrc prog w "dict" d d es.size (λi v=>∃ e,es[i]?=some e/\v=e.key) (λh=>iX h d es ep) where
 type:=λs S=>S.type
 there:=λh S=>⟨S.lt,S.lt⟩
 keep:=λh h' S hk=>S.at' λo e=>hk d (.inl rfl) o e
 notList:=by decide
 notTuple:=by decide
 hint:=λA E s Q S h=>PySem.W.kdl_hint_dict S.type h
 iter:=λA s hh S=>⟨_,_,λE Q h=>we lo S h,uD hh s.heap.objs.size d (qam S.lt) es ep,
  ⟨⟨_,qao _ rfl,rfl,rfl⟩,S.at' λo e=>qad _ e⟩⟩
end
section
variable {prog:Program}{w:World}{A:Around}{E:Value->Shared->Prop}{s:Shared}{d:Addr}{es:Array DictEntry}{ep:Nat}
theorem pf {Q:List Value->Shared->Prop} (lo:(d==sysModules)=false) (S:iX s.heap d es ep) (hh:A.handled=none) (hn:es.size<=sizeLine)
  (h:∀ h' tk,(∀ b o,s.heap.get? b=some o->h'.get? b=some o)->s.heap.objs.size < h'.objs.size->Q (es.toList.map (·.key)) { s with heap:=h',toks:=tk }) :
  wpAny (model prog w) A (collect (.ref d)) Q E s:=by
 have hlt:d < s.heap.objs.size:=S.lt
 unfold collect
 refine qaa (qdi (qa7 qeK ?_))
 show wpAny _ _ (do again (.builtin "list.__iadd__" ⟨[<-newList [],.ref d],[]⟩)) _ _ s
 refine qaa (qcM (qab ⟨qcq _ (by decide +kernel),qa7 qfH ?_⟩))
 show wpAny _ _ (Builtin.List.listExtendWith (.ref s.heap.objs.size) (.ref d) (.ref s.heap.objs.size)) _ _ { s with heap:=s.heap.push (seqObj "list" #[] 0) }
 refine qei (A:=A) (R:=λr s'=>match r with
   | .ok (.ret v)=>wpAny (model prog w) A (match v with
     | .ref a=>do
      let o <-load a
      match o.data with
      | .seq xs _=>pure xs.toList
      | _=>unsupported "internal:collect"
     | _=>unsupported "internal:collect") Q E s'
   | .ok _=>False
   | .error e=>E e s') (s:={ s with heap:=s.heap.push (seqObj "list" #[] 0) }) (yB prog w d es ep lo) hh (S.at' λo e=>qad _ e) s.heap.objs.size (qa4 hlt) (qa4 hlt) (.ref s.heap.objs.size) 0 (qao _ rfl) (λh' tk acc c hk hS hI=>?_) hn
 show wpAny (model prog w) A (do
   let o <-load s.heap.objs.size
   match o.data with
   | .seq xs _=>pure xs.toList
   | _=>unsupported "internal:collect") Q E { s with heap:=h',toks:=tk }
 refine qaa (qdy hS ?_)
 show wpAny _ _ (pure acc.toList) Q E _
 have e:acc.toList=es.toList.map (·.key):=by
  apply qeS
  intro i
  rw [qaW,qa8,qa8]
  by_cases hi:i < acc.size
  ·obtain⟨e,he,hv⟩:=hI.2 i acc[i] (qar hi)
   rw [he,qar hi,hv];rfl
  ·rw [qaR (by lia),qaR (by rw [<-hI.1];lia)];rfl
 rw [e]
 refine qab (h h' tk (λb o q=>?_) (qak hS))
 exact hk b o (qam (qak q)) (qad _ q)
theorem sr {Q:Value->Shared->Prop}{vs:List Value} (lo:(d==sysModules)=false) (S:iX s.heap d es ep) (hh:A.in1.handled=none) (hvs:es.toList.map (·.key)=vs) (h64:vs.length<=64) (hu:A.in1.in1.units < cLine)
  (t:∀ v ∈ vs,∃ l,TuI s.heap v l)
  (h:∀ (h':Heap) (tk:Nat) (p:Addr) (ep:Nat) (out:List Value),(∀ b o,s.heap.get? b=some o->h'.get? b=some o)->s.heap.objs.size<=p->h'.get? p=some (seqObj "list" out.toArray ep)->out.Perm vs->out.Pairwise (λx y=>OI.kle (tuI s.heap x) (tuI s.heap y))->Q (.ref p) { s with heap:=h',toks:=tk }) :
  wpAny (model prog w) A (call (.builtin "sorted") [.ref d]) Q E s:=by
 refine qcJ qf1 qfu qfv (qfw _) ?_
 unfold Builtin.«sorted»
 refine qaa (m:=checkCount "sorted" 1 1 _) (qab ?_)
 have hsz:es.size<=sizeLine:=by
  have:=congrArg List.length hvs
  rw [qai,qav] at this
  rw [qbi];lia
 refine qaa (pf lo S hh hsz λh1 tk hk hlt=>?_)
 rw [hvs]
 refine qaa (qcM ?_ (by rw [qbi];lia))
 have hoL:(h1.push (seqObj "list" vs.toArray 0)).get? h1.objs.size=some (seqObj "list" vs.toArray 0):=qao _ rfl
 show wpAny _ _ _ _ _ { s with heap:=h1.push (seqObj "list" vs.toArray 0),toks:=tk }
 refine qaa (qaT (qaU qeP ⟨_,hoL,rfl⟩ qex (gL (O:=OI) (rk:=λp=>tuI s.heap p.1) (S:=λp=>∃ l,TuI s.heap p.1 l) (s:={ s with heap:=h1.push (seqObj "list" vs.toArray 0),toks:=tk }) hoL h64 (λh' hk'=>?_) (λv hv=>t v hv) λout a1 a2=>⟨_,rfl,?_⟩) (qeR _)))
 ·have hk2:∀ b o,s.heap.get? b=some o->h'.get? b=some o:=λb o q=>hk' b o (qam (qak (hk b o q))) (qad _ (hk b o q))
  obtain⟨κ,k1,k2⟩:=mw (prog:=prog) (w:=w) (s:={ s with heap:=h',toks:=tk }) (vs:=vs) (λv hv=>let ⟨l,tl⟩:=t v hv;⟨l,tl.fit hk2⟩) hu
  refine⟨κ,k1,λx y ⟨l,hx⟩ ⟨m,hy⟩ Q E hq=>k2 x y ⟨l,hx.fit hk2⟩ ⟨m,hy.fit hk2⟩ Q E ?_⟩
  have hx':=hx.fit hk2
  have hy':=hy.fit hk2
  have hq':Q (bI (tuI s.heap x.1) (tuI s.heap y.1)) { s with heap:=h',toks:=tk }:=hq
  show Q (bI (tuI h' x.1) (tuI h' y.1)) { s with heap:=h',toks:=tk }
  rw [hx'.is,hy'.is]
  rw [hx.is,hy.is] at hq'
  exact hq'
 ·refine qab ⟨_,rfl,?_⟩
  obtain⟨ep',he⟩:=qgz (out:=out.toArray) hoL
  refine h _ tk h1.objs.size ep' out (λb o q=>?_) (qcA hlt) he a1 (a2.imp λ{x y} q=>q)
  have q1:=hk b o q
  have hb:b < h1.objs.size:=qak q1
  show (sortedHeap (h1.push (seqObj "list" vs.toArray 0)) h1.objs.size vs out.toArray).get? b=some o
  rw [qgf (qam hb) (by rw [qfl];exact qaF hb),qch _ _ _ (qam hb)]
  exact q1
end
noncomputable def mgt (st:Sto) (n:Nat):Option (List (List Int×D)):=match st[n]? with
 | some (.m kvs)=>some kvs
 | _=>none
noncomputable def vM (kvs:List (List Int×D)) (k:List Int):Option D:=(kvs.find? λp=>decide (p.1=k)).map (·.2)
noncomputable def jW (kvs:List (List Int×D)) (k:List Int) (d:D):List (List Int×D):=if (kvs.any λp=>decide (p.1=k))=true then kvs.map λp=>if p.1=k then (p.1,d) else p else kvs++[(k,d)]
noncomputable def Al:Ef
 | _,st=>some (.h st.length,st++[.m []])
noncomputable def qY (o k v:Ef):Ef
 | env,st=>(o env st).bind λx=>(k env x.2).bind λy=>(v env y.2).bind λz=>match x.1,y.1,z.1 with
 | .h n,.d (.tup ds),.d d=>(mgt x.2 n).bind λ_=>(mgt z.2 n).bind λkvs=>(aE ds).map λl=>(.d ((vM kvs l).getD d),z.2)
 | _,_,_=>none
noncomputable def uN (o k:Ef):Ef
 | env,st=>(o env st).bind λx=>(k env x.2).bind λy=>match x.1,y.1 with
 | .h n,.d (.tup ds)=>(mgt y.2 n).bind λkvs=>(aE ds).bind λl=>(vM kvs l).map λd=>(.d d,y.2)
 | _,_=>none
noncomputable def tB (o k v:Ef):Sf
 | env,st=>(v env st).bind λz=>(o env z.2).bind λx=>(k env x.2).bind λy=>match x.1,y.1,z.1 with
 | .h n,.d (.tup ds),.d d=>(mgt y.2 n).bind λkvs=>(aE ds).bind λl=>if kvs.length < 1000 then some (.nx env (y.2.set n (.m (jW kvs l d)))) else none
 | _,_,_=>none
noncomputable def jA (a:Ef):Lf
 | env,st=>(a env st).bind λx=>match x.1 with
 | .h n=>(mgt x.2 n).bind λkvs=>if kvs.length<=64 then some ((aT (kvs.map (·.1))).map aj,x.2) else none
 | _=>none
section
variable {K:PySem.W.Frag}{X:Cx}{pos:Pos}{e a b o f:Expr}{fe fa fb fo ff:Ef}
theorem xu {st:Sto}{n:Nat}{kvs:List (List Int×D)} (h:mgt st n=some kvs):st[n]?=some (.m kvs):=by
 unfold mgt at h
 split at h
 ·rename_i q;cases h;exact q
 ·cases h
theorem Sr.atm {H:Hp}{φ:List Addr}{st:Sto} (S:Sr K H φ st) {n:Nat}{p:Addr}{kvs:List (List Int×D)} (e1:φ[n]?=some p) (e2:mgt st n=some kvs):∃ vs,H p=some (.dT vs)/\Rkv K H φ kvs vs:=S.at_ n p _ e1 (xu e2)
theorem Rkv.length {H:Hp}{φ:List Addr}:∀ {ds:List (List Int×D)}{vs:List (List Key×V)},Rkv K H φ ds vs->ds.length=vs.length
 | [],_,h=>by cases h;rfl
 | (k,d)::ds,_,h=>by
  obtain⟨v,r,rfl,h1,h2⟩:=h
  rw [qaq,qaq,Rkv.length h2]
theorem iL:∀ {a b:List Int},eU a=eU b->a=b
 | [],[],_=>rfl
 | [],_::_,h=>by cases h
 | _::_,[],h=>by cases h
 | x::a,y::b,h=>by
  have h':(Sum.inl x:Key)::eU a=Sum.inl y::eU b:=h
  injection h' with h1 h2
  injection h1 with h1
  rw [h1,iL h2]
theorem uo (l:List Int):(eU l).map kV=l.map V.int:=by
 unfold eU
 rw [qaJ];rfl
theorem Rkv.val {H:Hp}{φ:List Addr}{i:List Int}:∀ {ds:List (List Int×D)}{vs:List (List Key×V)},Rkv K H φ ds vs->(∀ d,vM ds i=some d->∃ v,fQ vs (eU i)=some v/\Rl K H φ d v)/\(vM ds i=none->fQ vs (eU i)=none)
 | [],_,h=>by cases h;exact⟨(λd e=>nomatch e),λ_=>rfl⟩
 | (k,d)::ds,_,h=>by
  obtain⟨v,r,rfl,h1,h2⟩:=h
  have ih:=Rkv.val (i:=i) h2
  by_cases e:k=i
  ·subst e
   have e1:vM ((k,d)::ds) k=some d:=by unfold vM;rw [qdY (by simp)];rfl
   have e2:fQ ((eU k,v)::r) (eU k)=some v:=by unfold fQ;rw [qdY (by simp)];rfl
   rw [e1,e2]
   exact⟨λd' q=>⟨v,rfl,by cases q;exact h1⟩,λq=>nomatch q⟩
  ·have e1:vM ((k,d)::ds) i=vM ds i:=by unfold vM;rw [qdZ (by simpa using e)]
   have e2:fQ ((eU k,v)::r) (eU i)=fQ r (eU i):=by unfold fQ;rw [qdZ (by simpa using λz=>e (iL z))]
   rw [e1,e2]
   exact ih
theorem Rkv.any {H:Hp}{φ:List Addr}{i:List Int}:∀ {ds:List (List Int×D)}{vs:List (List Key×V)},Rkv K H φ ds vs->(vs.any λp=>decide (p.1=eU i))=ds.any λp=>decide (p.1=i)
 | [],_,h=>by cases h;rfl
 | (k,d)::ds,_,h=>by
  obtain⟨v,r,rfl,h1,h2⟩:=h
  rw [qbU,qbU,Rkv.any h2]
  congr 1
  exact decide_eq_decide.mpr ⟨λz=>iL z,λz=>congrArg eU z⟩
theorem Rkv.repl {H:Hp}{φ:List Addr}{i:List Int}{x:D}{y:V} (hx:Rl K H φ x y):∀ {ds:List (List Int×D)}{vs:List (List Key×V)},Rkv K H φ ds vs->Rkv K H φ (ds.map λp=>if p.1=i then (p.1,x) else p) (vs.map λp=>if p.1=eU i then (p.1,y) else p)
 | [],_,h=>by cases h;exact rfl
 | (k,d)::ds,_,h=>by
  obtain⟨v,r,rfl,h1,h2⟩:=h
  rw [qaj,qaj]
  by_cases e:k=i
  ·rw [if_pos e,if_pos (by rw [e])]
   exact⟨y,_,rfl,hx,Rkv.repl hx h2⟩
  ·rw [if_neg e,if_neg (λz=>e (iL z))]
   exact⟨v,_,rfl,h1,Rkv.repl hx h2⟩
theorem Rkv.snoc {H:Hp}{φ:List Addr}:∀ {ds:List (List Int×D)}{vs:List (List Key×V)}{k:List Int}{d:D}{v:V},Rkv K H φ ds vs->Rl K H φ d v->Rkv K H φ (ds++[(k,d)]) (vs++[(eU k,v)])
 | [],_,_,_,_,h,hd=>by cases h;exact⟨_,[],rfl,hd,rfl⟩
 | (k,d)::ds,_,_,_,_,h,hd=>by
  obtain⟨v,r,rfl,h1,h2⟩:=h
  exact⟨v,_,rfl,h1,Rkv.snoc h2 hd⟩
theorem Rkv.put {H:Hp}{φ:List Addr}{ds:List (List Int×D)}{vs:List (List Key×V)}{k:List Int}{d:D}{v:V} (h:Rkv K H φ ds vs) (hd:Rl K H φ d v):Rkv K H φ (jW ds k d) (io vs (eU k) v):=by
 unfold jW io
 rw [h.any]
 split
 ·exact h.repl hd
 ·exact h.snoc hd
theorem oT {H:Hp}{φ:List Addr}{ds:List D}{l:List Int}{v:V} (hl:aE ds=some l) (r:Rl K H φ (.tup ds) v):∃ p,v=.ref p/\H p=some (.tup ((eU l).map kV)):=by
 obtain⟨p,vs,rfl,h1,h2⟩:=r
 cases cw hl
 cases h2.ints
 rw [uo]
 exact⟨p,rfl,h1⟩
theorem zY:IE K X (.Dict [] [] pos) Al:=by
 refine⟨λenv st r hr=>?_⟩
 cases hr
 refine vZ.imp ?_
 rintro σ H Q ⟨φ,hE,hS,q⟩
 exact λp hp=>q _ _ (φ++[p]) (Fw.moreO hp) (hS.moreC hp ⟨[],aI,rfl⟩) ⟨p,by rw [<-hS.len];simp,rfl⟩
theorem yF {k:Nat}{apos:Pos} (hr0:bn k X.A) (ho:IE K X o fo) (he:IE K X e fe) (hf:IE K X f ff) (m:M2 X o "get" apos e f pos):IE K X (.Call (.Attribute o "get" apos) [e,f] [] pos) (qY fo fe ff):=by
 refine⟨λenv st r hr=>?_⟩
 simp only [qY,qac] at hr
 obtain⟨⟨x,s1⟩,hx,⟨y,s2⟩,hy,⟨z,s3⟩,hz,hr⟩:=hr
 dsimp only at hr
 split at hr
 next n ds d=>
  simp only [qac,qae] at hr
  obtain⟨kv1,hk1,kvs,hk,l,hl,rfl⟩:=hr
  refine (vS (wF hr0) (ho.run _ _ _ hx) (he.run _ _ _ hy) (hf.run _ _ _ hz) m).imp ?_
  rintro σ H Q ⟨φ,hE,hS,q⟩
  refine⟨φ,hE,hS,λv H1 φ1 f1 S1 w1=>?_⟩
  obtain⟨p,ep,rfl⟩:=id w1
  obtain⟨vs1,hv1,_⟩:=S1.atm ep hk1
  refine⟨p,rfl,.inr ⟨vs1,.inl hv1⟩,φ1,hE.fw hS f1,S1,λu H2 φ2 f2 S2 w2=>⟨φ2,(hE.fw hS f1).fw S1 f2,S2,λz' H3 φ3 f3 S3 w3=>?_⟩⟩
  have ep3:=f3.get (f2.get ep)
  obtain⟨vs,hv,rl⟩:=S3.atm ep3 hk
  obtain⟨b,rfl,hb⟩:=oT hl (Rl.fw S2 f3 w2)
  refine⟨_,nI.t hv hb,?_⟩
  cases hc:vM kvs l with
  | none=>
   rw [rl.val.2 hc]
   exact q _ H3 φ3 ((f1.trans f2).trans f3) S3 (by rw [hc];exact w3)
  | some d'=>
   obtain⟨v2,e2,r2⟩:=rl.val.1 d' hc
   rw [e2]
   exact q _ H3 φ3 ((f1.trans f2).trans f3) S3 (by rw [hc];exact r2)
 ·cases hr
theorem xp {k:Nat} (hr0:bn k X.A) (ha:IE K X a fa) (hb:IE K X b fb) (hs:Aw b):IE K X (.Subscript a b pos) (uN fa fb):=by
 refine⟨λenv st r hr=>?_⟩
 simp only [uN,qac] at hr
 obtain⟨⟨x,s1⟩,hx,⟨y,s2⟩,hy,hr⟩:=hr
 dsimp only at hr
 split at hr
 next n ds=>
  simp only [qac,qae] at hr
  obtain⟨kvs,hk,l,hl,d,hd,rfl⟩:=hr
  refine (y0 (wF hr0) (ha.run _ _ _ hx) (hb.run _ _ _ hy) hs).imp ?_
  rintro σ H Q ⟨φ,hE,hS,q⟩
  refine⟨φ,hE,hS,λv H1 φ1 f1 S1 w1=>⟨φ1,hE.fw hS f1,S1,λu H2 φ2 f2 S2 w2=>?_⟩⟩
  obtain⟨p,ep,rfl⟩:=w1.fw S1 f2
  obtain⟨vs,hv,rl⟩:=S2.atm ep hk
  obtain⟨v2,e2,r2⟩:=rl.val.1 d hd
  obtain⟨b',rfl,hb'⟩:=oT hl w2
  refine⟨p,v2,rfl,?_,q _ H2 φ2 (f1.trans f2) S2 r2⟩
  rw [<-e2]
  exact nI.t hv hb'
 ·cases hr
theorem yu {k:Nat}{tpos:Pos} (hr0:bn k X.A) (ho:IE K X a fa) (hi:IE K X b fb) (hv:IE K X e fe) (hs:swapsWith e (some (.Subscript a b tpos)) pos.line X.env=pure false:=by rfl) :
  IS K X (.Assign [.Subscript a b tpos] e pos) (tB fa fb fe):=by
 refine⟨λenv st r hr=>?_⟩
 simp only [tB,qac] at hr
 obtain⟨⟨z,s1⟩,hz,⟨x,s2⟩,hx,⟨y,s3⟩,hy,hr⟩:=hr
 dsimp only at hr
 split at hr
 next n ds d=>
  simp only [qac] at hr
  obtain⟨kvs,hk,l,hl,hr⟩:=hr
  split at hr
  ·rename_i hlen
   cases hr
   refine (yy (wF hr0) (ho.run _ _ _ hx) (hi.run _ _ _ hy) (hv.run _ _ _ hz) hs).imp ?_
   rintro D σ H ⟨φ,hE,hS,q⟩
   refine⟨φ,hE,hS,λv H1 φ1 f1 S1 w1=>⟨φ1,hE.fw hS f1,S1,λu H2 φ2 f2 S2 w2=>⟨φ2,(hE.fw hS f1).fw S1 f2,S2,λt H3 φ3 f3 S3 w3=>?_⟩⟩⟩
   obtain⟨p,ep,rfl⟩:=w2.fw S2 f3
   obtain⟨vs,hp,rl⟩:=S3.atm ep hk
   obtain⟨b',rfl,hb'⟩:=oT hl w3
   have w1':=Rl.fw S2 f3 (Rl.fw S1 f2 w1)
   obtain⟨f4,S4⟩:=S3.putC (o:=.dT (io vs (eU l) v)) (c:=.m (jW kvs l d)) ep λf=>⟨_,aI,(rl.put w1').fw S3 f⟩
   refine⟨p,_,rfl,wM.t hp hb' (by rw [<-rl.length];exact qaE hlen (by rw [qbi];decide)),?_⟩
   exact q _ _ φ3 (((f1.trans f2).trans f3).trans f4) (((((hE.fw hS f1).fw S1 f2).fw S2 f3)).fw S3 f4) S4
  ·cases hr
 ·cases hr
theorem tU {H:Hp}{φ:List Addr}:∀ {kvs:List (List Int×D)}{vs:List (List Key×V)}{xs:List (List Key×Addr×Value)},Rkv K H φ kvs vs->KT H vs xs->
  Rls K H φ ((kvs.map (·.1)).map aj) (xs.map λx=>V.ref x.2.1)/\av (xs.map λx=>V.ref x.2.1) (xs.map λx=>Value.ref x.2.1)
 | [],_,_,h,t=>by cases h;cases t;exact⟨rfl,.nil⟩
 | (k,d)::kvs,_,_,h,t=>by
  obtain⟨v,r,rfl,h1,h2⟩:=h
  cases t with
  | cons q t=>
   rename_i x xs
   obtain⟨i1,i2⟩:=tU h2 t
   have e:H x.2.1=some (.tup (k.map V.int)):=by rw [<-uo];exact q.2.1
   exact⟨⟨_,_,rfl,⟨x.2.1,k.map V.int,rfl,e,Rls.of_ints k⟩,i1⟩,.cons rfl i2⟩
theorem xQ {k:Nat}{p:Pos} (hr0:bn k X.A) (hg:Gl X "sorted") (hm:X.mg "sorted" = none) (ha:IE K X a fa) (hc:X.calm=true:=by rfl) (hs:az a=true:=by rfl) (hK:X.K=K:=by rfl):IL K X (.Call (.Name "sorted" p) [a] [] pos) (jA fa):=by
 subst hK
 refine⟨λenv st r hr=>?_⟩
 simp only [jA,qac] at hr
 obtain⟨⟨x,s1⟩,hx,hr⟩:=hr
 match x,hr with
 | .h n,hr=>
  simp only [qac] at hr
  obtain⟨kvs,hk,hr⟩:=hr
  split at hr
  ·rename_i hl
   cases hr
   have hA:=(aa (K:=X.K) (X:=X) ha ai hs).run env st ([.h n],s1) (by simp only [ae,ak,hx,qag,qaC])
   have hC:bS X (.builtin "sorted") (λxs H Q=>∃ φ q,Sr X.K H φ s1/\φ[n]?=some q/\xs=[.ref q]/\∀ l us,H l=none->Rls X.K H φ ((aT (kvs.map (·.1))).map aj) us->Q (.ref l) (upd H l (.lst us))):=by
    intro pins s σ H xs us Q I rv q
    obtain⟨φ,ad,S,ead,rfl,q⟩:=q
    obtain⟨u,rfl,ru⟩:=gD rv
    cases ru
    obtain⟨vs,hv,rl⟩:=S.atm ead hk
    obtain⟨z',hd,xs,rel,o,es,ep,g1,g2,g3,g4,g5,g6⟩:=zZ I.hok hv
    obtain⟨b1,b2⟩:=tU rl rel
    have hlen:xs.length<=64:=by
     have e1:=rel.length
     have e2:=rl.length
     lia
    have hkeys:es.toList.map (·.key)=xs.map λx=>Value.ref x.2.1:=by rw [g4,qaJ];rfl
    obtain⟨m1,m2⟩:=iA I b1 b2
    have hun:X.A.in1.in1.units < cLine:=by
     have:=hr0.un
     show X.A.units+1+1 < cLine
     lia
    refine sr hd ⟨o,g1,g2,g3⟩ (I.ok.hd hc) hkeys (by rw [qai];exact hlen) hun (λv hv=>⟨_,(m2 v hv).1⟩) λh' tk p ep' out hkeep hp he a1 a2=>?_
    have hn:H p=none:=I.hok.fresh hp
    have ho:=λu hu=>m2 u (a1.mem_iff.mp hu)
    obtain⟨c1,c2⟩:=ix (K:=X.K) (H:=H) (φ:=φ) ho
    have hpm:(out.map (tuI s.heap)).Perm (kvs.map (·.1)):=by
     have:=a1.map (tuI s.heap)
     rw [m1] at this;exact this
    have hsrt:(out.map (tuI s.heap)).Pairwise leL:=by
     rw [qbV]
     exact a2.imp λ{x y} q=>q
    have e:out.map (tuI s.heap)=aT (kvs.map (·.1)):=db (hpm.trans (bi _).symm) hsrt (cg _)
    have e2:(out.map λu=>aj (tuI s.heap u))=(aT (kvs.map (·.1))).map aj:=by rw [<-e,qaJ];rfl
    rw [e2] at c1
    have hlay:Inv X pins σ (upd H p (.lst (out.map toV))) { s with heap:=h',toks:=tk }:=by
     refine I.laid (t':=tk) (a:=p) (o:=.lst (out.map toV)) hkeep hp ⟨?_,out,ep',c2,by simpa [seqObj] using he⟩
     rw [qai,a1.length_eq,qai];exact fz (by lia)
    exact⟨.ref p,_,hlay,rfl,q p _ hn c1⟩
   refine (ly hC hg hm qcz hA (by decide) (by decide) (aN hs) (cb (es:=[]) rfl)).imp ?_
   rintro σ H Q ⟨φ,hE,hS,q⟩
   refine⟨φ,hE,hS,λvs H1 φ1 f1 S1 w1=>?_⟩
   obtain⟨v,r,rfl,⟨ad,ead,rfl⟩,rfl⟩:=w1
   exact⟨φ1,ad,S1,ead,rfl,λl us hl' hr'=>q l _ H1 φ1 f1 S1 hl' hr'⟩
  ·cases hr
end
noncomputable def gO (w:World) (a:Addr) (es:Array (Int×Value)) (ep:Nat):Array (Int×Value):=if byT w then pickOrder (w.params.setOrder a ep) es else es
theorem mY (w:World) (a:Addr) (es:Array (Int×Value)) (ep:Nat):(gO w a es ep).toList.Perm es.toList:=by
 unfold gO
 split
 ·unfold pickOrder
  exact (fD _ _ _ _ _ (by simp)).trans (by simp)
 ·exact qbE _
theorem gE (w:World) (a:Addr) (es:Array (Int×Value)) (ep:Nat):(gO w a es ep).size=es.size:=by
 have:=(mY w a es ep).length_eq
 rw [qav,qav] at this;exact this
noncomputable def dk (w:World) (l:List Nat) (i:Nat):Nat:=if byT w then 0 else hU l i
section
variable {prog:Program}{w:World}{A:Around}{E:Value->Shared->Prop}{s:Shared}{a it:Addr}{es:Array (Int×Value)}{ep i:Nat}{t:SetTable}{l:List Nat}
theorem cx.walk {Q:Array (Int×Value)->Shared->Prop} (S:cx w s.heap a es ep t l) (h:Q (gO w a es ep) s):wpAny (model prog w) A (setWalk a) Q E s:=by
 obtain⟨o,ho,hx,hd,T,hs⟩:=id S
 unfold setWalk
 refine qaa (S.state ?_)
 dsimp only
 refine qaa (cP ?_)
 unfold gO at h
 cases hb:byT w with
 | true=>
  rw [hb,if_pos rfl] at h
  rw [if_pos rfl]
  exact qaa (qee (qab h))
 | false=>
  rw [hb,if_neg qal] at h
  rw [if_neg qal]
  have hl:t.led=true:=by rw [T.led,hb];rfl
  refine qcl (λz=>?_) λ_=>?_
  ·exfalso
   revert z
   show ¬ ((!t.plain && _)=true)
   rw [T.plain];simp
  ·refine qaa (Q:=_) ?_
   show wpAny _ _ (if (!t.led && _)=true then _ else _) _ _ _
   rw [hl]
   simp only [qa2,qdD,qap,↓reduceIte]
   exact qab (qab h)
theorem cx.iter {Q:Value->Shared->Prop} (S:cx w s.heap a es ep t l)
  (hQ:Q (.ref s.heap.objs.size) { s with heap:=s.heap.push { cls:=.type "set_iterator",data:=.fields #[.int 0 0,.int 0 0,.ref a,.int es.size 0,.int ep 0] } }) :
  wpAny (model prog w) A (pyIter (.ref a)) Q E s:=by
 obtain⟨o,ho,hx,hd,T,hs⟩:=id S
 refine qd0 S.type qc4 (qaU qc4 S.type gk ?_ (qfo _))
 unfold Builtin.«frozenset.__iter__» Builtin.Frozenset.slot0 slotArgs
 simp only [qb4,qa2,qap,↓reduceIte,bind_assoc,qba,bne_self_eq_false]
 unfold Builtin.Frozenset.addrOf Builtin.Frozenset.sizeOf setEntries setDrawn
 refine qaa (qab ?_)
 try dsimp only
 refine qaa (qab ?_)
 refine qaa (qaa (qaa (S.state (qab (qab ?_)))))
 refine qaa (qaa (S.state ?_))
 dsimp only
 refine qaa (cP (qab ?_))
 have e0:(!byT w && (!t.plain && decide (es.size > 1)))=false:=by rw [T.plain];simp
 refine qcl (λz=>absurd (z.symm.trans (show _=false from e0)) (by simp)) λ_=>?_
 refine qaa (qab ?_)
 unfold setEpoch
 refine qaa (qaa (S.state (qab ?_)))
 simp only [newFields]
 refine qaa (qaS (qab ⟨_,rfl,"set_iterator",_,⟨_,qao _ rfl,rfl⟩,aJ.lookup,?_⟩))
 simpa [rawInt] using hQ
theorem cx.next {Q:Option (Value×Nat)->Shared->Prop} (S:cx w s.heap a es ep t l) (hi:i<=l.length)
  (h:Q ((gO w a es ep)[i]?.map λe=>(e.2,dk w l (i+1))) s):wpAny (model prog w) A (setNext a (dk w l i) i ep) Q E s:=by
 obtain⟨o,ho,hx,hd,T,hs⟩:=id S
 unfold setNext
 refine qaa (S.state ?_)
 dsimp only
 refine qaa (cP ?_)
 cases hb:byT w with
 | true=>
  rw [if_pos rfl]
  simp only [bne_self_eq_false,qap,↓reduceIte]
  refine qaa (S.walk (qab ?_))
  unfold dk at h
  rw [hb,if_pos rfl] at h
  unfold dk
  rw [hb,if_pos rfl]
  exact h
 | false=>
  rw [if_neg qal]
  have hl:t.led=true:=by rw [T.led,hb];rfl
  refine qcl (λz=>?_) λ_=>?_
  ·exfalso
   revert z
   show ¬ ((!t.plain && _)=true)
   rw [T.plain];simp
  ·refine qaa (Q:=_) ?_
   show wpAny _ _ (if (!t.led && _)=true then _ else _) _ _ _
   rw [hl]
   simp only [qa2,qdD,qap,↓reduceIte]
   refine qab ?_
   unfold dk at h
   rw [hb,if_neg qal] at h
   unfold gO at h
   rw [hb,if_neg qal] at h
   unfold dk
   rw [hb,if_neg qal,T.pl,rG T.ris hi]
   refine qab ?_
   by_cases hlt:i < l.length
   ·have hlt':i < es.size:=by lia
    have e2:l.toArray[i]?=some l[i]:=by simp [hlt]
    rw [qar hlt',e2]
    rw [qar hlt'] at h
    have e3:hU l (i+1)=l[i]+1:=by
     unfold hU
     rw [if_neg (by lia)]
     simp [qbk,hlt]
    rw [e3] at h
    exact h
   ·have e1:es[i]?=none:=qaR (by lia)
    rw [e1] at h ⊢
    exact h
theorem cx.item {Q:Option Value->Shared->Prop} (hit:cn s.heap it a (dk w l i) i es.size ep) (S:cx w s.heap a es ep t l) (hi:i < es.size) {e:Int×Value} (he:(gO w a es ep)[i]?=some e)
  (hQ:∀ h',cn h' it a (dk w l (i+1)) (i+1) es.size ep->Heap.SameBut it s.heap h'->Q (some e.2) { s with heap:=h' }) :
  wpAny (model prog w) A (pyNext (.ref it)) Q E s:=by
 obtain⟨_,_,_,_,T,hs⟩:=id S
 obtain⟨o,ho,hc,hd⟩:=id hit
 unfold pyNext
 refine qaa (qda (qbc (name:=Str.ofString "__next__") hit.typeIs aJ
  (qaU aJ hit.typeIs cJ ?_ (de _))))
 unfold Builtin.«set_iterator.__next__» slotArgs
 simp only [qb4,qa2,qap,↓reduceIte,qba,bne_self_eq_false]
 refine qaa (qab ?_)
 dsimp only
 unfold fieldsOf
 dsimp only
 refine qaa ?_
 refine qaa (qdy ho ?_)
 rw [hd]
 refine qab ?_
 dsimp only
 unfold setEntries
 refine qaa (qaa (S.state (qab ?_)))
 have e1:((es.size:Int) != (es.size:Int))=false:=by simp
 dsimp only
 rw [if_neg (by rw [e1];exact qal)]
 refine qaa ?_
 simp only [qaX]
 refine S.next (by lia) ?_
 rw [he]
 dsimp only [Option.map]
 refine qaa (qbZ ho hd (by simp) ?_)
 have ho1:=qbb (Obj.mapFields λxs=>xs.setIfInBounds 0 (rawInt (dk w l (i+1)))) ho (qb8 (qbh hd _))
 have hd1:=qbh hd (λxs=>xs.setIfInBounds 0 (rawInt (dk w l (i+1))))
 refine qaa (qbZ ho1 hd1 (by simp) (qab ⟨e.2,rfl,qab (hQ _ ?_ ((qaN ..).trans (qaN ..)))⟩))
 refine⟨_,qbb _ ho1 (qb8 (qbh hd1 _)),(qcC ..).trans ((qcC ..).trans hc),?_⟩
 rw [qbh hd1];simp [rawInt]
theorem cx.fin {Q:Option Value->Shared->Prop} (hh:A.handled=none) (hit:cn s.heap it a (dk w l es.size) es.size es.size ep) (S:cx w s.heap a es ep t l)
  (hQ:∀ h',Heap.ExtBut it s.heap h'->Q none { s with heap:=h' }):wpAny (model prog w) A (pyNext (.ref it)) Q E s:=by
 obtain⟨_,_,_,_,T,hs⟩:=id S
 obtain⟨o,ho,hc,hd⟩:=id hit
 unfold pyNext
 refine qaa (qda (qbc (name:=Str.ofString "__next__") hit.typeIs aJ
  (qaU aJ hit.typeIs cJ ?_ (de _))))
 unfold Builtin.«set_iterator.__next__» slotArgs
 simp only [qb4,qa2,qap,↓reduceIte,qba,bne_self_eq_false]
 refine qaa (qab ?_)
 dsimp only
 unfold fieldsOf
 dsimp only
 refine qaa ?_
 refine qaa (qdy ho ?_)
 rw [hd]
 refine qab ?_
 dsimp only
 unfold setEntries
 refine qaa (qaa (S.state (qab ?_)))
 have e1:((es.size:Int) != (es.size:Int))=false:=by simp
 dsimp only
 rw [if_neg (by rw [e1];exact qal)]
 refine qaa ?_
 simp only [qaX]
 refine S.next (by lia) ?_
 rw [qaR (by rw [gE];exact qan _)]
 dsimp only [Option.map]
 refine qaa (qbZ ho hd (by simp) ?_)
 show wpAny _ _ (newExc (.type "StopIteration") [] >>= _) _ _ _
 refine qaa ?_
 simp only [newExc,newTuple]
 refine qaa (qaS ?_ (by size_fits))
 refine qaa (m:=firstArgMember _ _) (qdE (a:=Value.none) (by first | rfl | (simp only [firstArgMember];rfl)) ?_)
 refine qaS ?_ (by size_fits)
 simp only [raiseNew]
 refine qaa (qe8 ?_)
 rw [show A.in1.handled=none from hh]
 refine qaa (qab (qfX ?_))
 refine qaa (qcU (T:="StopIteration") (b:=true) ⟨_,qao _ rfl,rfl⟩ qgg ?_)
 exact qab (hQ _ (((qaN ..).extBut.push _).push _))
theorem sI (hh:A.handled=none) (I a:Addr) (hne:a≠I) (es:Array (Int×Value)) (ep:Nat) (t:SetTable) (l:List Nat) :
  Walks prog w A I [I,a] [I] es.size (λi v=>∃ e,(gO w a es ep)[i]?=some e/\v=e.2) (λi h=>cn h I a (dk w l i) i es.size ep/\cx w h a es ep t l) where
 sub:=λb hb=>by simp at hb;simp [hb]
 frame:=λ_ _ _ st hk=>⟨st.1.at' λo e=>hk I (by simp) o e,st.2.at' λo e=>hk a (by simp) o e⟩
 item:=λi s Q E hi st hQ=>by
  obtain⟨e,he⟩:∃ e,(gO w a es ep)[i]?=some e:=⟨_,qar (by rw [gE];exact hi)⟩
  refine st.2.item st.1 hi he λh' hit' hs'=>?_
  exact hQ _ h' s.toks ⟨e,he,rfl⟩ ⟨hit',st.2.at' λo q=>hs'.extBut a o hne q⟩ λb o hb q=>hs'.extBut b o (λh=>hb (by simp [h])) q
 done:=λs Q E st hQ=>st.2.fin hh st.1 λh' he'=>hQ h' s.toks λb o hb e=>he' b o (λh=>hb (by simp [h])) e
 self:=λ_ _ _ _ st hQ=>qR st.1 hQ
theorem xt (prog:Program) (w:World) (a:Addr) (es:Array (Int×Value)) (ep:Nat) (t:SetTable) (l:List Nat):PySem.W.KdlSrc prog w "set" a a es.size (λi v=>∃ e,(gO w a es ep)[i]?=some e/\v=e.2) (λh=>cx w h a es ep t l) where
 type:=λs S=>S.type
 there:=λh S=>let ⟨o,ho,_⟩:=S;⟨qak ho,qak ho⟩
 keep:=λh h' S hk=>S.at' λo e=>hk a (.inl rfl) o e
 notList:=by decide
 notTuple:=by decide
 hint:=λA E s Q S h=>pP S.type h
 iter:=λA s hh S=>⟨_,_,λE Q h=>S.iter h,sI hh s.heap.objs.size a (let ⟨o,ho,_⟩:=S;qam (qak ho)) es ep t l,
  ⟨⟨_,qao _ rfl,rfl,by unfold dk hU;split<;>rfl⟩,S.at' λo e=>qad _ e⟩⟩
end
theorem TuI.at' {h h':Heap}{v:Value}{l:List Int} (t:TuI h v l) (hk:∀ b o,v=.ref b->h.get? b=some o->h'.get? b=some o):TuI h' v l:=by
 obtain⟨a,its,rfl,⟨o,e,r⟩,hi⟩:=t
 exact⟨a,its,rfl,⟨o,hk a o rfl e,r⟩,hi⟩
theorem mf {prog:Program}{w:World}:∀ {vs:List Value}{l:List Int},IntsAre vs l->ItemsAre (intKind prog w) l vs
 | _,_,.nil=>.nil
 | _,_,.cons n t h=>.cons (qfm _ _ _ _) (mf h)
theorem wP {prog:Program}{w:World}{A:Around}{E:Value->Shared->Prop}{s:Shared}{v:Value}{l:List Int}{Q:Int->Shared->Prop} (hu:A.units < cLine) (t:TuI s.heap v l) (h:∀ tk,s.toks<=tk->Q (hT l) { s with toks:=tk }) :
  wpAny (model prog w) A (pyHash v) Q E s:=by
 obtain⟨a,its,rfl,⟨o,e,c,n,hd⟩,hi⟩:=t
 exact wpAny_pyHash_tuple (knd:=intKind prog w) hu ⟨o,its,n,e,c,hd,mf hi⟩ (h _ (qfc _ _))
section
variable {prog:Program}{w:World}{A:Around}{R:Result->Shared->Prop}{I:Addr}{fp wr:List Addr}{G:Array GenState->Array GenState->Prop}{P:Nat->Value->Prop}{St:Nat->Shared->Prop}
noncomputable def pR (h0:Heap) (vs:List Value):List (Int×Value):=vs.map λv=>(hT (tuI h0 v),v)
noncomputable def GSt (w:World) (h:Heap) (S:Addr) (es':List (Int×Value)):Prop:=∃ es ep t l,cx w h S es ep t l/\wS t l.length/\es.toList.Perm es'
theorem uY {its:List Value}{h0:Heap} (W:WalksS prog w A.in1 I fp wr G its.length P St) (S:Addr) (hSf:S ∉ fp) (hu:A.in1.units < cLine) (hval:∀ i v,P i v->its[i]?=some v) (h64:its.length<=64) (hnd:(its.map λv=>hT (tuI h0 v)).Nodup) :
  ∀ (k i:Nat) (s:Shared),its.length - i=k->i<=its.length->St i s->(∀ v ∈ its,TuI s.heap v (tuI h0 v)/\∀ b,v=.ref b->b≠S/\b ∉ wr)->GSt w s.heap S (pR h0 (its.take i))->
   (∀ s',Moved (S::wr) G s s'->GSt w s'.heap S (pR h0 its)->R (.ok (.ret .none)) s')->
   codeAny (model prog w) A (.builtin "set.update.loop" ⟨[.ref S,.ref I],[]⟩) R s:=by
 have hSw:S ∉ wr:=λh=>hSf (W.sub _ h)
 have hsub:∀ b ∈ wr,b ∈ S::wr:=λb hb=>qaf _ hb
 intro k
 induction k with
 | zero=>
  intro i s hk hi hst hT0 hS hR
  have hin:i=its.length:=by lia
  subst hin
  refine qa7 qbN ?_
  rw [qbF qbd _]
  show wpAny _ A.in1 (pyNext (.ref I) >>= _) _ _ s
  refine qaa (W.done s _ _ hst λs' hm=>?_)
  show wpAny _ A.in1 (ret Value.none) _ _ s'
  refine qab (hR s' (hm.mono hsub) ?_)
  rw [qbQ] at hS
  obtain⟨es,ep,t,l,z,r⟩:=hS
  exact⟨es,ep,t,l,z.at' λo e=>hm.heap S _ hSw e,r⟩
 | succ k ih=>
  intro i s hk hi hst hT0 hS hR
  have hlt:i < its.length:=by lia
  refine qa7 qbN ?_
  rw [qbF qbd _]
  show wpAny _ A.in1 (pyNext (.ref I) >>= _) _ _ s
  refine qaa (W.item i s _ _ hlt hst λv s' hP hst' hm=>?_)
  have hv:=hval i v hP
  have hvm:v ∈ its:=qbI hv
  have hT1:∀ v ∈ its,TuI s'.heap v (tuI h0 v)/\∀ b,v=.ref b->b≠S/\b ∉ wr:=λx hx=>⟨(hT0 x hx).1.at' λb o e q=>hm.heap b o ((hT0 x hx).2 b e).2 q,(hT0 x hx).2⟩
  obtain⟨es,ep,t,l,z,hcm,hp⟩:=hS
  have z':=z.at' (h':=s'.heap) λo e=>hm.heap S _ hSw e
  have hlen:l.length=i:=by
   obtain⟨_,_,_,_,_,hs⟩:=z
   rw [<-hs,<-qav,hp.length_eq,pR,qai,qcQ];lia
  have etk:its.take (i+1)=its.take i++[v]:=by rw [qc5,hv];rfl
  show wpAny _ A.in1 (holding [v] (setAdd S v) >>= _) _ _ s'
  refine qaa (qaT ?_)
  unfold setAdd
  refine qaT ?_
  refine qaa (wP hu (hT1 v hvm).1 λtk htk=>?_)
  refine cx.add (s:={ s' with toks:=tk }) z' hcm (by lia) (hT1 v hvm).1 (λe he heq=>?_) λh' es' ep' t' l' hsb z2 hc2 hp2=>?_
  ·have he':=hp.mem_iff.mp he
   obtain⟨u,hu',rfl⟩:=qaB.mp he'
   have hn2:=hnd
   rw [<-qcv (i+1) its,qbm,etk,qbm,qbD] at hn2
   have:=(qdI.mp hn2).2.2 (hT (tuI h0 u)) (qaB.mpr ⟨u,hu',rfl⟩) (hT (tuI h0 v)) (qbJ _ (by simp))
   exact this heq
  ·have hp3:es'.toList.Perm (pR h0 (its.take (i+1))):=by
    rw [etk]
    unfold pR at hp ⊢
    rw [qbm]
    exact hp2.trans ((List.Perm.cons _ hp).trans (qga (l₁:=[(hT (tuI h0 v),v)])))
   have hT2:∀ v ∈ its,TuI h' v (tuI h0 v)/\∀ b,v=.ref b->b≠S/\b ∉ wr:=λx hx=>⟨(hT1 x hx).1.at' λb o e q=>(hsb.2 b ((hT1 x hx).2 b e).1).trans q,(hT1 x hx).2⟩
   refine qab ⟨qdc qbd _,ih (i+1) _ (by lia) hlt (W.frame _ s' _ _ hst' htk λb hb o e=>?_) hT2 ⟨es',ep',t',l',z2,hc2,hp3⟩ λs'' hm'' hS''=>?_⟩
   ·rw [hsb.2 b (λh:b=S=>hSf (by rw [<-h];exact hb))];exact e
   ·refine hR s'' (qht W.gtrans ((hm.mono hsub).then_heap htk λb o hb e=>?_) hm'') hS''
    rw [hsb.2 b (λh:b=S=>hb (by rw [h];exact qah))];exact e
end
section
variable {prog:Program}{w:World}{A:Around}{E:Value->Shared->Prop}{s:Shared}
theorem qZ (led:Bool) (hl:led=!byT w) {h:Heap}{a:Addr} (ho:h.get? a=some { cls:=.type "set",dict:=none,data:=.set #[] 0 (.fresh 0 0 led) }):GSt w h a []:=
 ⟨#[],0,.fresh 0 0 led,[],⟨_,ho,⟨rfl,rfl,rfl⟩,rfl,⟨show (7:Nat) ∈ gM from by decide,rfl,.nil,rfl,hl,rfl,by decide,λ_=>by decide,λ_=>by decide⟩,rfl⟩,⟨by decide,λ_=>by decide,λ_=>by decide⟩,qbE _⟩
set_option maxHeartbeats 3200000 in
theorem lx {l:Addr}{items:Array Value}{Q:Value->Shared->Prop}
  (hh:A.handled=none) (hu:A.in1.in1.in1.units < cLine) (hl:s.heap.IsList l items) (hi:∀ v ∈ items.toList,TuI s.heap v (tuI s.heap v)) (h64:items.size<=64) (hnd:(items.toList.map λv=>hT (tuI s.heap v)).Nodup)
  (h:∀ (h':Heap) (tk:Nat),GSt w h' s.heap.objs.size (pR s.heap items.toList)->
    (∀ b o,b < s.heap.objs.size->s.heap.get? b=some o->h'.get? b=some o)->Q (.ref s.heap.objs.size) { s with heap:=h',toks:=tk }) :
  wpAny (model prog w) A (call (.type "set") [.ref l]) Q E s:=by
 obtain⟨c,tl,hmro⟩:=qaG.mro
 have hmade:=qaG.made
 have hsub:=qaG.sub
 refine qfk (qey ?_)
 show wpAny _ _ (callAny (.type "set") _) _ _ _
 refine qab ⟨qcq _ (by decide +kernel),qa7 qdG ?_⟩
 rw [qeq (qew "set" [.ref l] []) rfl]
 have h1:=qaG.notType
 have h2:=qaG.canCreate
 have hct:=qdK (.ref l)
 repeat (any_goals (first | assumption | wp_step))
 refine qcI (d4 (.ref l) (E:=E) (Q₁:=λobj s₁=>obj=.ref s.heap.objs.size/\s₁={ s with heap:=s.heap.push { cls:=.type "set",dict:=none,data:=.set #[] 0 (.fresh 0 0 (!byT w)) } }) ⟨rfl,rfl⟩) λr s₁ hr=>?_
 cases r with
 | error e=>exact hr
 | ok fl=>
  cases fl with
  | ret obj=>
   obtain⟨rfl,rfl⟩:=hr
   have hS:(s.heap.push { cls:=.type "set",dict:=none,data:=.set #[] 0 (.fresh 0 0 (!byT w)) }).get? s.heap.objs.size=some { cls:=.type "set",dict:=none,data:=.set #[] 0 (.fresh 0 0 (!byT w)) }:=qao _ rfl
   have hT':Shared.TypeIs { s with heap:=s.heap.push { cls:=.type "set",dict:=none,data:=.set #[] 0 (.fresh 0 0 (!byT w)) } } (.ref s.heap.objs.size) "set":=⟨_,hS,rfl⟩
   have hli:=qaG.init.lookup
   have hbi:=qaG.init.bind (.ref s.heap.objs.size)
   repeat (any_goals (first | assumption | wp_step))
   refine qcI (qdt (R:=wants (λr s₂=>r=.none/\∃ h' tk,s₂={ s with heap:=h',toks:=tk }/\
     GSt w h' s.heap.objs.size (pR s.heap items.toList)/\
     (∀ b o,b < s.heap.objs.size->s.heap.get? b=some o->h'.get? b=some o)) E) qaG.init.plain qdM (qfI hT' ?_)) λr₂ s₂ hr₂=>?_
   ·generalize hled:(!byT w)=led at hS hT' ⊢
    have hi0:=hi
    obtain⟨ol,hol,hcl,nl,hdl⟩:=hl
    obtain⟨ocls,odict,odata,oslots⟩:=ol
    simp only at hcl hdl
    subst hcl;subst hdl
    have hol':(s.heap.push { cls:=.type "set",dict:=none,data:=.set #[] 0 (.fresh 0 0 led) }).get? l=some { cls:=.type "list",dict:=odict,data:=.seq items nl,slots:=oslots }:=qad _ hol
    have hsls:=qfS
    have hslf:=qeX
    have hne:(Value.type "list"==Value.type "dict")=false:=by decide
    have hl1:(s.heap.push { cls:=.type "set",dict:=none,data:=.set #[] 0 (.fresh 0 0 led) }).IsList l items:=⟨_,hol',rfl,nl,rfl⟩
    unfold Builtin.«set.__init__» noKeywords Builtin.Frozenset.updateFrom
    generalize hPI:pyIter=PI
    wp_walk
    subst hPI
    refine qdg hl1 ?_
    refine qaa (qdi ?_)
    have hlS:l < s.heap.objs.size:=qak hol
    have hh3:A.in1.in1.in1.handled=none:=by simp [hh]
    have hneI:l≠(s.heap.push { cls:=.type "set",dict:=none,data:=.set #[] 0 (.fresh 0 0 led) }).objs.size:=by
     rw [qa0];exact qam (qaF hlS)
    have hSf:s.heap.objs.size ∉ [(s.heap.push { cls:=.type "set",dict:=none,data:=.set #[] 0 (.fresh 0 0 led) }).objs.size,l]:=by
     rw [qa0];simp only [qaz,qay,qcP,or_false,not_or]
     exact⟨qam (qbt _),qa4 hlS⟩
    have WW:=(qgC (prog:=prog) (w:=w) hh3 (s.heap.push { cls:=.type "set",dict:=none,data:=.set #[] 0 (.fresh 0 0 led) }).objs.size l hneI items).toS
    rw [show items.size=items.toList.length from rfl] at WW
    refine uY (h0:=s.heap) WW s.heap.objs.size hSf hu (λi v hv=>by rw [qa8];exact hv) (by rw [qav];exact h64) hnd (items.toList.length - 0) 0 _ (by lia) (qaI _)
     ⟨⟨_,qao _ rfl,rfl,rfl⟩,(hl1.push _)⟩ (λv hv=>⟨(hi0 v hv).at' λb o _ e=>qad _ (qad _ e),λb hb=>?_⟩) ?hS0 ?hR
    ·obtain⟨b',its',e',⟨o',eo,_⟩,_⟩:=hi0 v hv
     rw [hb] at e'
     cases e'
     have:=qak eo
     refine⟨qam this,?_⟩
     rw [qa0];simp only [qay]
     lia
    case hS0=>
     have hget:((s.heap.push { cls:=.type "set",dict:=none,data:=.set #[] 0 (.fresh 0 0 led) }).push { cls:=.type "list_iterator",data:=.fields #[.ref l,.int 0 0] }).get? s.heap.objs.size
       = some { cls:=.type "set",dict:=none,data:=.set #[] 0 (.fresh 0 0 led) }:=qad _ hS
     exact qZ led hled.symm hget
    case hR=>
     intro s' hm hS'
     obtain⟨h',g',d',tk',os'⟩:=s'
     have eg:g'=s.gens:=hm.gens
     have ed:d'=s.drawn:=hm.drawn
     have eo:os'=s.os:=hm.os
     subst eg;subst ed;subst eo
     show wpAny _ _ _ _ _ _
     refine qab ?_
     show wpAny _ _ (ret Value.none) _ _ _
     refine qab ⟨rfl,h',tk',rfl,hS',λb o hb e=>?_⟩
     have hb1:b≠s.heap.objs.size:=qam hb
     have hb2:b≠(s.heap.push { cls:=.type "set",dict:=none,data:=.set #[] 0 (.fresh 0 0 led) }).objs.size:=by
      rw [qa0];exact qam (qaF hb)
     exact hm.heap b o (by simp only [qaz,qay,qcP,or_false,not_or];exact⟨hb1,hb2⟩) (qad _ (qad _ e))
   ·cases r₂ with
    | error e=>exact hr₂
    | ok fl₂=>
     cases fl₂ with
     | ret r=>
      obtain⟨rfl,h',tk,rfl,hS',hk'⟩:=hr₂
      repeat (any_goals (first | assumption | wp_step))
      exact h _ _ hS' hk'
     | _=>exact hr₂.elim
  | _=>exact hr.elim
end
section
variable {prog:Program}{w:World}{A:Around}{E:Value->Shared->Prop}{s:Shared}{d:Addr}
theorem nX {Q:List Value->Shared->Prop}{es:Array (Int×Value)}{ep:Nat}{t:SetTable}{l:List Nat} (S:cx w s.heap d es ep t l) (hh:A.handled=none)
  (h:∀ h' tk,(∀ b o,s.heap.get? b=some o->h'.get? b=some o)->s.heap.objs.size < h'.objs.size->Q ((gO w d es ep).toList.map (·.2)) { s with heap:=h',toks:=tk }) :
  wpAny (model prog w) A (collect (.ref d)) Q E s:=by
 obtain⟨ob,ho,_,_,T,hs⟩:=id S
 have hlt:d < s.heap.objs.size:=qak ho
 have hn:es.size<=sizeLine:=by have:=T.few;rw [qbi];lia
 unfold collect
 refine qaa (qdi (qa7 qeK ?_))
 show wpAny _ _ (do again (.builtin "list.__iadd__" ⟨[<-newList [],.ref d],[]⟩)) _ _ s
 refine qaa (qcM (qab ⟨qcq _ (by decide +kernel),qa7 qfH ?_⟩))
 show wpAny _ _ (Builtin.List.listExtendWith (.ref s.heap.objs.size) (.ref d) (.ref s.heap.objs.size)) _ _ { s with heap:=s.heap.push (seqObj "list" #[] 0) }
 refine qei (A:=A) (R:=λr s'=>match r with
   | .ok (.ret v)=>wpAny (model prog w) A (match v with
     | .ref a=>do
      let o <-load a
      match o.data with
      | .seq xs _=>pure xs.toList
      | _=>unsupported "internal:collect"
     | _=>unsupported "internal:collect") Q E s'
   | .ok _=>False
   | .error e=>E e s') (s:={ s with heap:=s.heap.push (seqObj "list" #[] 0) }) (xt prog w d es ep t l) hh (S.at' λo e=>qad _ e) s.heap.objs.size (qa4 hlt) (qa4 hlt) (.ref s.heap.objs.size) 0 (qao _ rfl) (λh' tk acc c hk hS hI=>?_) hn
 show wpAny (model prog w) A (do
   let o <-load s.heap.objs.size
   match o.data with
   | .seq xs _=>pure xs.toList
   | _=>unsupported "internal:collect") Q E { s with heap:=h',toks:=tk }
 refine qaa (qdy hS ?_)
 show wpAny _ _ (pure acc.toList) Q E _
 have e:acc.toList=(gO w d es ep).toList.map (·.2):=by
  apply qeS
  intro i
  rw [qaW,qa8,qa8]
  by_cases hi:i < acc.size
  ·obtain⟨e,he,hv⟩:=hI.2 i acc[i] (qar hi)
   rw [he,qar hi,hv];rfl
  ·rw [qaR (by lia),qaR (by rw [gE,<-hI.1];lia)];rfl
 rw [e]
 refine qab (h h' tk (λb o q=>?_) (qak hS))
 exact hk b o (qam (qak q)) (qad _ q)
theorem qC {Q:Value->Shared->Prop}{vs:List Value}{es:Array (Int×Value)}{ep:Nat}{tb:SetTable}{l:List Nat} (S:cx w s.heap d es ep tb l) (hh:A.in1.handled=none) (hvs:(es.toList.map (·.2)).Perm vs) (hu:A.in1.in1.units < cLine)
  (t:∀ v ∈ vs,∃ l,TuI s.heap v l)
  (h:∀ (h':Heap) (tk:Nat) (p:Addr) (ep:Nat) (out:List Value),(∀ b o,s.heap.get? b=some o->h'.get? b=some o)->s.heap.objs.size<=p->h'.get? p=some (seqObj "list" out.toArray ep)->out.Perm vs->out.Pairwise (λx y=>OI.kle (tuI s.heap x) (tuI s.heap y))->Q (.ref p) { s with heap:=h',toks:=tk }) :
  wpAny (model prog w) A (call (.builtin "sorted") [.ref d]) Q E s:=by
 refine qcJ qf1 qfu qfv (qfw _) ?_
 unfold Builtin.«sorted»
 refine qaa (m:=checkCount "sorted" 1 1 _) (qab ?_)
 obtain⟨_,_,_,_,T,hs⟩:=id S
 have hfew:=T.few
 refine qaa (nX S hh λh1 tk hk hlt=>?_)
 have hp0:((gO w d es ep).toList.map (·.2)).Perm vs:=((mY w d es ep).map _).trans hvs
 have h64:((gO w d es ep).toList.map (·.2)).length<=64:=by rw [qai,qav,gE];lia
 generalize (gO w d es ep).toList.map (·.2)=us at hp0 h64 ⊢
 have tu:∀ v ∈ us,∃ l,TuI s.heap v l:=λv hv=>t v (hp0.mem_iff.mp hv)
 refine qaa (qcM ?_ (by rw [qbi];lia))
 have hoL:(h1.push (seqObj "list" us.toArray 0)).get? h1.objs.size=some (seqObj "list" us.toArray 0):=qao _ rfl
 show wpAny _ _ _ _ _ { s with heap:=h1.push (seqObj "list" us.toArray 0),toks:=tk }
 refine qaa (qaT (qaU qeP ⟨_,hoL,rfl⟩ qex (gL (O:=OI) (rk:=λp=>tuI s.heap p.1) (S:=λp=>∃ l,TuI s.heap p.1 l) (s:={ s with heap:=h1.push (seqObj "list" us.toArray 0),toks:=tk }) hoL h64 (λh' hk'=>?_) (λv hv=>tu v hv) λout a1 a2=>⟨_,rfl,?_⟩) (qeR _)))
 ·have hk2:∀ b o,s.heap.get? b=some o->h'.get? b=some o:=λb o q=>hk' b o (qam (qak (hk b o q))) (qad _ (hk b o q))
  obtain⟨κ,k1,k2⟩:=mw (prog:=prog) (w:=w) (s:={ s with heap:=h',toks:=tk }) (vs:=us) (λv hv=>let ⟨l,tl⟩:=tu v hv;⟨l,tl.fit hk2⟩) hu
  refine⟨κ,k1,λx y ⟨l,hx⟩ ⟨m,hy⟩ Q E hq=>k2 x y ⟨l,hx.fit hk2⟩ ⟨m,hy.fit hk2⟩ Q E ?_⟩
  have hx':=hx.fit hk2
  have hy':=hy.fit hk2
  have hq':Q (bI (tuI s.heap x.1) (tuI s.heap y.1)) { s with heap:=h',toks:=tk }:=hq
  show Q (bI (tuI h' x.1) (tuI h' y.1)) { s with heap:=h',toks:=tk }
  rw [hx'.is,hy'.is]
  rw [hx.is,hy.is] at hq'
  exact hq'
 ·refine qab ⟨_,rfl,?_⟩
  obtain⟨ep',he⟩:=qgz (out:=out.toArray) hoL
  refine h _ tk h1.objs.size ep' out (λb o q=>?_) (qcA hlt) he (a1.trans hp0) (a2.imp λ{x y} q=>q)
  have q1:=hk b o q
  have hb:b < h1.objs.size:=qak q1
  show (sortedHeap (h1.push (seqObj "list" us.toArray 0)) h1.objs.size us out.toArray).get? b=some o
  rw [qgf (qam hb) (by rw [qfl];exact qaF hb),qch _ _ _ (qam hb)]
  exact q1
end
open Classical in
noncomputable def jy (fe:Ef):Lf
 | env,st=>(fe env st).bind λx=>(lsD x.2 x.1).bind λds=>(ie ds).bind λls=>if ls.length<=64/\(ls.map hT).Nodup then some ((aT ls).map aj,x.2) else none
section
variable {K:PySem.W.Frag}{X:Cx}{pos p pos2 p2:Pos}{e:Expr}{fe:Ef}
theorem vO {k:Nat} (hr0:bn k X.A) (hg:Gl X "sorted") (hm:X.mg "sorted" = none) (hg2:Gl X "set") (hm2:X.mg "set" = none) (ha:IE K X e fe) (hc:X.calm=true:=by rfl) (hs:az e=true:=by rfl) (hK:X.K=K:=by rfl) :
  IL K X (.Call (.Name "sorted" p) [.Call (.Name "set" p2) [e] [] pos2] [] pos) (jy fe):=by
 subst hK
 refine⟨λenv st r hr=>?_⟩
 simp only [jy,qac] at hr
 obtain⟨⟨x,s1⟩,hx,ds,hds,ls,hls,hr⟩:=hr
 split at hr
 ·rename_i hcond
  cases hr
  intro pins s σ H Q I h
  obtain⟨φ,hE,hS,q⟩:=h
  have hs2:az (.Call (.Name "set" p2) [e] [] pos2)=true:=rfl
  refine qbT (ef I hg hm qcz ?_)
  refine qcT ?_ (aN hs2) (cb (es:=[]) rfl)
  rw [aN hs2]
  show wpAny _ _ (spliced ((false,eval (.Call (.Name "set" p2) [e] [] pos2) X.env)::backTo pos (starEach [] X.env))) _ _ s
  refine qb6 ?_
  refine qbT (ef I hg2 hm2 qeY ?_)
  refine qbB ?_ (aN hs) (cb (es:=[]) rfl)
  rw [aN hs]
  show wpAny _ _ (spliced ((false,eval e X.env)::backTo pos2 (starEach [] X.env))) _ _ s
  refine qb6 (thn ((ha.run _ _ _ hx) pins s σ H (λv H'=>∃ φ',Sr X.K H' φ' s1/\Fw φ φ' H H'/\Rw X.K H' φ' x v) I ⟨φ,hE,hS,λv H' φ' f1 S1 w1=>⟨φ',S1,f1,w1⟩⟩) λu s2 ⟨v,H1,I1,r1,φ1,S1,f1,w1⟩=>?_)
  show wpAny _ _ (spliced []) _ _ s2
  refine qcB ?_
  obtain⟨ad,vs,rfl,h1,h2⟩:=ii S1 w1 hds
  cases r1
  cases gn hls
  obtain⟨its,rv,pl,_⟩:=I1.list (.inl h1)
  obtain⟨m1,m2⟩:=iA I1 h2 rv
  have hlen:its.length<=64:=by
   have:=congrArg List.length m1
   rw [qai] at this;lia
  have hun:X.A.in1.in1.in1.units < cLine:=by
   have:=hr0.un
   show X.A.units+1+1+1 < cLine
   lia
  have hun2:X.A.in1.in1.units < cLine:=Nat.lt_of_succ_lt hun
  refine lx (items:=its.toArray) (I1.ok.hd hc) hun pl.isList (by intro v hv;exact (m2 v (by simpa using hv)).1) (by simpa using hlen) (by
   have e:(its.map λv=>hT (tuI s2.heap v))=ls.map hT:=by rw [<-m1,qaJ];rfl
   show (its.map λv=>hT (tuI s2.heap v)).Nodup
   rw [e];exact hcond.2) λh' tk gs hkp=>?_
  show wpAny _ _ (spliced []) _ _ _
  refine qcB ?_
  obtain⟨es,ep,t,l,SG,_,hper⟩:=gs
  have hkp':∀ b o,s2.heap.get? b=some o->h'.get? b=some o:=λb o z=>hkp b o (qak z) z
  have I2:Inv X pins σ H1 { s2 with heap:=h',toks:=tk }:=I1.kept hkp'
  have hper2:(es.toList.map (·.2)).Perm its:=by
   have:=hper.map (·.2)
   unfold pR at this
   rw [qaJ] at this
   have e:((λx:Int×Value=>x.2) ∘ λv=>(hT (tuI s2.heap v),v))=id:=by funext v;rfl
   rw [e,qc6] at this
   exact this
  have m3:∀ u ∈ its,TuI h' u (tuI h' u)/\tuI h' u=tuI s2.heap u:=λu hu=>by
   have z:=(m2 u hu).1.fit hkp'
   have e:=z.is
   rw [e];exact⟨z,rfl⟩
  refine qC (s:={ s2 with heap:=h',toks:=tk }) SG (I1.ok.hd hc) hper2 hun2 (λv hv=>⟨_,(m3 v hv).1⟩) λh2' tk2 p' ep' out hkeep hp he a1 a2=>?_
  have hn:H1 p'=none:=I2.hok.fresh hp
  have ho:=λu hu=>m2 u (a1.mem_iff.mp hu)
  obtain⟨c1,c2⟩:=ix (K:=X.K) (H:=H1) (φ:=φ1) ho
  have hpm:(out.map (tuI s2.heap)).Perm ls:=by
   have:=a1.map (tuI s2.heap)
   rw [m1] at this;exact this
  have hsrt:(out.map (tuI s2.heap)).Pairwise leL:=by
   rw [qbV]
   refine qhu ?_ a2
   intro x y hx hy qq
   have e1:=(m3 x (a1.mem_iff.mp hx)).2
   have e2:=(m3 y (a1.mem_iff.mp hy)).2
   have qq':OI.kle (tuI h' x) (tuI h' y):=qq
   rw [e1,e2] at qq'
   exact qq'
  have e1:out.map (tuI s2.heap)=aT ls:=db (hpm.trans (bi _).symm) hsrt (cg _)
  have e2:(out.map λu=>aj (tuI s2.heap u))=(aT ls).map aj:=by rw [<-e1,qaJ];rfl
  rw [e2] at c1
  have hlay:Inv X pins σ (upd H1 p' (.lst (out.map toV))) { s2 with heap:=h2',toks:=tk2 }:=by
   refine I2.laid (t':=tk2) (a:=p') (o:=.lst (out.map toV)) hkeep hp ⟨?_,out,ep',c2,by simpa [seqObj] using he⟩
   rw [qai,a1.length_eq];exact fz (by lia)
  exact⟨.ref p',_,hlay,rfl,q p' _ H1 φ1 f1 S1 hn c1⟩
 ·cases hr
end
end L2
namespace L2
open PySem PySem.SeqAt MeetsSeq MeetsSeq2 MeetsSeq3
open AutoSeq1 (wpAny_loadPart')
end L2
namespace L2
open PySem PySem.Spec PyProof.Rows
section
variable {K:PySem.W.Frag}{X:Cx}{pos:Pos}{a e:Expr}{fa:Ef}{af:Af}
end
section
variable {K:PySem.W.Frag}{X:Cx}{pos:Pos}{a e:Expr}{fa:Ef}{af:Af}
end
end L2
namespace L2
open PySem PySem.Spec PyProof.Rows
open AutoSeq1 (wpAny_loadPart')
section
variable {K:PySem.W.Frag}{X:Cx}{pos:Pos}{a e:Expr}{es:List Expr}{fa:Ef}{af:Af}
end
theorem nV (l:Addr) (items:Array Value) (n:Nat) (b:Addr) (items2:Array Value) (n2:Nat) (dd:Option Addr) (sl:Array (Option Value)) (hs0:¬(!items.isEmpty && Builtin.List.listTooLong (items.size+items2.size))=true) (hs1:items.size<=sizeLine) (hs2:items.size+items2.size<=sizeLine+1) :
  Meets (Builtin.«list.extend» ⟨[.ref l,.ref b],[]⟩) (λ_ R s=>s.heap.get? l=some { cls:=.type "list",dict:=none,data:=.seq items n,slots:=#[] }/\s.heap.get? b=some { cls:=.type "list",dict:=dd,data:=.seq items2 n2,slots:=sl }/\R (.ok (.ret Value.none)) { s with heap:=s.heap.update l (Obj.mapSeq λx=>x++items2),toks:=s.toks }):=
 .of_wp λprog w A R s h=>by
  obtain⟨hp,g,d,tk,os⟩:=s;obtain⟨hl,hb,h⟩:=h;have f1:=AutoSeq1.idx_int;have f2:=qfd;have f3:=AutoSeq1.sub_list_list;have f4:=AutoSeq1.sub_tuple_list;have f5:=AutoSeq1.sub_list_tuple
  have hz':(items++items2).size<=sizeLine+1:=by rw [Array.size_append];exact hs2
  wp_walk using (qer hl rfl (hz:=hs1) (_hz':=hz')),wpAny_loadPart' hl,wpAny_loadPart' hb
  exact⟨_,rfl,h⟩
section
variable {K:PySem.W.Frag}{X:Cx}{pos:Pos}{a e:Expr}{es:List Expr}{fa:Ef}{af:Af}
noncomputable def Ce (X:Cx):V->List V->Hp->VK->Prop:=λx vs H Q=>∃ l b xs zs,x=.ref l/\vs=[.ref b]/\H l=some (.lst xs)/\Rd H b (.lst zs)/\b≠l/\xs.length+zs.length<=sizeLine/\Q .non (upd H l (.lst (xs++zs)))
theorem yp:MtR X "list.extend" (Ce X):=by
 intro pins s σ H x vs v us Q I rx rv h
 obtain⟨l,b,xs,zs,rfl,rfl,hH,hB,hne,hz,q⟩:=h
 cases rx
 obtain⟨u,rfl,ru⟩:=rv.one
 cases ru
 obtain⟨z,its,n,r,hl,e⟩:=I.lstM hH
 obtain⟨its2,r2,⟨⟨c,dd,dt,sl⟩,n2,e2,hc,hdd,hd⟩,hz2⟩:=I.list (.inl hB)
 replace hc:c=.type "list":=hc
 replace hd:dt=.seq its2.toArray n2:=hd
 subst hc hd
 have hl2:=r2.length
 have hsz:its.toArray.size+its2.toArray.size<=sizeLine:=by rw [qas,qas];lia
 have hlong:¬ (!its.toArray.isEmpty && Builtin.List.listTooLong (its.toArray.size+its2.toArray.size))=true:=by
  rw [o0 hsz,qfE]
  exact qal
 refine qcN F.slot_list_extend ⟨_,e,rfl⟩ F.entry_list_extend (F.args_list_extend_2 _ _)
  (nV l its.toArray n b its2.toArray n2 dd sl hlong (by rw [qas];lia) (by lia)) ⟨e,e2,?_⟩
 refine⟨.non,_,I.lset (its':=its++its2) hH e (by simp) (r.append r2) ?_,rfl,q⟩
 rw [qaK]
 lia
noncomputable def nq (ds:List D):List W->Option (D×List D)
 | [.d (.lst xs)]=>if ds.length+xs.length<=1000000 then some (.non,ds++xs) else none
 | _=>none
theorem zO {apos:Pos} (ho:IE K X a fa) (ha:IA K X (e::es) af) (hbase:attributeBase a "extend" X.env (eval a X.env)=eval a X.env:=by rfl)
  (hall:(e::es).all az=true:=by rfl) (hfl30:(e::es).length < 30:=by decide) (hline:(apos.endLine==pos.line)=true:=by rfl) (hK:X.K=K:=by rfl) :
  IE K X (.Call (.Attribute a "extend" apos) (e::es) [] pos) (eY nq fa af):=by
 subst hK
 refine sJ PySem.F.slot_list_extend PySem.F.type_list_extend yp (λH φ st n ad ds vs ws us y Q S ea eds hv rl rw hy q=>?_) (λds ws y h=>?_) ho ha hbase hall hfl30 hline rfl
 ·match ws,hy with
  | [.d (.lst xs)],hy=>
   simp only [nq] at hy
   split at hy
   ·rename_i hl
    cases hy
    obtain⟨v,r,rfl,⟨b,zs,rfl,hnb,hq,hz⟩,rfl⟩:=rw
    exact⟨ad,b,vs,zs,rfl,rfl,hv,hq,(λe=>hnb (by rw [e];exact qbI ea)),by rw [<-rl.length,<-hz.length];exact qaQ hl mil,q _ _ rfl (rl.append hz) (λb z=>nomatch z)⟩
   ·cases hy
 ·match ws,h with
  | [.d (.lst xs)],h=>
   simp only [nq] at h
   split at h
   ·cases h;rfl
   ·cases h
end
end L2
namespace L2
open PySem PySem.Spec PyProof.Rows
open Classical in
noncomputable def lcH (n:Nat) (all:List D) (g:Tg) (tt:Tf) (te:Ef) (env:Ev):List D->Sto->Option (List D×Sto)
 | [],st=>if lg st n=some all then some ([],st) else none
 | d::ds,st=>if lg st n=some all then ((eX g (.d d) env).bind λe=>(tt e st).bind λb=>if b.1=true then (te e b.2).bind λx=>(jf [x.1]).bind λys=>(lcH n all g tt te env ds x.2).map λr=>(ys++r.1,r.2)
   else lcH n all g tt te env ds b.2) else none
section
variable {K:PySem.W.Frag}{X:Cx}{pos:Pos}{tg:Expr}
noncomputable def YlH (K:PySem.W.Frag) (φ0:List Addr) (H0:Hp) (J:It) (n:Nat) (ds:List D):Prop:=∀ (H:Hp) (φ:List Addr) (st:Sto) (i:Nat),Fw φ0 φ H0 H->Sr K H φ st->lg st n=some ds->
 (∀ d,ds[i]?=some d->J.go i H/\∀ x H',J.yld i H x H'->bm H H'/\Rl K H' φ d x)/\(ds.length=i->J.stop i H)
noncomputable def DU (K:PySem.W.Frag) (env:Ev) (st:Sto) (n:Nat) (ds:List D) (s1:Sto):TI:=λσ H R=>∃ φ,Er K H φ env σ/\Sr K H φ st/\∀ J H' φ',Fw φ φ' H H'->Sr K H' φ' s1->YlH K φ' H' J n ds->R J H'
theorem zD {e:Expr}{f:Ef}{env:Ev}{st s1:Sto}{n:Nat}{ds:List D} (h:IE K X e f) (hK:X.K=K) (hf:f env st=some (.h n,s1)) (hn:lg s1 n=some ds):PI X tg e (DU K env st n ds s1):=by
 subst hK
 refine (ud (h.run _ _ _ hf)).imp ?_
 rintro σ H R ⟨φ,hE,hS,q⟩
 refine⟨φ,hE,hS,λv H1 φ1 f1 S1 w1=>?_⟩
 obtain⟨a,vs,rfl,hq,hr⟩:=ii S1 w1 (show lsD s1 (.h n)=some ds from hn)
 refine⟨a,rfl,⟨vs,.inl hq⟩,q _ H1 φ1 f1 S1 λH2 φ2 st2 i f2 S2 hn2=>?_⟩
 obtain⟨a2,vs2,ea,hq2,hr2⟩:=ii S2 (Rw.fw S1 f2 w1) (show lsD st2 (.h n)=some ds from hn2)
 cases ea
 have hq3:SqL X.K H2 a vs2:=.inl hq2
 refine⟨λd hd=>?_,λhi=>⟨vs2,hq3,by rw [<-hr2.length];exact qdf hi⟩⟩
 obtain⟨v,ev,rv⟩:=hr2.get hd
 refine⟨⟨vs2,v,hq3,ev⟩,λx H' y=>?_⟩
 obtain⟨rfl,y⟩:=y
 have:=y vs2 hq3
 rw [ev] at this
 cases this
 exact⟨bm.refl _,rv⟩
end
open Classical in
noncomputable def mF (n:Nat) (all:List D) (g:Tg) (body:Sf):List D->Ev->Sto->Option Fl
 | [],env,st=>if lg st n=some all then some (.nx env st) else none
 | d::ds,env,st=>if lg st n=some all then ((eX g (.d d) env).bind λe=>(body e st).bind λr=>match r with
  | .nx e s=>mF n all g body ds e s
  | .ct e s=>mF n all g body ds e s
  | .bk e s=>some (.nx e s)
  | .rt w s=>some (.rt w s)) else none
noncomputable def o8 (fe:Ef) (g:Tg) (body:Sf):Sf
 | env,st=>(fe env st).bind λr=>match r.1 with
  | .h n=>(lg r.2 n).bind λds=>mF n ds g body ds env r.2
  | .d (.tup ds)=>jo g body ds env r.2
  | .d (.lst ds)=>jo g body ds env r.2
  | _=>none
section
variable {K:PySem.W.Frag}{X:Cx}{pos:Pos}{tg:Expr}
theorem zf {iter:Expr}{body:List Stmt}{fe:Ef}{g:Tg}{gb:Sf} (he:IE K X iter fe) (hii:II K X tg iter (aW fe)) (hg:PG X tg (tG K g)) (hb:ISs K X body gb) (hp:PassesOwn (model X.prog X.w) X.A X.env X.xe) (hc:X.calm=true:=by rfl)
  (hs:∀ x,foldedSetIterable iter X.env x=pure x:=by intro _;rfl) (hK:X.K=K:=by rfl):IS K X (.For tg iter body [] pos) (o8 fe g gb):=by
 refine⟨λenv st r hr=>?_⟩
 simp only [o8,qac] at hr
 obtain⟨⟨x,s1⟩,hx,hr⟩:=hr
 cases x with
 | d x=>
  refine (ig hii hg hb hp hc hs).run env st r ?_
  cases x with
  | tup ds=>simp only [jD,aW,hx,qag];exact hr
  | lst ds=>simp only [jD,aW,hx,qag];exact hr
  | _=>cases hr
 | h n=>
  simp only [qac] at hr
  obtain⟨ds,hds,hr⟩:=hr
  refine (x3 hp hc (zD he hK hx hds) hg hb.any hs).imp ?_
  rintro D σ H ⟨φ,hE,hS,q⟩
  refine⟨φ,hE,hS,λJ H1 φ1 f1 S1 yl=>?_⟩
  refine⟨λi m σ H=>m=ds.length - i/\i<=ds.length/\∃ env st φ2,Fw φ1 φ2 H1 H/\Er K H φ2 env σ/\Sr K H φ2 st/\mF n ds g gb (ds.drop i) env st=some r,⟨ds.length,by simp,qaI _,env,s1,φ1,Fw.refl _ _,hE.fw hS f1,S1,hr⟩,?_⟩
  rintro i m σ H2 ⟨rfl,hi,env2,st2,φ2,f2,e2,S2,h2⟩
  by_cases hlt:i < ds.length
  ·rw [qbM hlt] at h2
   rw [mF] at h2
   by_cases hg2:lg st2 n=some ds
   ·rw [if_pos hg2] at h2
    obtain⟨y1,y2⟩:=yl H2 φ2 st2 i f2 S2 hg2
    obtain⟨go,yld⟩:=y1 ds[i] (qaH hlt)
    simp only [qac] at h2
    obtain⟨e3,he3,r3,hr3,h3⟩:=h2
    refine .inr ⟨go,λσ' H'=>i+1<=ds.length/\∃ env st φ2,Fw φ1 φ2 H1 H'/\Er K H' φ2 env σ'/\Sr K H' φ2 st/\mF n ds g gb (ds.drop (i+1)) env st=some r,λσ' H' ⟨hn,p'⟩=>⟨ds.length - (i+1),by lia,rfl,hn,p'⟩,λx H' y=>?_⟩
    obtain⟨sm,rx⟩:=yld x H' y
    have S3:=S2.same sm
    have f3:=f2.trans (Fw.same (φ:=φ2) sm)
    refine⟨φ2,st2,env2,.d ds[i],e3,e2.fw S2 (Fw.same sm),S3,rx,he3,λσ' e' _=>?_⟩
    refine⟨e3,st2,r3,hr3,φ2,e',S3,?_⟩
    cases r3 with
    | nx e4 s4=>exact λσ4 H4 φ4 f4 e4' s4'=>⟨hlt,e4,s4,φ4,f3.trans f4,e4',s4',h3⟩
    | ct e4 s4=>exact λσ4 H4 φ4 f4 e4' s4'=>⟨hlt,e4,s4,φ4,f3.trans f4,e4',s4',h3⟩
    | bk e4 s4=>
     cases h3
     exact λσ4 H4 φ4 f4 e4' s4'=>q σ4 H4 φ4 (f1.trans (f3.trans f4)) e4' s4'
    | rt w s4=>
     cases h3
     exact λv H4 φ4 f4 s4' w4=>q v H4 φ4 (f1.trans (f3.trans f4)) s4' w4
   ·rw [if_neg hg2] at h2;cases h2
  ·have hi':i=ds.length:=by lia
   subst hi'
   rw [qe5,mF] at h2
   by_cases hg2:lg st2 n=some ds
   ·rw [if_pos hg2] at h2
    cases h2
    obtain⟨y1,y2⟩:=yl H2 φ2 st2 ds.length f2 S2 hg2
    exact .inl ⟨y2 rfl,q σ H2 φ2 (f1.trans f2) e2 S2⟩
   ·rw [if_neg hg2] at h2;cases h2
end
theorem pU {n:Nat}{all:List D}{g:Tg}{body:Sf}:∀ {ds:List D} (Pv:Nat->Ev->Sto->Prop) {env:Ev}{st:Sto},Pv 0 env st->(∀ i env st,Pv i env st->lg st n=some all)->
  (∀ i d env st,ds[i]?=some d->Pv i env st->∃ e1 e2 s2,eX g (.d d) env=some e1/\(body e1 st=some (.nx e2 s2)\/body e1 st=some (.ct e2 s2))/\Pv (i+1) e2 s2)->
  ∃ env' st',mF n all g body ds env st=some (.nx env' st')/\Pv ds.length env' st'
 | [],Pv,env,st,h0,hk,_=>⟨env,st,by rw [mF,if_pos (hk _ _ _ h0)],h0⟩
 | d::ds,Pv,env,st,h0,hk,hs=>by
  obtain⟨e1,e2,s2,h1,h2,h3⟩:=hs 0 d env st rfl h0
  obtain⟨e',s',h4,h5⟩:=pU (g:=g) (body:=body) (ds:=ds) (λi=>Pv (i+1)) h3 (λi=>hk (i+1)) λi d' env' st' hd p=>hs (i+1) d' env' st' (by simpa using hd) p
  refine⟨e',s',?_,h5⟩
  rw [mF,if_pos (hk _ _ _ h0),h1,qag]
  rcases h2 with h2 | h2<;>(rw [h2,qag];exact h4)
mutual
noncomputable def toP:D->PyData
 | .non=>.none
 | .bl b=>.bool b
 | .int i=>.int i
 | .str x=>.str x
 | .tup ds=>.tuple (gP ds)
 | .lst ds=>.list (gP ds)
 | _=>.none
noncomputable def gP:List D->List PyData
 | []=>[]
 | d::ds=>toP d::gP ds
end
mutual
noncomputable def rpD:D->Bool
 | .non=>true
 | .bl _=>true
 | .int i=>decide (i.natAbs.log2 < 1920)
 | .str _=>true
 | .tup ds=>kf ds
 | .lst ds=>kf ds
 | _=>false
noncomputable def kf:List D->Bool
 | []=>true
 | d::ds=>rpD d && kf ds
end
mutual
noncomputable def wtD:D->Nat
 | .non=>10
 | .bl _=>10
 | .int _=>2000
 | .str x=>(reprText x).length
 | .tup ds=>oB ds+5
 | .lst ds=>oB ds+5
 | _=>0
noncomputable def oB:List D->Nat
 | []=>0
 | d::ds=>wtD d+2+oB ds
end
mutual
noncomputable def dpD:D->Nat
 | .tup ds=>nJ ds+1
 | .lst ds=>nJ ds+1
 | _=>1
noncomputable def nJ:List D->Nat
 | []=>0
 | d::ds=>max (dpD d) (nJ ds)
end
noncomputable def oU (st:Sto):List W->Option D
 | [w]=>match w with
  | .d d=>if rpD d=true/\wtD d<=16000000/\dpD d<=50 then some (.str (toP d).shown) else none
  | .h _=>none
 | _=>none
theorem jJ:∀ (ts:List Str) (k:Nat) (acc:Str),(textFrom k acc ts).length<=acc.length+piled ts
 | [],k,acc=>by show acc.length<=_;lia
 | t::r,k,acc=>by
  have h:=jJ r (k+1) (acc++(if k > 0 then ", " else "" : String)++t)
  have e:(acc++(if k > 0 then ", " else "" : String)++t).length<=acc.length+2+t.length:=by
   rw [qdb,qdb]
   have:((if k > 0 then ", " else "" : String):Str).length<=2:=by split<;>decide
   lia
  rw [qhp]
  show (textFrom (k+1) _ r).length<=_
  lia
theorem wC (ts:List Str):(tupleText ts).length<=piled ts+3:=by
 have hz:(Str.join ", " ts).length<=piled ts:=by
  cases ts with
  | nil=>exact qaI _
  | cons x r=>
   have:=qir (x::r) (by simp)
   lia
 unfold tupleText
 rw [qdb,qdb]
 have h2:((if ts.length==1 then ",)" else ")" : String):Str).length<=2:=by split<;>decide
 have h1:((("(" : String):Str)).length=1:=rfl
 lia
theorem y7 (ts:List Str):(listText ts).length<=piled ts+2:=by
 have h:=jJ ts 0 "["
 unfold listText
 rw [qdb]
 have h1:((("[" : String):Str)).length=1:=rfl
 have h2:((("]" : String):Str)).length=1:=rfl
 lia
mutual
theorem ph:∀ d:D,rpD d=true->(toP d).shown.length<=wtD d
 | .non,_=>by rw [toP,wtD];decide
 | .bl b,_=>by rw [toP,wtD];cases b<;>decide
 | .int i,h=>by
  rw [rpD,decide_eq_true_eq] at h
  rw [toP,wtD,PyData.shown]
  have:=int_text_length_le (k:=1920) (by decide) h
  rw [qf3]
  lia
 | .str x,_=>by rw [toP,wtD,PyData.shown];exact qan _
 | .tup ds,h=>by
  rw [rpD] at h
  rw [toP,wtD,PyData.shown]
  have:=ju ds h
  have:=wC (PyData.shownAll (gP ds))
  lia
 | .lst ds,h=>by
  rw [rpD] at h
  rw [toP,wtD,PyData.shown]
  have:=ju ds h
  have:=y7 (PyData.shownAll (gP ds))
  lia
 | .ty _,h=>by simp [rpD] at h
 | .dct,h=>by simp [rpD] at h
 | .scr _,h=>by simp [rpD] at h
theorem ju:∀ ds:List D,kf ds=true->piled (PyData.shownAll (gP ds))<=oB ds
 | [],_=>by rw [gP,oB,PyData.shownAll];exact qan _
 | d::ds,h=>by
  rw [kf,qaL] at h
  rw [gP,oB,PyData.shownAll,qhp]
  have:=ph d h.1
  have:=ju ds h.2
  lia
end
mutual
theorem tE:∀ d:D,rpD d=true->(toP d).showable=true/\(toP d).hasDict=false/\(toP d).depth<=dpD d
 | .non,_=>⟨rfl,rfl,by decide⟩
 | .bl b,_=>⟨rfl,rfl,by rw [toP,PyData.depth];exact qaI _⟩
 | .int i,h=>by
  rw [rpD] at h
  rw [toP]
  exact⟨h,rfl,by rw [PyData.depth];exact qaI _⟩
 | .str x,_=>⟨rfl,rfl,by rw [toP,PyData.depth];exact qaI _⟩
 | .tup ds,h=>by
  rw [rpD] at h
  rw [toP,dpD,PyData.showable,PyData.hasDict,PyData.depth]
  obtain⟨a,b,c⟩:=mt ds h
  exact⟨a,b,by lia⟩
 | .lst ds,h=>by
  rw [rpD] at h
  rw [toP,dpD,PyData.showable,PyData.hasDict,PyData.depth]
  obtain⟨a,b,c⟩:=mt ds h
  exact⟨a,b,by lia⟩
 | .ty _,h=>by simp [rpD] at h
 | .dct,h=>by simp [rpD] at h
 | .scr _,h=>by simp [rpD] at h
theorem mt:∀ ds:List D,kf ds=true->PyData.showableAll (gP ds)=true/\PyData.hasDictAll (gP ds)=false/\PyData.depthAll (gP ds)<=nJ ds
 | [],_=>by rw [gP,nJ];exact⟨rfl,rfl,by simp [PyData.depthAll]⟩
 | d::ds,h=>by
  rw [kf,qaL] at h
  obtain⟨a,b,c⟩:=tE d h.1
  obtain⟨a',b',c'⟩:=mt ds h.2
  rw [gP,nJ,PyData.showableAll,PyData.hasDictAll,PyData.depthAll,a,b,a',b']
  exact⟨rfl,rfl,by lia⟩
end
section
variable {K:PySem.W.Frag}{X:Cx}{pins:List (Addr×Obj)}{σ:St}{H:Hp}{s:Shared}{φ:List Addr}
mutual
theorem pd (I:Inv X pins σ H s):∀ (d:D) (v:V) (u:Value),rpD d=true->Rl X.K H φ d v->aA v u->∃ as,Reads s.heap u (toP d) as
 | .non,v,u,_,r,q=>by cases (show v=.non from r);cases q;exact⟨_,by rw [toP];exact .none⟩
 | .bl b,v,u,_,r,q=>by cases (show v=.bl b from r);cases q;exact⟨_,by rw [toP];exact .bool b⟩
 | .int i,v,u,_,r,q=>by cases (show v=.int i from r);obtain⟨t,rfl⟩:=q;exact⟨_,by rw [toP];exact .int i t⟩
 | .str x,v,u,_,r,q=>by cases (show v=.str x from r);obtain⟨t,rfl⟩:=q;exact⟨_,by rw [toP];exact .str x t⟩
 | .tup ds,v,u,h,r,q=>by
  rw [rpD] at h
  obtain⟨a,vs,rfl,h1,h2⟩:=r
  cases q
  obtain⟨its,rv,⟨o,ho,hc,n,hd⟩,_⟩:=I.tuple (SqT.of h1)
  obtain⟨as,ra⟩:=jw I ds vs its h h2 rv
  exact⟨as,by rw [toP];exact .tuple ho hc hd (by simpa using ra)⟩
 | .lst ds,v,u,h,r,q=>by
  rw [rpD] at h
  obtain⟨a,vs,rfl,_,h1,h2⟩:=r
  cases q
  obtain⟨its,rv,⟨o,n,ho,hc,hdd,hd⟩,_⟩:=I.list (.inl h1)
  obtain⟨as,ra⟩:=jw I ds vs its h h2 rv
  exact⟨a::as,by rw [toP];exact .list ho hc hd (by simpa using ra)⟩
 | .ty _,_,_,h,_,_=>by simp [rpD] at h
 | .dct,_,_,h,_,_=>by simp [rpD] at h
 | .scr _,_,_,h,_,_=>by simp [rpD] at h
theorem jw (I:Inv X pins σ H s):∀ (ds:List D) (vs:List V) (us:List Value),kf ds=true->Rls X.K H φ ds vs->av vs us->∃ as,ReadsAll s.heap us (gP ds) as
 | [],vs,us,_,r,q=>by cases r;cases q;exact⟨[],by rw [gP];exact .nil⟩
 | d::ds,vs,us,h,r,q=>by
  rw [kf,qaL] at h
  obtain⟨v,r',rfl,h1,h2⟩:=r
  cases q with
  | cons q1 q2=>
   obtain⟨as,a1⟩:=pd I d v _ h.1 h1 q1
   obtain⟨bs,a2⟩:=jw I ds r' _ h.2 h2 q2
   exact⟨as++bs,by rw [gP];exact .cons a1 a2⟩
end
end
noncomputable def xq (st:Sto):List W->Option D
 | [.d (.tup ds)]=>oU st [.d (.tup ds)]
 | [.d (.lst ds)]=>oU st [.d (.lst ds)]
 | _=>none
theorem vY {K:PySem.W.Frag}{X:Cx}{k:Nat} (hr:bn k X.A) (hK:X.K=K:=by rfl):fN K X (.builtin "repr") xq:=by
 subst hK
 refine⟨λst ws d h=>?_⟩
 have key:∀ x:D,(∀ (H:Hp) (φ:List Addr) v,Rl X.K H φ x v->∃ a,v=.ref a)->oU st [.d x]=some d->bS X (.builtin "repr") (rCD X.K st [.d x] d):=by
  intro x hx h
  simp only [oU] at h
  split at h
  ·rename_i hc
   cases h
   intro pins s σ H xs us Q I rv q
   obtain⟨φ,S,⟨v,r,rfl,r1,rfl⟩,q⟩:=q
   obtain⟨u,rfl,ru⟩:=gD rv
   obtain⟨as,rd⟩:=pd I x v u hc.1 r1 ru
   obtain⟨a,rfl⟩:=hx H φ v r1
   cases ru
   obtain⟨b1,b2,b3⟩:=tE x hc.1
   have hl:=ph x hc.1
   have hun:=hr.units
   refine qiz rd b1 (qgr b2) hr.gd (by lia) (λ_ _ e=>e) (λh' u tk hk=>⟨.str _,H,I.kept (t':=tk) hk,⟨u,rfl⟩,q _ H (bm.refl H) rfl⟩) ?_
   rw [qbi];lia
  ·cases h
 match ws,h with
 | [.d (.tup ds)],h=>exact key (.tup ds) (λH φ v ⟨a,vs,e,_⟩=>⟨a,e⟩) h
 | [.d (.lst ds)],h=>exact key (.lst ds) (λH φ v ⟨a,vs,e,_⟩=>⟨a,e⟩) h
end L2
namespace L2
open PySem PySem.Spec PyProof.Rows
noncomputable def dF (st:Sto) (ws:List W):Option D:=match ws with
 | [.d (.int i)]=>tj st [.d (.int i)]
 | ws=>xq st ws
theorem iY {K:PySem.W.Frag}{X:Cx}{k:Nat} (hr:bn k X.A) (hK:X.K=K:=by rfl):fN K X (.builtin "repr") dF:=by
 refine⟨λst ws d h=>?_⟩
 unfold dF at h
 split at h
 ·exact (yY hr hK).run _ _ _ h
 ·exact (vY hr hK).run _ _ _ h
end L2
namespace Own
open PySem L2
noncomputable section
noncomputable def g8:Ef:=(dB (ae (iV 0) (ae (uN (iV 1) (iV 0)) ak)))
noncomputable def gS:Tf:=(bR dNe (uN (iV 1) (iV 0)) (iC (.int 0)))
noncomputable def b_poly_from:Sf:=(cy (dB (ae (iV 0) (ae (iCB n5 (ae (aH (iLc 1 [1] (aW (aH (jA (iV 1)))) (.nm 0) gS g8)) ak)) ak))))
noncomputable def m_poly_from:Fn:=cp 2 2 b_poly_from
noncomputable def bD:Sf:=(tB (iV 2) (iV 3) (iOp d3 (qY (iV 2) (iV 3) (iC (.int 0))) (iV 4)))
noncomputable def b_gathered:Sf:=(aM (bY (.nm 2) Al) (aM (o8 (iV 1) (.tp [3,4]) bD) (cy (bw m_poly_from (ae (iV 0) (ae (iV 2) ak))))))
noncomputable def m_gathered:Fn:=je 5 2 b_gathered
noncomputable def b_joined:Sf:=(aM (gQ (bR dEq (iV 0) (iC (.str "both"))) (cy (iCB n5 (ae (aH (fW (kG (cX (iV 1)) (cX (iV 2))))) ak))) gA) (cy (iCB n5 (ae (aH (fW (iB (cX (iV 1)) (cX (iV 2))))) ak))))
noncomputable def m_joined:Fn:=cp 3 3 b_joined
noncomputable def gu:Ef:=(dB (ae (bw m_joined (ae (iV 2) (ae (iV 3) (ae (iV 0) ak)))) (ae (iOp ge (iV 4) (iV 1)) ak)))
noncomputable def gq:Sf:=(gY (eY nq (iV 3) (ae (aH (iLc 2 [2,4,5] (aW (iOp dIx (iV 1) (iC (.int 1)))) (.tp [0,1]) dg gu)) ak)))
noncomputable def b_product_of:Sf:=(aM (bY (.nm 2) (iOp dIx (iV 0) (iC (.int 0)))) (aM (bY (.nm 3) (nP (gx ak))) (aM (jD (aW (iOp dIx (iV 0) (iC (.int 1)))) (.tp [4,5]) gq) (cy (bw m_gathered (ae (iV 2) (ae (iV 3) ak)))))))
noncomputable def m_product_of:Fn:=je 6 2 b_product_of
noncomputable def jQ:Ef:=(iV 0)
noncomputable def jL:Tf:=(bR dNe (iOp dIx (iV 1) (iV 0)) (iOp dIx (iV 1) (iOp d3 (iV 0) (iC (.int 1)))))
noncomputable def b_ends_of:Sf:=(cy (aH (iLc 1 [0] (cu (ae (iOp lr (iCB dn (ae (iV 0) ak)) (iC (.int 1))) ak)) (.nm 0) jL jQ)))
noncomputable def m_ends_of:Fn:=cp 1 1 b_ends_of
noncomputable def b_changes_of:Sf:=(cy (iCB dn (ae (bw m_ends_of (ae (iV 0) ak)) ak)))
noncomputable def m_changes_of:Fn:=cp 1 1 b_changes_of
noncomputable def cK:Ef:=(dB (ae (dB (ae (iV 0) ak)) (ae (iC (.int 2)) ak)))
noncomputable def b_twice_above:Sf:=(cy (bw m_gathered (ae (iC (.str "both")) (ae (iOp d3 (aH (gx (ae (dB (ae (dB ak) (ae (iOp lr (iOp ge (iUn sC (iC (.int 2))) (iV 1)) (iC (.int 1))) ak))) ak))) (aH (iLc 1 [] (cu (ae (iV 0) ak)) (.nm 0) dg cK))) ak))))
noncomputable def m_twice_above:Fn:=cp 2 2 b_twice_above
noncomputable def fP:Sf:=(bY (.nm 1) (bw m_product_of (ae (iV 1) (ae (bw m_twice_above (ae (iOp lr (iCB dn (ae (iV 0) ak)) (iC (.int 1))) (ae (iV 2) ak))) ak))))
noncomputable def b_counts_poly:Sf:=(aM (bY (.nm 1) (dB (ae (iC (.str "both")) (ae (dB (ae (dB (ae (dB ak) (ae (nU (bR dEq (iOp dIx (iV 0) (iUn sC (iC (.int 1)))) (iC (.int 1))) (iC (.int 1)) (iUn sC (iC (.int 1)))) ak))) ak)) ak)))) (aM (jD (aW (bw m_ends_of (ae (iV 0) ak))) (.nm 2) fP) (cy (iV 1))))
noncomputable def m_counts_poly:Fn:=cp 3 1 b_counts_poly
noncomputable def cV:Ef:=(iCB x4 (ae (iV 0) ak))
noncomputable def da:Tf:=(bR dGe (iCB x4 (ae (iV 0) ak)) (iOp AK (iC (.int 10)) (iC (.int 18))))
noncomputable def eh:Sf:=(bY (.nm 1) (iOp kg (iOp d3 (iOp ge (iV 1) (iC (.int 1000003))) (iV 2)) (iC (.int 2305843009213693951))))
noncomputable def b__law_spool:Sf:=(aM (bY (.nm 1) (iOp d3 (iCB dn (ae (iV 0) ak)) (iC (.int 11)))) (aM (jD (aW (iSl (iV 0) iPn (iPs (iC (.int 63))))) (.nm 2) eh) (cy (tH (ae (nP (iLc 1 [] (aW (iSl (iV 0) iPn (iPs (iC (.int 63))))) (.nm 0) da cV)) (ae (iV 1) (ae (iC (.int 0)) ak)))))))
noncomputable def m__law_spool:Fn:=cp 3 1 b__law_spool
noncomputable def cv:Tf:=(nk (bR dNe (fF (iV 0) (iC (.int 0))) (aH (gx ak))) (bR dEq (iOp dIx (fF (iV 0) (iC (.int 0))) (iC (.int 0))) (iC (.int 0))))
noncomputable def eS:Sf:=(gY (eY wl (fF (iV 0) (iC (.int 0))) (ae (iC (.int 0)) ak)))
noncomputable def b__law_take:Sf:=(aM (nQ 1000000000000000000000000000000 cv eS) (aM (gQ (bR dNe (fF (iV 0) (iC (.int 0))) (aH (gx ak))) (aM (bY (.nm 2) (iOp kg (iOp dIx (fF (iV 0) (iC (.int 0))) (iC (.int 0))) (iV 1))) (aM (lL (fF (iV 0) (iC (.int 0))) (iC (.int 0)) (iOp nr (iOp dIx (fF (iV 0) (iC (.int 0))) (iC (.int 0))) (iV 1))) (cy (iV 2)))) gA) (aM (iE (iV 0) (iC (.int 2)) (iOp d3 (fF (iV 0) (iC (.int 2))) (iC (.int 1)))) (aM (bY (.nm 3) (iOp kg (iOp ge (iOp d3 (fF (iV 0) (iC (.int 1))) (iOp ge (iC (.int 104729)) (fF (iV 0) (iC (.int 2))))) (iC (.int 48271))) (iC (.int 2305843009213693951)))) (aM (bY (.nm 4) (iOp kg (iOp ge (iV 3) (iOp d3 (iOp d3 (iOp nr (iV 3) (iC (.int 1000003))) (iOp ge (fF (iV 0) (iC (.int 2))) (fF (iV 0) (iC (.int 2))))) (iC (.int 7)))) (iC (.int 2305843009213693921)))) (cy (iOp kg (iOp nr (iV 4) (iC (.int 8191))) (iV 1))))))))
noncomputable def m__law_take:Fn:=cp 5 2 b__law_take
noncomputable def jT:Ef:=(iV 0)
noncomputable def jP:Tf:=(bR dEq (iOp rp (iOp pL (iV 1) (iV 0)) (iC (.int 1))) (iC (.int 1)))
noncomputable def b__law_on:Sf:=(cy (iCB dn (ae (aH (iLc 1 [0] (cu (ae (iC (.int 6)) ak)) (.nm 0) jP jT)) ak)))
noncomputable def m__law_on:Fn:=cp 1 1 b__law_on
noncomputable def eN:Ef:=(iV 0)
noncomputable def eQ:Tf:=(bR dEq (iOp rp (iOp pL (iV 1) (iV 0)) (iC (.int 1))) (iC (.int 1)))
noncomputable def b__law_term:Sf:=(aM (bY (.nm 3) (iCB dn (ae (aH (iLc 1 [2] (aW (iV 1)) (.nm 0) eQ eN)) ak))) (cy (nU (bR dEq (iV 0) (iC (.str "both"))) (iCB zi (ae (iOp dEq (iV 3) (iCB dn (ae (iV 1) ak))) ak)) (iOp lr (iC (.int 1)) (iOp ge (iC (.int 2)) (iOp kg (iV 3) (iC (.int 2))))))))
noncomputable def m__law_term:Fn:=cp 4 3 b__law_term
noncomputable def gj:Ef:=(iOp ge (iV 1) (bw m__law_term (ae (iOp dIx (iV 2) (iC (.int 0))) (ae (iV 0) (ae (iV 3) ak)))))
noncomputable def b__law_value:Sf:=(cy (iCB zo (ae (aH (iLc 2 [0,1] (aW (iOp dIx (iV 0) (iC (.int 1)))) (.tp [0,1]) dg gj)) ak)))
noncomputable def m__law_value:Fn:=cp 2 2 b__law_value
noncomputable def cZ:Ef:=(iV 0)
noncomputable def cT:Tf:=(bR dLe (iCB dn (ae (iV 0) ak)) (iV 1))
noncomputable def fZ:Ef:=(iV 0)
noncomputable def gm:Tf:=(bR dEq (iOp rp (iOp pL (iV 1) (iV 0)) (iC (.int 1))) (iC (.int 1)))
noncomputable def er:Ef:=(iCB n5 (ae (aH (iLc 1 [0] (cu (ae (iV 1) ak)) (.nm 0) gm fZ)) ak))
noncomputable def b__law_terms:Sf:=(aM (bY (.nm 2) (aH (iLc 1 [0] (cu (ae (iOp xI (iC (.int 1)) (iV 0)) ak)) (.nm 0) dg er))) (cy (aH (iCL kI (ae (aH (iLc 1 [1] (aW (iV 2)) (.nm 0) cT cZ)) ak)))))
noncomputable def m__law_terms:Fn:=cp 3 2 b__law_terms
noncomputable def dl:Ef:=(iOp dIx (iV 0) (iC (.int 0)))
noncomputable def dh:Sf:=(aM (gQ (i7 (gf (jY jV (iCB ki (ae (iV 4) (ae (iC (.ty "tuple")) ak))))) (i7 (bR dNe (iCB dn (ae (iV 4) ak)) (iC (.int 2))) (bR kY (iCB dF (ae (iOp dIx (iV 4) (iC (.int 0))) ak)) (iV 3)))) (cy (iC (.bl false))) gA) (gQ (i7 (gf (jY jV (iCB ki (ae (iOp dIx (iV 4) (iC (.int 1))) (ae (iC (.ty "int")) ak))))) (i7 (jY jV (iCB ki (ae (iOp dIx (iV 4) (iC (.int 1))) (ae (iC (.ty "bool")) ak)))) (bR dEq (iOp dIx (iV 4) (iC (.int 1))) (iC (.int 0))))) (cy (iC (.bl false))) gA))
noncomputable def dj:Ef:=(iCB dF (ae (iV 0) ak))
noncomputable def b__law_is_poly:Sf:=(aM (gQ (i7 (gf (jY jV (iCB ki (ae (iV 0) (ae (iC (.ty "tuple")) ak))))) (i7 (bR dNe (iCB dn (ae (iV 0) ak)) (iC (.int 2))) (i7 (bR dNe (iOp dIx (iV 0) (iC (.int 0))) (iV 1)) (gf (jY jV (iCB ki (ae (iOp dIx (iV 0) (iC (.int 1))) (ae (iC (.ty "tuple")) ak)))))))) (cy (iC (.bl false))) gA) (aM (bY (.nm 3) (aH (iLc 1 [] (aW (bw m__law_terms (ae (iV 2) (ae (iV 2) ak)))) (.nm 0) dg dj))) (aM (jD (aW (iOp dIx (iV 0) (iC (.int 1)))) (.nm 4) dh) (aM (bY (.nm 5) (aH (iLc 1 [] (aW (iOp dIx (iV 0) (iC (.int 1)))) (.nm 0) dg dl))) (cy (iOp dEq (iV 5) (aH (jy (iV 5)))))))))
noncomputable def m__law_is_poly:Fn:=cp 6 3 b__law_is_poly
noncomputable def fC:Sf:=(aM (bY (.nm 7) (bw m__law_take (ae (iV 0) (ae (iC (.int 2)) ak)))) (gY (eY gF (iV 5) (ae (iOp dIx (aH (gx (ae (iV 7) (ae (iV 7) (ae (iOp kg (iOp d3 (iV 2) (iV 6)) (iC (.int 2))) (ae (iCB zi (ae (iOp dEq (iOp dLt (iV 6) (iV 3)) (iOp dEq (iV 2) (iC (.int 0)))) ak)) (ae (iV 2) ak))))))) (iV 4)) ak))))
noncomputable def b__law_row:Sf:=(aM (bY (.nm 1) (iOp d3 (iC (.int 1)) (bw m__law_take (ae (iV 0) (ae (iC (.int 7)) ak))))) (aM (nF 2 3 4 (ae (bw m__law_take (ae (iV 0) (ae (iC (.int 2)) ak))) (ae (bw m__law_take (ae (iV 0) (ae (iV 1) ak))) (ae (bw m__law_take (ae (iV 0) (ae (iC (.int 5)) ak))) ak)))) (aM (bY (.nm 5) (nP (gx ak))) (aM (jD (cu (ae (iV 1) ak)) (.nm 6) fC) (cy (iCB n5 (ae (iV 5) ak)))))))
noncomputable def m__law_row:Fn:=je 8 1 b__law_row
noncomputable def d9:Ef:=(pj (iOp dNe (iV 1) (iC (.int 0))) (iOp dEq (iOp dGt (iV 1) (iC (.int 0))) (iOp dEq (iOp dIx (iV 2) (bw m__law_on (ae (iV 0) ak))) (iC (.int 1)))))
noncomputable def em:Ef:=(bw m__law_value (ae (iV 1) (ae (iV 0) ak)))
noncomputable def df:Ef:=(iCB dn (ae (iV 0) ak))
noncomputable def kH:Sf:=(aM (gQ (bR dNe (lO (aH (iLc 2 [] (aW (iOp dIx (iV 3) (iC (.int 1)))) (.tp [0,1]) dg df)) (iC (.int 0))) (iV 2)) (cy (iC (.bl false))) gA) (aM (bY (.nm 4) (aH (iLc 1 [3] (cu (ae (iOp xI (iC (.int 1)) (iV 1)) ak)) (.nm 0) dg em))) (cy (iCB wB (ae (aH (iLc 2 [0] (oE (ae (iV 4) ak)) (.tp [0,1]) dg d9)) ak)))))
noncomputable def dZ:Ef:=(iV 0)
noncomputable def dY:Tf:=(bR dNe (iOp dIx (iV 1) (iV 0)) (iOp dIx (iV 1) (iOp d3 (iV 0) (iC (.int 1)))))
noncomputable def b__law_right:Sf:=(aM (bY (.nm 1) (iOp lr (iCB dn (ae (iV 0) ak)) (iC (.int 1)))) (aM (bY (.nm 2) (iCB dn (ae (aH (iLc 1 [0] (cu (ae (iV 1) ak)) (.nm 0) dY dZ)) ak))) (aM (bY (.nm 3) (bw m_counts_poly (ae (iV 0) ak))) (aM (gQ (i7 (bR dNe (iCB dF (ae (bw m_changes_of (ae (iV 0) ak)) ak)) (iCB dF (ae (iV 2) ak))) (gf (jY jV (bw m__law_is_poly (ae (iV 3) (ae (iC (.str "both")) (ae (iV 1) ak))))))) (cy (iC (.bl false))) gA) kH))))
noncomputable def m__law_right:Fn:=cp 5 1 b__law_right
noncomputable def ut:Sf:=(gQ (gf (jY jV (bw m__law_right (ae (bw m__law_row (ae (iV 1) ak)) ak)))) (cy (iC (.bl false))) gA)
noncomputable def mT:Sf:=(aM (bY (.nm 1) (bw m__law_spool (ae (iV 0) ak))) (aM (jD (cu (ae (iC (.int 3)) ak)) (.nm 2) ut) (cy (iC (.bl true)))))
noncomputable def m_law:Fn:=je 3 1 mT
end
end Own
section
set_option maxHeartbeats 2000000
namespace Own
open PySem L2
noncomputable def top (i:Nat):Stmt:=PySem.Challenge.pw_signpoly_k59_changes_and_a_polynomial.main.body.getD i (.Pass ⟨0,0,0,0⟩)
abbrev bG:Stmt:=top 1
abbrev b0:Stmt:=top 3
abbrev cQ:Stmt:=top 4
abbrev br:Stmt:=top 5
abbrev cf:Stmt:=top 7
abbrev bC:Stmt:=top 8
abbrev aY:Stmt:=top 9
abbrev bu:Stmt:=top 10
abbrev bp:Stmt:=top 12
abbrev bO:Stmt:=top 13
abbrev ce:Stmt:=top 14
abbrev bF:Stmt:=top 15
abbrev bq:Stmt:=top 16
abbrev aU:Stmt:=top 17
abbrev aL:Stmt:=top 18
abbrev b8:Stmt:=top 19
abbrev aO:Stmt:=top 20
abbrev il:Stmt:=top 21
theorem oQ:bg ["kind","numbers"] ["kind","numbers"] (ab bG):=⟨rfl,rfl,rfl,by decide +kernel,rfl,by decide +kernel,by decide +kernel⟩
theorem eA:bg ["kind","parts","numbers","term","number"] ["kind","parts"] (ab b0):=⟨rfl,rfl,rfl,by decide +kernel,rfl,by decide +kernel,by decide +kernel⟩
theorem ve:bg ["kind","one","other"] ["kind","one","other"] (ab cQ):=⟨rfl,rfl,rfl,by decide +kernel,rfl,by decide +kernel,by decide +kernel⟩
theorem cD:bg ["one","other","kind","parts","term","number"] ["one","other"] (ab br):=⟨rfl,rfl,rfl,by decide +kernel,rfl,by decide +kernel,by decide +kernel⟩
theorem su:bg ["row"] ["row"] (ab cf):=⟨rfl,rfl,rfl,by decide +kernel,rfl,by decide +kernel,by decide +kernel⟩
theorem mO:bg ["row"] ["row"] (ab bC):=⟨rfl,rfl,rfl,by decide +kernel,rfl,by decide +kernel,by decide +kernel⟩
theorem lM:bg ["n","end"] ["n","end"] (ab aY):=⟨rfl,rfl,rfl,by decide +kernel,rfl,by decide +kernel,by decide +kernel⟩
theorem cW:bg ["row","poly","end"] ["row"] (ab bu):=⟨rfl,rfl,rfl,by decide +kernel,rfl,by decide +kernel,by decide +kernel⟩
theorem dw:bg ["_law_script","_law_seed","_law_cell"] ["_law_script"] (ab bp):=⟨rfl,rfl,rfl,by decide +kernel,rfl,by decide +kernel,by decide +kernel⟩
theorem dQ:bg ["_law_spool_here","_law_many","_law_digit","_law_once","_law_twice"] ["_law_spool_here","_law_many"] (ab bO):=⟨rfl,rfl,rfl,by decide +kernel,rfl,by decide +kernel,by decide +kernel⟩
theorem sH:bg ["_law_row_here"] ["_law_row_here"] (ab ce):=⟨rfl,rfl,rfl,by decide +kernel,rfl,by decide +kernel,by decide +kernel⟩
theorem iU:bg ["_law_kind","_law_term_here","_law_row_here","_law_on_here"] ["_law_kind","_law_term_here","_law_row_here"] (ab bF):=⟨rfl,rfl,rfl,by decide +kernel,rfl,by decide +kernel,by decide +kernel⟩
theorem mH:bg ["_law_poly","_law_row_here"] ["_law_poly","_law_row_here"] (ab bq):=⟨rfl,rfl,rfl,by decide +kernel,rfl,by decide +kernel,by decide +kernel⟩
theorem gT:bg ["_law_n","_law_size","_law_every"] ["_law_n","_law_size"] (ab aU):=⟨rfl,rfl,rfl,by decide +kernel,rfl,by decide +kernel,by decide +kernel⟩
theorem cI:bg ["_law_thing","_law_kind","_law_n","_law_every","_law_part","_law_terms_here"] ["_law_thing","_law_kind","_law_n"] (ab aL):=⟨rfl,rfl,rfl,by decide +kernel,rfl,by decide +kernel,by decide +kernel⟩
theorem cO:bg ["_law_spool_here","_law_many","_law_first","_law_at","_law_way","_law_some","_law_k","_law_drawn"] ["_law_spool_here"] (ab b8):=⟨rfl,rfl,rfl,by decide +kernel,rfl,by decide +kernel,by decide +kernel⟩
theorem cC:bg ["_law_row_here","_law_n","_law_due","_law_poly","_law_values"] ["_law_row_here"] (ab aO):=⟨rfl,rfl,rfl,by decide +kernel,rfl,by decide +kernel,by decide +kernel⟩
theorem rH:bg ["_law_script","_law_spool_here","_law_turn"] ["_law_script"] (ab il):=⟨rfl,rfl,rfl,by decide +kernel,rfl,by decide +kernel,by decide +kernel⟩
set_option genSizeOf false in
set_option genInjectivity false in
structure Adr where
 f_poly_from:Addr
 fd_poly_from:FuncData
 f_gathered:Addr
 fd_gathered:FuncData
 f_joined:Addr
 fd_joined:FuncData
 f_product_of:Addr
 fd_product_of:FuncData
 f_ends_of:Addr
 fd_ends_of:FuncData
 f_changes_of:Addr
 fd_changes_of:FuncData
 f_twice_above:Addr
 fd_twice_above:FuncData
 f_counts_poly:Addr
 fd_counts_poly:FuncData
 f__law_spool:Addr
 fd__law_spool:FuncData
 f__law_take:Addr
 fd__law_take:FuncData
 f__law_on:Addr
 fd__law_on:FuncData
 f__law_term:Addr
 fd__law_term:FuncData
 f__law_value:Addr
 fd__law_value:FuncData
 f__law_terms:Addr
 fd__law_terms:FuncData
 f__law_is_poly:Addr
 fd__law_is_poly:FuncData
 f__law_row:Addr
 fd__law_row:FuncData
 f__law_right:Addr
 fd__law_right:FuncData
 f_law:Addr
 fd_law:FuncData
structure Txt (K:PySem.W.Frag) (mg:Str->Option Value) (t:Adr):Prop where
 F_poly_from:Fun K "poly_from" "poly_from" bG t.f_poly_from t.fd_poly_from
 m_poly_from:mg "poly_from" = some (.ref t.f_poly_from)
 b_poly_from:cm K t.fd_poly_from ["kind","numbers"] []
 F_gathered:Fun K "gathered" "gathered" b0 t.f_gathered t.fd_gathered
 m_gathered:mg "gathered" = some (.ref t.f_gathered)
 b_gathered:cm K t.fd_gathered ["kind","parts"] []
 F_joined:Fun K "joined" "joined" cQ t.f_joined t.fd_joined
 m_joined:mg "joined" = some (.ref t.f_joined)
 b_joined:cm K t.fd_joined ["kind","one","other"] []
 F_product_of:Fun K "product_of" "product_of" br t.f_product_of t.fd_product_of
 m_product_of:mg "product_of" = some (.ref t.f_product_of)
 b_product_of:cm K t.fd_product_of ["one","other"] []
 F_ends_of:Fun K "ends_of" "ends_of" cf t.f_ends_of t.fd_ends_of
 m_ends_of:mg "ends_of" = some (.ref t.f_ends_of)
 b_ends_of:cm K t.fd_ends_of ["row"] []
 F_changes_of:Fun K "changes_of" "changes_of" bC t.f_changes_of t.fd_changes_of
 m_changes_of:mg "changes_of" = some (.ref t.f_changes_of)
 b_changes_of:cm K t.fd_changes_of ["row"] []
 F_twice_above:Fun K "twice_above" "twice_above" aY t.f_twice_above t.fd_twice_above
 m_twice_above:mg "twice_above" = some (.ref t.f_twice_above)
 b_twice_above:cm K t.fd_twice_above ["n","end"] []
 F_counts_poly:Fun K "counts_poly" "counts_poly" bu t.f_counts_poly t.fd_counts_poly
 m_counts_poly:mg "counts_poly" = some (.ref t.f_counts_poly)
 b_counts_poly:cm K t.fd_counts_poly ["row"] []
 F__law_spool:Fun K "_law_spool" "_law_spool" bp t.f__law_spool t.fd__law_spool
 m__law_spool:mg "_law_spool" = some (.ref t.f__law_spool)
 b__law_spool:cm K t.fd__law_spool ["_law_script"] []
 F__law_take:Fun K "_law_take" "_law_take" bO t.f__law_take t.fd__law_take
 m__law_take:mg "_law_take" = some (.ref t.f__law_take)
 b__law_take:cm K t.fd__law_take ["_law_spool_here","_law_many"] []
 F__law_on:Fun K "_law_on" "_law_on" ce t.f__law_on t.fd__law_on
 m__law_on:mg "_law_on" = some (.ref t.f__law_on)
 b__law_on:cm K t.fd__law_on ["_law_row_here"] []
 F__law_term:Fun K "_law_term" "_law_term" bF t.f__law_term t.fd__law_term
 m__law_term:mg "_law_term" = some (.ref t.f__law_term)
 b__law_term:cm K t.fd__law_term ["_law_kind","_law_term_here","_law_row_here"] []
 F__law_value:Fun K "_law_value" "_law_value" bq t.f__law_value t.fd__law_value
 m__law_value:mg "_law_value" = some (.ref t.f__law_value)
 b__law_value:cm K t.fd__law_value ["_law_poly","_law_row_here"] []
 F__law_terms:Fun K "_law_terms" "_law_terms" aU t.f__law_terms t.fd__law_terms
 m__law_terms:mg "_law_terms" = some (.ref t.f__law_terms)
 b__law_terms:cm K t.fd__law_terms ["_law_n","_law_size"] []
 F__law_is_poly:Fun K "_law_is_poly" "_law_is_poly" aL t.f__law_is_poly t.fd__law_is_poly
 m__law_is_poly:mg "_law_is_poly" = some (.ref t.f__law_is_poly)
 b__law_is_poly:cm K t.fd__law_is_poly ["_law_thing","_law_kind","_law_n"] []
 F__law_row:Fun K "_law_row" "_law_row" b8 t.f__law_row t.fd__law_row
 m__law_row:mg "_law_row" = some (.ref t.f__law_row)
 b__law_row:cm K t.fd__law_row ["_law_spool_here"] []
 F__law_right:Fun K "_law_right" "_law_right" aO t.f__law_right t.fd__law_right
 m__law_right:mg "_law_right" = some (.ref t.f__law_right)
 b__law_right:cm K t.fd__law_right ["_law_row_here"] []
 F_law:Fun K "law" "law" il t.f_law t.fd_law
 m_law:mg "law" = some (.ref t.f_law)
 mT:cm K t.fd_law ["_law_script"] []
 z_abs:mg "abs" = none
 z_all:mg "all" = none
 z_bool:mg "bool" = none
 z_enumerate:mg "enumerate" = none
 z_int:mg "int" = none
 z_isinstance:mg "isinstance" = none
 z_len:mg "len" = none
 z_max:mg "max" = none
 z_range:mg "range" = none
 z_repr:mg "repr" = none
 z_set:mg "set" = none
 z_sorted:mg "sorted" = none
 z_sum:mg "sum" = none
 z_tuple:mg "tuple" = none
section
variable {P:Program}{w:World}{K:PySem.W.Frag}{mg:Str->Option Value}{base:Heap}{t:Adr}
theorem kZ (T:Txt K mg t) (cdv:Value) (A:Around) (outer:List Env) (s:Shared) (H:Hp) (E:XK) (hr:bn (0) (A.deeper (PyProof.Rows.envOfC "poly_from" (ab bG) s.heap.objs.size t.f_poly_from cdv))):ISs K (dz CX0 P w K mg base ["kind","numbers"] "poly_from" (ab bG) t.f_poly_from cdv A outer s H E).nox (ap bG) b_poly_from:=
 (ay (bx (d8 (aa (iv 0) (aa (kF (me rfl) rfl T.z_tuple qbq (aa (bo (fj (dA (ab bG).names ["kind","numbers"] ["term","numbers"] 1 [1] rfl rfl rfl (by decide +kernel)) rfl (by decide) (cS (bo (xQ hr rfl T.z_sorted (iv 1) rfl rfl rfl)) rfl) (λ_ _ _ _ _=>(bK (aD (i:=0) (show List.Nodup (α:=Str) ["term","numbers"] by decide +kernel) rfl (by first | exact Or.inl rfl | exact Or.inr rfl)))) (λ_ _ _ _ _=>(eF (bQ (fY hr rfl) (xp hr (iv 1) (iv 0) (λ_ _=>rfl)) ah (bf _)))) (λ_ _ _ _ _=>(d8 (aa (iv 0) (aa (xp hr (iv 1) (iv 0) (λ_ _=>rfl)) ai rfl) rfl))) (λ_=>rfl))) ai rfl) (by decide) (by decide) rfl rfl) ai rfl) rfl))))
theorem nK (T:Txt K mg t):bB P w K mg base CX0 1 t.f_poly_from t.fd_poly_from ["kind","numbers"] (spI K m_poly_from):=
 show bB P w K mg base CX0 1 t.f_poly_from t.fd_poly_from ["kind","numbers"] (spI K (cp (List.length (α:=Str) ["kind","numbers"]) (List.length (α:=Str) ["kind","numbers"]) b_poly_from)) from iF (N:=["kind","numbers"]) (ps:=["kind","numbers"]) (b:=b_poly_from) T.F_poly_from oQ (λcdv A outer s H E hr=>kZ T cdv A outer s H E hr)
theorem mG (T:Txt K mg t) (cdv:Value) (A:Around) (outer:List Env) (s:Shared) (H:Hp) (E:XK) (hr:bn (1) (A.deeper (PyProof.Rows.envOfC "gathered" (ab b0) s.heap.objs.size t.f_gathered cdv))):ISs K (dz CX0 P w K mg base ["kind","parts","numbers","term","number"] "gathered" (ab b0) t.f_gathered cdv A outer s H E).nox (ap b0) b_gathered:=
 (am (cj (i:=2) eA.nd rfl (by first | exact Or.inl rfl | exact Or.inr rfl) zY rfl (by first | exact .inl rfl | exact .inr rfl)) (am (zf (iv 1) (cS (iv 1) rfl) (i8 (ca (aD (i:=3) eA.nd rfl (by first | exact Or.inl rfl | exact Or.inr rfl)) (ca (aD (i:=4) eA.nd rfl (by first | exact Or.inl rfl | exact Or.inr rfl)) gG)) rfl rfl rfl rfl rfl) (ay (yu hr (iv 2) (iv 3) (aR (dH rfl) (yF hr (iv 2) (iv 3) ah ⟨rfl,rfl,rfl,rfl⟩) (iv 4)) rfl)) qb7 rfl (λ_=>rfl) rfl) (ay (bx (bb (nK T) (by decide) hr rfl T.m_poly_from T.F_poly_from.kp T.b_poly_from (aa (iv 0) (aa (iv 2) ai rfl) rfl) (by decide) rfl rfl)))))
theorem jG (T:Txt K mg t):bB P w K mg base CX0 2 t.f_gathered t.fd_gathered ["kind","parts"] (spI K m_gathered):=
 show bB P w K mg base CX0 2 t.f_gathered t.fd_gathered ["kind","parts"] (spI K (je (List.length (α:=Str) ["kind","parts","numbers","term","number"]) (List.length (α:=Str) ["kind","parts"]) b_gathered)) from yk (N:=["kind","parts","numbers","term","number"]) (ps:=["kind","parts"]) (b:=b_gathered) T.F_gathered eA (λcdv A outer s H E hr=>mG T cdv A outer s H E hr)
theorem pZ (T:Txt K mg t) (cdv:Value) (A:Around) (outer:List Env) (s:Shared) (H:Hp) (E:XK) (hr:bn (0) (A.deeper (PyProof.Rows.envOfC "joined" (ab cQ) s.heap.objs.size t.f_joined cdv))):ISs K (dz CX0 P w K mg base ["kind","one","other"] "joined" (ab cQ) t.f_joined cdv A outer s H E).nox (ap cQ) b_joined:=
 (am (jK (bQ (eE hr rfl) (iv 0) mm (bf _)) (ay (bx (kF (me rfl) rfl T.z_tuple qbq (aa (bo (qk rfl T.z_sorted (Dl (nY rfl T.z_set (iv 1) rfl rfl rfl) (nY rfl T.z_set (iv 2) rfl rfl rfl)) rfl rfl)) ai rfl) (by decide) (by decide) rfl rfl))) eD) (ay (bx (kF (me rfl) rfl T.z_tuple qbq (aa (bo (qk rfl T.z_sorted (Bf (nY rfl T.z_set (iv 1) rfl rfl rfl) (nY rfl T.z_set (iv 2) rfl rfl rfl)) rfl rfl)) ai rfl) (by decide) (by decide) rfl rfl))))
theorem vp (T:Txt K mg t):bB P w K mg base CX0 1 t.f_joined t.fd_joined ["kind","one","other"] (spI K m_joined):=
 show bB P w K mg base CX0 1 t.f_joined t.fd_joined ["kind","one","other"] (spI K (cp (List.length (α:=Str) ["kind","one","other"]) (List.length (α:=Str) ["kind","one","other"]) b_joined)) from iF (N:=["kind","one","other"]) (ps:=["kind","one","other"]) (b:=b_joined) T.F_joined ve (λcdv A outer s H E hr=>pZ T cdv A outer s H E hr)
theorem ke (T:Txt K mg t) (cdv:Value) (A:Around) (outer:List Env) (s:Shared) (H:Hp) (E:XK) (hr:bn (2) (A.deeper (PyProof.Rows.envOfC "product_of" (ab br) s.heap.objs.size t.f_product_of cdv))):ISs K (dz CX0 P w K mg base ["one","other","kind","parts","term","number"] "product_of" (ab br) t.f_product_of cdv A outer s H E).nox (ap br) b_product_of:=
 (am (cj (i:=2) cD.nd rfl (by first | exact Or.inl rfl | exact Or.inr rfl) (b9 (iv 0) ah rfl rfl) rfl (by first | exact .inl rfl | exact .inr rfl)) (am (cj (i:=3) cD.nd rfl (by first | exact Or.inl rfl | exact Or.inr rfl) (sM (jm ai)) rfl (by first | exact .inl rfl | exact .inr rfl)) (am (ig (cS (b9 (iv 0) ah rfl rfl) rfl) (i8 (ca (aD (i:=4) cD.nd rfl (by first | exact Or.inl rfl | exact Or.inr rfl)) (ca (aD (i:=5) cD.nd rfl (by first | exact Or.inl rfl | exact Or.inr rfl)) gG)) rfl rfl rfl rfl rfl) (ay (oM (zO (iv 3) (aa (bo (fj (dA (ab br).names ["one","other","kind","parts","term","number"] ["second","times","kind","term","number"] 2 [2,4,5] rfl rfl rfl (by decide +kernel)) rfl (by decide) (cS (b9 (iv 1) ah rfl rfl) rfl) (λ_ _ _ _ _=>(i8 (ca (aD (i:=0) (show List.Nodup (α:=Str) ["second","times","kind","term","number"] by decide +kernel) rfl (by first | exact Or.inl rfl | exact Or.inr rfl)) (ca (aD (i:=1) (show List.Nodup (α:=Str) ["second","times","kind","term","number"] by decide +kernel) rfl (by first | exact Or.inl rfl | exact Or.inr rfl)) gG)) rfl rfl rfl rfl rfl)) (λ_ _ _ _ _=>dR) (λ_ _ _ _ _=>(d8 (aa (bb (vp T) (by decide) hr rfl T.m_joined T.F_joined.kp T.b_joined (aa (iv 2) (aa (iv 3) (aa (iv 0) ai rfl) rfl) rfl) (by decide) rfl rfl) (aa (aR (fq rfl) (iv 4) (iv 1)) ai rfl) rfl))) (λ_=>rfl))) ai rfl) rfl rfl (by decide) rfl rfl) rfl)) qb7 rfl (λ_=>rfl)) (ay (bx (bb (jG T) (by decide) hr rfl T.m_gathered T.F_gathered.kp T.b_gathered (aa (iv 2) (aa (iv 3) ai rfl) rfl) (by decide) rfl rfl))))))
theorem mz (T:Txt K mg t):bB P w K mg base CX0 3 t.f_product_of t.fd_product_of ["one","other"] (spI K m_product_of):=
 show bB P w K mg base CX0 3 t.f_product_of t.fd_product_of ["one","other"] (spI K (je (List.length (α:=Str) ["one","other","kind","parts","term","number"]) (List.length (α:=Str) ["one","other"]) b_product_of)) from yk (N:=["one","other","kind","parts","term","number"]) (ps:=["one","other"]) (b:=b_product_of) T.F_product_of cD (λcdv A outer s H E hr=>ke T cdv A outer s H E hr)
theorem nM (T:Txt K mg t) (cdv:Value) (A:Around) (outer:List Env) (s:Shared) (H:Hp) (E:XK) (hr:bn (0) (A.deeper (PyProof.Rows.envOfC "ends_of" (ab cf) s.heap.objs.size t.f_ends_of cdv))):ISs K (dz CX0 P w K mg base ["row"] "ends_of" (ab cf) t.f_ends_of cdv A outer s H E).nox (ap cf) b_ends_of:=
 (ay (bx (bo (fj (dA (ab cf).names ["row"] ["count","row"] 1 [0] rfl rfl rfl (by decide +kernel)) rfl (by decide) (dN rfl T.z_range (aa (aR mq (bZ (dm rfl) rfl T.z_len qbw (aa (iv 0) ai rfl) (by decide) (by decide) rfl rfl) ah) ai rfl) rfl) (λ_ _ _ _ _=>(bK (aD (i:=0) (show List.Nodup (α:=Str) ["count","row"] by decide +kernel) rfl (by first | exact Or.inl rfl | exact Or.inr rfl)))) (λ_ _ _ _ _=>(eF (bQ (fY hr rfl) (b9 (iv 1) (iv 0) rfl rfl) (b9 (iv 1) (aR (dH rfl) (iv 0) ah) rfl rfl) (bf _)))) (λ_ _ _ _ _=>(iv 0)) (λ_=>rfl)))))
theorem md (T:Txt K mg t):bB P w K mg base CX0 1 t.f_ends_of t.fd_ends_of ["row"] (spI K m_ends_of):=
 show bB P w K mg base CX0 1 t.f_ends_of t.fd_ends_of ["row"] (spI K (cp (List.length (α:=Str) ["row"]) (List.length (α:=Str) ["row"]) b_ends_of)) from iF (N:=["row"]) (ps:=["row"]) (b:=b_ends_of) T.F_ends_of su (λcdv A outer s H E hr=>nM T cdv A outer s H E hr)
theorem j6 (T:Txt K mg t) (cdv:Value) (A:Around) (outer:List Env) (s:Shared) (H:Hp) (E:XK) (hr:bn (1) (A.deeper (PyProof.Rows.envOfC "changes_of" (ab bC) s.heap.objs.size t.f_changes_of cdv))):ISs K (dz CX0 P w K mg base ["row"] "changes_of" (ab bC) t.f_changes_of cdv A outer s H E).nox (ap bC) b_changes_of:=
 (ay (bx (bZ (dm rfl) rfl T.z_len qbw (aa (bb (md T) (by decide) hr rfl T.m_ends_of T.F_ends_of.kp T.b_ends_of (aa (iv 0) ai rfl) (by decide) rfl rfl) ai rfl) (by decide) (by decide) rfl rfl)))
theorem mK (T:Txt K mg t):bB P w K mg base CX0 2 t.f_changes_of t.fd_changes_of ["row"] (spI K m_changes_of):=
 show bB P w K mg base CX0 2 t.f_changes_of t.fd_changes_of ["row"] (spI K (cp (List.length (α:=Str) ["row"]) (List.length (α:=Str) ["row"]) b_changes_of)) from iF (N:=["row"]) (ps:=["row"]) (b:=b_changes_of) T.F_changes_of mO (λcdv A outer s H E hr=>j6 T cdv A outer s H E hr)
theorem i9 (T:Txt K mg t) (cdv:Value) (A:Around) (outer:List Env) (s:Shared) (H:Hp) (E:XK) (hr:bn (2) (A.deeper (PyProof.Rows.envOfC "twice_above" (ab aY) s.heap.objs.size t.f_twice_above cdv))):ISs K (dz CX0 P w K mg base ["n","end"] "twice_above" (ab aY) t.f_twice_above cdv A outer s H E).nox (ap aY) b_twice_above:=
 (ay (bx (bb (jG T) (by decide) hr rfl T.m_gathered T.F_gathered.kp T.b_gathered (aa mm (aa (aR (dH rfl) (bo (jm (aa (d8 (aa (d8 ai) (aa (aR mq (aR (fq rfl) (rN ah) (iv 1)) ah) ai rfl) rfl)) ai rfl))) (bo (fj (dA (ab aY).names ["n","end"] ["k"] 1 [] rfl rfl rfl (by decide +kernel)) rfl (by decide) (dN rfl T.z_range (aa (iv 0) ai rfl) rfl) (λ_ _ _ _ _=>(bK (aD (i:=0) (show List.Nodup (α:=Str) ["k"] by decide +kernel) rfl (by first | exact Or.inl rfl | exact Or.inr rfl)))) (λ_ _ _ _ _=>dR) (λ_ _ _ _ _=>(d8 (aa (d8 (aa (iv 0) ai rfl)) (aa ah ai rfl) rfl))) (λ_=>rfl)))) ai rfl) rfl) (by decide) rfl rfl)))
theorem li (T:Txt K mg t):bB P w K mg base CX0 3 t.f_twice_above t.fd_twice_above ["n","end"] (spI K m_twice_above):=
 show bB P w K mg base CX0 3 t.f_twice_above t.fd_twice_above ["n","end"] (spI K (cp (List.length (α:=Str) ["n","end"]) (List.length (α:=Str) ["n","end"]) b_twice_above)) from iF (N:=["n","end"]) (ps:=["n","end"]) (b:=b_twice_above) T.F_twice_above lM (λcdv A outer s H E hr=>i9 T cdv A outer s H E hr)
theorem jt (T:Txt K mg t) (cdv:Value) (A:Around) (outer:List Env) (s:Shared) (H:Hp) (E:XK) (hr:bn (3) (A.deeper (PyProof.Rows.envOfC "counts_poly" (ab bu) s.heap.objs.size t.f_counts_poly cdv))):ISs K (dz CX0 P w K mg base ["row","poly","end"] "counts_poly" (ab bu) t.f_counts_poly cdv A outer s H E).nox (ap bu) b_counts_poly:=
 (am (cj (i:=1) cW.nd rfl (by first | exact Or.inl rfl | exact Or.inr rfl) (d8 (aa mm (aa (d8 (aa (d8 (aa (d8 ai) (aa (Ae (bQ (eE hr rfl) (b9 (iv 0) (rN ah) rfl rfl) ah (bf _)) ah (rN ah)) ai rfl) rfl)) ai rfl)) ai rfl) rfl)) rfl (by first | exact .inl rfl | exact .inr rfl)) (am (ig (cS (bb (md T) (by decide) hr rfl T.m_ends_of T.F_ends_of.kp T.b_ends_of (aa (iv 0) ai rfl) (by decide) rfl rfl) rfl) (bK (aD (i:=2) cW.nd rfl (by first | exact Or.inl rfl | exact Or.inr rfl))) (ay (cj (i:=1) cW.nd rfl (by first | exact Or.inl rfl | exact Or.inr rfl) (bb (mz T) (by decide) hr rfl T.m_product_of T.F_product_of.kp T.b_product_of (aa (iv 1) (aa (bb (li T) (by decide) hr rfl T.m_twice_above T.F_twice_above.kp T.b_twice_above (aa (aR mq (bZ (dm rfl) rfl T.z_len qbw (aa (iv 0) ai rfl) (by decide) (by decide) rfl rfl) ah) (aa (iv 2) ai rfl) rfl) (by decide) rfl rfl) ai rfl) rfl) (by decide) rfl rfl) rfl (by first | exact .inl rfl | exact .inr rfl))) qb7 rfl (λ_=>rfl)) (ay (bx (iv 1)))))
theorem lQ (T:Txt K mg t):bB P w K mg base CX0 4 t.f_counts_poly t.fd_counts_poly ["row"] (spI K m_counts_poly):=
 show bB P w K mg base CX0 4 t.f_counts_poly t.fd_counts_poly ["row"] (spI K (cp (List.length (α:=Str) ["row","poly","end"]) (List.length (α:=Str) ["row"]) b_counts_poly)) from iF (N:=["row","poly","end"]) (ps:=["row"]) (b:=b_counts_poly) T.F_counts_poly cW (λcdv A outer s H E hr=>jt T cdv A outer s H E hr)
theorem j5 (T:Txt K mg t) (cdv:Value) (A:Around) (outer:List Env) (s:Shared) (H:Hp) (E:XK) (hr:bn (0) (A.deeper (PyProof.Rows.envOfC "_law_spool" (ab bp) s.heap.objs.size t.f__law_spool cdv))):ISs K (dz CX0 P w K mg base ["_law_script","_law_seed","_law_cell"] "_law_spool" (ab bp) t.f__law_spool cdv A outer s H E).nox (ap bp) b__law_spool:=
 (am (cj (i:=1) dw.nd rfl (by first | exact Or.inl rfl | exact Or.inr rfl) (aR (dH rfl) (bZ (dm rfl) rfl T.z_len qbw (aa (iv 0) ai rfl) (by decide) (by decide) rfl rfl) ah) rfl (by first | exact .inl rfl | exact .inr rfl)) (am (ig (cS (z6 (iv 0) tz (ui ah) rfl) rfl) (bK (aD (i:=2) dw.nd rfl (by first | exact Or.inl rfl | exact Or.inr rfl))) (ay (cj (i:=1) dw.nd rfl (by first | exact Or.inl rfl | exact Or.inr rfl) (aR h9 (aR (dH rfl) (aR (fq rfl) (iv 1) ah) (iv 2)) ah) rfl (by first | exact .inl rfl | exact .inr rfl))) qb7 rfl (λ_=>rfl)) (ay (bx (yi (aa (sM (fj (dA (ab bp).names ["_law_script","_law_seed","_law_cell"] ["_law_cell"] 1 [] rfl rfl rfl (by decide +kernel)) rfl (by decide) (cS (z6 (iv 0) tz (ui ah) rfl) rfl) (λ_ _ _ _ _=>(bK (aD (i:=0) (show List.Nodup (α:=Str) ["_law_cell"] by decide +kernel) rfl (by first | exact Or.inl rfl | exact Or.inr rfl)))) (λ_ _ _ _ _=>(eF (bQ Df (bZ xr rfl T.z_abs qeZ (aa (iv 0) ai rfl) (by decide) (by decide) rfl rfl) (aR AS ah ah) (bf _)))) (λ_ _ _ _ _=>(bZ xr rfl T.z_abs qeZ (aa (iv 0) ai rfl) (by decide) (by decide) rfl rfl)) (λ_=>rfl))) (aa (iv 1) (aa ah ai rfl) rfl) rfl))))))
theorem mB (T:Txt K mg t):bB P w K mg base CX0 1 t.f__law_spool t.fd__law_spool ["_law_script"] (spI K m__law_spool):=
 show bB P w K mg base CX0 1 t.f__law_spool t.fd__law_spool ["_law_script"] (spI K (cp (List.length (α:=Str) ["_law_script","_law_seed","_law_cell"]) (List.length (α:=Str) ["_law_script"]) b__law_spool)) from iF (N:=["_law_script","_law_seed","_law_cell"]) (ps:=["_law_script"]) (b:=b__law_spool) T.F__law_spool dw (λcdv A outer s H E hr=>j5 T cdv A outer s H E hr)
theorem mk (T:Txt K mg t) (cdv:Value) (A:Around) (outer:List Env) (s:Shared) (H:Hp) (E:XK) (hr:bn (0) (A.deeper (PyProof.Rows.envOfC "_law_take" (ab bO) s.heap.objs.size t.f__law_take cdv))):ISs K (dz CX0 P w K mg base ["_law_spool_here","_law_many","_law_digit","_law_once","_law_twice"] "_law_take" (ab bO) t.f__law_take cdv A outer s H E).nox (ap bO) b__law_take:=
 (am (xg 1000000000000000000000000000000 (lS (yL (bQ (fY hr rfl) (dJ (iv 0) ah rfl rfl) (bo (jm ai)) (bf _)) (xM (bQ (eE hr rfl) (b9 (dJ (iv 0) ah rfl rfl) ah rfl rfl) ah (bf _))))) (ay (oM (BU (dJ (iv 0) ah rfl rfl) (aa ah ai rfl) rfl rfl (by decide) rfl rfl) rfl)) qb7) (am (jK (bQ (fY hr rfl) (dJ (iv 0) ah rfl rfl) (bo (jm ai)) (bf _)) (am (cj (i:=2) dQ.nd rfl (by first | exact Or.inl rfl | exact Or.inr rfl) (aR h9 (b9 (dJ (iv 0) ah rfl rfl) ah rfl rfl) (iv 1)) rfl (by first | exact .inl rfl | exact .inr rfl)) (am (xm (dJ (iv 0) ah rfl rfl) ah (aR nO (b9 (dJ (iv 0) ah rfl rfl) ah rfl rfl) (iv 1)) rfl rfl rfl) (ay (bx (iv 2))))) eD) (am (vG (iv 0) ah (aR (dH rfl) (dJ (iv 0) ah rfl rfl) ah) rfl rfl rfl) (am (cj (i:=3) dQ.nd rfl (by first | exact Or.inl rfl | exact Or.inr rfl) (aR h9 (aR (fq rfl) (aR (dH rfl) (dJ (iv 0) ah rfl rfl) (aR (fq rfl) ah (dJ (iv 0) ah rfl rfl))) ah) ah) rfl (by first | exact .inl rfl | exact .inr rfl)) (am (cj (i:=4) dQ.nd rfl (by first | exact Or.inl rfl | exact Or.inr rfl) (aR h9 (aR (fq rfl) (iv 3) (aR (dH rfl) (aR (dH rfl) (aR nO (iv 3) ah) (aR (fq rfl) (dJ (iv 0) ah rfl rfl) (dJ (iv 0) ah rfl rfl))) ah)) ah) rfl (by first | exact .inl rfl | exact .inr rfl)) (ay (bx (aR h9 (aR nO (iv 4) ah) (iv 1)))))))))
theorem dc (T:Txt K mg t):bB P w K mg base CX0 1 t.f__law_take t.fd__law_take ["_law_spool_here","_law_many"] (spI K m__law_take):=
 show bB P w K mg base CX0 1 t.f__law_take t.fd__law_take ["_law_spool_here","_law_many"] (spI K (cp (List.length (α:=Str) ["_law_spool_here","_law_many","_law_digit","_law_once","_law_twice"]) (List.length (α:=Str) ["_law_spool_here","_law_many"]) b__law_take)) from iF (N:=["_law_spool_here","_law_many","_law_digit","_law_once","_law_twice"]) (ps:=["_law_spool_here","_law_many"]) (b:=b__law_take) T.F__law_take dQ (λcdv A outer s H E hr=>mk T cdv A outer s H E hr)
theorem oe (T:Txt K mg t) (cdv:Value) (A:Around) (outer:List Env) (s:Shared) (H:Hp) (E:XK) (hr:bn (0) (A.deeper (PyProof.Rows.envOfC "_law_on" (ab ce) s.heap.objs.size t.f__law_on cdv))):ISs K (dz CX0 P w K mg base ["_law_row_here"] "_law_on" (ab ce) t.f__law_on cdv A outer s H E).nox (ap ce) b__law_on:=
 (ay (bx (bZ (dm rfl) rfl T.z_len qbw (aa (bo (fj (dA (ab ce).names ["_law_row_here"] ["_law_k","_law_row_here"] 1 [0] rfl rfl rfl (by decide +kernel)) rfl (by decide) (dN rfl T.z_range (aa ah ai rfl) rfl) (λ_ _ _ _ _=>(bK (aD (i:=0) (show List.Nodup (α:=Str) ["_law_k","_law_row_here"] by decide +kernel) rfl (by first | exact Or.inl rfl | exact Or.inr rfl)))) (λ_ _ _ _ _=>(eF (bQ (eE hr rfl) (aR rX (aR sD (iv 1) (iv 0)) ah) ah (bf _)))) (λ_ _ _ _ _=>(iv 0)) (λ_=>rfl))) ai rfl) (by decide) (by decide) rfl rfl)))
theorem rE (T:Txt K mg t):bB P w K mg base CX0 1 t.f__law_on t.fd__law_on ["_law_row_here"] (spI K m__law_on):=
 show bB P w K mg base CX0 1 t.f__law_on t.fd__law_on ["_law_row_here"] (spI K (cp (List.length (α:=Str) ["_law_row_here"]) (List.length (α:=Str) ["_law_row_here"]) b__law_on)) from iF (N:=["_law_row_here"]) (ps:=["_law_row_here"]) (b:=b__law_on) T.F__law_on sH (λcdv A outer s H E hr=>oe T cdv A outer s H E hr)
theorem lC (T:Txt K mg t) (cdv:Value) (A:Around) (outer:List Env) (s:Shared) (H:Hp) (E:XK) (hr:bn (0) (A.deeper (PyProof.Rows.envOfC "_law_term" (ab bF) s.heap.objs.size t.f__law_term cdv))):ISs K (dz CX0 P w K mg base ["_law_kind","_law_term_here","_law_row_here","_law_on_here"] "_law_term" (ab bF) t.f__law_term cdv A outer s H E).nox (ap bF) b__law_term:=
 (am (cj (i:=3) iU.nd rfl (by first | exact Or.inl rfl | exact Or.inr rfl) (bZ (dm rfl) rfl T.z_len qbw (aa (bo (fj (dA (ab bF).names ["_law_kind","_law_term_here","_law_row_here","_law_on_here"] ["_law_k","_law_row_here"] 1 [2] rfl rfl rfl (by decide +kernel)) rfl (by decide) (cS (iv 1) rfl) (λ_ _ _ _ _=>(bK (aD (i:=0) (show List.Nodup (α:=Str) ["_law_k","_law_row_here"] by decide +kernel) rfl (by first | exact Or.inl rfl | exact Or.inr rfl)))) (λ_ _ _ _ _=>(eF (bQ (eE hr rfl) (aR rX (aR sD (iv 1) (iv 0)) ah) ah (bf _)))) (λ_ _ _ _ _=>(iv 0)) (λ_=>rfl))) ai rfl) (by decide) (by decide) rfl rfl) rfl (by first | exact .inl rfl | exact .inr rfl)) (ay (bx (Ae (bQ (eE hr rfl) (iv 0) mm (bf _)) (kF xL rfl T.z_int qdz (aa (fK (eE hr rfl) (iv 3) (bZ (dm rfl) rfl T.z_len qbw (aa (iv 1) ai rfl) (by decide) (by decide) rfl rfl) (bf _)) ai rfl) (by decide) (by decide) rfl rfl) (aR mq ah (aR (fq rfl) ah (aR h9 (iv 3) ah)))))))
theorem n8 (T:Txt K mg t):bB P w K mg base CX0 1 t.f__law_term t.fd__law_term ["_law_kind","_law_term_here","_law_row_here"] (spI K m__law_term):=
 show bB P w K mg base CX0 1 t.f__law_term t.fd__law_term ["_law_kind","_law_term_here","_law_row_here"] (spI K (cp (List.length (α:=Str) ["_law_kind","_law_term_here","_law_row_here","_law_on_here"]) (List.length (α:=Str) ["_law_kind","_law_term_here","_law_row_here"]) b__law_term)) from iF (N:=["_law_kind","_law_term_here","_law_row_here","_law_on_here"]) (ps:=["_law_kind","_law_term_here","_law_row_here"]) (b:=b__law_term) T.F__law_term iU (λcdv A outer s H E hr=>lC T cdv A outer s H E hr)
theorem j9 (T:Txt K mg t) (cdv:Value) (A:Around) (outer:List Env) (s:Shared) (H:Hp) (E:XK) (hr:bn (1) (A.deeper (PyProof.Rows.envOfC "_law_value" (ab bq) s.heap.objs.size t.f__law_value cdv))):ISs K (dz CX0 P w K mg base ["_law_poly","_law_row_here"] "_law_value" (ab bq) t.f__law_value cdv A outer s H E).nox (ap bq) b__law_value:=
 (ay (bx (bZ (AH rfl rfl) rfl T.z_sum qib (aa (bo (fj (dA (ab bq).names ["_law_poly","_law_row_here"] ["_law_term_here","_law_number","_law_poly","_law_row_here"] 2 [0,1] rfl rfl rfl (by decide +kernel)) rfl (by decide) (cS (b9 (iv 0) ah rfl rfl) rfl) (λ_ _ _ _ _=>(i8 (ca (aD (i:=0) (show List.Nodup (α:=Str) ["_law_term_here","_law_number","_law_poly","_law_row_here"] by decide +kernel) rfl (by first | exact Or.inl rfl | exact Or.inr rfl)) (ca (aD (i:=1) (show List.Nodup (α:=Str) ["_law_term_here","_law_number","_law_poly","_law_row_here"] by decide +kernel) rfl (by first | exact Or.inl rfl | exact Or.inr rfl)) gG)) rfl rfl rfl rfl rfl)) (λ_ _ _ _ _=>dR) (λ_ _ _ _ _=>(aR (fq rfl) (iv 1) (bb (n8 T) (by decide) hr rfl T.m__law_term T.F__law_term.kp T.b__law_term (aa (b9 (iv 2) ah rfl rfl) (aa (iv 0) (aa (iv 3) ai rfl) rfl) rfl) (by decide) rfl rfl))) (λ_=>rfl))) ai rfl) (by decide) (by decide) rfl rfl)))
theorem mM (T:Txt K mg t):bB P w K mg base CX0 2 t.f__law_value t.fd__law_value ["_law_poly","_law_row_here"] (spI K m__law_value):=
 show bB P w K mg base CX0 2 t.f__law_value t.fd__law_value ["_law_poly","_law_row_here"] (spI K (cp (List.length (α:=Str) ["_law_poly","_law_row_here"]) (List.length (α:=Str) ["_law_poly","_law_row_here"]) b__law_value)) from iF (N:=["_law_poly","_law_row_here"]) (ps:=["_law_poly","_law_row_here"]) (b:=b__law_value) T.F__law_value mH (λcdv A outer s H E hr=>j9 T cdv A outer s H E hr)
theorem ka (T:Txt K mg t) (cdv:Value) (A:Around) (outer:List Env) (s:Shared) (H:Hp) (E:XK) (hr:bn (0) (A.deeper (PyProof.Rows.envOfC "_law_terms" (ab aU) s.heap.objs.size t.f__law_terms cdv))):ISs K (dz CX0 P w K mg base ["_law_n","_law_size","_law_every"] "_law_terms" (ab aU) t.f__law_terms cdv A outer s H E).nox (ap aU) b__law_terms:=
 (am (qgQ (tD (i0:=2) gT.nd rfl (by first | exact Or.inl rfl | exact Or.inr rfl) (dA (ab aU).names ["_law_n","_law_size","_law_every"] ["_law_at","_law_n"] 1 [0] rfl rfl rfl (by decide +kernel)) rfl (by decide) (dN rfl T.z_range (aa (aR xy ah (iv 0)) ai rfl) rfl) (λ_ _ _ _ _=>(bK (aD (i:=0) (show List.Nodup (α:=Str) ["_law_at","_law_n"] by decide +kernel) rfl (by first | exact Or.inl rfl | exact Or.inr rfl)))) (λ_ _ _ _ _=>dR) (λ_ _ _ _ _=>(kF (me rfl) rfl T.z_tuple qbq (aa (bo (fj (dA _ ["_law_at","_law_n"] ["_law_k","_law_at"] 1 [0] (zu (ns:=(ab aU).names) rfl rfl) rfl rfl (by decide +kernel)) rfl (by decide) (dN rfl T.z_range (aa (iv 1) ai rfl) rfl) (λ_ _ _ _ _=>(bK (aD (i:=0) (show List.Nodup (α:=Str) ["_law_k","_law_at"] by decide +kernel) rfl (by first | exact Or.inl rfl | exact Or.inr rfl)))) (λ_ _ _ _ _=>(eF (bQ (eE hr rfl) (aR rX (aR sD (iv 1) (iv 0)) ah) ah (bf _)))) (λ_ _ _ _ _=>(iv 0)) (λ_=>rfl))) ai rfl) (by decide) (by decide) rfl rfl)) rfl (by first | exact .inl rfl | exact .inr rfl) (λ_=>rfl))) (ay (bx (bo (CY (wt hr rfl) rfl T.z_sorted qcz (aa (bo (fj (dA (ab aU).names ["_law_n","_law_size","_law_every"] ["_law_term_here","_law_size"] 1 [1] rfl rfl rfl (by decide +kernel)) rfl (by decide) (cS (iv 2) rfl) (λ_ _ _ _ _=>(bK (aD (i:=0) (show List.Nodup (α:=Str) ["_law_term_here","_law_size"] by decide +kernel) rfl (by first | exact Or.inl rfl | exact Or.inr rfl)))) (λ_ _ _ _ _=>(eF (bQ Ci (bZ (dm rfl) rfl T.z_len qbw (aa (iv 0) ai rfl) (by decide) (by decide) rfl rfl) (iv 1) (bf _)))) (λ_ _ _ _ _=>(iv 0)) (λ_=>rfl))) ai rfl) (by decide) (by decide) rfl rfl)))))
theorem mI (T:Txt K mg t):bB P w K mg base CX0 1 t.f__law_terms t.fd__law_terms ["_law_n","_law_size"] (spI K m__law_terms):=
 show bB P w K mg base CX0 1 t.f__law_terms t.fd__law_terms ["_law_n","_law_size"] (spI K (cp (List.length (α:=Str) ["_law_n","_law_size","_law_every"]) (List.length (α:=Str) ["_law_n","_law_size"]) b__law_terms)) from iF (N:=["_law_n","_law_size","_law_every"]) (ps:=["_law_n","_law_size"]) (b:=b__law_terms) T.F__law_terms gT (λcdv A outer s H E hr=>ka T cdv A outer s H E hr)
theorem iQ (T:Txt K mg t) (cdv:Value) (A:Around) (outer:List Env) (s:Shared) (H:Hp) (E:XK) (hr:bn (1) (A.deeper (PyProof.Rows.envOfC "_law_is_poly" (ab aL) s.heap.objs.size t.f__law_is_poly cdv))):ISs K (dz CX0 P w K mg base ["_law_thing","_law_kind","_law_n","_law_every","_law_part","_law_terms_here"] "_law_is_poly" (ab aL) t.f__law_is_poly cdv A outer s H E).nox (ap aL) b__law_is_poly:=
 (am (jK (lS (gh (jq (ik (bZ (kS rfl) rfl T.z_isinstance qbP (aa (iv 0) (aa (qp rfl T.z_tuple qbq (by decide) (by decide)) ai rfl) rfl) (by decide) (by decide) rfl rfl) rfl rfl)) (gh (bQ (fY hr rfl) (bZ (dm rfl) rfl T.z_len qbw (aa (iv 0) ai rfl) (by decide) (by decide) rfl rfl) ah (bf _)) (gh (bQ (fY hr rfl) (b9 (iv 0) ah rfl rfl) (iv 1) (bf _)) (kB (jq (ik (bZ (kS rfl) rfl T.z_isinstance qbP (aa (b9 (iv 0) ah rfl rfl) (aa (qp rfl T.z_tuple qbq (by decide) (by decide)) ai rfl) rfl) (by decide) (by decide) rfl rfl) rfl rfl))))))) (ay (bx lR)) eD) (am (qgQ (tD (i0:=3) cI.nd rfl (by first | exact Or.inl rfl | exact Or.inr rfl) (dA (ab aL).names ["_law_thing","_law_kind","_law_n","_law_every","_law_part","_law_terms_here"] ["_law_term_here"] 1 [] rfl rfl rfl (by decide +kernel)) rfl (by decide) (cS (bb (mI T) (by decide) hr rfl T.m__law_terms T.F__law_terms.kp T.b__law_terms (aa (iv 2) (aa (iv 2) ai rfl) rfl) (by decide) rfl rfl) rfl) (λ_ _ _ _ _=>(bK (aD (i:=0) (show List.Nodup (α:=Str) ["_law_term_here"] by decide +kernel) rfl (by first | exact Or.inl rfl | exact Or.inr rfl)))) (λ_ _ _ _ _=>dR) (λ_ _ _ _ _=>(bZ (iY hr rfl) rfl T.z_repr qcO (aa (iv 0) ai rfl) (by decide) (by decide) rfl rfl)) rfl (by first | exact .inl rfl | exact .inr rfl) (λ_=>rfl))) (am (ig (cS (b9 (iv 0) ah rfl rfl) rfl) (bK (aD (i:=4) cI.nd rfl (by first | exact Or.inl rfl | exact Or.inr rfl))) (am (jK (lS (gh (jq (ik (bZ (kS rfl) rfl T.z_isinstance qbP (aa (iv 4) (aa (qp rfl T.z_tuple qbq (by decide) (by decide)) ai rfl) rfl) (by decide) (by decide) rfl rfl) rfl rfl)) (gh (bQ (fY hr rfl) (bZ (dm rfl) rfl T.z_len qbw (aa (iv 4) ai rfl) (by decide) (by decide) rfl rfl) ah (bf _)) (kB (bQ (v4 rfl) (bZ (iY hr rfl) rfl T.z_repr qcO (aa (b9 (iv 4) ah rfl rfl) ai rfl) (by decide) (by decide) rfl rfl) (iv 3) rfl))))) (ay (bx lR)) eD) (ay (jK (lS (gh (jq (ik (bZ (kS rfl) rfl T.z_isinstance qbP (aa (b9 (iv 4) ah rfl rfl) (aa (qp rfl T.z_int qdz (by decide) (by decide)) ai rfl) rfl) (by decide) (by decide) rfl rfl) rfl rfl)) (gh (ik (bZ (kS rfl) rfl T.z_isinstance qbP (aa (b9 (iv 4) ah rfl rfl) (aa (qp rfl T.z_bool qid (by decide) (by decide)) ai rfl) rfl) (by decide) (by decide) rfl rfl) rfl rfl) (kB (bQ (eE hr rfl) (b9 (iv 4) ah rfl rfl) ah (bf _)))))) (ay (bx lR)) eD))) qb7 rfl (λ_=>rfl)) (am (qgQ (tD (i0:=5) cI.nd rfl (by first | exact Or.inl rfl | exact Or.inr rfl) (dA (ab aL).names ["_law_thing","_law_kind","_law_n","_law_every","_law_part","_law_terms_here"] ["_law_part"] 1 [] rfl rfl rfl (by decide +kernel)) rfl (by decide) (cS (b9 (iv 0) ah rfl rfl) rfl) (λ_ _ _ _ _=>(bK (aD (i:=0) (show List.Nodup (α:=Str) ["_law_part"] by decide +kernel) rfl (by first | exact Or.inl rfl | exact Or.inr rfl)))) (λ_ _ _ _ _=>dR) (λ_ _ _ _ _=>(b9 (iv 0) ah rfl rfl)) rfl (by first | exact .inl rfl | exact .inr rfl) (λ_=>rfl))) (ay (bx (fK (eE hr rfl) (iv 5) (bo (vO hr rfl T.z_sorted rfl T.z_set (iv 5) rfl rfl rfl)) (bf _))))))))
theorem kc (T:Txt K mg t):bB P w K mg base CX0 2 t.f__law_is_poly t.fd__law_is_poly ["_law_thing","_law_kind","_law_n"] (spI K m__law_is_poly):=
 show bB P w K mg base CX0 2 t.f__law_is_poly t.fd__law_is_poly ["_law_thing","_law_kind","_law_n"] (spI K (cp (List.length (α:=Str) ["_law_thing","_law_kind","_law_n","_law_every","_law_part","_law_terms_here"]) (List.length (α:=Str) ["_law_thing","_law_kind","_law_n"]) b__law_is_poly)) from iF (N:=["_law_thing","_law_kind","_law_n","_law_every","_law_part","_law_terms_here"]) (ps:=["_law_thing","_law_kind","_law_n"]) (b:=b__law_is_poly) T.F__law_is_poly cI (λcdv A outer s H E hr=>iQ T cdv A outer s H E hr)
theorem mN (T:Txt K mg t) (cdv:Value) (A:Around) (outer:List Env) (s:Shared) (H:Hp) (E:XK) (hr:bn (1) (A.deeper (PyProof.Rows.envOfC "_law_row" (ab b8) s.heap.objs.size t.f__law_row cdv))):ISs K (dz CX0 P w K mg base ["_law_spool_here","_law_many","_law_first","_law_at","_law_way","_law_some","_law_k","_law_drawn"] "_law_row" (ab b8) t.f__law_row cdv A outer s H E).nox (ap b8) b__law_row:=
 (am (cj (i:=1) cO.nd rfl (by first | exact Or.inl rfl | exact Or.inr rfl) (aR (dH rfl) ah (bb (dc T) (by decide) hr rfl T.m__law_take T.F__law_take.kp T.b__law_take (aa (iv 0) (aa ah ai rfl) rfl) (by decide) rfl rfl)) rfl (by first | exact .inl rfl | exact .inr rfl)) (am (yh (i:=2) (j:=3) (l:=4) rfl cO.nd rfl rfl rfl (by decide) (by decide) (by decide) rfl rfl rfl (aa (bb (dc T) (by decide) hr rfl T.m__law_take T.F__law_take.kp T.b__law_take (aa (iv 0) (aa ah ai rfl) rfl) (by decide) rfl rfl) (aa (bb (dc T) (by decide) hr rfl T.m__law_take T.F__law_take.kp T.b__law_take (aa (iv 0) (aa (iv 1) ai rfl) rfl) (by decide) rfl rfl) (aa (bb (dc T) (by decide) hr rfl T.m__law_take T.F__law_take.kp T.b__law_take (aa (iv 0) (aa ah ai rfl) rfl) (by decide) rfl rfl) ai rfl) rfl) rfl) rfl rfl) (am (cj (i:=5) cO.nd rfl (by first | exact Or.inl rfl | exact Or.inr rfl) (sM (jm ai)) rfl (by first | exact .inl rfl | exact .inr rfl)) (am (ig (dN rfl T.z_range (aa (iv 1) ai rfl) rfl) (bK (aD (i:=6) cO.nd rfl (by first | exact Or.inl rfl | exact Or.inr rfl))) (am (cj (i:=7) cO.nd rfl (by first | exact Or.inl rfl | exact Or.inr rfl) (bb (dc T) (by decide) hr rfl T.m__law_take T.F__law_take.kp T.b__law_take (aa (iv 0) (aa ah ai rfl) rfl) (by decide) rfl rfl) rfl (by first | exact .inl rfl | exact .inr rfl)) (ay (oM (uU (iv 5) (aa (b9 (bo (jm (aa (iv 7) (aa (iv 7) (aa (aR h9 (aR (dH rfl) (iv 2) (iv 6)) ah) (aa (kF xL rfl T.z_int qdz (aa (fK (eE hr rfl) (fK CI (iv 6) (iv 3) (bf _)) (fK (eE hr rfl) (iv 2) ah (bf _)) (bf _)) ai rfl) (by decide) (by decide) rfl rfl) (aa (iv 2) ai rfl) rfl) rfl) rfl) rfl))) (iv 4) rfl rfl) ai rfl) rfl rfl (by decide) rfl rfl) rfl))) qb7 rfl (λ_=>rfl)) (ay (bx (kF (me rfl) rfl T.z_tuple qbq (aa (iv 5) ai rfl) (by decide) (by decide) rfl rfl)))))))
theorem qe (T:Txt K mg t):bB P w K mg base CX0 2 t.f__law_row t.fd__law_row ["_law_spool_here"] (spI K m__law_row):=
 show bB P w K mg base CX0 2 t.f__law_row t.fd__law_row ["_law_spool_here"] (spI K (je (List.length (α:=Str) ["_law_spool_here","_law_many","_law_first","_law_at","_law_way","_law_some","_law_k","_law_drawn"]) (List.length (α:=Str) ["_law_spool_here"]) b__law_row)) from yk (N:=["_law_spool_here","_law_many","_law_first","_law_at","_law_way","_law_some","_law_k","_law_drawn"]) (ps:=["_law_spool_here"]) (b:=b__law_row) T.F__law_row cO (λcdv A outer s H E hr=>mN T cdv A outer s H E hr)
theorem jX (T:Txt K mg t) (cdv:Value) (A:Around) (outer:List Env) (s:Shared) (H:Hp) (E:XK) (hr:bn (4) (A.deeper (PyProof.Rows.envOfC "_law_right" (ab aO) s.heap.objs.size t.f__law_right cdv))):ISs K (dz CX0 P w K mg base ["_law_row_here","_law_n","_law_due","_law_poly","_law_values"] "_law_right" (ab aO) t.f__law_right cdv A outer s H E).nox (ap aO) b__law_right:=
 (am (cj (i:=1) cC.nd rfl (by first | exact Or.inl rfl | exact Or.inr rfl) (aR mq (bZ (dm rfl) rfl T.z_len qbw (aa (iv 0) ai rfl) (by decide) (by decide) rfl rfl) ah) rfl (by first | exact .inl rfl | exact .inr rfl)) (am (cj (i:=2) cC.nd rfl (by first | exact Or.inl rfl | exact Or.inr rfl) (bZ (dm rfl) rfl T.z_len qbw (aa (bo (fj (dA (ab aO).names ["_law_row_here","_law_n","_law_due","_law_poly","_law_values"] ["_law_k","_law_row_here"] 1 [0] rfl rfl rfl (by decide +kernel)) rfl (by decide) (dN rfl T.z_range (aa (iv 1) ai rfl) rfl) (λ_ _ _ _ _=>(bK (aD (i:=0) (show List.Nodup (α:=Str) ["_law_k","_law_row_here"] by decide +kernel) rfl (by first | exact Or.inl rfl | exact Or.inr rfl)))) (λ_ _ _ _ _=>(eF (bQ (fY hr rfl) (b9 (iv 1) (iv 0) rfl rfl) (b9 (iv 1) (aR (dH rfl) (iv 0) ah) rfl rfl) (bf _)))) (λ_ _ _ _ _=>(iv 0)) (λ_=>rfl))) ai rfl) (by decide) (by decide) rfl rfl) rfl (by first | exact .inl rfl | exact .inr rfl)) (am (cj (i:=3) cC.nd rfl (by first | exact Or.inl rfl | exact Or.inr rfl) (bb (lQ T) (by decide) hr rfl T.m_counts_poly T.F_counts_poly.kp T.b_counts_poly (aa (iv 0) ai rfl) (by decide) rfl rfl) rfl (by first | exact .inl rfl | exact .inr rfl)) (am (jK (lS (gh (bQ (fY hr rfl) (bZ (iY hr rfl) rfl T.z_repr qcO (aa (bb (mK T) (by decide) hr rfl T.m_changes_of T.F_changes_of.kp T.b_changes_of (aa (iv 0) ai rfl) (by decide) rfl rfl) ai rfl) (by decide) (by decide) rfl rfl) (bZ (iY hr rfl) rfl T.z_repr qcO (aa (iv 2) ai rfl) (by decide) (by decide) rfl rfl) (bf _)) (kB (jq (ik (bb (kc T) (by decide) hr rfl T.m__law_is_poly T.F__law_is_poly.kp T.b__law_is_poly (aa (iv 3) (aa mm (aa (iv 1) ai rfl) rfl) rfl) (by decide) rfl rfl) rfl rfl))))) (ay (bx lR)) eD) (am (jK (bQ (fY hr rfl) (xo rfl T.z_max (bo (fj (dA (ab aO).names ["_law_row_here","_law_n","_law_due","_law_poly","_law_values"] ["_law_term_here","_law_number"] 2 [] rfl rfl rfl (by decide +kernel)) rfl (by decide) (cS (b9 (iv 3) ah rfl rfl) rfl) (λ_ _ _ _ _=>(i8 (ca (aD (i:=0) (show List.Nodup (α:=Str) ["_law_term_here","_law_number"] by decide +kernel) rfl (by first | exact Or.inl rfl | exact Or.inr rfl)) (ca (aD (i:=1) (show List.Nodup (α:=Str) ["_law_term_here","_law_number"] by decide +kernel) rfl (by first | exact Or.inl rfl | exact Or.inr rfl)) gG)) rfl rfl rfl rfl rfl)) (λ_ _ _ _ _=>dR) (λ_ _ _ _ _=>(bZ (dm rfl) rfl T.z_len qbw (aa (iv 0) ai rfl) (by decide) (by decide) rfl rfl)) (λ_=>rfl))) ah rfl rfl) (iv 2) (bf _)) (ay (bx lR)) eD) (am (qgQ (tD (i0:=4) cC.nd rfl (by first | exact Or.inl rfl | exact Or.inr rfl) (dA (ab aO).names ["_law_row_here","_law_n","_law_due","_law_poly","_law_values"] ["_law_at","_law_poly"] 1 [3] rfl rfl rfl (by decide +kernel)) rfl (by decide) (dN rfl T.z_range (aa (aR xy ah (iv 1)) ai rfl) rfl) (λ_ _ _ _ _=>(bK (aD (i:=0) (show List.Nodup (α:=Str) ["_law_at","_law_poly"] by decide +kernel) rfl (by first | exact Or.inl rfl | exact Or.inr rfl)))) (λ_ _ _ _ _=>dR) (λ_ _ _ _ _=>(bb (mM T) (by decide) hr rfl T.m__law_value T.F__law_value.kp T.b__law_value (aa (iv 1) (aa (iv 0) ai rfl) rfl) (by decide) rfl rfl)) rfl (by first | exact .inl rfl | exact .inr rfl) (λ_=>rfl))) (ay (bx (bZ (BQ rfl rfl) rfl T.z_all qie (aa (bo (fj (dA (ab aO).names ["_law_row_here","_law_n","_law_due","_law_poly","_law_values"] ["_law_at","_law_value_here","_law_row_here"] 2 [0] rfl rfl rfl (by decide +kernel)) rfl (by decide) (y8 rfl T.z_enumerate (aa (iv 4) ai rfl) rfl rfl) (λ_ _ _ _ _=>(i8 (ca (aD (i:=0) (show List.Nodup (α:=Str) ["_law_at","_law_value_here","_law_row_here"] by decide +kernel) rfl (by first | exact Or.inl rfl | exact Or.inr rfl)) (ca (aD (i:=1) (show List.Nodup (α:=Str) ["_law_at","_law_value_here","_law_row_here"] by decide +kernel) rfl (by first | exact Or.inl rfl | exact Or.inr rfl)) gG)) rfl rfl rfl rfl rfl)) (λ_ _ _ _ _=>dR) (λ_ _ _ _ _=>(A7 (fK (fY hr rfl) (iv 1) ah (bf _)) (Bb (fK (eE hr rfl) (fK CS (iv 1) ah (bf _)) (fK (eE hr rfl) (b9 (iv 2) (bb (rE T) (by decide) hr rfl T.m__law_on T.F__law_on.kp T.b__law_on (aa (iv 0) ai rfl) (by decide) rfl rfl) rfl rfl) ah (bf _)) (bf _))))) (λ_=>rfl))) ai rfl) (by decide) (by decide) rfl rfl)))))))))
theorem mJ (T:Txt K mg t):bB P w K mg base CX0 5 t.f__law_right t.fd__law_right ["_law_row_here"] (spI K m__law_right):=
 show bB P w K mg base CX0 5 t.f__law_right t.fd__law_right ["_law_row_here"] (spI K (cp (List.length (α:=Str) ["_law_row_here","_law_n","_law_due","_law_poly","_law_values"]) (List.length (α:=Str) ["_law_row_here"]) b__law_right)) from iF (N:=["_law_row_here","_law_n","_law_due","_law_poly","_law_values"]) (ps:=["_law_row_here"]) (b:=b__law_right) T.F__law_right cC (λcdv A outer s H E hr=>jX T cdv A outer s H E hr)
theorem vT (T:Txt K mg t) (cdv:Value) (A:Around) (outer:List Env) (s:Shared) (H:Hp) (E:XK) (hr:bn (5) (A.deeper (PyProof.Rows.envOfC "law" (ab il) s.heap.objs.size t.f_law cdv))):ISs K (dz CX0 P w K mg base ["_law_script","_law_spool_here","_law_turn"] "law" (ab il) t.f_law cdv A outer s H E).nox (ap il) mT:=
 (am (cj (i:=1) rH.nd rfl (by first | exact Or.inl rfl | exact Or.inr rfl) (bb (mB T) (by decide) hr rfl T.m__law_spool T.F__law_spool.kp T.b__law_spool (aa (iv 0) ai rfl) (by decide) rfl rfl) rfl (by first | exact .inl rfl | exact .inr rfl)) (am (ig (dN rfl T.z_range (aa ah ai rfl) rfl) (bK (aD (i:=2) rH.nd rfl (by first | exact Or.inl rfl | exact Or.inr rfl))) (ay (jK (jq (ik (bb (mJ T) (by decide) hr rfl T.m__law_right T.F__law_right.kp T.b__law_right (aa (bb (qe T) (by decide) hr rfl T.m__law_row T.F__law_row.kp T.b__law_row (aa (iv 1) ai rfl) (by decide) rfl rfl) ai rfl) (by decide) rfl rfl) rfl rfl)) (ay (bx lR)) eD)) qb7 rfl (λ_=>rfl)) (ay (bx lR))))
theorem Aq (T:Txt K mg t):bB P w K mg base CX0 6 t.f_law t.fd_law ["_law_script"] (spI K m_law):=
 show bB P w K mg base CX0 6 t.f_law t.fd_law ["_law_script"] (spI K (je (List.length (α:=Str) ["_law_script","_law_spool_here","_law_turn"]) (List.length (α:=Str) ["_law_script"]) mT)) from yk (N:=["_law_script","_law_spool_here","_law_turn"]) (ps:=["_law_script"]) (b:=mT) T.F_law rH (λcdv A outer s H E hr=>vT T cdv A outer s H E hr)
end
end Own
end
namespace L2
open PySem
end L2
namespace L2
noncomputable def qv:Nat->List (List Int)
 | 0=>[[]]
 | n+1=>qv n++(qv n).map λt=>t++[(n:Int)]
noncomputable def eO (n:Nat):List (List Int):=aT (qv n)
theorem pp:∀ n,(qv n).length=2 ^ n
 | 0=>rfl
 | n+1=>by rw [qv,qaK,qai,pp n,qii];lia
theorem wT (n:Nat):(eO n).length=2 ^ n:=by rw [eO,(bi _).length_eq,pp]
noncomputable def Trm (n:Nat) (t:List Int):Prop:=t.Pairwise (· < ·)/\∀ k ∈ t,0<=k/\k < n
theorem Trm.mono {n m:Nat}{t:List Int} (h:Trm n t) (hn:n<=m):Trm m t:=⟨h.1,λk hk=>⟨(h.2 k hk).1,by have:=(h.2 k hk).2;lia⟩⟩
theorem mi:∀ (n:Nat) {t:List Int},t ∈ qv n->Trm n t
 | 0,t,h=>by
  rw [qv,qay] at h
  subst h
  exact⟨List.Pairwise.nil,λk hk=>by cases hk⟩
 | n+1,t,h=>by
  rcases qbx.mp h with h | h
  ·exact (mi n h).mono (qcm n)
  ·obtain⟨u,hu,rfl⟩:=qaB.mp h
   have:=mi n hu
   refine⟨qcE.mpr ⟨this.1,qcW _ _,λa ha b hb=>?_⟩,λk hk=>?_⟩
   ·rw [qay.mp hb];exact (this.2 a ha).2
   ·rcases qbx.mp hk with hk | hk
    ·exact⟨(this.2 k hk).1,by have:=(this.2 k hk).2;lia⟩
    ·rw [qay.mp hk];lia
theorem xf {n:Nat}{t:List Int} (h:t ∈ eO n):Trm n t:=mi n ((bi _).mem_iff.mp h)
theorem ug {n:Nat}{t:List Int} (h:Trm n t):t.length<=n:=by
 have key:∀ (t:List Int) (a:Int),t.Pairwise (· < ·)->(∀ k ∈ t,a<=k/\k < n)->(t.length:Int)<=max 0 ((n:Int) - a):=by
  intro t
  induction t with
  | nil=>intro a _ _;simp;lia
  | cons x t ih=>
   intro a hp hm
   have h1:=hm x qah
   have:=ih (x+1) (qa9.mp hp).2 λk hk=>⟨(qa9.mp hp).1 k hk,(hm k (qaf _ hk)).2⟩
   rw [qaq];push_cast;lia
 have:=key t 0 h.1 h.2
 lia
noncomputable def onI (row k:Int):Int:=row / 2 ^ k.toNat % 2
noncomputable def cH (row:Int):List Int->Int
 | []=>0
 | k::t=>onI row k+cH row t
theorem qJ (row k:Int):onI row k=0\/onI row k=1:=by unfold onI;lia
theorem gc (row:Int):∀ t:List Int,((t.filter λk=>onI row k==1).length:Int)=cH row t
 | []=>rfl
 | k::t=>by
  rw [qcR]
  have ih:=gc row t
  rcases qJ row k with e | e
  ·rw [e];simp only [cH,e];simpa using ih
  ·rw [e];simp only [cH,e,beq_self_eq_true,if_true,qaq];push_cast;lia
theorem oo (row:Int):∀ t:List Int,0<=cH row t/\cH row t<=t.length
 | []=>by simp [cH]
 | k::t=>by
  have ih:=oo row t
  rcases qJ row k with e | e<;>(simp only [cH,e,qaq];push_cast;lia)
theorem rc:∀ (ls:List (List Int)),qS (ls.map aj)=some ((aT ls).map aj)
 | []=>rfl
 | t::r=>by
  have e:aE ((t::r).map aj)=none:=rfl
  unfold qS
  rw [e,ic];rfl
end L2
namespace L2
open PySem
abbrev Prt:=List Int×Int
noncomputable def au (p:Prt):D:=.tup [aj p.1,.int p.2]
noncomputable def aX (kd:Str) (ps:List Prt):D:=.tup [.str kd,.tup (ps.map au)]
theorem ny {ps:List Prt}{i:Nat}{d:D} (h:(ps.map au)[i]?=some d):∃ p,ps[i]?=some p/\d=.tup [aj p.1,.int p.2]:=by
 rw [qaW,qae] at h
 obtain⟨p,hp,rfl⟩:=h
 exact⟨p,hp,rfl⟩
theorem iT {te:Ef}{env:Ev}{st:Sto} (F:Prt->D):∀ {ps:List Prt},(∀ p ∈ ps,∃ e1,eX (.tp [0,1]) (.d (au p)) env=some e1/\te e1 st=some (.d (F p),st))->lcI (.tp [0,1]) dg te env (ps.map au) st=some (ps.map F,st)
 | [],_=>rfl
 | p::ps,h=>by
  obtain⟨e1,h1,h2⟩:=h p qah
  have ih:=iT (te:=te) (env:=env) (st:=st) F (ps:=ps) λx hx=>h x (qaf _ hx)
  rw [qaj,qaj]
  unfold lcI
  rw [h1,qag,show dg e1 st=some (true,st) from rfl,qag,if_pos rfl,h2,qag,ih];rfl
theorem sW:∀ (ns:List Int) (m:Int),m<=fR ns m/\∀ n ∈ ns,n<=fR ns m
 | [],m=>⟨qgI _,λ_ h=>by cases h⟩
 | n::ns,m=>by
  have ih:=sW ns (if n > m then n else m)
  rw [fR]
  refine⟨qec ?_ ih.1,λk hk=>?_⟩
  ·split<;>lia
  ·rcases qaz.mp hk with rfl | hk
   ·refine qec ?_ ih.1
    split<;>lia
   ·exact ih.2 k hk
theorem wG (ns:List Int) (h:∀ n ∈ ns,0<=n):xT ns (some 0)=some (fR ns 0):=by
 cases ns with
 | nil=>rfl
 | cons n r=>
  have:(if n > 0 then n else 0)=n:=by have:=h n qah;split<;>lia
  show some (fR r n)=some (fR r (if n > 0 then n else 0))
  rw [this]
theorem tw {M:Int}:∀ (ns:List Int) (m:Int),m<=M->(∀ n ∈ ns,n<=M)->fR ns m<=M
 | [],m,hm,_=>hm
 | n::ns,m,hm,h=>by
  rw [fR]
  refine tw ns _ ?_ λk hk=>h k (qaf _ hk)
  have:=h n qah
  split<;>lia
theorem ar {g:Sto->W->W->Option D}{a b:Ef}{env:Ev}{st s1 s2:Sto}{x y:W}{d:D} (ha:a env st=some (x,s1)) (hb:b env s1=some (y,s2)) (hg:g s2 x y=some d):iOp g a b env st=some (.d d,s2):=by
 simp only [iOp,ha,hb,hg,qag,qaC]
theorem bP {g:Sto->W->W->Option D}{a b:Ef}{env:Ev}{st s1 s2:Sto}{x y:W}{k:Bool} (ha:a env st=some (x,s1)) (hb:b env s1=some (y,s2)) (hg:g s2 x y=some (.bl k)):bR g a b env st=some (k,s2):=by
 simp only [bR,ha,hb,hg,qag,og,qaC]
theorem aG {a b:Sf}{env e:Ev}{st s:Sto}{r:Fl} (ha:a env st=some (.nx e s)) (hb:b e s=some r):aM a b env st=some r:=by
 simp only [aM,ha,hb,qag]
theorem zL {a b:Sf}{env:Ev}{st s:Sto}{w:W} (ha:a env st=some (.rt w s)):aM a b env st=some (.rt w s):=by
 simp only [aM,ha,qag]
theorem bV {i:Nat}{f:Ef}{env:Ev}{st s:Sto}{w:W} (h:f env st=some (w,s)):bY (.nm i) f env st=some (.nx (env.set i (some w)) s):=by
 simp only [bY,h,qag,eX,qaC]
theorem aK {m:Fn}{a:Af}{env:Ev}{st s:Sto}{ws:List W}{r:W×Sto} (ha:a env st=some (ws,s)) (hm:m ws s=some r):bw m a env st=some r:=by
 simp only [bw,ha,hm,qag]
theorem bA {g:Sto->List W->Option D}{a:Af}{env:Ev}{st s:Sto}{ws:List W}{d:D} (ha:a env st=some (ws,s)) (hm:g s ws=some d):iCB g a env st=some (.d d,s):=by
 simp only [iCB,ha,hm,qag,qaC]
theorem ag {a:Ef}{b:Af}{env:Ev}{st s1 s2:Sto}{x:W}{y:List W} (ha:a env st=some (x,s1)) (hb:b env s1=some (y,s2)):ae a b env st=some (x::y,s2):=by
 simp only [ae,ha,hb,qag,qaC]
theorem iS {fi:Lf}{g:Tg}{b:Sf}{env:Ev}{st s:Sto}{ds:List D}{r:Fl} (h:fi env st=some (ds,s)) (hf:jo g b ds env s=some r):jD fi g b env st=some r:=by
 simp only [jD,h,hf,qag]
theorem bN {f:Ef}{env:Ev}{st s:Sto}{w:W} (h:f env st=some (w,s)):cy f env st=some (.rt w s):=by
 simp only [cy,h,qaC]
theorem CH {c:Tf}{a b:Sf}{env:Ev}{st s:Sto}{r:Option Fl} (h:c env st=some (true,s)) (ha:a env s=r):gQ c a b env st=r:=by
 simp only [gQ,h,qag,if_true,ha]
theorem lT {c:Tf}{a b:Sf}{env:Ev}{st s:Sto}{r:Option Fl} (h:c env st=some (false,s)) (hb:b env s=r):gQ c a b env st=r:=by
 simp only [gQ,h,qag,qap,if_false,hb]
theorem cA {k:Nat}{js:List Nat}{fi:Lf}{g:Tg}{tt:Tf}{te:Ef}{env:Ev}{st s s2:Sto}{ds ys:List D} (h:fi env st=some (ds,s)) (hl:ds.length<=1000000) (hc:lcI g tt te (kh k js env) ds s=some (ys,s2)):iLc k js fi g tt te env st=some (ys,s2):=by
 simp only [iLc,h,hc,hl,qag,if_true]
theorem aP {a:Lf}{env:Ev}{st s:Sto}{ds:List D} (h:a env st=some (ds,s)):aH a env st=some (.d (.lst ds),s):=by
 simp only [aH,h,qaC]
theorem bW {n k:Nat}{b:Sf}{ws:List W}{st s:Sto}{w:W} (hl:ws.length=k) (h:b (ws.map some++List.replicate (n - k) none) st=some (.rt w s)):cp n k b ws st=some (w,s):=by
 simp only [cp,hl,if_true,h,qag]
theorem iJ {n k:Nat}{b:Sf}{ws:List W}{st s:Sto}{x:D} (hl:ws.length=k) (h:b (ws.map some++List.replicate (n - k) none) st=some (.rt (.d x) s)):je n k b ws st=some (.d x,s.take st.length):=by
 simp only [je,hl,if_true,h,qag,yO]
structure Spo where
 xs:List Int
 s:Int
 c:Int
noncomputable def spo (p:Spo) (rest:Sto):Sto:=.l (p.xs.map D.int)::.n [.h 0,.d (.int p.s),.d (.int p.c)]::rest
noncomputable def okP (p:Spo) (Z:Int):Prop:=(∀ x ∈ p.xs,0<=x)/\p.xs.length<=63/\0<=p.c/\p.c<=Z
theorem okP.mono {p:Spo}{Z Z':Int} (h:okP p Z) (hz:Z<=Z'):okP p Z':=⟨h.1,h.2.1,h.2.2.1,qec h.2.2.2 hz⟩
theorem yw (p:Spo) (rest:Sto):(spo p rest).length=rest.length+2:=rfl
theorem qX (p:Spo) (rest:Sto):(spo p rest)[0]?=some (.l (p.xs.map D.int)):=rfl
theorem p9 (p:Spo) (rest:Sto):(spo p rest)[1]?=some (.n [.h 0,.d (.int p.s),.d (.int p.c)]):=rfl
theorem pF (p:Spo) (rest:Sto) (ys:List Int):(spo p rest).set 0 (.l (ys.map D.int))=spo { p with xs:=ys } rest:=rfl
theorem wU (p:Spo) (rest:Sto) (a b:Int):(spo p rest).set 1 (.n [.h 0,.d (.int a),.d (.int b)])=spo { p with s:=a,c:=b } rest:=rfl
theorem v5 (p:Spo) (rest u:Sto):(spo p (rest++u)).take (rest.length+2)=spo p rest:=by
 unfold spo
 rw [qgu,qgu,List.take_left]
theorem AI (p:Spo) (rest:Sto) (c:C):(spo p (rest++[c]))[rest.length+2]?=some c:=by
 unfold spo
 simp
theorem w6 (p:Spo) (rest:Sto) (ds:List D):lg (spo p (rest++[.l ds])) (rest.length+2)=some ds:=by
 unfold lg;rw [AI]
theorem yJ (p:Spo) (rest:Sto) (c c':C):(spo p (rest++[c])).set (rest.length+2) c'=spo p (rest++[c']):=by
 unfold spo
 simp
end L2
section
set_option maxHeartbeats 1000000
namespace Own
open PySem L2
theorem Dv:pJ 10 18:=p18
theorem Am {many:Int}:∀ (xs:List Int) (p:Spo) (rest:Sto) (f:Nat),p.xs=xs->xs.length < f->(∀ x ∈ xs,0<=x)->
  ∃ ys:List Int,ys.length<=xs.length/\(∀ x ∈ ys,0<=x)/\(∀ x l,ys=x::l->x≠0)/\
   ∀ rest:Sto,eM cv eS f [some (.h 1),some (.d (.int many)),none,none,none] (spo p rest)=some (.nx [some (.h 1),some (.d (.int many)),none,none,none] (spo { p with xs:=ys } rest))
 | [],p,_,f+1,h,_,_=>by
  refine⟨[],qan _,(λx hx=>nomatch hx),(λx l e=>nomatch e),λrest=>?_⟩
  obtain⟨pxs,ps,pc⟩:=p
  dsimp only at h;subst h
  unfold eM
  simp only [cv,iV,iC,iOp,bR,nk,ak,gx,aH,jf,og,eV,dIx,dEq,dNe,g7,eqK,dL,qag,qaC,qaO,qcw,qba,if_true,if_false,qap,qa2,rT,qd5,and_self,fF,lg,qaI,qX,p9,qcw,qa2]
 | x::xs,p,rest0,f+1,h,hf,h0=>by
  obtain⟨pxs,ps,pc⟩:=p
  dsimp only at h;subst h
  by_cases hx:x=0
  ·subst hx
   obtain⟨ys,a1,a2,a3,a4⟩:=Am (many:=many) xs ⟨xs,ps,pc⟩ rest0 f rfl (by simp at hf;lia) λy hy=>h0 y (qaf _ hy)
   refine⟨ys,by simp;lia,a2,a3,λrest=>?_⟩
   have a5:=a4 rest
   unfold eM
   have e:=pF ⟨0::xs,ps,pc⟩ rest xs
   simp only [cv,eS,iV,iC,iOp,bR,nk,ak,ae,gx,aH,gY,eY,jf,og,eV,dIx,dEq,dNe,g7,eqK,eqD,dL,cr,qag,qaC,qaO,qaj,qaq,qba,if_true,if_false,qdd,rT,Cg,List.getElem?_cons_zero,qbg,qd5,and_self,fF,wl,lg,qaI,qeB,qX,p9,show ((0:Int)==0)=true from rfl,List.eraseIdx_cons_zero,show ((-(2 ^ 62):Int)<=0) by decide,show ((0:Int) < 2 ^ 62) by decide,e]
   exact a5
  ·refine⟨x::xs,qan _,h0,λy l e=>by cases e;exact hx,λrest=>?_⟩
   unfold eM
   have hb:(x==0)=false:=by rw [beq_eq_false_iff_ne];exact hx
   simp only [cv,iV,iC,iOp,bR,nk,ak,gx,aH,jf,og,eV,dIx,dEq,dNe,g7,eqK,eqD,dL,qag,qaC,qaO,qaj,qaq,qba,if_true,if_false,qap,qdd,rT,qbg,qd5,fF,lg,qaI,qeB,qX,p9,hb]
theorem iP {p:Spo}{m Z:Int} (h:okP p Z) (hZ:Z < 1000000000) (m0:0 < m) (m1:m < 1073741824):∃ r p',0<=r/\r < m/\okP p' (Z+1)/\∀ rest,m__law_take [.h 1,.d (.int m)] (spo p rest)=some (.d (.int r),spo p' rest):=by
 obtain⟨h0,h63,c0,c1⟩:=h
 obtain⟨ys,y1,y2,y3,y4⟩:=Am (many:=m) p.xs p [] 1000000000000000000000000000000 rfl (by lia) h0
 obtain⟨pxs,ps,pc⟩:=p
 dsimp only at h0 h63 c0 c1 y1 y4
 cases ys with
 | cons x l=>
  refine⟨x % m,⟨x / m::l,ps,pc⟩,qfs _ (by lia),qeN _ m0,⟨λz hz=>?_,by simp at y1 ⊢;lia,c0,by dsimp only;lia⟩,λrest=>?_⟩
  ·rcases qaz.mp hz with hz | hz
   ·subst hz;exact qg9 (y2 x qah) (by lia)
   ·exact y2 z (qaf _ hz)
  ·have e:=pF ⟨x::l,ps,pc⟩ rest (x / m::l)
   have y5:=y4 rest
   simp only [qaj] at e
   simp only [m__law_take,b__law_take,nQ,iV,iC,iOp,bR,ak,gx,aH,gA,aM,bY,qM,lL,cy,gQ,cp,eX,jf,og,eV,lsD,dIx,d3,ge,nr,kg,dNe,g7,eqK,dL,qag,qaC,qaO,qbl,qdw,qdx,qaj,qcw,qaq,qba,qbr,qeo,qb5,qce,Nat.reduceAdd,Nat.reduceSub,if_true,if_false,qdd,rT,Cg,qbo,qbg,qd5,and_self,fF,iE,lg,qaI,qeB,Int.reduceNeg,y5,qX,p9,m0,m1,e]
 | nil=>
  obtain⟨u,hu⟩:∃ u,(ps+104729*(pc+1))*48271 % 2305843009213693951=u:=⟨_,rfl⟩
  have u0:0<=u:=by rw [<-hu];exact qfs _ (by decide)
  have u1:u < 2305843009213693951:=by rw [<-hu];exact qeN _ (by decide)
  have k1:∀ q,PySem.IntMulOk 104729 q:=λq=>kn (by decide)
  have k2:∀ q,PySem.IntMulOk q 48271:=λq=>iu (by decide)
  have k3:PySem.IntMulOk (pc+1) (pc+1):=iu ⟨by lia,by lia⟩
  have k4:∀ q,PySem.IntMulOk u q:=λq=>kn ⟨by lia,by lia⟩
  refine⟨u*(u / 1000003+(pc+1)*(pc+1)+7) % 2305843009213693921 / 8191 % m,⟨[],ps,pc+1⟩,qfs _ (by lia),qeN _ m0,⟨λz hz=>(nomatch hz),by simp,by dsimp only;lia,by dsimp only;lia⟩,λrest=>?_⟩
  have y5:=y4 rest
  have e:=wU ⟨[],ps,pc⟩ rest ps (pc+1)
  simp only [m__law_take,b__law_take,nQ,iV,iC,iOp,bR,ak,gx,aH,gA,aM,bY,qM,lL,cy,gQ,cp,eX,jf,og,eV,lsD,dIx,d3,ge,nr,kg,dNe,g7,eqK,dL,qag,qaC,qaO,qbl,qdw,qdx,qaj,qcw,qaq,qba,qbr,qeo,qb5,qce,Nat.reduceAdd,Nat.reduceSub,if_true,if_false,qap,qa2,rT,BA,DF,DW,qbo,qd5,and_self,fF,iE,lg,qaI,Int.reduceNeg,y5,qX,p9,m0,e,k1,k2,k3,k4,hu,show (0:Int) < 2305843009213693921 by decide,show (0:Int) < 2305843009213693951 by decide,show (0:Int) < 1000003 by decide,show (1000003:Int) < 1073741824 by decide,show (0:Int) < 8191 by decide,show (8191:Int) < 1073741824 by decide]
theorem xY (ns:List Int) (hn:ns.length<=63):∃ p,okP p 0/\m__law_spool [.d (.scr ns)] []=some (.h 1,spo p []):=by
 have ec:lv (ns.map D.int) none (some 63)=ns.map D.int:=by
  unfold lv
  have e1:HT.sIx (ns.map D.int).length 0 none=0:=rfl
  have e2:HT.sIx (ns.map D.int).length (ns.map D.int).length (some 63)=(ns.map D.int).length:=by
   unfold HT.sIx;simp;lia
  rw [e1,e2,qdA,qe1,qbQ]
 have k1:∀ q,PySem.IntMulOk q 1000003:=λq=>iu (by decide)
 have hF:∀ (l:List Int) (sd:Int) (last:Option W) ,∃ sd' last',jo (.nm 2) eh (l.map D.int) [some (.d (.scr ns)),some (.d (.int sd)),last] []=some (.nx [some (.d (.scr ns)),some (.d (.int sd')),last'] []):=by
  intro l
  induction l with
  | nil=>exact λsd last=>⟨sd,last,rfl⟩
  | cons x l ih=>
   intro sd last
   obtain⟨a,b,e⟩:=ih ((sd*1000003+x) % 2305843009213693951) (some (.d (.int x)))
   refine⟨a,b,?_⟩
   rw [qaj]
   unfold jo
   simp only [eh,iV,iC,iOp,bY,eX,lsD,d3,ge,kg,qag,qaC,qaO,qbl,qdw,qdx,if_true,lg,Int.reduceNeg,k1,show (0:Int) < 2305843009213693951 by decide]
   exact e
 have hL:lcI (.nm 0) da cV [none] (ns.map D.int) []=some (((ns.filter λx=>decide (x.natAbs>=10 ^ 18)).map λx:Int=>(x.natAbs:Int)).map D.int,[]):=by
  have:=dX (g:=.nm 0) (tt:=da) (te:=cV) (env:=[none]) (st:=[]) (λd=>match d with | .int x=>decide (x.natAbs>=10 ^ 18) | _=>false) (λd=>match d with | .int x=>.int (x.natAbs:Int) | d=>d) (ds:=ns.map D.int) λd hd=>by
   obtain⟨x,_,rfl⟩:=qaB.mp hd
   have ea:(if x < 0 then -x else x)=(x.natAbs:Int):=by split<;>lia
   refine⟨[some (.d (.int x))],rfl,?_,λ_=>?_⟩
   ·have eb:decide ((x.natAbs:Int)>=10 ^ Int.toNat 18)=decide (x.natAbs>=10 ^ 18):=by
     rw [show Int.toNat 18=18 from rfl]
     rw [qdp];simp;lia
    simp only [da,iV,iC,iOp,bR,ak,ae,iCB,og,AK,dGe,x4,qag,qaC,qaO,if_true,ea,Dv,eb]
   ·simp only [cV,iV,ak,ae,iCB,x4,qag,qaC,qaO,ea]
  rw [this]
  rw [qdo,qaJ,qaJ]
  rfl
 obtain⟨sd',last',e1⟩:=hF ns ((ns.length:Int)+11) none
 refine⟨⟨(ns.filter λx=>decide (x.natAbs>=10 ^ 18)).map λx:Int=>(x.natAbs:Int),sd',0⟩,⟨λx hx=>?_,?_,qgI 0,qgI 0⟩,?_⟩
 ·obtain⟨y,_,rfl⟩:=qaB.mp hx;lia
 ·rw [qai];exact qaQ (qde _ _) hn
 ·have hlen:ns.length<=1000000:=by lia
  simp only [m__law_spool,b__law_spool,iV,iC,iOp,ak,ae,iCB,nP,aM,bY,cy,jD,iLc,aW,iSl,iPn,iPs,cp,eX,Ba,kh,eV,lsD,d3,dn,dSl,qag,qaC,qaO,qbl,qdw,qdx,qaj,qcw,qaq,qba,qbr,qeo,qb5,qce,Nat.reduceAdd,Nat.reduceSub,if_true,qbo,tH,lg,ec,qai,e1,hlen,hL,show (3:Nat)<=1000 by decide]
  rfl
end Own
end
section
set_option maxHeartbeats 1000000
namespace Own
open PySem L2
theorem cY {a:Af}{env:Ev}{st s:Sto}{ws:List W}{ds:List D} (h:a env st=some (ws,s)) (hd:jf ws=some ds) (hl:ds.length<=1000:=by decide):dB a env st=some (.d (.tup ds),s):=by
 simp only [dB,h,hd,hl,qag,if_true]
theorem t3 {a:Af}{env:Ev}{st s:Sto}{ws:List W}{ds:List D} (h:a env st=some (ws,s)) (hd:jf ws=some ds) (hl:ds.length<=1000:=by decide):gx a env st=some (ds,s):=by
 simp only [gx,h,hd,hl,qag,if_true]
theorem gg {f:Ef}{env:Ev}{st s:Sto}{ds:List D} (h:f env st=some (.d (.tup ds),s)):aW f env st=some (ds,s):=by
 simp only [aW,h,qag]
theorem fE {e:Ef}{z:Int}{m:Nat}{env:Ev}{st s:Sto} (he:e env st=some (.d (.int z),s)) (h0:0<=z) (h1:z<=1000) (hm:z.toNat=m):cu (ae e ak) env st=some (eu 0 m,s):=by
 have hb:-(2 ^ 62)<=z/\z < 2 ^ 62:=⟨qec (by decide) h0,Int.lt_of_le_of_lt h1 (by decide)⟩
 have h2:=ag (b:=ak) he rfl
 simp only [cu,h2,qag,hb,and_self,if_true,hm]
theorem ji {f:Ef}{env:Ev}{st s:Sto}{ds:List D} (h:f env st=some (.d (.lst ds),s)):aW f env st=some (ds,s):=by
 simp only [aW,h,qag]
theorem ng {f:Ef}{env:Ev}{st s:Sto}{ds:List D} (h:f env st=some (.d (.tup ds),s)):aW f env st=some (ds,s):=by
 simp only [aW,h,qag]
theorem xW {c:Tf}{a b:Ef}{env:Ev}{st s:Sto}{r:Option (W×Sto)} (h:c env st=some (true,s)) (ha:a env s=r):nU c a b env st=r:=by
 simp only [nU,h,qag,if_true,ha]
theorem x8 {c:Tf}{a b:Ef}{env:Ev}{st s:Sto}{r:Option (W×Sto)} (h:c env st=some (false,s)) (hb:b env s=r):nU c a b env st=r:=by
 simp only [nU,h,qag,qap,if_false,hb]
theorem CQ (s:Sto) {a b:Int} (h:0<=b):pL s (.d (.int a)) (.d (.int b))=some (.int (a / 2 ^ b.toNat)):=if_pos h
theorem wj (s:Sto) (a b:Int):dEq s (.d (.int a)) (.d (.int b))=some (.bl (a==b)):=by
 show ((eqK (.fl (.int a)) (.fl (.int b))).map λk=>D.bl k)=_
 rfl
theorem vN (s:Sto) (a b:Str):dEq s (.d (.str a)) (.d (.str b))=some (.bl (a==b)):=by
 show ((eqK (.fl (.str a)) (.fl (.str b))).map λk=>D.bl k)=_
 rfl
theorem AD (s:Sto) {a b:List D} (h:a.length+b.length<=1000000):d3 s (.d (.lst a)) (.d (.lst b))=some (.lst (a++b)):=if_pos h
noncomputable def cq (b:Bool) (t:List Int) (row:Int):Int:=if b=true then (if cH row t=(t.length:Int) then 1 else 0) else (if cH row t % 2=1 then -1 else 1)
noncomputable def aF (b:Bool):Str:=if b=true then "both" else "odd"
theorem nt (b:Bool):(aF b==("both" : Str))=b:=by cases b<;>decide
theorem ix0 (s:Sto) (a:D) (l:List D):dIx s (.d (.tup (a::l))) (.d (.int 0))=some a:=by simp only [dIx,eV,qag,rT]
theorem ix1 (s:Sto) (a b:D) (l:List D):dIx s (.d (.tup (a::b::l))) (.d (.int 1))=some b:=by simp only [dIx,eV,qag,BA]
theorem rg {f:Ef}{env:Ev}{st s:Sto}{k:Bool} (h:f env st=some (.d (.bl k),s)):jY jV f env st=some (k,s):=by
 simp only [jY,h,qag,jV,qaC]
theorem nz {f:Tf}{env:Ev}{st s:Sto}{k:Bool} (h:f env st=some (k,s)):gf f env st=some (!k,s):=by
 simp only [gf,h,qaC]
theorem jF {a b:Tf}{env:Ev}{st s s':Sto}{k:Bool} (ha:a env st=some (false,s)) (hb:b env s=some (k,s')):i7 a b env st=some (k,s'):=by
 simp only [i7,ha,hb,qag,qap,if_false]
theorem xN (s:Sto) (a b:Str):dEq s (.d (.str a)) (.d (.str b))=some (.bl (a==b)):=vN s a b
theorem lU (s:Sto) (a b:Int):dEq s (.d (.int a)) (.d (.int b))=some (.bl (a==b)):=wj s a b
theorem lE (s:Sto) (a b:Int):dNe s (.d (.int a)) (.d (.int b))=some (.bl (!(a==b))):=by
 show ((eqK (.fl (.int a)) (.fl (.int b))).map λk=>D.bl (!k))=_
 rfl
theorem Ab {n:Int} (n0:0<=n) (n1:n<=6):∃ q:Int,(∀ s,xI s (.d (.int 1)) (.d (.int n))=some (.int q))/\q.toNat=2 ^ n.toNat/\(-(2 ^ 62)<=q/\q < 2 ^ 62)/\2 ^ n.toNat<=64:=by
 have h:n=0\/n=1\/n=2\/n=3\/n=4\/n=5\/n=6:=by lia
 rcases h with rfl | rfl | rfl | rfl | rfl | rfl | rfl
 ·exact⟨1,λs=>rfl,by decide,by decide,by decide⟩
 ·exact⟨2,λs=>rfl,by decide,by decide,by decide⟩
 ·exact⟨4,λs=>rfl,by decide,by decide,by decide⟩
 ·exact⟨8,λs=>rfl,by decide,by decide,by decide⟩
 ·exact⟨16,λs=>rfl,by decide,by decide,by decide⟩
 ·exact⟨32,λs=>rfl,by decide,by decide,by decide⟩
 ·exact⟨64,λs=>rfl,by decide,by decide,by decide⟩
theorem xa (b:Bool) (t:List Int) (row:Int):-1<=cq b t row/\cq b t row<=1:=by
 unfold cq
 split<;>split<;>lia
noncomputable def bE (b:Bool) (ps:List Prt) (row:Int):Int:=(ps.map λp=>p.2*cq b p.1 row).sum
noncomputable def Bk (p:Prt):Prop:=Trm 6 p.1
theorem CW {n:Nat}{t:List Int} (h:Trm n t) (hn:n<=6):∀ k ∈ t,0<=k/\k<=20:=λk hk=>⟨(h.2 k hk).1,by have:=(h.2 k hk).2;lia⟩
theorem Bt {p:Prt} (h:Bk p):∀ k ∈ p.1,0<=k/\k<=20:=CW h (qan 6)
theorem Dz (b:Bool) (t:List Int) (row c:Int):PySem.IntMulOk c (cq b t row):=iu (by have:=xa b t row;lia)
theorem wf (s:Sto) {a b:Int} (h:PySem.IntMulOk a b):ge s (.d (.int a)) (.d (.int b))=some (.int (a*b)):=if_pos h
theorem Aa (s:Sto) {a b:Int} (h:0 < b):kg s (.d (.int a)) (.d (.int b))=some (.int (a % b)):=if_pos h
theorem DN (s:Sto) {a b:Int}{k:Bool} (h:decide (a > b)=k):dGt s (.d (.int a)) (.d (.int b))=some (.bl k):=by rw [<-h];rfl
theorem Dq (s:Sto) {a b:Int}{k:Bool} (h:decide (a<=b)=k):dLe s (.d (.int a)) (.d (.int b))=some (.bl k):=by rw [<-h];rfl
theorem Dt {x:Int} (h:0<=x):Builtin.bitAnd x 1=x % 2:=by
 unfold Builtin.bitAnd
 have h1:decide (0<=x)=true:=decide_eq_true h
 rw [h1,show decide ((0:Int)<=1)=true from rfl]
 show ((x.toNat &&& (1:Int).toNat:Nat):Int)=_
 rw [show (1:Int).toNat=1 from rfl,Nat.and_one_is_mod];lia
theorem B6 {row k:Int} (h:0<=row):Builtin.bitAnd (row / 2 ^ k.toNat) 1=onI row k:=Dt (qg9 h (Int.le_of_lt (Int.pow_pos (by decide))))
theorem Ct {st:Sto}{row k:Int} (r0:0<=row) (k0:0<=k):bR dEq (iOp rp (iOp pL (iV 1) (iV 0)) (iC (.int 1))) (iC (.int 1)) [some (.d (.int k)),some (.d (.int row))] st=some (onI row k==1,st):=
 bP (x:=.d (.int (onI row k))) (ar (ar rfl rfl (CQ _ k0)) rfl (by rw [<-B6 r0];rfl)) rfl (wj _ _ _)
theorem rK {tt:Tf}{te:Ef}{st:Sto}{row:Int} (r0:0<=row) (ht:tt=bR dEq (iOp rp (iOp pL (iV 1) (iV 0)) (iC (.int 1))) (iC (.int 1))) (he:te=iV 0) {t:List Int} (h0:∀ k ∈ t,0<=k) :
  lcI (.nm 0) tt te [none,some (.d (.int row))] (t.map D.int) st=some ((t.filter λk=>onI row k==1).map D.int,st):=by
 subst ht;subst he
 have:=dX (g:=.nm 0) (tt:=bR dEq (iOp rp (iOp pL (iV 1) (iV 0)) (iC (.int 1))) (iC (.int 1))) (te:=iV 0) (env:=[none,some (.d (.int row))]) (st:=st) (λd=>match d with | .int k=>onI row k==1 | _=>false) id (ds:=t.map D.int) λd hd=>by
  obtain⟨k,hk,rfl⟩:=qaB.mp hd
  exact⟨_,rfl,Ct r0 (h0 k hk),λ_=>rfl⟩
 rw [this,qdo,qaJ]
 rfl
theorem sB {st:Sto}{b:Bool}{t:List Int}{row:Int} (r0:0<=row) (h0:∀ k ∈ t,0<=k) (hl:t.length<=1000):m__law_term [.d (.str (aF b)),.d (aj t),.d (.int row)] st=some (.d (.int (cq b t row)),st):=by
 have key:=rK (tt:=eQ) (te:=eN) (st:=st) r0 rfl rfl h0
 have hz:(t.map D.int).length<=1000000:=by rw [qai];lia
 have hln:dn st [.d (.lst ((t.filter λk=>onI row k==1).map D.int))]=some (.int (cH row t)):=by
  show some (D.int (((t.filter λk=>onI row k==1).map D.int).length:Nat))=_
  rw [qai,gc]
 have hln2:dn st [.d (aj t)]=some (.int (t.length:Int)):=by
  show some (D.int ((t.map D.int).length:Nat))=_
  rw [qai]
 have kb:=nt b
 generalize (t.filter λk=>onI row k==1).map D.int=L at key hln
 have s1:bY (.nm 3) (iCB dn (ae (aH (iLc 1 [2] (aW (iV 1)) (.nm 0) eQ eN)) ak)) [some (.d (.str (aF b))),some (.d (aj t)),some (.d (.int row)),none] st=some (.nx [some (.d (.str (aF b))),some (.d (aj t)),some (.d (.int row)),some (.d (.int (cH row t)))] st):=
  bV (bA (ag (aP (cA (ng rfl) hz key)) rfl) hln)
 refine bW (n:=4) (k:=3) (b:=b__law_term) rfl (aG s1 (bN ?_))
 cases b with
 | true=>
  refine xW (bP (x:=.d (.str (aF true))) rfl rfl (by rw [vN,kb])) (bA (ag (ar rfl (bA (ag rfl rfl) hln2) (wj _ _ _)) rfl) ?_)
  show some (D.int (if (cH row t==(t.length:Int))=true then 1 else 0))=_
  simp only [cq,if_true,beq_iff_eq]
 | false=>
  refine x8 (bP (x:=.d (.str (aF false))) rfl rfl (by rw [vN,kb])) (ar (x:=.d (.int 1)) (y:=.d (.int (2*(cH row t % 2)))) rfl (ar rfl (ar rfl rfl (Aa _ (by decide))) (wf _ (kn (by decide)))) ?_)
  show some (D.int (1 - 2*(cH row t % 2)))=_
  simp only [cq,qap,if_false]
  congr 2
  split<;>lia
theorem qt {st:Sto}{b:Bool}{ps:List Prt}{row:Int} (r0:0<=row) (hp:∀ p ∈ ps,Bk p) (hl:ps.length<=1000):m__law_value [.d (aX (aF b) ps),.d (.int row)] st=some (.d (.int (bE b ps row)),st):=by
 have key:lcI (.tp [0,1]) dg gj [none,none,some (.d (aX (aF b) ps)),some (.d (.int row))] (ps.map au) st=some (ps.map λp=>.int (p.2*cq b p.1 row),st):=iT _ λp hm=>by
  refine⟨_,rfl,?_⟩
  have e:=sB (st:=st) (b:=b) r0 (λk hk=>(Bt (hp p hm) k hk).1) (qaQ (ug (hp p hm)) (by decide))
  have km:=Dz b p.1 row p.2
  unfold aX
  generalize ps.map au=PP
  generalize aF b=kd at e ⊢
  generalize aj p.1=tt at e ⊢
  exact ar rfl (aK (ag (ar rfl rfl (show atI [D.str kd,.tup PP] 0=_ from rT _ _)) (ag rfl (ag rfl rfl))) e) (wf _ km)
 have hs:aE (ps.map λp=>.int (p.2*cq b p.1 row))=some (ps.map λp=>p.2*cq b p.1 row):=by
  have:=bJ (ps.map λp=>p.2*cq b p.1 row)
  rw [qaJ] at this;exact this
 have hz:(ps.map au).length<=1000000:=by rw [qai];lia
 unfold bE
 generalize ps.map (λp=>p.2*cq b p.1 row)=L at hs ⊢
 generalize (ps.map λp=>D.int (p.2*cq b p.1 row))=LD at key hs
 unfold aX at key ⊢
 generalize ps.map au=PP at key hz ⊢
 generalize aF b=kd at key ⊢
 have hsm:zo st [.d (.lst LD)]=some (.int L.sum):=by
  show (aE LD).map (λns=>D.int ns.sum)=_
  rw [hs];rfl
 exact bW (n:=2) (k:=2) (b:=b__law_value) rfl (bN (bA (ag (aP (cA (ng (ar rfl rfl (show atI [D.str kd,.tup PP] 1=_ from BA _ _ _))) hz key)) rfl) hsm))
noncomputable def bt (n a:Nat):List Int:=((List.range n).map λk:Nat=>(k:Int)).filter λk=>onI (a:Int) k==1
theorem Bd:((List.range 7).all λn=>aT ((List.range (2 ^ n)).map (bt n))==eO n)=true:=by decide +kernel
theorem Ap {n:Nat} (hn:n<=6):aT ((List.range (2 ^ n)).map (bt n))=eO n:=eq_of_beq (qaw.mp Bd n (qaP.mpr (by lia)))
theorem iZ (n:Nat):eu 0 n=((List.range n).map λk:Nat=>(k:Int)).map D.int:=by
 unfold eu
 rw [qaJ]
 exact qa5 λk _=>by show D.int (0+(k:Int))=D.int k;rw [qdC]
theorem A8 {n a:Nat}:(bt n a).length<=n:=by
 unfold bt
 refine qaQ (qde _ _) ?_
 rw [qai,qbu];exact qan _
theorem x6 {st:Sto}{n:Nat} (hn:n<=6):m__law_terms [.d (.int n),.d (.int n)] st=some (.d (.lst ((eO n).map aj)),st):=by
 obtain⟨q,hq,q1,_,q2⟩:=Ab (n:=(n:Int)) (by lia) (by lia)
 rw [qaX] at q1 q2
 have hq0:0<=q:=by have:0 < 2 ^ n:=qit (by decide);lia
 have k1:lcI (.nm 0) dg er [none,some (.d (.int n))] (eu 0 (2 ^ n)) st=some (((List.range (2 ^ n)).map (bt n)).map aj,st):=by
  have:=gK (g:=.nm 0) (te:=er) (env:=[none,some (.d (.int n))]) (st:=st) (λd=>match d with | .int a=>aj (bt n a.toNat) | d=>d) (ds:=eu 0 (2 ^ n)) λd hd=>by
   obtain⟨i,hi⟩:=qcF hd
   obtain⟨rfl,_⟩:=fm hi
   refine⟨_,rfl,?_⟩
   have kk:=rK (tt:=gm) (te:=fZ) (st:=st) (row:=(i:Int)) (by lia) rfl rfl (t:=(List.range n).map λk:Nat=>(k:Int)) (λk hk=>by
    obtain⟨j,_,rfl⟩:=qaB.mp hk;lia)
   rw [<-iZ] at kk
   exact bA (ag (aP (cA (fE rfl (by lia) (by lia) (qaX n)) (by rw [cG];lia) kk)) rfl) rfl
  rw [this,iZ,qaJ,qaJ,qaJ]
  rfl
 have hlen:(((List.range (2 ^ n)).map (bt n)).map aj).length<=64:=by rw [qai,qai,qbu];exact q2
 have k2:lcI (.nm 0) cT cZ [none,some (.d (.int n))] (((List.range (2 ^ n)).map (bt n)).map aj) st=some (((List.range (2 ^ n)).map (bt n)).map aj,st):=by
  have:=dX (g:=.nm 0) (tt:=cT) (te:=cZ) (env:=[none,some (.d (.int n))]) (st:=st) (λ_=>true) id (ds:=((List.range (2 ^ n)).map (bt n)).map aj) λd hd=>by
   obtain⟨t,ht,rfl⟩:=qaB.mp hd
   obtain⟨a,_,rfl⟩:=qaB.mp ht
   refine⟨_,rfl,?_,λ_=>rfl⟩
   have hb:=A8 (n:=n) (a:=a)
   refine bP (x:=.d (.int ((bt n a).length:Int))) (bA (ag rfl rfl) (by show some (D.int (((bt n a).map D.int).length:Nat))=_;rw [qai])) rfl (Dq _ (decide_eq_true (by lia)))
  rw [this,qgv.mpr (λ_ _=>rfl),qc6]
 have hs:kI st [.d (.lst (((List.range (2 ^ n)).map (bt n)).map aj))]=some ((eO n).map aj):=by
  show (if (((List.range (2 ^ n)).map (bt n)).map aj).length<=64 then qS (((List.range (2 ^ n)).map (bt n)).map aj) else none)=_
  rw [if_pos hlen,rc,Ap hn]
 generalize ((List.range (2 ^ n)).map (bt n)).map aj=LL at k1 k2 hlen hs
 generalize (eO n).map aj=AA at hs ⊢
 have hcl:iCL kI (ae (aH (iLc 1 [1] (aW (iV 2)) (.nm 0) cT cZ)) ak) [some (.d (.int n)),some (.d (.int n)),some (.d (.lst LL))] st=some (AA,st):=by
  have q:=ag (b:=ak) (aP (cA (k:=1) (js:=[1]) (env:=[some (.d (.int n)),some (.d (.int n)),some (.d (.lst LL))]) (ji (f:=iV 2) (st:=st) rfl) (by lia) k2)) rfl
  simp only [iCL,q,qag,hs,qaC]
 exact bW (n:=3) (k:=2) (b:=b__law_terms) rfl (aG (bV (i:=2) (aP (cA (fE (ar rfl rfl (hq _)) hq0 (by lia) q1) (by rw [cG];lia) k1))) (bN (aP hcl)))
end Own
end
section
set_option maxHeartbeats 1000000
namespace Own
open PySem L2
theorem fL (k:List Int) (d:D) (r:List (List Int×D)) (t:List Int):vM ((k,d)::r) t=if k=t then some d else vM r t:=by
 unfold vM
 by_cases e:k=t
 ·rw [qdY (by simpa using e),if_pos e];rfl
 ·rw [qdZ (by simpa using e),if_neg e]
theorem sR (kvs:List (List Int×D)) (k:List Int):(kvs.any λp=>decide (p.1=k))=decide (k ∈ kvs.map Prod.fst):=by
 induction kvs with
 | nil=>rfl
 | cons p r ih=>
  rw [qbU,ih,qaj]
  by_cases e:p.1=k
  ·simp [e]
  ·have:¬ k=p.1:=λz=>e z.symm
   simp [e,this]
theorem pk (kvs:List (List Int×D)) (k:List Int) (d:D):(jW kvs k d).map Prod.fst=if k ∈ kvs.map Prod.fst then kvs.map Prod.fst else kvs.map Prod.fst++[k]:=by
 unfold jW
 rw [sR]
 by_cases h:k ∈ kvs.map Prod.fst
 ·rw [if_pos (decide_eq_true h),if_pos h,qaJ]
  refine qa5 λp _=>?_
  show (if p.1=k then (p.1,d) else p).1=p.1
  split<;>rfl
 ·rw [if_neg (by simpa using h),if_neg h,qbm];rfl
theorem oO (k:List Int) (d:D) (j:List Int):∀ kvs:List (List Int×D),k ∈ kvs.map Prod.fst->vM (kvs.map λp=>if p.1=k then (p.1,d) else p) j=if j=k then some d else vM kvs j
 | [],h=>by cases h
 | (k',d')::r,h=>by
  rw [qaj]
  by_cases e:k'=k
  ·rw [if_pos e,fL,fL]
   subst e
   by_cases ej:k'=j
   ·rw [if_pos ej,if_pos ej.symm]
   ·rw [if_neg ej,if_neg (λz=>ej z.symm),if_neg ej]
    by_cases hm:k' ∈ r.map Prod.fst
    ·rw [oO k' d j r hm,if_neg (λz=>ej z.symm)]
    ·have:(r.map λp=>if p.1=k' then (p.1,d) else p)=r:=by
      conv=>rhs;rw [<-qc6 r]
      refine qa5 λp hp=>?_
      rw [if_neg (λz=>hm (by rw [<-z];exact qbL hp))];rfl
     rw [this]
  ·rw [if_neg e,fL,fL]
   rw [qaj,qaz] at h
   have hm:k ∈ r.map Prod.fst:=h.resolve_left λz=>e z.symm
   rw [oO k d j r hm]
   by_cases ej:k'=j
   ·rw [if_pos ej,if_pos ej,if_neg (λz=>e (ej.trans z))]
   ·rw [if_neg ej,if_neg ej]
theorem wd (k:List Int) (d:D) (j:List Int):∀ kvs:List (List Int×D),k ∉ kvs.map Prod.fst->vM (kvs++[(k,d)]) j=if j=k then some d else vM kvs j
 | [],_=>by
  show vM [(k,d)] j=_
  rw [fL]
  by_cases e:k=j
  ·rw [if_pos e,if_pos e.symm]
  ·rw [if_neg e,if_neg (λz=>e z.symm)]
 | (k',d')::r,h=>by
  rw [qaj,qaz,not_or] at h
  rw [qb5,fL,fL,wd k d j r h.2]
  by_cases ej:k'=j
  ·rw [if_pos ej,if_pos ej,if_neg (λz=>h.1 (z.symm.trans ej.symm))]
  ·rw [if_neg ej,if_neg ej]
theorem Ao (kvs:List (List Int×D)) (k:List Int) (d:D) (j:List Int):vM (jW kvs k d) j=if j=k then some d else vM kvs j:=by
 unfold jW
 rw [sR]
 by_cases h:k ∈ kvs.map Prod.fst
 ·rw [if_pos (decide_eq_true h)];exact oO k d j kvs h
 ·rw [if_neg (by simpa using h)];exact wd k d j kvs h
noncomputable def ba (L:List Prt) (t:List Int):Int:=((L.filter λp=>decide (p.1=t)).map Prod.snd).sum
theorem sN (L:List Prt) (p:Prt) (t:List Int):ba (L++[p]) t=ba L t+if p.1=t then p.2 else 0:=by
 unfold ba
 rw [List.filter_append,qbm,qg0]
 congr 1
 by_cases e:p.1=t<;>simp [e]
theorem sA {L:List Prt}{t:List Int} (h:t ∉ L.map Prod.fst):ba L t=0:=by
 unfold ba
 rw [List.filter_eq_nil_iff.mpr]
 ·rfl
 ·intro p hp e
  exact h (by rw [<-of_decide_eq_true e];exact qbL hp)
structure GK (kvs:List (List Int×D)) (L:List Prt):Prop where
 nd:(kvs.map Prod.fst).Nodup
 mem:∀ t,t ∈ kvs.map Prod.fst↔t ∈ L.map Prod.fst
 val:∀ t,vM kvs t=if t ∈ L.map Prod.fst then some (.int (ba L t)) else none
theorem GK.nil:GK [] []:=⟨qek,λt=>Iff.rfl,λt=>by simp [vM]⟩
theorem GK.getD {kvs:List (List Int×D)}{L:List Prt} (G:GK kvs L) (t:List Int):(vM kvs t).getD (.int 0)=.int (ba L t):=by
 rw [G.val t]
 by_cases h:t ∈ L.map Prod.fst
 ·rw [if_pos h];rfl
 ·rw [if_neg h,sA h];rfl
theorem GK.put {kvs:List (List Int×D)}{L:List Prt} (G:GK kvs L) (p:Prt):GK (jW kvs p.1 (.int (ba L p.1+p.2))) (L++[p]):=by
 refine⟨?_,λt=>?_,λt=>?_⟩
 ·rw [pk]
  split
  ·exact G.nd
  ·rename_i h
   rw [qdI]
   exact⟨G.nd,by simp,λa ha b hb e=>h (by rw [qay] at hb;rw [<-hb,<-e];exact ha)⟩
 ·rw [pk,qbm,qbx]
  split
  ·rename_i h
   rw [G.mem t]
   refine⟨.inl,λz=>z.elim id λz=>?_⟩
   have:t=p.1:=by simpa using z
   rw [this];exact (G.mem p.1).mp h
  ·rw [qbx,G.mem t];rfl
 ·rw [Ao,sN,G.val t,qbm]
  by_cases e:t=p.1
  ·subst e
   rw [if_pos rfl,if_pos rfl,if_pos (qat _ (by simp))]
  ·have hs:(ba L t+if p.1=t then p.2 else 0)=ba L t:=by rw [if_neg (λz=>e z.symm),qgp]
   rw [if_neg e,hs]
   have:(t ∈ List.map Prod.fst L++List.map Prod.fst [p])↔t ∈ L.map Prod.fst:=by simp [e]
   by_cases h:t ∈ L.map Prod.fst
   ·rw [if_pos h,if_pos (this.mpr h)]
   ·rw [if_neg h,if_neg (λz=>h (this.mp z))]
theorem tX {α:Type} [DecidableEq α]:∀ {l m:List α},l.Nodup->(∀ x ∈ l,x ∈ m)->l.length<=m.length
 | [],m,_,_=>qaI _
 | x::l,m,hn,hs=>by
  have hn':=qbs.mp hn
  have hx:=hs x qah
  have:=tX (l:=l) (m:=m.erase x) hn'.2 λy hy=>(qgm (λe=>hn'.1 (by rw [<-e];exact hy))).mpr (hs y (qaf _ hy))
  rw [qfO hx] at this
  have hp:0 < m.length:=qf6 hx
  rw [qaq];lia
noncomputable def ksI (m:Nat):List Int:=(al m).map λk=>((k:Nat):Int)
theorem Ai (m:Nat):(al m).map (λk=>D.int ((k:Nat):Int))=(ksI m).map D.int:=by unfold ksI;rw [qaJ];rfl
theorem iH {m:Nat}{z:Int}:z ∈ ksI m↔∃ k:Nat,z=k/\k < 6/\m.testBit k=true:=by
 unfold ksI
 rw [qaB]
 exact⟨λ⟨k,h,e⟩=>⟨k,e.symm,(mo.mp h).1,(mo.mp h).2⟩,λ⟨k,e,h1,h2⟩=>⟨k,mo.mpr ⟨h1,h2⟩,e.symm⟩⟩
theorem oK (m:Nat):Trm 6 (ksI m):=by
 refine⟨?_,λk hk=>?_⟩
 ·unfold ksI al
  rw [qbV]
  have:(List.range 6).Pairwise (· < ·):=qdX
  exact (this.filter _).imp λ{a b} h=>by lia
 ·obtain⟨j,rfl,h,_⟩:=iH.mp hk
  lia
theorem wW (l:List Int):aq l=d7 (l.map Int.toNat):=by unfold aq d7;rw [List.foldl_map]
theorem bH {t:List Int} (h:Trm 6 t) (j:Nat):(aq t).testBit j=decide ((j:Int) ∈ t):=by
 rw [wW,d0]
 apply decide_eq_decide.mpr
 rw [qaB]
 constructor
 ·rintro⟨z,hz,e⟩
  have:=(h.2 z hz).1
  have:(j:Int)=z:=by lia
  rw [this];exact hz
 ·intro hj
  exact⟨j,hj,by simp⟩
theorem uO {t:List Int} (h:Trm 6 t):aq t < 64:=by
 refine qfN (n:=6) _ λj hj=>?_
 rw [bH h,decide_eq_false_iff_not]
 intro z
 have:=(h.2 _ z).2
 lia
theorem cE {t:List Int} (h:Trm 6 t):ksI (aq t)=t:=by
 have hm:∀ z,z ∈ ksI (aq t)↔z ∈ t:=λz=>by
  rw [iH]
  constructor
  ·rintro⟨k,rfl,_,hk⟩
   rw [bH h] at hk
   exact of_decide_eq_true hk
  ·intro hz
   have h1:=h.2 z hz
   obtain⟨k,rfl⟩:=qcn h1.1
   exact⟨k,rfl,by lia,by rw [bH h];exact decide_eq_true hz⟩
 have hn:∀ {l:List Int},l.Pairwise (· < ·)->l.Nodup:=λhl=>hl.imp λ{a b} hab e=>by lia
 refine qds (le:=(· < ·)) (λa b _ _ h1 h2=>by lia) (oK _).1 h.1 ?_
 exact (qfq (hn (oK _).1) (hn h.1)).mpr hm
theorem iz {l:List (List Int)} (hn:l.Nodup) (h:∀ t ∈ l,Trm 6 t):l.length<=64:=by
 have:=tX (m:=(List.range 64).map ksI) hn λt ht=>qaB.mpr ⟨aq t,qaP.mpr (uO (h t ht)),cE (h t ht)⟩
 rw [qai,qbu] at this
 exact this
noncomputable def ltL (a b:List Int):Prop:=bI a b=true
theorem AJ {a b:List Int} (h:leL a b) (hne:a≠b):ltL a b:=by
 unfold ltL
 cases e:bI a b with
 | true=>rfl
 | false=>exact absurd (gw a b e h) hne
theorem nc {l:List (List Int)} (hn:l.Nodup):(aT l).Pairwise ltL:=by
 have h2:(aT l).Nodup:=(bi l).nodup_iff.mpr hn
 exact (cg l).imp₂ (λa b h1 h2=>AJ h1 h2) h2
noncomputable def eB (ks:List (List Int)) (L:List Prt):List Prt:=(ks.filter λt=>decide (ba L t≠0)).map λt=>(t,ba L t)
theorem y9 (s:Sto) (a:Int):dNe s (.d (.int a)) (.d (.int 0))=some (.bl (decide (a≠0))):=by
 show some (D.bl (!(a==0)))=_
 by_cases h:a=0<;>simp [h]
theorem zP {st:Sto}{kd:Str}{n:Nat}{kvs:List (List Int×D)}{L:List Prt} (hm:mgt st n=some kvs) (G:GK kvs L) (h6:∀ p ∈ L,Trm 6 p.1) :
  m_poly_from [.d (.str kd),.h n] st=some (.d (aX kd (eB (aT (kvs.map Prod.fst)) L)),st):=by
 have htr:∀ t ∈ kvs.map Prod.fst,Trm 6 t:=λt ht=>by
  obtain⟨p,hp,rfl⟩:=qaB.mp ((G.mem t).mp ht)
  exact h6 p hp
 have hlen:kvs.length<=64:=by
  have:=iz G.nd htr
  rw [qai] at this;exact this
 have hsl:(aT (kvs.map Prod.fst)).length<=64:=by rw [(bi _).length_eq,qai];exact hlen
 have hmem:∀ t ∈ aT (kvs.map Prod.fst),vM kvs t=some (.int (ba L t)):=λt ht=>by
  rw [G.val t,if_pos ((G.mem t).mp ((bi _).mem_iff.mp ht))]
 have mix:∀ t ∈ aT (kvs.map Prod.fst),uN (iV 1) (iV 0) [some (.d (aj t)),some (.h n)] st=some (.d (.int (ba L t)),st):=λt ht=>by
  have e1:aE (t.map D.int)=some t:=bJ t
  have e2:=hmem t ht
  simp only [uN,iV,aj,qaO,qbl,qaC,qag,hm,e1,e2]
 have key:=dX (g:=.nm 0) (tt:=gS) (te:=g8) (env:=[none,some (.h n)]) (st:=st) (λd=>match d with | .tup ds=>(match aE ds with | some t=>decide (ba L t≠0) | none=>false) | _=>false) (λd=>match d with | .tup ds=>(match aE ds with | some t=>au (t,ba L t) | none=>d) | d=>d) (ds:=(aT (kvs.map Prod.fst)).map aj) λd hd=>by
  obtain⟨t,ht,rfl⟩:=qaB.mp hd
  have e1:aE (t.map D.int)=some t:=bJ t
  refine⟨_,rfl,?_,λ_=>?_⟩
  ·show _=some ((match aE (t.map D.int) with | some t=>decide (ba L t≠0) | none=>false),st)
   rw [e1]
   exact bP (mix t ht) rfl (y9 _ _)
  ·show _=some (W.d (match aE (t.map D.int) with | some t=>au (t,ba L t) | none=>aj t),st)
   rw [e1]
   exact cY (ag rfl (ag (mix t ht) rfl)) rfl (by show 2<=1000;decide)
 have e:((((aT (kvs.map Prod.fst)).map aj).filter (λd=>match d with | .tup ds=>(match aE ds with | some t=>decide (ba L t≠0) | none=>false) | _=>false)).map (λd=>match d with | .tup ds=>(match aE ds with | some t=>au (t,ba L t) | none=>d) | d=>d))=(eB (aT (kvs.map Prod.fst)) L).map au:=by
  unfold eB
  rw [qdo,qaJ,qaJ]
  have e1:∀ t:List Int,aE (t.map D.int)=some t:=bJ
  congr 1
  ·funext t
   show (match aE (t.map D.int) with | some t=>au (t,ba L t) | none=>aj t)=au (t,ba L t)
   rw [e1]
  ·refine List.filter_congr λt _=>?_
   show (match aE (t.map D.int) with | some t=>decide (ba L t≠0) | none=>false)=_
   rw [e1]
 rw [e] at key
 have hso:jA (iV 1) [some (.d (.str kd)),some (.h n)] st=some ((aT (kvs.map Prod.fst)).map aj,st):=by
  simp only [jA,iV,qaO,qbl,qaC,qag,hm,hlen,if_true]
 have hit:aW (aH (jA (iV 1))) [some (.d (.str kd)),some (.h n)] st=some ((aT (kvs.map Prod.fst)).map aj,st):=by
  simp only [aW,aH,hso,qaC,qag]
 have hz:((aT (kvs.map Prod.fst)).map aj).length<=1000000:=by rw [qai];lia
 unfold aX
 exact bW (n:=2) (k:=2) (b:=b_poly_from) rfl (bN (cY (ag rfl (ag (bA (ag (aP (cA hit hz key)) rfl) rfl) rfl)) rfl (by show 2<=1000;decide)))
theorem qo (st:Sto) (kvs:List (List Int×D)):mgt (st++[.m kvs]) st.length=some kvs:=by
 unfold mgt
 rw [qa1 (qan _),qd8];rfl
theorem xH {st:Sto}{n:Nat}{ds:List D} (h:lg st n=some ds) (u:Sto):lg (st++u) n=some ds:=by
 have hn:st[n]?=some (.l ds):=ue h
 have hlt:=(qax.mp hn).1
 unfold lg
 rw [qaM hlt,hn]
theorem wc {st:Sto}{kvs:List (List Int×D)}{L:List Prt}{a0 a1:Option W}{p:Prt} (G:GK kvs L) (hl:kvs.length < 1000) :
  bD [a0,a1,some (.h st.length),some (.d (aj p.1)),some (.d (.int p.2))] (st++[.m kvs])=some (.nx [a0,a1,some (.h st.length),some (.d (aj p.1)),some (.d (.int p.2))] (st++[.m (jW kvs p.1 (.int (ba L p.1+p.2)))])):=by
 have e1:aE (p.1.map D.int)=some p.1:=bJ p.1
 have e2:=qo st kvs
 have e3:=G.getD p.1
 have e4:(st++[C.m kvs]).set st.length (.m (jW kvs p.1 (.int (ba L p.1+p.2))))=st++[.m (jW kvs p.1 (.int (ba L p.1+p.2)))]:=by
  rw [qf9 _ _ (qan _),qd8];rfl
 have g:qY (iV 2) (iV 3) (iC (.int 0)) [a0,a1,some (.h st.length),some (.d (aj p.1)),some (.d (.int p.2))] (st++[.m kvs])=some (.d (.int (ba L p.1)),st++[.m kvs]):=by
  simp only [qY,iV,iC,aj,qaO,qbl,qaC,qag,e1,e2,e3]
 have g2:=ar (g:=d3) (b:=iV 4) (y:=.d (.int p.2)) (d:=.int (ba L p.1+p.2)) g rfl rfl
 simp only [aj] at g2 ⊢
 simp only [bD,tB,g2,iV,qaO,qbl,qaC,qag,e1,e2,hl,if_true,e4]
noncomputable def oy (st:Sto) (w:W) (L:List Prt):Prop:=w=.d (.tup (L.map au))\/w=.d (.lst (L.map au))\/∃ n,w=.h n/\lg st n=some (L.map au)
theorem Bm {kvs:List (List Int×D)}{L:List Prt} (G:GK kvs L) (h6:∀ p ∈ L,Trm 6 p.1):kvs.length<=64:=by
 have:=iz G.nd λt ht=>by
  obtain⟨p,hp,rfl⟩:=qaB.mp ((G.mem t).mp ht)
  exact h6 p hp
 rw [qai] at this;exact this
theorem yx {st:Sto}{kd:Str}{w:W}{L:List Prt} (hw:oy st w L) (h6:∀ p ∈ L,Trm 6 p.1) :
  ∃ ks:List (List Int),ks.Pairwise ltL/\ks.Nodup/\(∀ t,t ∈ ks↔t ∈ L.map Prod.fst)/\m_gathered [.d (.str kd),w] st=some (.d (aX kd (eB ks L)),st):=by
 have step:∀ (i:Nat) (d:D) (env:Ev) (s:Sto),(L.map au)[i]?=some d->(∃ o3 o4 kvs,env=[some (.d (.str kd)),some w,some (.h st.length),o3,o4]/\s=st++[.m kvs]/\GK kvs (L.take i))->
   ∃ e1 e2 s2,eX (.tp [3,4]) (.d d) env=some e1/\(bD e1 s=some (.nx e2 s2)\/bD e1 s=some (.ct e2 s2))/\∃ o3 o4 kvs,e2=[some (.d (.str kd)),some w,some (.h st.length),o3,o4]/\s2=st++[.m kvs]/\GK kvs (L.take (i+1)):=by
  rintro i d env s hd ⟨o3,o4,kvs,rfl,rfl,G⟩
  obtain⟨p,hp,rfl⟩:=ny hd
  have hlen:=Bm G λq hq=>h6 q (qgl hq)
  have htk:L.take (i+1)=L.take i++[p]:=by rw [qc5,hp];rfl
  exact⟨_,_,_,rfl,.inl (wc G (by lia)),_,_,_,rfl,rfl,by rw [htk];exact G.put p⟩
 have fin:∀ (kvs:List (List Int×D)) (o3 o4:Option W),GK kvs L->o8 (iV 1) (.tp [3,4]) bD [some (.d (.str kd)),some w,some (.h st.length),none,none] (st++[.m []])=some (.nx [some (.d (.str kd)),some w,some (.h st.length),o3,o4] (st++[.m kvs]))->
   ∃ ks:List (List Int),ks.Pairwise ltL/\ks.Nodup/\(∀ t,t ∈ ks↔t ∈ L.map Prod.fst)/\m_gathered [.d (.str kd),w] st=some (.d (aX kd (eB ks L)),st):=by
  intro kvs o3 o4 G hF
  refine⟨aT (kvs.map Prod.fst),nc G.nd,(bi _).nodup_iff.mpr G.nd,λt=>((bi _).mem_iff).trans (G.mem t),?_⟩
  have hf:=zP (st:=st++[.m kvs]) (kd:=kd) (qo st kvs) G h6
  have hq:=iJ (n:=5) (k:=2) (b:=b_gathered) (ws:=[.d (.str kd),w]) (st:=st) (s:=st++[.m kvs]) (x:=aX kd (eB (aT (kvs.map Prod.fst)) L)) rfl
   (aG (bV (w:=.h st.length) (s:=st++[C.m []]) rfl) (aG hF (bN (aK rfl hf))))
  have ht:(st++[C.m kvs]).take st.length=st:=by rw [qgZ];rfl
  rw [ht] at hq
  exact hq
 rcases hw with rfl | rfl | ⟨n,rfl,hn⟩
 ·obtain⟨e',s',hF,o3,o4,kvs,rfl,rfl,G⟩:=dE (g:=.tp [3,4]) (body:=bD) (ds:=L.map au) (λi env s=>∃ o3 o4 kvs,env=[some (.d (.str kd)),some (.d (.tup (L.map au))),some (.h st.length),o3,o4]/\s=st++[.m kvs]/\GK kvs (L.take i)) (env:=[some (.d (.str kd)),some (.d (.tup (L.map au))),some (.h st.length),none,none]) (st:=st++[.m []]) ⟨none,none,[],rfl,rfl,GK.nil⟩ step
  rw [qai,qbQ] at G
  exact fin kvs o3 o4 G hF
 ·obtain⟨e',s',hF,o3,o4,kvs,rfl,rfl,G⟩:=dE (g:=.tp [3,4]) (body:=bD) (ds:=L.map au) (λi env s=>∃ o3 o4 kvs,env=[some (.d (.str kd)),some (.d (.lst (L.map au))),some (.h st.length),o3,o4]/\s=st++[.m kvs]/\GK kvs (L.take i)) (env:=[some (.d (.str kd)),some (.d (.lst (L.map au))),some (.h st.length),none,none]) (st:=st++[.m []]) ⟨none,none,[],rfl,rfl,GK.nil⟩ step
  rw [qai,qbQ] at G
  exact fin kvs o3 o4 G hF
 ·obtain⟨e',s',hF,o3,o4,kvs,rfl,rfl,G⟩:=pU (n:=n) (all:=L.map au) (g:=.tp [3,4]) (body:=bD) (ds:=L.map au) (λi env s=>∃ o3 o4 kvs,env=[some (.d (.str kd)),some (.h n),some (.h st.length),o3,o4]/\s=st++[.m kvs]/\GK kvs (L.take i)) (env:=[some (.d (.str kd)),some (.h n),some (.h st.length),none,none]) (st:=st++[.m []]) ⟨none,none,[],rfl,rfl,GK.nil⟩ (by
   rintro i env s ⟨o3,o4,kvs,rfl,rfl,G⟩
   exact xH hn _) step
  rw [qai,qbQ] at G
  refine fin kvs o3 o4 G ?_
  have:=xH hn [C.m []]
  simp only [o8,iV,qaO,qbl,qaC,qag,this]
  exact hF
theorem iq {α:Type}:∀ l:List α,(l.map λ_=>(0:Int)).sum=0
 | []=>rfl
 | x::l=>by rw [qaj,qaZ,iq l];rfl
theorem rn (p:Prt) (L:List Prt) (t:List Int):ba (p::L) t=(if p.1=t then p.2 else 0)+ba L t:=by
 unfold ba
 rw [qcR]
 by_cases e:p.1=t
 ·rw [if_pos (decide_eq_true e),if_pos e,qaj,qaZ]
 ·rw [if_neg (by simpa using e),if_neg e,qdC]
theorem qd (f:List Int->Int) (c:Int) (t:List Int):∀ ks:List (List Int),ks.Nodup->t ∈ ks->(ks.map λk=>(if t=k then c else 0)*f k).sum=c*f t
 | [],_,h=>by cases h
 | k::ks,hn,h=>by
  have hn':=qbs.mp hn
  rw [qaj,qaZ]
  by_cases e:t=k
  ·subst e
   rw [if_pos rfl]
   have:(ks.map λk=>(if t=k then c else 0)*f k).sum=0:=by
    have:(ks.map λk=>(if t=k then c else 0)*f k)=ks.map λ_=>(0:Int):=qa5 λk hk=>by
     rw [if_neg (λz=>hn'.1 (by rw [z];exact hk)),qeb]
    rw [this,iq]
   rw [this,qgp]
  ·rw [if_neg e,qeb,qdC]
   exact qd f c t ks hn'.2 ((qaz.mp h).resolve_left e)
theorem n6 {α:Type} (f g:α->Int):∀ l:List α,(l.map λx=>f x+g x).sum=(l.map f).sum+(l.map g).sum
 | []=>rfl
 | x::l=>by rw [qaj,qaj,qaj,qaZ,qaZ,qaZ,n6 f g l];lia
theorem qy (f:List Int->Int) {ks:List (List Int)} (hn:ks.Nodup):∀ L:List Prt,(∀ p ∈ L,p.1 ∈ ks)->(ks.map λt=>ba L t*f t).sum=(L.map λp=>p.2*f p.1).sum
 | [],_=>by
  have:(ks.map λt=>ba [] t*f t)=ks.map λ_=>(0:Int):=qa5 λt _=>by show (0:Int)*_=0;rw [qeb]
  rw [this,iq];rfl
 | p::L,h=>by
  rw [qaj,qaZ,<-qy f hn L λq hq=>h q (qaf _ hq)]
  have e:(ks.map λt=>ba (p::L) t*f t)=ks.map λt=>(if p.1=t then p.2 else 0)*f t+ba L t*f t:=qa5 λt _=>by
   rw [rn,qiw]
  rw [e,n6,qd f p.2 p.1 ks hn (h p qah)]
theorem vj (f:List Int->Int) (ks:List (List Int)) (L:List Prt):((eB ks L).map λp=>p.2*f p.1).sum=(ks.map λt=>ba L t*f t).sum:=by
 unfold eB
 rw [qaJ]
 induction ks with
 | nil=>rfl
 | cons t ks ih=>
  rw [qcR]
  by_cases h:ba L t=0
  ·rw [if_neg (by simp [h]),qaj,qaZ,h,qeb,qdC];exact ih
  ·rw [if_pos (by simp [h]),qaj,qaj,qaZ,qaZ,ih];rfl
theorem xX {b:Bool}{row:Int}{ks:List (List Int)}{L:List Prt} (hn:ks.Nodup) (hm:∀ t,t ∈ ks↔t ∈ L.map Prod.fst):bE b (eB ks L) row=bE b L row:=by
 unfold bE
 rw [vj (λt=>cq b t row),qy (λt=>cq b t row) hn L λp hp=>(hm p.1).mpr (qbL hp)]
end Own
end
section
set_option maxHeartbeats 1000000
namespace Own
open PySem L2
theorem wZ (s:Sto) (a b:Str):dNe s (.d (.str a)) (.d (.str b))=some (.bl (!(a==b))):=by
 show ((eqK (.fl (.str a)) (.fl (.str b))).map λk=>D.bl (!k))=_
 rfl
theorem mS {i:Int} (h:i.natAbs < 2 ^ 200):decide (i.natAbs.log2 < 1920)=true:=by
 refine decide_eq_true ?_
 rcases Nat.eq_zero_or_pos i.natAbs with h0 | hp
 ·rw [h0];decide
 ·exact qd9 ((qiu (qa4 hp)).mpr h) (by decide)
theorem tP:∀ {t:List Int},(∀ k ∈ t,k.natAbs < 2 ^ 200)->kf (t.map D.int)=true/\oB (t.map D.int)<=2002*t.length/\nJ (t.map D.int)<=1
 | [],_=>by rw [qcw,kf,oB,nJ];exact⟨rfl,qaI _,qaI _⟩
 | k::t,h=>by
  obtain⟨a,b,c⟩:=tP (t:=t) λx hx=>h x (qaf _ hx)
  rw [qaj,kf,oB,nJ,rpD,wtD,dpD,mS (h k qah),a,qaq]
  ·exact⟨rfl,by lia,by lia⟩
  all_goals (intro _ e;cases e)
theorem lz {n:Nat}{t:List Int} (hn:n<=6) (h:Trm n t):aq t < 2 ^ n:=by
 apply qfN
 intro i hi
 rw [bH (h.mono hn)]
 exact decide_eq_false λhm=>by have:=(h.2 _ hm).2;lia
theorem wb:((List.range 7).all λn=>(List.range (2 ^ n)).all λm=>(eO n).contains (ksI m))=true:=by decide +kernel
theorem lK {n:Nat}{t:List Int} (hn:n<=6) (h:Trm n t):t ∈ eO n:=by
 have:=qaw.mp (qaw.mp wb n (qaP.mpr (by lia))) (aq t) (qaP.mpr (lz hn h))
 rw [cE (h.mono hn)] at this
 simpa using this
theorem Bw:((List.range 64).all λa=>(List.range 64).all λb=>a==b || !(hT (ksI a)==hT (ksI b)))=true:=by decide +kernel
theorem BB {t u:List Int} (ht:Trm 6 t) (hu:Trm 6 u) (h:hT t=hT u):t=u:=by
 have:=qaw.mp (qaw.mp Bw (aq t) (qaP.mpr (lz (qan 6) ht))) (aq u) (qaP.mpr (lz (qan 6) hu))
 rw [cE ht,cE hu,h,beq_self_eq_true,qa2,qdl] at this
 rw [<-cE ht,<-cE hu,eq_of_beq this]
theorem p8:∀ {ls:List (List Int)},(∀ t ∈ ls,Trm 6 t)->ls.Nodup->(ls.map hT).Nodup
 | [],_,_=>qek
 | t::ls,h,hn=>by
  have hn':=qbs.mp hn
  rw [qaj]
  refine qbs.mpr ⟨λhm=>?_,p8 (λu hu=>h u (qaf _ hu)) hn'.2⟩
  obtain⟨u,hu,e⟩:=qaB.mp hm
  exact hn'.1 (BB (h u (qaf _ hu)) (h t qah) e ▸ hu)
theorem sw {a b:List Int} (h:ltL a b):leL a b:=by
 unfold leL
 cases e:bI b a with
 | false=>rfl
 | true=>
  have:=kq a b a h e
  rw [im] at this;cases this
theorem fk {ls:List (List Int)} (h:ls.Pairwise ltL):ls.Nodup:=h.imp λ{a b} hab e=>by
 subst e
 have:bI a a=true:=hab
 rw [im] at this;cases this
theorem qV {ls:List (List Int)} (h:ls.Pairwise ltL):aT ls=ls:=db (bi ls) (cg ls) (h.imp λ{a b} hab=>sw hab)
theorem ya {f:Ef}{env:Ev}{st s:Sto}{ls:List (List Int)} (hf:f env st=some (.d (.lst (ls.map aj)),s)) (hs:ls.Pairwise ltL) (h6:∀ t ∈ ls,Trm 6 t):jy f env st=some (ls.map aj,s):=by
 have hn:=fk hs
 have hl:=iz hn h6
 simp only [jy,hf,qag,lsD,ic,hl,p8 h6 hn,and_self,if_true,qV hs]
theorem nw:∀ L:List Int,dL (L.map D.int) (L.map D.int)=true
 | []=>rfl
 | x::L=>by rw [qaj,dL,nw L];simp [eqD]
theorem mX:∀ L:List (List Int),dL (L.map aj) (L.map aj)=true
 | []=>rfl
 | x::L=>by
  have e:eqD (aj x) (aj x)=true:=by
   unfold aj
   rw [eqD];exact nw x
  rw [qaj,dL,mX L,e];rfl
theorem sY (n:Nat):∀ L:List Int,(L.map D.int).all (okD n)=true
 | []=>rfl
 | x::L=>by
  rw [qaj,qbg,sY n L]
  cases n<;>rfl
theorem ot:∀ L:List (List Int),(L.map aj).all (okD 60)=true
 | []=>rfl
 | x::L=>by
  rw [qaj,qbg,ot L]
  show ((x.map D.int).all (okD 59) && true)=true
  rw [sY];rfl
theorem zG (s:Sto) (L:List (List Int)):dEq s (.d (.lst (L.map aj))) (.d (.lst (L.map aj)))=some (.bl true):=by
 show (eqK (.ls (L.map aj)) (.ls (L.map aj))).map (λk=>D.bl k)=_
 rw [eqK,if_pos rfl,if_pos ⟨ot _,ot _⟩,mX];rfl
noncomputable def shT (t:List Int):Str:=(toP (aj t)).shown
theorem Aj {t:List Int} (s:Sto) (h:Trm 6 t):dF s [.d (aj t)]=some (.str (shT t)):=by
 have hl:=ug h
 obtain⟨a1,b1,c1⟩:=tP (t:=t) λk hk=>by
  have:=h.2 k hk
  exact qaE (show k.natAbs < 6 by lia) (by decide)
 have r1:rpD (aj t)=true:=by unfold aj;rw [rpD];exact a1
 have w1:wtD (aj t)<=16000000:=by unfold aj;rw [wtD];lia
 have d1:dpD (aj t)<=50:=by unfold aj;rw [dpD];lia
 show (if rpD (aj t)=true/\wtD (aj t)<=16000000/\dpD (aj t)<=50 then some (D.str (shT t)) else none)=_
 rw [if_pos ⟨r1,w1,d1⟩]
noncomputable def jp (n:Nat) (ps:List Prt):Prop:=(∀ p ∈ ps,Trm n p.1/\p.2≠0)/\(ps.map Prod.fst).Pairwise ltL
theorem jp.len {n:Nat}{ps:List Prt} (h:jp n ps) (hn:n<=6):ps.length<=64:=by
 have:=iz (fk h.2) λt ht=>by
  obtain⟨p,hp,rfl⟩:=qaB.mp ht
  exact (h.1 p hp).1.mono hn
 rw [qai] at this;exact this
theorem zC {x:Str}:∀ {l:List Str},x ∈ l->inD (.str x) (l.map D.str)=true:=λh=>by
 unfold inD
 rw [List.any_eq_true]
 exact⟨_,qbL h,by simp [eqD]⟩
theorem sO:∀ l:List Str,(l.map D.str).all cr=true
 | []=>rfl
 | x::l=>by rw [qaj,qbg,sO l];rfl
theorem vF (s:Sto) {x:Str}{l:List Str} (h:x ∈ l):kY s (.d (.str x)) (.d (.lst (l.map D.str)))=some (.bl false):=by
 show (if cr (.str x)=true/\(l.map D.str).all cr=true then some (D.bl (!inD (.str x) (l.map D.str))) else none)=_
 rw [if_pos ⟨rfl,sO l⟩,zC h];rfl
theorem u4 {st:Sto}{a0 a1 a2 a5:Option W}{l:List Str}{p:Prt} (h:Trm 6 p.1) (hm:shT p.1 ∈ l) (h0:p.2≠0):dh [a0,a1,a2,some (.d (.lst (l.map D.str))),some (.d (au p)),a5] st=some (.nx [a0,a1,a2,some (.d (.lst (l.map D.str))),some (.d (au p)),a5] st):=by
 have f0:(p.2==(0:Int))=false:=by simp [h0]
 have e1:=Aj st h
 have e2:=vF st hm
 unfold au
 generalize aj p.1=tt at e1 ⊢
 generalize l.map D.str=LL at e2 ⊢
 have i1:iCB ki (ae (iV 4) (ae (iC (.ty "tuple")) ak)) [a0,a1,a2,some (.d (.lst LL)),some (.d (.tup [tt,.int p.2])),a5] st=some (.d (.bl true),st):=rfl
 have n2:bR dNe (iCB dn (ae (iV 4) ak)) (iC (.int 2)) [a0,a1,a2,some (.d (.lst LL)),some (.d (.tup [tt,.int p.2])),a5] st=some (false,st):=bP (x:=.d (.int 2)) (y:=.d (.int 2)) rfl rfl (by rw [lE];rfl)
 have n3:bR kY (iCB dF (ae (iOp dIx (iV 4) (iC (.int 0))) ak)) (iV 3) [a0,a1,a2,some (.d (.lst LL)),some (.d (.tup [tt,.int p.2])),a5] st=some (false,st):=bP (bA (ag (ar rfl rfl (ix0 _ _ _)) rfl) e1) rfl e2
 have j1:iCB ki (ae (iOp dIx (iV 4) (iC (.int 1))) (ae (iC (.ty "int")) ak)) [a0,a1,a2,some (.d (.lst LL)),some (.d (.tup [tt,.int p.2])),a5] st=some (.d (.bl true),st):=bA (ag (ar rfl rfl (ix1 _ _ _ _)) rfl) rfl
 have j2:iCB ki (ae (iOp dIx (iV 4) (iC (.int 1))) (ae (iC (.ty "bool")) ak)) [a0,a1,a2,some (.d (.lst LL)),some (.d (.tup [tt,.int p.2])),a5] st=some (.d (.bl false),st):=bA (ag (ar rfl rfl (ix1 _ _ _ _)) rfl) rfl
 have j3:bR dEq (iOp dIx (iV 4) (iC (.int 1))) (iC (.int 0)) [a0,a1,a2,some (.d (.lst LL)),some (.d (.tup [tt,.int p.2])),a5] st=some (false,st):=bP (ar rfl rfl (ix1 _ _ _ _)) rfl (by rw [lU,f0])
 exact aG (lT (jF (nz (rg i1)) (jF n2 n3)) rfl) (lT (jF (nz (rg j1)) (jF (rg j2) j3)) rfl)
theorem vH {st:Sto}{b:Bool}{n:Nat}{ps:List Prt} (hn:n<=6) (h:jp n ps):m__law_is_poly [.d (aX (aF b) ps),.d (.str (aF b)),.d (.int n)] st=some (.d (.bl true),st):=by
 have hlen:=h.len hn
 obtain⟨h1,h2⟩:=h
 have ht:=x6 (st:=st) hn
 have kE:lcI (.nm 0) dg dj [none] ((eO n).map aj) st=some (((eO n).map shT).map D.str,st):=by
  have:=gK (g:=.nm 0) (te:=dj) (env:=[none]) (st:=st) (λd=>match d with | .tup ds=>(match aE ds with | some t=>D.str (shT t) | none=>d) | d=>d) (ds:=(eO n).map aj) λd hd=>by
   obtain⟨t,ht,rfl⟩:=qaB.mp hd
   refine⟨_,rfl,?_⟩
   have e1:aE (t.map D.int)=some t:=bJ t
   show _=some (W.d (match aE (t.map D.int) with | some t=>D.str (shT t) | none=>aj t),st)
   rw [e1]
   exact bA (ag rfl rfl) (Aj st ((xf ht).mono hn))
  rw [this,qaJ,qaJ]
  congr 2
  refine qa5 λt _=>?_
  have e1:aE (t.map D.int)=some t:=bJ t
  show (match aE (t.map D.int) with | some t=>D.str (shT t) | none=>aj t)=_
  rw [e1];rfl
 obtain⟨e',s',hF,o,rfl,rfl⟩:=dE (g:=.nm 4) (body:=dh) (ds:=ps.map au) (λi env s=>∃ o,env=[some (.d (aX (aF b) ps)),some (.d (.str (aF b))),some (.d (.int n)),some (.d (.lst (((eO n).map shT).map D.str))),o,none]/\s=st)
  (env:=[some (.d (aX (aF b) ps)),some (.d (.str (aF b))),some (.d (.int n)),some (.d (.lst (((eO n).map shT).map D.str))),none,none]) (st:=st) ⟨none,rfl,rfl⟩ (by
  rintro i d env s hd ⟨o,rfl,rfl⟩
  rw [qaW,qae] at hd
  obtain⟨p,hp,rfl⟩:=hd
  have:=h1 p (qbI hp)
  exact⟨_,_,_,rfl,.inl (u4 (this.1.mono hn) (qbL (lK hn this.1)) this.2),_,rfl,rfl⟩)
 have kT:lcI (.nm 0) dg dl [none] (ps.map au) s'=some ((ps.map Prod.fst).map aj,s'):=by
  have:=gK (g:=.nm 0) (te:=dl) (env:=[none]) (st:=s') (λd=>match d with | .tup (t::_)=>t | d=>d) (ds:=ps.map au) λd hd=>by
   obtain⟨p,hp,rfl⟩:=qaB.mp hd
   exact⟨_,rfl,ar rfl rfl (ix0 _ _ _)⟩
  rw [this,qaJ,qaJ];rfl
 have h6:∀ t ∈ ps.map Prod.fst,Trm 6 t:=λt ht=>by
  obtain⟨p,hp,rfl⟩:=qaB.mp ht
  exact (h1 p hp).1.mono hn
 have hz:(ps.map au).length<=1000000:=by rw [qai];lia
 have hz2:((eO n).map aj).length<=1000000:=by
  rw [qai,wT]
  exact qaQ (qgt (by decide) hn) (by decide)
 have eqT:=zG s' (ps.map Prod.fst)
 have srt:∀ {f:Ef}{env:Ev}{st s:Sto},f env st=some (.d (.lst ((ps.map Prod.fst).map aj)),s)->jy f env st=some ((ps.map Prod.fst).map aj,s):=λhf=>ya hf h2 h6
 unfold aX at hF ⊢
 generalize (ps.map Prod.fst).map aj=TT at kT eqT srt
 generalize ((eO n).map shT).map D.str=SS at kE hF
 generalize (eO n).map aj=AA at ht kE hz2
 generalize ps.map au=PP at *
 have i1:iCB ki (ae (iV 0) (ae (iC (.ty "tuple")) ak)) [some (.d (.tup [.str (aF b),.tup PP])),some (.d (.str (aF b))),some (.d (.int n)),none,none,none] s'=some (.d (.bl true),s'):=rfl
 have n2:bR dNe (iCB dn (ae (iV 0) ak)) (iC (.int 2)) [some (.d (.tup [.str (aF b),.tup PP])),some (.d (.str (aF b))),some (.d (.int n)),none,none,none] s'=some (false,s'):=bP (x:=.d (.int 2)) (y:=.d (.int 2)) rfl rfl (by rw [lE];rfl)
 have n3:bR dNe (iOp dIx (iV 0) (iC (.int 0))) (iV 1) [some (.d (.tup [.str (aF b),.tup PP])),some (.d (.str (aF b))),some (.d (.int n)),none,none,none] s'=some (false,s'):=bP (ar rfl rfl (ix0 _ _ _)) rfl (by rw [wZ,beq_self_eq_true];rfl)
 have i3:iCB ki (ae (iOp dIx (iV 0) (iC (.int 1))) (ae (iC (.ty "tuple")) ak)) [some (.d (.tup [.str (aF b),.tup PP])),some (.d (.str (aF b))),some (.d (.int n)),none,none,none] s'=some (.d (.bl true),s'):=bA (ag (ar rfl rfl (ix1 _ _ _ _)) rfl) rfl
 exact bW (n:=6) (k:=3) (b:=b__law_is_poly) rfl (aG (lT (jF (nz (rg i1)) (jF n2 (jF n3 (nz (rg i3))))) rfl)
  (aG (bV (i:=3) (aP (cA (ji (aK rfl ht)) hz2 kE)))
  (aG (iS (gg (ar rfl rfl (ix1 _ _ _ _))) hF)
  (aG (bV (i:=5) (aP (cA (gg (ar rfl rfl (ix1 _ _ _ _))) hz kT)))
  (bN (ar rfl (aP (srt rfl)) eqT))))))
end Own
end
section
set_option maxHeartbeats 1000000
namespace Own
open PySem L2
theorem yQ:(qv 6).Nodup:=by decide +kernel
theorem yE:(eO 6).Pairwise ltL:=nc yQ
noncomputable def lc (L:List Prt):List (List Int):=(eO 6).filter λt=>decide (t ∈ L.map Prod.fst)
theorem fu {L:List Prt} (h6:∀ p ∈ L,Trm 6 p.1) (t:List Int):t ∈ lc L↔t ∈ L.map Prod.fst:=by
 unfold lc
 rw [qcf,decide_eq_true_eq]
 refine⟨λh=>h.2,λh=>⟨?_,h⟩⟩
 obtain⟨p,hp,rfl⟩:=qaB.mp h
 exact lK (qan 6) (h6 p hp)
theorem gJ (L:List Prt):(lc L).Pairwise ltL:=yE.filter _
theorem vD {L:List Prt}{ks:List (List Int)} (h6:∀ p ∈ L,Trm 6 p.1) (h1:ks.Pairwise ltL) (h3:∀ t,t ∈ ks↔t ∈ L.map Prod.fst):ks=lc L:=by
 refine db ((qfq (fk h1) (fk (gJ L))).mpr λt=>?_) (h1.imp λ{a b} hab=>sw hab) ((gJ L).imp λ{a b} hab=>sw hab)
 rw [h3,fu h6]
noncomputable def cF (L:List Prt):List Prt:=eB (lc L) L
theorem tT {st:Sto}{kd:Str}{w:W}{L:List Prt} (hw:oy st w L) (h6:∀ p ∈ L,Trm 6 p.1):m_gathered [.d (.str kd),w] st=some (.d (aX kd (cF L)),st):=by
 obtain⟨ks,k1,k2,k3,k4⟩:=yx (kd:=kd) hw h6
 rw [vD h6 k1 k3] at k4
 exact k4
theorem pH {b:Bool}{row:Int}{L:List Prt} (h6:∀ p ∈ L,Trm 6 p.1):bE b (cF L) row=bE b L row:=xX (fk (gJ L)) (fu h6)
theorem um {n:Nat}{L:List Prt} (hn:n<=6) (h:∀ p ∈ L,Trm n p.1):jp n (cF L):=by
 have h6:∀ p ∈ L,Trm 6 p.1:=λp hp=>(h p hp).mono hn
 refine⟨λp hp=>?_,?_⟩
 ·unfold cF eB at hp
  obtain⟨t,ht,rfl⟩:=qaB.mp hp
  have:=qcf.mp ht
  obtain⟨q,hq,e⟩:=qaB.mp ((fu h6 t).mp this.1)
  exact⟨e ▸ h q hq,of_decide_eq_true this.2⟩
 ·unfold cF eB
  rw [qaJ]
  have:(Prod.fst ∘ λt=>(t,ba L t))=(id:List Int->List Int):=rfl
  rw [this,qc6]
  exact (gJ L).filter _
theorem tK {B:Nat}:∀ {l:List Int},(∀ x ∈ l,x.natAbs<=B)->l.sum.natAbs<=l.length*B
 | [],_=>qaI _
 | x::l,h=>by
  have ih:=tK (l:=l) λy hy=>h y (qaf _ hy)
  have h1:=h x qah
  have h2:=Int.natAbs_add_le x l.sum
  rw [qaZ,qaq,qiv];lia
theorem vP {B:Nat}{L:List Prt} (h:∀ q ∈ L,q.2.natAbs<=B):∀ p ∈ cF L,p.2.natAbs<=L.length*B:=λp hp=>by
 unfold cF eB at hp
 obtain⟨t,_,rfl⟩:=qaB.mp hp
 unfold ba
 refine qaQ (tK (B:=B) λx hx=>?_) (Nat.mul_le_mul_right _ ?_)
 ·obtain⟨q,hq,rfl⟩:=qaB.mp hx
  exact h q (qcf.mp hq).1
 ·rw [qai];exact qde _ _
theorem CC {o:Ef}{a:Af}{env:Ev}{st s1 s2:Sto}{n:Nat}{ds ds0 xs:List D} (ho:o env st=some (.h n,s1)) (ha:a env s1=some ([.d (.lst xs)],s2)) (h0:lg s1 n=some ds0) (hg:lg s2 n=some ds) (hz:ds.length+xs.length<=1000000):gY (eY nq o a) env st=some (.nx env (s2.set n (.l (ds++xs)))):=by
 simp only [gY,eY,ho,ha,h0,hg,nq,hz,if_true,qag,qaC]
theorem kz (row:Int):∀ t:List Int,cH row t=(t.length:Int)↔∀ k ∈ t,onI row k=1
 | []=>by simp [cH]
 | k::t=>by
  have ih:=kz row t
  have hc:=oo row t
  rw [cH,qaq]
  constructor
  ·intro h j hj
   rcases qJ row k with e | e
   ·rw [e] at h;push_cast at h;lia
   ·rcases qaz.mp hj with rfl | hj
    ·exact e
    ·exact ih.mp (by rw [e] at h;push_cast at h;lia) j hj
  ·intro h
   rw [h k qah,ih.mpr λj hj=>h j (qaf _ hj)];push_cast;lia
noncomputable def cB (row:Int) (m:Nat) (l:List Nat):Int:=(l.map λk=>if m.testBit k=true then onI row (k:Int) else 0).sum
theorem iy (row:Int) (m:Nat):∀ l:List Nat,cH row ((l.filter λk=>m.testBit k).map λk=>((k:Nat):Int))=cB row m l
 | []=>rfl
 | k::l=>by
  have ih:=iy row m l
  unfold cB at *
  rw [qcR,qaj,qaZ,<-ih]
  by_cases h:m.testBit k=true
  ·rw [if_pos h,if_pos h];rfl
  ·rw [if_neg h,if_neg h,qdC]
theorem tW (row:Int) (m1 m2:Nat):∀ l:List Nat,cB row (m2 ^^^ m1) l % 2=(cB row m1 l+cB row m2 l) % 2
 | []=>rfl
 | k::l=>by
  have ih:=tW row m1 m2 l
  unfold cB at *
  rw [qaj,qaj,qaj,qaZ,qaZ,qaZ,qc0]
  have h:=qJ row (k:Int)
  cases m1.testBit k<;>cases m2.testBit k<;>simp only [qfD,Bool.xor_true,qa2,qdd,qap,if_true,if_false]<;>lia
noncomputable def jn (b:Bool) (t u:List Int):List Int:=if b=true then ksI (aq t ||| aq u) else ksI (aq u ^^^ aq t)
theorem rP (b:Bool) (t u:List Int):Trm 6 (jn b t u):=by unfold jn;split<;>exact oK _
theorem Bq {b:Bool}{t u:List Int} (row:Int) (ht:Trm 6 t) (hu:Trm 6 u):cq b (jn b t u) row=cq b t row*cq b u row:=by
 cases b with
 | true=>
  simp only [cq,jn,if_true]
  have hm:(∀ k ∈ ksI (aq t ||| aq u),onI row k=1)↔(∀ k ∈ t,onI row k=1)/\∀ k ∈ u,onI row k=1:=by
   have mem:∀ z,z ∈ ksI (aq t ||| aq u)↔z ∈ t\/z ∈ u:=λz=>by
    rw [iH]
    constructor
    ·rintro⟨k,rfl,_,h⟩
     rw [qbO,bH ht,bH hu,qcy,decide_eq_true_eq,decide_eq_true_eq] at h
     exact h
    ·intro h
     have hz:0<=z/\z < 6:=h.elim (λh=>ht.2 z h) λh=>hu.2 z h
     obtain⟨k,rfl⟩:=qcn hz.1
     refine⟨k,rfl,by lia,?_⟩
     rw [qbO,bH ht,bH hu,qcy,decide_eq_true_eq,decide_eq_true_eq]
     exact h
   exact⟨λh=>⟨λk hk=>h k ((mem k).mpr (.inl hk)),λk hk=>h k ((mem k).mpr (.inr hk))⟩,λh k hk=>((mem k).mp hk).elim (h.1 k) (h.2 k)⟩
  rw [<-kz,<-kz,<-kz] at hm
  by_cases h1:cH row t=(t.length:Int)<;>by_cases h2:cH row u=(u.length:Int)
  ·rw [if_pos h1,if_pos h2,if_pos (hm.mpr ⟨h1,h2⟩)];rfl
  ·rw [if_pos h1,if_neg h2,if_neg (λz=>h2 (hm.mp z).2)];rfl
  ·rw [if_neg h1,if_pos h2,if_neg (λz=>h1 (hm.mp z).1)];rfl
  ·rw [if_neg h1,if_neg h2,if_neg (λz=>h1 (hm.mp z).1)];rfl
 | false=>
  simp only [cq,jn,qap,if_false]
  have e1:cH row t=cB row (aq t) (List.range 6):=by rw [<-iy];exact congrArg _ (cE ht).symm
  have e2:cH row u=cB row (aq u) (List.range 6):=by rw [<-iy];exact congrArg _ (cE hu).symm
  have e3:cH row (ksI (aq u ^^^ aq t))=cB row (aq u ^^^ aq t) (List.range 6):=iy row _ _
  have hx:=tW row (aq t) (aq u) (List.range 6)
  rw [<-e1,<-e2,<-e3] at hx
  by_cases h1:cH row t % 2=1<;>by_cases h2:cH row u % 2=1
  ·rw [if_pos h1,if_pos h2,if_neg (by lia)];rfl
  ·rw [if_pos h1,if_neg h2,if_pos (by lia)];rfl
  ·rw [if_neg h1,if_pos h2,if_pos (by lia)];rfl
  ·rw [if_neg h1,if_neg h2,if_neg (by lia)];rfl
theorem tF {t:List Int} (h:Trm 6 t):in6 t=true:=by
 unfold in6
 refine qaw.mpr λk hk=>?_
 exact decide_eq_true (h.2 k hk)
theorem uV {st:Sto}{b:Bool}{t u:List Int} (ht:Trm 6 t) (hu:Trm 6 u):m_joined [.d (.str (aF b)),.d (aj t),.d (aj u)] st=some (.d (aj (jn b t u)),st):=by
 have s1:cX (iV 1) [some (.d (.str (aF b))),some (.d (aj t)),some (.d (aj u))] st=some (aq t,st):=by
  simp only [cX,iV,aj,qaO,qbl,qaC,qag,eV,bJ,tF ht,if_true]
 have s2:cX (iV 2) [some (.d (.str (aF b))),some (.d (aj t)),some (.d (aj u))] st=some (aq u,st):=by
  simp only [cX,iV,aj,qaO,qbl,qaC,qag,eV,bJ,tF hu,if_true]
 have kb:=nt b
 cases b with
 | true=>
  have e:fW (kG (cX (iV 1)) (cX (iV 2))) [some (.d (.str (aF true))),some (.d (aj t)),some (.d (aj u))] st=some ((jn true t u).map D.int,st):=by
   simp only [fW,kG,s1,s2,qag,qaC,Ai,jn,if_true]
  exact bW (n:=3) (k:=3) (b:=b_joined) rfl (zL (CH (bP (x:=.d (.str (aF true))) rfl rfl (by rw [xN,kb])) (bN (bA (ag (aP e) rfl) rfl))))
 | false=>
  have e:fW (iB (cX (iV 1)) (cX (iV 2))) [some (.d (.str (aF false))),some (.d (aj t)),some (.d (aj u))] st=some ((jn false t u).map D.int,st):=by
   simp only [fW,iB,s1,s2,qag,qaC,Ai,jn,qap,if_false]
  exact bW (n:=3) (k:=3) (b:=b_joined) rfl (aG (lT (bP (x:=.d (.str (aF false))) rfl rfl (by rw [xN,kb])) rfl) (bN (bA (ag (aP e) rfl) rfl)))
noncomputable def gy (b:Bool) (p:Prt) (qs:List Prt):List Prt:=qs.map λq=>(jn b p.1 q.1,p.2*q.2)
noncomputable def bv (b:Bool) (ps qs:List Prt):List Prt:=(ps.map λp=>gy b p qs).flatten
theorem pQ (b:Bool) (row:Int) (a c:List Prt):bE b (a++c) row=bE b a row+bE b c row:=by unfold bE;rw [qbm,qg0]
theorem qO {b:Bool}{row:Int}{p:Prt} (hp:Trm 6 p.1):∀ {qs:List Prt},(∀ q ∈ qs,Trm 6 q.1)->bE b (gy b p qs) row=p.2*cq b p.1 row*bE b qs row
 | [],_=>by show (0:Int)=_*(0:Int);rw [qgo]
 | q::qs,h=>by
  have ih:=qO (b:=b) (row:=row) hp λx hx=>h x (qaf _ hx)
  have e:gy b p (q::qs)=[(jn b p.1 q.1,p.2*q.2)]++gy b p qs:=rfl
  have e2:bE b (q::qs) row=q.2*cq b q.1 row+bE b qs row:=by unfold bE;rw [qaj,qaZ]
  rw [e,pQ,ih,e2]
  have e3:bE b [(jn b p.1 q.1,p.2*q.2)] row=p.2*q.2*cq b (jn b p.1 q.1) row:=by unfold bE;simp
  rw [e3,Bq row hp (h q qah),qgH]
  congr 1
  rw [qdn,qdn]
  congr 1
  rw [<-qdn,qin q.2,qdn]
theorem np {b:Bool}{row:Int}{qs:List Prt} (hq:∀ q ∈ qs,Trm 6 q.1):∀ {ps:List Prt},(∀ p ∈ ps,Trm 6 p.1)->bE b (bv b ps qs) row=bE b ps row*bE b qs row
 | [],_=>by show (0:Int)=(0:Int)*_;rw [qeb]
 | p::ps,h=>by
  have ih:=np (b:=b) (row:=row) hq (ps:=ps) λx hx=>h x (qaf _ hx)
  have e:bv b (p::ps) qs=gy b p qs++bv b ps qs:=by unfold bv;rw [qaj,qbW]
  have e2:bE b (p::ps) row=p.2*cq b p.1 row+bE b ps row:=by unfold bE;rw [qaj,qaZ]
  rw [e,pQ,ih,qO (h p qah) hq,e2,qiw]
theorem nA {b:Bool}{ps qs:List Prt}:∀ p ∈ bv b ps qs,Trm 6 p.1:=λp hp=>by
 unfold bv at hp
 obtain⟨l,hl,hp⟩:=qe2.mp hp
 obtain⟨x,_,rfl⟩:=qaB.mp hl
 unfold gy at hp
 obtain⟨y,_,rfl⟩:=qaB.mp hp
 exact rP _ _ _
theorem nv (b:Bool) (qs:List Prt):∀ ps:List Prt,(bv b ps qs).length=ps.length*qs.length
 | []=>by simp [bv]
 | p::ps=>by
  have e:bv b (p::ps) qs=gy b p qs++bv b ps qs:=by unfold bv;rw [qaj,qbW]
  rw [e,qaK,nv b qs ps,qaq,qiv]
  unfold gy
  rw [qai];lia
theorem rL {b:Bool}{ps qs:List Prt}{i:Nat}{p:Prt} (h:ps[i]?=some p):bv b (ps.take (i+1)) qs=bv b (ps.take i) qs++gy b p qs:=by
 unfold bv
 rw [qc5,h,qbm,List.flatten_append]
 simp
theorem yo {st:Sto}{b:Bool}{ps qs:List Prt} (hp:∀ p ∈ ps,Trm 6 p.1) (hq:∀ q ∈ qs,Trm 6 q.1) (lp:ps.length<=64) (lq:qs.length<=64) (hb:∀ q ∈ qs,-(2 ^ 64) < q.2/\q.2 < 2 ^ 64) :
  m_product_of [.d (aX (aF b) ps),.d (aX (aF b) qs)] st=some (.d (aX (aF b) (cF (bv b ps qs))),st):=by
 have hlc:∀ (p:Prt),Trm 6 p.1->∀ s,lcI (.tp [0,1]) dg gu [none,none,some (.d (.str (aF b))),some (.d (aj p.1)),some (.d (.int p.2))] (qs.map au) s=some ((gy b p qs).map au,s):=λp h1 s=>by
  unfold gy
  rw [qaJ]
  refine iT _ λq hm=>⟨_,rfl,?_⟩
  have e:=uV (st:=s) (b:=b) h1 (hq q hm)
  exact cY (ag (aK rfl e) (ag (ar (x:=.d (.int p.2)) (y:=.d (.int q.2)) (d:=.int (p.2*q.2)) rfl rfl (by
   show (if PySem.IntMulOk p.2 q.2 then some (D.int (p.2*q.2)) else none)=_
   rw [if_pos (iu (hb q hm))])) rfl)) rfl (by show 2<=1000;decide)
 obtain⟨e',s',hF,o4,o5,rfl,rfl⟩:=dE (g:=.tp [4,5]) (body:=gq) (ds:=ps.map au) (λi env s=>∃ o4 o5,env=[some (.d (aX (aF b) ps)),some (.d (aX (aF b) qs)),some (.d (.str (aF b))),some (.h st.length),o4,o5]/\s=st++[.l ((bv b (ps.take i) qs).map au)])
  (env:=[some (.d (aX (aF b) ps)),some (.d (aX (aF b) qs)),some (.d (.str (aF b))),some (.h st.length),none,none]) (st:=st++[.l []]) ⟨none,none,rfl,rfl⟩ (by
  rintro i d env s hd ⟨o4,o5,rfl,rfl⟩
  obtain⟨p,hpi,rfl⟩:=ny hd
  have hmem:=qbI hpi
  have hl:=hlc p (hp p hmem) (st++[.l ((bv b (ps.take i) qs).map au)])
  have hg2:lg (st++[C.l ((bv b (ps.take i) qs).map au)]) st.length=some ((bv b (ps.take i) qs).map au):=by
   unfold lg
   rw [qa1 (qan _),qd8];rfl
  have hln:(bv b (ps.take i) qs).length<=64*64:=by
   rw [nv]
   exact qfM (qaQ (List.length_take_le _ _) (by have:=(qax.mp hpi).1;lia)) lq
  have hz:((bv b (ps.take i) qs).map au).length+((gy b p qs).map au).length<=1000000:=by
   unfold gy
   rw [qai,qai,qai];lia
  have hset:(st++[C.l ((bv b (ps.take i) qs).map au)]).set st.length (.l ((bv b (ps.take i) qs).map au++(gy b p qs).map au))=st++[.l ((bv b (ps.take (i+1)) qs).map au)]:=by
   rw [qf9 _ _ (qan _),qd8,rL hpi,qbm];rfl
  refine⟨_,_,_,rfl,.inl ?_,some (.d (aj p.1)),some (.d (.int p.2)),rfl,rfl⟩
  rw [<-hset]
  have hz2:(qs.map au).length<=1000000:=by rw [qai];lia
  unfold aX
  generalize (gy b p qs).map au=RL at hl hz
  generalize (bv b (ps.take i) qs).map au=AC at hl hg2 hz
  generalize qs.map au=QQ at hl hz2
  generalize ps.map au=PP
  have q1:=aP (cA (k:=2) (js:=[2,4,5]) (env:=[some (.d (.tup [.str (aF b),.tup PP])),some (.d (.tup [.str (aF b),.tup QQ])),some (.d (.str (aF b))),some (.h st.length),some (.d (aj p.1)),some (.d (.int p.2))]) (gg (f:=iOp dIx (iV 1) (iC (.int 1))) (ar rfl rfl (ix1 _ _ _ _))) hz2 hl)
  have q2:=ag (b:=ak) q1 rfl
  exact CC (o:=iV 3) rfl q2 hg2 hg2 hz)
 rw [qai,qbQ] at hF
 have hw:oy (st++[C.l ((bv b ps qs).map au)]) (.h st.length) (bv b ps qs):=.inr (.inr ⟨_,rfl,by
  unfold lg
  rw [qa1 (qan _),qd8];rfl⟩)
 have k4:=tT (kd:=aF b) hw nA
 generalize cF (bv b ps qs)=R at k4 ⊢
 have hq2:=iJ (n:=6) (k:=2) (b:=b_product_of) (ws:=[.d (aX (aF b) ps),.d (aX (aF b) qs)]) (st:=st) (s:=st++[C.l ((bv b ps qs).map au)]) (x:=aX (aF b) R) rfl
  (aG (bV (w:=.d (.str (aF b))) (s:=st) (ar rfl rfl (ix0 _ _ _))) (aG (bV (w:=.h st.length) (s:=st++[C.l []]) rfl) (aG (iS (gg (ar rfl rfl (ix1 _ _ _ _))) hF) (bN (aK rfl k4)))))
 have ht:(st++[C.l ((bv b ps qs).map au)]).take st.length=st:=by rw [qgZ];rfl
 rw [ht] at hq2
 exact hq2
theorem Cu {b:Bool}{n:Nat}{t u:List Int} (hn:n<=6) (ht:Trm n t) (hu:Trm n u):Trm n (jn b t u):=by
 have key:∀ k:Nat,((aq t).testBit k=true\/(aq u).testBit k=true)->(k:Int) < n:=λk h=>by
  rw [bH (ht.mono hn),bH (hu.mono hn),decide_eq_true_eq,decide_eq_true_eq] at h
  exact h.elim (λh=>(ht.2 _ h).2) λh=>(hu.2 _ h).2
 refine⟨(rP b t u).1,λz hz=>⟨((rP b t u).2 z hz).1,?_⟩⟩
 unfold jn at hz
 split at hz
 ·obtain⟨k,rfl,_,h⟩:=iH.mp hz
  rw [qbO,qcy] at h
  exact key k h
 ·obtain⟨k,rfl,_,h⟩:=iH.mp hz
  rw [qc0] at h
  refine key k ?_
  cases h1:(aq t).testBit k with
  | true=>exact .inl rfl
  | false=>
   rw [h1,qfD] at h
   exact .inr h
theorem wK {b:Bool}{n:Nat}{ps qs:List Prt} (hn:n<=6) (hp:∀ p ∈ ps,Trm n p.1) (hq:∀ q ∈ qs,Trm n q.1):∀ p ∈ bv b ps qs,Trm n p.1:=λp h=>by
 unfold bv at h
 obtain⟨l,hl,h⟩:=qe2.mp h
 obtain⟨x,hx,rfl⟩:=qaB.mp hl
 unfold gy at h
 obtain⟨y,hy,rfl⟩:=qaB.mp h
 exact Cu hn (hp x hx) (hq y hy)
end Own
end
section
set_option maxHeartbeats 1000000
namespace Own
open PySem L2
noncomputable def rM (l:List Int):Prop:=∀ x ∈ l,x=0\/x=1
noncomputable def ao (row:List Int):List Nat:=(List.range (row.length - 1)).filter λc=>row.getD c 0 != row.getD (c+1) 0
noncomputable def bX (l:List Nat):List Int:=l.map λc:Nat=>(c:Int)
theorem rS (s:Sto) {row:List Int}{c:Nat} (h:c < row.length):dIx s (.d (.tup (row.map D.int))) (.d (.int (c:Int)))=some (.int (row.getD c 0)):=by
 show atI (row.map D.int) (c:Int)=_
 refine kj ?_
 rw [qaW,qbk,qaH h];rfl
theorem tq {tt:Tf}{te:Ef}{st:Sto}{row:List Int} (ht:tt=bR dNe (iOp dIx (iV 1) (iV 0)) (iOp dIx (iV 1) (iOp d3 (iV 0) (iC (.int 1))))) (he:te=iV 0) :
  lcI (.nm 0) tt te [none,some (.d (.tup (row.map D.int)))] (eu 0 (row.length - 1)) st=some ((bX (ao row)).map D.int,st):=by
 subst ht;subst he
 have:=dX (g:=.nm 0) (tt:=bR dNe (iOp dIx (iV 1) (iV 0)) (iOp dIx (iV 1) (iOp d3 (iV 0) (iC (.int 1))))) (te:=iV 0) (env:=[none,some (.d (.tup (row.map D.int)))]) (st:=st) (λd=>match d with | .int k=>row.getD k.toNat 0 != row.getD (k.toNat+1) 0 | _=>false) id (ds:=eu 0 (row.length - 1)) λd hd=>by
  obtain⟨i,hi⟩:=qcF hd
  obtain⟨rfl,hi⟩:=fm hi
  have e1:=rS st (row:=row) (c:=i) (by lia)
  have e2:=rS st (row:=row) (c:=i+1) (by lia)
  generalize row.map D.int=RR at e1 e2 ⊢
  exact⟨_,rfl,bP (ar rfl rfl e1) (ar (y:=.d (.int ((i+1:Nat):Int))) rfl (ar rfl rfl rfl) e2) (by rw [lE];rfl),λ_=>rfl⟩
 rw [this,iZ,qdo,qdo,qc6]
 unfold bX ao
 rfl
theorem ko (s:Sto) (row:List Int):dn s [.d (.tup (row.map D.int))]=some (.int (row.length:Int)):=by
 show some (D.int ((row.map D.int).length:Nat))=_
 rw [qai]
theorem AO (s:Sto) {l:Nat} (h:0 < l):lr s (.d (.int (l:Int))) (.d (.int 1))=some (.int ((l - 1:Nat):Int)):=by
 show some (D.int ((l:Int) - 1))=_
 congr 2;lia
theorem tZ {st:Sto}{row:List Int} (h0:0 < row.length) (h7:row.length<=7):m_ends_of [.d (.tup (row.map D.int))] st=some (.d (.lst ((bX (ao row)).map D.int)),st):=by
 have k:=tq (tt:=jL) (te:=jQ) (st:=st) (row:=row) rfl rfl
 have e1:=ko st row
 generalize (bX (ao row)).map D.int=EE at k ⊢
 generalize row.map D.int=RR at k e1 ⊢
 exact bW (n:=1) (k:=1) (b:=b_ends_of) rfl (bN (aP (cA (fE (ar (bA (ag rfl rfl) e1) rfl (AO _ h0)) (by lia) (by lia) (qaX _)) (by rw [cG];lia) k)))
theorem rQ {st:Sto}{row:List Int} (h0:0 < row.length) (h7:row.length<=7):m_changes_of [.d (.tup (row.map D.int))] st=some (.d (.int ((ao row).length:Int)),st):=by
 have e1:=tZ (st:=st) h0 h7
 have e2:dn st [.d (.lst ((bX (ao row)).map D.int))]=some (.int ((ao row).length:Int)):=by
  show some (D.int (((bX (ao row)).map D.int).length:Nat))=_
  unfold bX
  rw [qai,qai]
 generalize (bX (ao row)).map D.int=EE at e1 e2
 generalize row.map D.int=RR at e1 ⊢
 exact bW (n:=1) (k:=1) (b:=b_changes_of) rfl (bN (bA (ag (aK rfl e1) rfl) e2))
noncomputable def twL (n e:Nat):List Prt:=(([]:List Int),(-2)*(e:Int) - 1)::(List.range n).map λk:Nat=>([(k:Int)],(2:Int))
theorem tY (n:Nat):Trm n []:=⟨.nil,(λk hk=>nomatch hk)⟩
theorem kK {n e:Nat}:∀ p ∈ twL n e,Trm n p.1/\p.1.length<=1:=λp hp=>by
 unfold twL at hp
 rcases qaz.mp hp with rfl | hp
 ·exact⟨tY n,qaI _⟩
 ·obtain⟨k,hk,rfl⟩:=qaB.mp hp
  have:=qaP.mp hk
  refine⟨⟨qcW _ _,λz hz=>?_⟩,qan _⟩
  rw [qay.mp hz];lia
theorem yt {n e:Nat} (he:e<=5):∀ p ∈ twL n e,p.2.natAbs<=11:=λp hp=>by
 unfold twL at hp
 rcases qaz.mp hp with rfl | hp
 ·show ((-2)*(e:Int) - 1).natAbs<=11
  lia
 ·obtain⟨k,hk,rfl⟩:=qaB.mp hp
  show (2:Int).natAbs<=11
  decide
theorem Di {st:Sto}{n e:Nat} (hn:n<=6):m_twice_above [.d (.int n),.d (.int e)] st=some (.d (aX "both" (cF (twL n e))),st):=by
 have k1:lcI (.nm 0) dg cK [none] (eu 0 n) st=some (((List.range n).map λk:Nat=>(([(k:Int)],(2:Int)):Prt)).map au,st):=by
  have:=gK (g:=.nm 0) (te:=cK) (env:=[none]) (st:=st) (λd=>.tup [.tup [d],.int 2]) (ds:=eu 0 n) λd hd=>by
   obtain⟨i,hi⟩:=qcF hd
   obtain⟨rfl,_⟩:=fm hi
   exact⟨_,rfl,cY (ag (cY (ag rfl rfl) rfl (by show 1<=1000;decide)) (ag rfl rfl)) rfl (by show 2<=1000;decide)⟩
  rw [this,iZ,qaJ,qaJ,qaJ];rfl
 have k2:=tT (st:=st) (kd:="both") (w:=.d (.lst ((twL n e).map au))) (L:=twL n e) (.inr (.inl rfl)) λp hp=>(kK p hp).1.mono hn
 have hz:(((List.range n).map λk:Nat=>(([(k:Int)],(2:Int)):Prt)).map au).length<=64:=by rw [qai,qai,qbu];lia
 have hm:ge st (.d (.int (-2))) (.d (.int (e:Int)))=some (.int ((-2)*(e:Int))):=wf _ (kn (by decide))
 generalize cF (twL n e)=R at k2 ⊢
 unfold twL at k2
 rw [qaj] at k2
 generalize ((List.range n).map λk:Nat=>(([(k:Int)],(2:Int)):Prt)).map au=PP at k1 k2 hz
 have s1:aH (gx (ae (dB (ae (dB ak) (ae (iOp lr (iOp ge (iUn sC (iC (.int 2))) (iV 1)) (iC (.int 1))) ak))) ak)) [some (.d (.int n)),some (.d (.int e))] st=some (.d (.lst [au ([],(-2)*(e:Int) - 1)]),st):=
  aP (t3 (ag (cY (ds:=[.tup [],.int ((-2)*(e:Int) - 1)]) (ag (cY (ds:=[]) rfl rfl (by decide)) (ag (ar (x:=.d (.int ((-2)*(e:Int)))) (ar rfl rfl hm) rfl rfl) rfl)) rfl (by show 2<=1000;decide)) rfl) rfl (by show 1<=1000;decide))
 have s2:aH (iLc 1 [] (cu (ae (iV 0) ak)) (.nm 0) dg cK) [some (.d (.int n)),some (.d (.int e))] st=some (.d (.lst PP),st):=
  aP (cA (fE rfl (by lia) (by lia) (qaX n)) (by rw [cG];lia) k1)
 exact bW (n:=2) (k:=2) (b:=b_twice_above) rfl (bN (aK (ag rfl (ag (ar s1 s2 (AD _ (by show 1+_<=_;lia))) rfl)) k2))
theorem wv (r:Int):∀ l:List Nat,((l.map λk:Nat=>(([(k:Int)],(2:Int)):Prt)).map λp=>p.2*cq true p.1 r).sum=2*cH r (bX l)
 | []=>rfl
 | k::l=>by
  have ih:=wv r l
  have e:bX (k::l)=(k:Int)::bX l:=rfl
  rw [qaj,qaj,qaZ,ih,e,cH]
  have h:cq true [(k:Int)] r=onI r k:=by
   have hc:cH r [(k:Int)]=onI r k:=by rw [cH,cH,qgp]
   unfold cq
   rw [if_pos rfl,hc]
   rcases qJ r (k:Int) with z | z
   ·rw [if_neg (by rw [z];show ¬ (0:Int)=1;decide),z]
   ·rw [if_pos (by rw [z];rfl),z]
  rw [h];lia
noncomputable def cnN (n:Nat) (r:Int):Int:=cH r (bX (List.range n))
theorem AF {n e:Nat}{r:Int} (hn:n<=6):bE true (cF (twL n e)) r=2*cnN n r - 2*(e:Int) - 1:=by
 rw [pH λp hp=>(kK p hp).1.mono hn]
 unfold bE twL cnN
 rw [qaj,qaZ,wv]
 have:cq true [] r=1:=rfl
 rw [this];lia
noncomputable def sgR (row:List Int):Int:=if row.getD (row.length - 1) 0=1 then 1 else -1
noncomputable def cpS (n:Nat) (ps:List Prt) (e:Nat):List Prt:=cF (bv true ps (cF (twL n e)))
noncomputable def cpL (n:Nat) (s:Int) (es:List Nat):List Prt:=es.foldl (cpS n) [(([]:List Int),s)]
noncomputable def FF (s:Int) (es:List Nat) (x:Int):Int:=es.foldl (λ(v:Int) (e:Nat)=>v*(2*x - 2*(e:Int) - 1)) s
structure CPk (n:Nat) (i:Nat) (ps:List Prt):Prop where
 t:jp n ps
 l:∀ p ∈ ps,p.1.length<=i
theorem rJ:((List.range 64).all λa=>(List.range 64).all λb=>decide ((al (a ||| b)).length<=(al a).length+(al b).length))=true:=by decide +kernel
theorem AR {t u:List Int} (ht:Trm 6 t) (hu:Trm 6 u):(jn true t u).length<=t.length+u.length:=by
 have:=of_decide_eq_true (qaw.mp (qaw.mp rJ (aq t) (qaP.mpr (lz (qan 6) ht))) (aq u) (qaP.mpr (lz (qan 6) hu)))
 have e1:(al (aq t)).length=t.length:=by
  have:=congrArg List.length (cE ht)
  unfold ksI at this
  rw [qai] at this;exact this
 have e2:(al (aq u)).length=u.length:=by
  have:=congrArg List.length (cE hu)
  unfold ksI at this
  rw [qai] at this;exact this
 have e3:(jn true t u).length=(al (aq t ||| aq u)).length:=by
  unfold jn
  rw [if_pos rfl];unfold ksI;rw [qai]
 lia
theorem mV {L:List Prt} (h6:∀ p ∈ L,Trm 6 p.1):∀ p ∈ cF L,∃ q ∈ L,q.1=p.1:=λp hp=>by
 unfold cF eB at hp
 obtain⟨t,ht,rfl⟩:=qaB.mp hp
 obtain⟨q,hq,e⟩:=qaB.mp ((fu h6 t).mp (qcf.mp ht).1)
 exact⟨q,hq,e⟩
theorem lm {n e:Nat} (hn:n<=6):jp n (cF (twL n e)):=um hn λp hp=>(kK p hp).1
theorem yM {n e:Nat} (hn:n<=6) (he:e<=5):∀ p ∈ cF (twL n e),p.2.natAbs<=77:=λp hp=>by
 have:=vP (yt (n:=n) he) p hp
 have e2:(twL n e).length=n+1:=by unfold twL;rw [qaq,qai,qbu]
 rw [e2] at this
 exact qaQ this (by lia)
theorem CPk.step {n i e:Nat}{ps:List Prt} (hn:n<=6) (h:CPk n i ps):CPk n (i+1) (cpS n ps e):=by
 have hin:∀ p ∈ bv true ps (cF (twL n e)),Trm n p.1:=wK hn (λp hp=>(h.t.1 p hp).1) λq hq=>((lm hn).1 q hq).1
 refine⟨um hn hin,λp hp=>?_⟩
 obtain⟨q,hq,e⟩:=mV (λp hp=>(hin p hp).mono hn) p hp
 rw [<-e]
 unfold bv at hq
 obtain⟨l,hl,hq⟩:=qe2.mp hq
 obtain⟨x,hx,rfl⟩:=qaB.mp hl
 unfold gy at hq
 obtain⟨y,hy,rfl⟩:=qaB.mp hq
 have h1:=AR ((h.t.1 x hx).1.mono hn) (((lm hn).1 y hy).1.mono hn)
 have h2:=h.l x hx
 obtain⟨z,hz,ez⟩:=mV (λp hp=>(kK p hp).1.mono hn) y hy
 have h3:=(kK z hz).2
 rw [ez] at h3
 show (jn true x.1 y.1).length<=i+1
 lia
theorem CPk.one {n:Nat}{s:Int} (h:s≠0):CPk n 0 [(([]:List Int),s)]:=by
 refine⟨⟨λp hp=>?_,qcW _ _⟩,λp hp=>?_⟩
 ·rw [qay.mp hp];exact⟨tY n,h⟩
 ·rw [qay.mp hp];exact qan _
theorem pV {n i e:Nat}{ps:List Prt}{r:Int} (hn:n<=6) (h:CPk n i ps):bE true (cpS n ps e) r=bE true ps r*(2*cnN n r - 2*(e:Int) - 1):=by
 unfold cpS
 rw [pH nA,np (λq hq=>((lm hn).1 q hq).1.mono hn) (λp hp=>(h.t.1 p hp).1.mono hn),AF hn]
theorem oh {n:Nat} (hn:n<=6):∀ (es:List Nat) (i:Nat) (ps:List Prt),CPk n i ps->CPk n (i+es.length) (es.foldl (cpS n) ps)/\∀ r,bE true (es.foldl (cpS n) ps) r=es.foldl (λ(v:Int) (e:Nat)=>v*(2*cnN n r - 2*(e:Int) - 1)) (bE true ps r)
 | [],i,ps,h=>⟨h,λr=>rfl⟩
 | e::es,i,ps,h=>by
  obtain⟨a,b⟩:=oh hn es (i+1) (cpS n ps e) (h.step hn)
  refine⟨by rw [qaq,show i+(es.length+1)=i+1+es.length from by lia];exact a,λr=>?_⟩
  rw [qbG,qbG,b r,pV hn h]
theorem yj {row:List Int} (h7:row.length<=7):∀ e ∈ ao row,e<=5:=λe he=>by
 unfold ao at he
 have:=qaP.mp (qcf.mp he).1
 lia
theorem AT {st:Sto}{n e i:Nat}{ps:List Prt} (hn:n<=6) (he:e<=5) (h:CPk n i ps):m_product_of [.d (aX "both" ps),.d (aX "both" (cF (twL n e)))] st=some (.d (aX "both" (cpS n ps e)),st):=
 yo (st:=st) (b:=true) (λp hp=>(h.t.1 p hp).1.mono hn) (λq hq=>((lm hn).1 q hq).1.mono hn) (h.t.len hn) ((lm hn).len hn) λq hq=>by have:=yM hn he q hq;lia
theorem xc (s:Sto) {row:List Int} (h0:0 < row.length):dIx s (.d (.tup (row.map D.int))) (.d (.int (-1)))=some (.int (row.getD (row.length - 1) 0)):=by
 show atI (row.map D.int) (-1)=_
 have e:row=row.dropLast++[row.getD (row.length - 1) 0]:=by
  have h1:=List.dropLast_concat_getLast (l:=row) (by intro z;rw [z] at h0;exact absurd h0 (qbH 0))
  rw [qbk,qaH (by lia)]
  rw [List.getLast_eq_getElem] at h1
  exact h1.symm
 generalize row.getD (row.length - 1) 0=x at e ⊢
 rw [e,qbm]
 exact xz _ _
theorem xD {st:Sto}{row:List Int}{n:Nat} (hr:row.length=n+1) (hn:n<=6):m_counts_poly [.d (.tup (row.map D.int))] st=some (.d (aX "both" (cpL n (sgR row) (ao row))),st):=by
 have e1:=tZ (st:=st) (row:=row) (by lia) (by lia)
 have e2:=ko st row
 have e3:=xc st (row:=row) (by lia)
 have hs:sgR row≠0:=by unfold sgR;split<;>decide
 have hsg:nU (bR dEq (iOp dIx (iV 0) (iUn sC (iC (.int 1)))) (iC (.int 1))) (iC (.int 1)) (iUn sC (iC (.int 1))) [some (.d (.tup (row.map D.int))),none,none] st=some (.d (.int (sgR row)),st):=by
  unfold sgR
  by_cases hc:row.getD (row.length - 1) 0=1
  ·rw [if_pos hc]
   exact xW (bP (ar (y:=.d (.int (-1))) rfl rfl e3) rfl (by rw [lU,hc];rfl)) rfl
  ·rw [if_neg hc]
   exact x8 (bP (ar (y:=.d (.int (-1))) rfl rfl e3) rfl (by rw [lU,beq_eq_false_iff_ne.mpr hc])) rfl
 obtain⟨e',s',hF,o2,rfl,rfl⟩:=dE (g:=.nm 2) (body:=fP) (ds:=(bX (ao row)).map D.int)
  (λi env s=>∃ o2,env=[some (.d (.tup (row.map D.int))),some (.d (aX "both" (cpL n (sgR row) ((ao row).take i)))),o2]/\s=st)
  (env:=[some (.d (.tup (row.map D.int))),some (.d (aX "both" [(([]:List Int),sgR row)])),none]) (st:=st) ⟨none,rfl,rfl⟩ (by
  rintro i d env s hd ⟨o2,rfl,rfl⟩
  unfold bX at hd
  rw [qaW,qaW,Option.map_map,qae] at hd
  obtain⟨e,he,rfl⟩:=hd
  have htk:(ao row).take (i+1)=(ao row).take i++[e]:=by rw [qc5,he];rfl
  have h5:=yj (row:=row) (by lia) e (qbI he)
  have hk:=(oh hn ((ao row).take i) 0 _ (CPk.one (n:=n) hs)).1
  have p1:=Di (st:=s) (e:=e) hn
  have p2:=AT (st:=s) hn h5 hk
  have hcp:cpL n (sgR row) ((ao row).take (i+1))=cpS n (((ao row).take i).foldl (cpS n) [(([]:List Int),sgR row)]) e:=by unfold cpL;rw [htk,qgO];rfl
  refine⟨_,_,_,rfl,.inl ?_,some (.d (.int (e:Int))),rfl,rfl⟩
  rw [hcp]
  have esub:lr s (.d (.int (row.length:Int))) (.d (.int 1))=some (.int (n:Int)):=by rw [hr];exact AO s (qe0 n)
  unfold cpL
  generalize aX "both" (cpS n (((ao row).take i).foldl (cpS n) [(([]:List Int),sgR row)]) e)=R1 at p2 ⊢
  generalize aX "both" (((ao row).take i).foldl (cpS n) [(([]:List Int),sgR row)])=R2 at p2 ⊢
  generalize aX "both" (cF (twL n e))=R3 at p1 p2
  have el:=ko s row
  generalize row.map D.int=RR at el ⊢
  exact bV (aK (ag rfl (ag (aK (ag (ar (bA (ag rfl rfl) el) rfl esub) (ag rfl rfl)) p1) rfl)) p2))
 have hln:((bX (ao row)).map D.int).length=(ao row).length:=by unfold bX;rw [qai,qai]
 rw [hln,qbQ] at hF
 generalize aX "both" (cpL n (sgR row) (ao row))=R at hF ⊢
 generalize (bX (ao row)).map D.int=EE at e1 hF
 generalize row.map D.int=RR at e1 hF hsg ⊢
 generalize sgR row=sg at hsg hF
 exact bW (n:=3) (k:=1) (b:=b_counts_poly) rfl (aG (bV (i:=1) (cY (ds:=[.str "both",.tup [.tup [.tup [],.int sg]]]) (ag rfl (ag (cY (ds:=[.tup [.tup [],.int sg]]) (ag (cY (ds:=[.tup [],.int sg]) (ag (cY (ds:=[]) rfl rfl (by decide)) (ag hsg rfl)) rfl (by show 2<=1000;decide)) rfl) rfl (by show 1<=1000;decide)) rfl)) rfl (by show 2<=1000;decide))) (aG (iS (ji (aK rfl e1)) hF) (bN rfl)))
end Own
end
section
set_option maxHeartbeats 1000000
namespace Own
open PySem L2
noncomputable def sgB (r:Int):Int:=cq false [0,1,2,3,4,5] r
noncomputable def vB (c:Nat) (g:Int->Int):Int:=((List.range (2 ^ c)).map λr:Nat=>sgB (r:Int)*g (r:Int)).sum
theorem zF:((List.range 7).all λc=>(eO 6).all λt=>decide (c<=t.length) || vB c (λr=>cq true t r)==0)=true:=by decide +kernel
theorem xR {c:Nat}{t:List Int} (hc:c<=6) (ht:Trm 6 t) (hl:t.length < c):vB c (λr=>cq true t r)=0:=by
 have:=qaw.mp (qaw.mp zF c (qaP.mpr (by lia))) t (lK (qan 6) ht)
 rw [decide_eq_false (by lia),qdm] at this
 exact eq_of_beq this
theorem qU {α:Type} (c:Int) (f:α->Int):∀ l:List α,(l.map λx=>c*f x).sum=c*(l.map f).sum
 | []=>by simp
 | x::l=>by rw [qaj,qaj,qaZ,qaZ,qU c f l,qgH]
theorem oZ {c:Nat} (hc:c<=6):∀ {ps:List Prt},(∀ p ∈ ps,Trm 6 p.1/\p.1.length < c)->vB c (λr=>bE true ps r)=0
 | [],_=>by
  unfold vB
  have:((List.range (2 ^ c)).map λr:Nat=>sgB (r:Int)*bE true [] (r:Int))=(List.range (2 ^ c)).map λ_=>(0:Int):=qa5 λr _=>by
   show _*(0:Int)=0
   rw [qgo]
  rw [this,iq]
 | p::ps,h=>by
  have ih:=oZ hc λq hq=>h q (qaf _ hq)
  have h1:=xR hc (h p qah).1 (h p qah).2
  unfold vB at ih h1 ⊢
  have:((List.range (2 ^ c)).map λr:Nat=>sgB (r:Int)*bE true (p::ps) (r:Int))=(List.range (2 ^ c)).map λr:Nat=>p.2*(sgB (r:Int)*cq true p.1 (r:Int))+sgB (r:Int)*bE true ps (r:Int):=qa5 λr _=>by
   have e:bE true (p::ps) (r:Int)=p.2*cq true p.1 (r:Int)+bE true ps (r:Int):=by unfold bE;rw [qaj,qaZ]
   rw [e,qgH,<-qdn,<-qdn,qin (sgB (r:Int)) p.2]
  rw [this,n6,qU,h1,ih,qgo];rfl
noncomputable def xA:Nat->List (List Int)
 | 0=>[[]]
 | n+1=>(xA n).map (λl=>0::l)++(xA n).map (λl=>1::l)
theorem pO:∀ {l:List Int},rM l->l ∈ xA l.length
 | [],_=>qay.mpr rfl
 | x::l,h=>by
  have ih:=pO (l:=l) λy hy=>h y (qaf _ hy)
  rw [qaq,xA]
  rcases h x qah with rfl | rfl
  ·exact qbJ _ (qbL ih)
  ·exact qat _ (qbL ih)
noncomputable def zh (n:Nat) (row:List Int):Bool:=((List.range (n+1)).all λx=>FF (sgR row) (ao row) (x:Int) != 0 && (decide (FF (sgR row) (ao row) (x:Int) > 0)==(row.getD x 0==1))) &&
 ((ao row).length==0 || vB (ao row).length (λr=>FF (sgR row) (ao row) (cnN n r)) != 0)
theorem wm:((List.range 7).all λn=>(xA (n+1)).all (zh n))=true:=by decide +kernel
theorem B2:((List.range 7).all λn=>(List.range (2 ^ n)).all λr=>cnN 6 (r:Int)==cnN n (r:Int))=true:=by decide +kernel
theorem CG {n r:Nat} (hn:n<=6) (hr:r < 2 ^ n):cnN 6 (r:Int)=cnN n (r:Int):=eq_of_beq (qaw.mp (qaw.mp B2 n (qaP.mpr (by lia))) r (qaP.mpr hr))
theorem Cs (n:Nat) (r:Int):∃ x:Nat,cnN n r=(x:Int)/\x<=n:=by
 have:=oo r (bX (List.range n))
 have e:(bX (List.range n)).length=n:=by unfold bX;rw [qai,qbu]
 rw [e] at this
 refine⟨(cnN n r).toNat,?_,?_⟩<;>(unfold cnN;lia)
section
variable {n:Nat}{row:List Int}
theorem uj (hn:n<=6) (hr:row.length=n+1) (h:rM row):zh n row=true:=qaw.mp (qaw.mp wm n (qaP.mpr (by lia))) row (hr ▸ pO h)
theorem rA (hn:n<=6) (r:Int):bE true (cpL n (sgR row) (ao row)) r=FF (sgR row) (ao row) (cnN n r):=by
 have hs:sgR row≠0:=by unfold sgR;split<;>decide
 have:=(oh hn (ao row) 0 _ (CPk.one (n:=n) hs)).2 r
 unfold cpL FF
 rw [this]
 have e:bE true [(([]:List Int),sgR row)] r=sgR row:=by
  unfold bE
  rw [qaj,qaZ]
  show sgR row*cq true [] r+0=_
  rw [show cq true [] r=1 from rfl];lia
 rw [e]
theorem CZ (hn:n<=6):CPk n (ao row).length (cpL n (sgR row) (ao row)):=by
 have hs:sgR row≠0:=by unfold sgR;split<;>decide
 have:=(oh hn (ao row) 0 _ (CPk.one (n:=n) hs)).1
 rw [qbo] at this
 exact this
theorem xl (hn:n<=6) (hr:row.length=n+1):(ao row).length<=n:=by
 unfold ao
 refine qaQ (qde _ _) ?_
 rw [qbu,hr];exact qan _
theorem BD (hn:n<=6) (hr:row.length=n+1) (h:rM row):fR ((cpL n (sgR row) (ao row)).map λp=>(p.1.length:Int)) 0=((ao row).length:Int):=by
 have K:=CZ (row:=row) hn
 have hle:fR ((cpL n (sgR row) (ao row)).map λp=>(p.1.length:Int)) 0<=((ao row).length:Int):=tw _ _ (by lia) λx hx=>by
  obtain⟨p,hp,rfl⟩:=qaB.mp hx
  have:=K.l p hp
  show (p.1.length:Int)<=_
  lia
 have hge:=sW ((cpL n (sgR row) (ao row)).map λp=>(p.1.length:Int)) 0
 by_cases hc:(ao row).length=0
 ·lia
 ·have ck:=uj hn hr h
  unfold zh at ck
  rw [qaL] at ck
  have ck2:=ck.2
  rw [beq_eq_false_iff_ne.mpr hc,qdm,bne_iff_ne] at ck2
  apply qb2
  intro hne
  apply ck2
  have e:(λr=>FF (sgR row) (ao row) (cnN n r))=λr=>bE true (cpL n (sgR row) (ao row)) r:=by funext r;rw [rA hn]
  rw [e]
  have hcn:=xl (row:=row) hn hr
  refine oZ (by lia) λp hp=>⟨(K.t.1 p hp).1.mono hn,?_⟩
  have h1:=hge.2 _ (qbL (f:=λp:Prt=>(p.1.length:Int)) hp)
  lia
theorem zB (hn:n<=6) (hr:row.length=n+1) (h:rM row) (r:Int):∃ x:Nat,cnN n r=(x:Int)/\x<=n/\bE true (cpL n (sgR row) (ao row)) r≠0/\decide (bE true (cpL n (sgR row) (ao row)) r > 0)=(row.getD x 0==1):=by
 obtain⟨x,hx,hle⟩:=Cs n r
 have ck:=uj hn hr h
 unfold zh at ck
 rw [qaL] at ck
 have ck1:=qaw.mp ck.1 x (qaP.mpr (by lia))
 rw [qaL,bne_iff_ne] at ck1
 refine⟨x,hx,hle,?_,?_⟩
 ·rw [rA hn,hx];exact ck1.1
 ·rw [rA hn,hx];exact eq_of_beq ck1.2
end
end Own
end
section
set_option maxHeartbeats 1000000
namespace Own
open PySem L2
theorem DJ {o a:Ef}{env:Ev}{st s1 s2:Sto}{n:Nat}{d:D}{ds0 ds:List D} (ho:o env st=some (.h n,s1)) (ha:a env s1=some (.d d,s2)) (h0:lg s1 n=some ds0) (hg:lg s2 n=some ds) (hz:ds.length < 1000000):gY (eY gF o (ae a ak)) env st=some (.nx env (s2.set n (.l (ds++[d])))):=by
 have hc:=ag (b:=ak) ha rfl
 simp only [gY,eY,ho,hc,h0,hg,gF,hz,if_true,qag,qaC]
theorem C7 {i j l:Nat}{a:Af}{env:Ev}{st s:Sto}{x y z:W} (h:a env st=some ([x,y,z],s)):nF i j l a env st=some (.nx (((env.set i (some x)).set j (some y)).set l (some z)) s):=by
 simp only [nF,h,qag]
theorem z8 (s:Sto) (a b:Bool):dEq s (.d (.bl a)) (.d (.bl b))=some (.bl (a==b)):=by
 show ((eqK (.fl (.bl a)) (.fl (.bl b))).map λk=>D.bl k)=_
 show some (D.bl (eqD (.bl a) (.bl b)))=_
 simp only [eqD]
theorem Dr (s:Sto) {a b:Int}{k:Bool} (h:decide (a < b)=k):dLt s (.d (.int a)) (.d (.int b))=some (.bl k):=by rw [<-h];rfl
theorem CF {st:Sto}{r:Int} (r0:0<=r):m__law_on [.d (.int r)] st=some (.d (.int (cnN 6 r)),st):=by
 have k:=rK (tt:=jP) (te:=jT) (st:=st) r0 rfl rfl (t:=bX (List.range 6)) (λk hk=>by
  unfold bX at hk
  obtain⟨j,_,rfl⟩:=qaB.mp hk;lia)
 unfold bX at k
 rw [<-iZ] at k
 have hln:dn st [.d (.lst ((((List.range 6).map λc:Nat=>(c:Int)).filter λk=>onI r k==1).map D.int))]=some (.int (cnN 6 r)):=by
  show some (D.int (((((List.range 6).map λc:Nat=>(c:Int)).filter λk=>onI r k==1).map D.int).length:Nat))=_
  rw [qai,gc];rfl
 generalize (((List.range 6).map λc:Nat=>(c:Int)).filter λk=>onI r k==1).map D.int=L at k hln
 exact bW (n:=1) (k:=1) (b:=b__law_on) rfl (bN (bA (ag (aP (cA (fE (m:=6) rfl (by decide) (by decide) rfl) (by rw [cG];decide) k)) rfl) hln))
theorem Cy (s:Sto) {a b c d w:Int} (w0:0<=w) (w1:w < 5) (ha:a=0\/a=1) (hb:b=0\/b=1) (hc:c=0\/c=1) (hd:d=0\/d=1):∃ x:Int,(x=0\/x=1)/\dIx s (.d (.lst [.int a,.int a,.int b,.int c,.int d])) (.d (.int w))=some (.int x):=by
 have h:w=0\/w=1\/w=2\/w=3\/w=4:=by lia
 rcases h with rfl | rfl | rfl | rfl | rfl
 ·exact⟨a,ha,rfl⟩
 ·exact⟨a,ha,rfl⟩
 ·exact⟨b,hb,rfl⟩
 ·exact⟨c,hc,rfl⟩
 ·exact⟨d,hd,rfl⟩
theorem Bo {p:Spo}{Z:Int} (rest:Sto) (h:okP p Z) (hZ:Z < 900000000):∃ (n:Nat) (row:List Int) (p':Spo),n<=6/\row.length=n+1/\rM row/\okP p' (Z+20)/\m__law_row [.h 1] (spo p rest)=some (.d (.tup (row.map D.int)),spo p' rest):=by
 obtain⟨a,p1,a0,a1,h1,e1⟩:=iP h (by lia) (m:=7) (by decide) (by decide)
 obtain⟨n,rfl⟩:=qcn a0
 obtain⟨f,p2,f0,f1,h2,e2⟩:=iP h1 (by lia) (m:=2) (by decide) (by decide)
 obtain⟨t,p3,t0,t1,h3,e3⟩:=iP h2 (by lia) (m:=1+(n:Int)) (by lia) (by lia)
 obtain⟨w,p4,w0,w1,h4,e4⟩:=iP h3 (by lia) (m:=5) (by decide) (by decide)
 obtain⟨e',s',hF,p5,row,o6,o7,rfl,rfl,h5,hl,hv⟩:=dE (g:=.nm 6) (body:=fC) (ds:=eu 0 (n+1))
  (λi env s=>∃ (p:Spo) (row:List Int) (o6 o7:Option W),env=[some (.h 1),some (.d (.int (1+(n:Int)))),some (.d (.int f)),some (.d (.int t)),some (.d (.int w)),some (.h (rest.length+2)),o6,o7]/\s=spo p (rest++[.l (row.map D.int)])/\okP p (Z+4+i)/\row.length=i/\rM row)
  (env:=[some (.h 1),some (.d (.int (1+(n:Int)))),some (.d (.int f)),some (.d (.int t)),some (.d (.int w)),some (.h (rest.length+2)),none,none]) (st:=spo p4 (rest++[.l []])) ⟨p4,[],none,none,rfl,rfl,h4.mono (by lia),rfl,(λx hx=>nomatch hx)⟩ (by
  rintro i d env s hd ⟨p,row,o6,o7,rfl,rfl,hp,hl,hv⟩
  obtain⟨rfl,hi⟩:=fm hd
  obtain⟨u,q1,u0,u1,g1,f1'⟩:=iP hp (by lia) (m:=2) (by decide) (by decide)
  have ff:=f1' (rest++[.l (row.map D.int)])
  have lg1:=w6 q1 rest (row.map D.int)
  obtain⟨x,hx,ex⟩:=Cy (spo q1 (rest++[.l (row.map D.int)])) (a:=u) (b:=(f+(i:Int)) % 2) (c:=if (decide ((i:Int) < t)==(f==0))=true then 1 else 0) (d:=f) w0 w1 (by lia) (by lia) (by split<;>lia) (by lia)
  have st1:=yJ q1 rest (.l (row.map D.int)) (.l (row.map D.int++[.int x]))
  refine⟨_,_,_,rfl,.inl (aG (bV (aK rfl ff)) (DJ (d:=.int x) rfl (ar (aP (t3 (ds:=[.int u,.int u,.int ((f+(i:Int)) % 2),.int (if (decide ((i:Int) < t)==(f==0))=true then 1 else 0),.int f]) (ag rfl (ag rfl (ag (ar (x:=.d (.int (f+(i:Int)))) (ar rfl rfl rfl) rfl (Aa _ (by decide))) (ag (bA (ag (ar (x:=.d (.bl (decide ((i:Int) < t)))) (y:=.d (.bl (f==0))) (ar rfl rfl (Dr _ rfl)) (ar rfl rfl (lU _ _ _)) (z8 _ _ _)) rfl) rfl) (ag rfl rfl))))) rfl (by show 5<=1000;decide))) rfl ex) lg1 lg1 (by rw [qai];lia))),q1,row++[x],_,_,rfl,?_,g1.mono (by push_cast;lia),by rw [qaK,hl];rfl,?_⟩
  ·rw [st1,qbm];rfl
  ·intro y hy
   rcases qbx.mp hy with hy | hy
   ·exact hv y hy
   ·rw [qay.mp hy];exact hx)
 rw [cG] at h5 hl
 refine⟨n,row,p5,by lia,hl,hv,h5.mono (by push_cast;lia),?_⟩
 have lg1:=w6 p5 rest (row.map D.int)
 have htake:=v5 p5 rest [.l (row.map D.int)]
 generalize row.map D.int=RR at hF lg1 htake ⊢
 have hd:n5 (spo p5 (rest++[.l RR])) [.h (rest.length+2)]=some (.tup RR):=by
  show (lg _ _).map _=_
  rw [lg1];rfl
 have s0:bY (.nm 1) (iOp d3 (iC (.int 1)) (bw m__law_take (ae (iV 0) (ae (iC (.int 7)) ak)))) [some (.h 1),none,none,none,none,none,none,none] (spo p rest)=some (.nx [some (.h 1),some (.d (.int (1+(n:Int)))),none,none,none,none,none,none] (spo p1 rest)):=bV (ar rfl (aK rfl (e1 rest)) rfl)
 have s1:nF 2 3 4 (ae (bw m__law_take (ae (iV 0) (ae (iC (.int 2)) ak))) (ae (bw m__law_take (ae (iV 0) (ae (iV 1) ak))) (ae (bw m__law_take (ae (iV 0) (ae (iC (.int 5)) ak))) ak))) [some (.h 1),some (.d (.int (1+(n:Int)))),none,none,none,none,none,none] (spo p1 rest)=some (.nx [some (.h 1),some (.d (.int (1+(n:Int)))),some (.d (.int f)),some (.d (.int t)),some (.d (.int w)),none,none,none] (spo p4 rest)):=
  C7 (ag (aK rfl (e2 rest)) (ag (aK rfl (e3 rest)) (ag (aK rfl (e4 rest)) rfl)))
 have s2:bY (.nm 5) (nP (gx ak)) [some (.h 1),some (.d (.int (1+(n:Int)))),some (.d (.int f)),some (.d (.int t)),some (.d (.int w)),none,none,none] (spo p4 rest)=some (.nx [some (.h 1),some (.d (.int (1+(n:Int)))),some (.d (.int f)),some (.d (.int t)),some (.d (.int w)),some (.h (rest.length+2)),none,none] (spo p4 (rest++[.l []]))):=rfl
 have s3:=iS (fi:=cu (ae (iV 1) ak)) (g:=.nm 6) (b:=fC) (env:=[some (.h 1),some (.d (.int (1+(n:Int)))),some (.d (.int f)),some (.d (.int t)),some (.d (.int w)),some (.h (rest.length+2)),none,none]) (st:=spo p4 (rest++[.l []])) (fE rfl (by lia) (by lia) (show (1+(n:Int)).toNat=n+1 by lia)) hF
 have s4:cy (iCB n5 (ae (iV 5) ak)) [some (.h 1),some (.d (.int (1+(n:Int)))),some (.d (.int f)),some (.d (.int t)),some (.d (.int w)),some (.h (rest.length+2)),o6,o7] (spo p5 (rest++[.l RR]))=some (.rt (.d (.tup RR)) (spo p5 (rest++[.l RR]))):=bN (bA (ws:=[.h (rest.length+2)]) rfl hd)
 have hq:=iJ (n:=8) (k:=1) (b:=b__law_row) (ws:=[.h 1]) (st:=spo p rest) (s:=spo p5 (rest++[.l RR])) (x:=.tup RR) rfl (aG s0 (aG s1 (aG s2 (aG s3 s4))))
 rw [yw,htake] at hq
 exact hq
theorem Cr {st:Sto}{i:Nat} (h:i<=6):∃ x:Str,dF st [.d (.int (i:Int))]=some (.str x):=by
 have e:dF st [.d (.int (i:Int))]=(if (i:Int).natAbs.log2 < 1920 then some (D.str (toString (i:Int))) else none):=rfl
 rw [if_pos (of_decide_eq_true (mS (by show i < 2 ^ 200;exact qeM h (by decide))))] at e
 exact⟨_,e⟩
theorem CJ {a:Af}{env:Ev}{st s:Sto}{ds:List D} (hd:∀ d ∈ ds,d=.bl true) (h:a env st=some ([.d (.lst ds)],s)):iCB wB a env st=some (.d (.bl true),s):=by
 refine bA h ?_
 have e:ds=(ds.map λ_=>true).map D.bl:=by
  rw [qaJ]
  conv=>lhs;rw [<-qc6 ds]
  exact qa5 λd h=>hd d h
 rw [e]
 show (i4 ((ds.map λ_=>true).map D.bl)).map (λns=>D.bl (ns.all id))=_
 rw [kX]
 show some (D.bl ((ds.map λ_=>true).all id))=_
 rw [qeV]
 congr 2
 exact qaw.mpr λ_ _=>rfl
theorem wY {st:Sto}{n:Nat}{row:List Int} (hn:n<=6) (hr:row.length=n+1) (h:rM row):m__law_right [.d (.tup (row.map D.int))] st=some (.d (.bl true),st):=by
 have K:=CZ (row:=row) hn
 have e1:=ko st row
 have esub:lr st (.d (.int (row.length:Int))) (.d (.int 1))=some (.int (n:Int)):=by rw [hr];exact AO st (qe0 n)
 have e2:=tq (tt:=dY) (te:=dZ) (st:=st) (row:=row) rfl rfl
 rw [hr,Nat.add_sub_cancel] at e2
 have e3:=xD (st:=st) hr hn
 have e4:=rQ (st:=st) (row:=row) (by lia) (by lia)
 have e5:=vH (st:=st) (b:=true) hn K.t
 have hc6:(ao row).length<=6:=qaQ (xl (row:=row) hn hr) hn
 obtain⟨x,ex⟩:=Cr (st:=st) hc6
 have el:dn st [.d (.lst ((bX (ao row)).map D.int))]=some (.int ((ao row).length:Int)):=by
  show some (D.int (((bX (ao row)).map D.int).length:Nat))=_
  unfold bX
  rw [qai,qai]
 have hdeg:=BD hn hr h
 have hsg:=zB hn hr h
 have hlen:=K.t.len hn
 have p6:∀ p ∈ cpL n (sgR row) (ao row),Bk p:=λp hp=>(K.t.1 p hp).1.mono hn
 have kL:lcI (.tp [0,1]) dg df [none,none] ((cpL n (sgR row) (ao row)).map au) st=some (((cpL n (sgR row) (ao row)).map λp=>(p.1.length:Int)).map D.int,st):=by
  rw [qaJ]
  refine iT _ λp hm=>⟨_,rfl,bA (ag rfl rfl) ?_⟩
  show some (D.int ((p.1.map D.int).length:Nat))=_
  rw [qai];rfl
 obtain⟨q,hq1,q1,_,q2⟩:=Ab (n:=(n:Int)) (by lia) (by lia)
 rw [qaX] at q1 q2
 have q0:0<=q:=by have:0 < 2 ^ n:=qit (by decide);lia
 have kV:lcI (.nm 0) dg em [none,some (.d (aX "both" (cpL n (sgR row) (ao row))))] (eu 0 (2 ^ n)) st=some ((eu 0 (2 ^ n)).map λd=>match d with | .int r=>.int (bE true (cpL n (sgR row) (ao row)) r) | d=>d,st):=gK _ λd hd=>by
  obtain⟨i,hi⟩:=qcF hd
  obtain⟨rfl,_⟩:=fm hi
  have v:=qt (st:=st) (b:=true) (row:=(i:Int)) (by lia) p6 (by lia)
  refine⟨_,rfl,?_⟩
  show _=some (W.d (.int (bE true (cpL n (sgR row) (ao row)) (i:Int))),st)
  generalize bE true (cpL n (sgR row) (ao row)) (i:Int)=V at v ⊢
  have v':m__law_value [.d (aX "both" (cpL n (sgR row) (ao row))),.d (.int (i:Int))] st=some (.d (.int V),st):=v
  generalize aX "both" (cpL n (sgR row) (ao row))=R at v' ⊢
  exact aK rfl v'
 obtain⟨VV,hVV⟩:∃ VV,VV=(eu 0 (2 ^ n)).map λd=>match d with | .int r=>D.int (bE true (cpL n (sgR row) (ao row)) r) | d=>d:=⟨_,rfl⟩
 have kA:lcI (.tp [0,1]) dg d9 [none,none,some (.d (.tup (row.map D.int)))] (eI 0 VV) st=some ((eI 0 VV).map λ_=>.bl true,st):=gK _ λd hd=>by
  obtain⟨i,hi⟩:=qcF hd
  rw [jj,qae] at hi
  obtain⟨v,hv,rfl⟩:=hi
  rw [hVV,qaW,qae] at hv
  obtain⟨d,hd2,rfl⟩:=hv
  obtain⟨rfl,hi⟩:=fm hd2
  rw [qbo]
  obtain⟨c,hc,hcn,hne,hsi⟩:=hsg (i:Int)
  have o:=CF (st:=st) (r:=(i:Int)) (by lia)
  rw [CG hn hi,hc] at o
  have ei:=rS st (row:=row) (c:=c) (by lia)
  refine⟨_,rfl,?_⟩
  show pj _ _ [some (.d (.int (i:Int))),some (.d (.int (bE true (cpL n (sgR row) (ao row)) (i:Int)))),some (.d (.tup (row.map D.int)))] st=_
  generalize bE true (cpL n (sgR row) (ao row)) (i:Int)=V at hne hsi ⊢
  generalize row.map D.int=RR at ei ⊢
  have a1:iOp dNe (iV 1) (iC (.int 0)) [some (.d (.int (i:Int))),some (.d (.int V)),some (.d (.tup RR))] st=some (.d (.bl true),st):=ar rfl rfl (by rw [lE,beq_eq_false_iff_ne.mpr hne];rfl)
  have a2:iOp dEq (iOp dGt (iV 1) (iC (.int 0))) (iOp dEq (iOp dIx (iV 2) (bw m__law_on (ae (iV 0) ak))) (iC (.int 1))) [some (.d (.int (i:Int))),some (.d (.int V)),some (.d (.tup RR))] st=some (.d (.bl true),st):=
   ar (ar rfl rfl (DN _ rfl)) (ar (ar rfl (aK rfl o) ei) rfl (lU _ _ _)) (by rw [z8,hsi,beq_self_eq_true])
  simp only [pj,a1,a2,qag,blW,if_true]
 have hz:((cpL n (sgR row) (ao row)).map au).length<=1000000:=by rw [qai];lia
 have hzv:(eI 0 VV).length<=1000000:=by rw [jd,hVV,qai,cG];lia
 rw [<-hVV] at kV
 have hmx:xT ((cpL n (sgR row) (ao row)).map λp=>(p.1.length:Int)) (some 0)=some ((ao row).length:Int):=by
  rw [wG _ λx hx=>by
   obtain⟨p,_,rfl⟩:=qaB.mp hx
   show (0:Int)<=(p.1.length:Int)
   lia,hdeg]
 have e5':m__law_is_poly [.d (aX "both" (cpL n (sgR row) (ao row))),.d (.str "both"),.d (.int n)] st=some (.d (.bl true),st):=e5
 have hls:lsI st (.d (.lst (((cpL n (sgR row) (ao row)).map λp=>(p.1.length:Int)).map D.int)))=some ((cpL n (sgR row) (ao row)).map λp=>(p.1.length:Int)):=by
  show (aE _)=_
  exact bJ _
 generalize ((cpL n (sgR row) (ao row)).map λp=>(p.1.length:Int))=LL at kL hls hmx
 generalize LL.map D.int=LD at kL hls
 unfold aX at e3 e5' kV
 generalize (cpL n (sgR row) (ao row)).map au=PP at *
 generalize (bX (ao row)).map D.int=EE at *
 generalize ((ao row).length:Int)=cc at *
 generalize row.map D.int=RR at *
 have b1:bY (.nm 1) (iOp lr (iCB dn (ae (iV 0) ak)) (iC (.int 1))) [some (.d (.tup RR)),none,none,none,none] st=some (.nx [some (.d (.tup RR)),some (.d (.int n)),none,none,none] st):=bV (ar (bA (ag rfl rfl) e1) rfl esub)
 have b2:bY (.nm 2) (iCB dn (ae (aH (iLc 1 [0] (cu (ae (iV 1) ak)) (.nm 0) dY dZ)) ak)) [some (.d (.tup RR)),some (.d (.int n)),none,none,none] st=some (.nx [some (.d (.tup RR)),some (.d (.int n)),some (.d (.int cc)),none,none] st):=
  bV (bA (ag (aP (cA (fE rfl (by lia) (by lia) (qaX n)) (by rw [cG];lia) e2)) rfl) el)
 have b3:bY (.nm 3) (bw m_counts_poly (ae (iV 0) ak)) [some (.d (.tup RR)),some (.d (.int n)),some (.d (.int cc)),none,none] st=some (.nx [some (.d (.tup RR)),some (.d (.int n)),some (.d (.int cc)),some (.d (.tup [.str "both",.tup PP])),none] st):=bV (aK rfl e3)
 have b4:i7 (bR dNe (iCB dF (ae (bw m_changes_of (ae (iV 0) ak)) ak)) (iCB dF (ae (iV 2) ak))) (gf (jY jV (bw m__law_is_poly (ae (iV 3) (ae (iC (.str "both")) (ae (iV 1) ak)))))) [some (.d (.tup RR)),some (.d (.int n)),some (.d (.int cc)),some (.d (.tup [.str "both",.tup PP])),none] st=some (false,st):=
  jF (bP (bA (ag (aK rfl e4) rfl) ex) (bA (ag rfl rfl) ex) (by rw [wZ,beq_self_eq_true];rfl)) (nz (rg (aK rfl e5')))
 have b5:lO (aH (iLc 2 [] (aW (iOp dIx (iV 3) (iC (.int 1)))) (.tp [0,1]) dg df)) (iC (.int 0)) [some (.d (.tup RR)),some (.d (.int n)),some (.d (.int cc)),some (.d (.tup [.str "both",.tup PP])),none] st=some (.d (.int cc),st):=by
  have hq:aH (iLc 2 [] (aW (iOp dIx (iV 3) (iC (.int 1)))) (.tp [0,1]) dg df) [some (.d (.tup RR)),some (.d (.int n)),some (.d (.int cc)),some (.d (.tup [.str "both",.tup PP])),none] st=some (.d (.lst LD),st):=aP (cA (gg (ar rfl rfl (ix1 _ _ _ _))) hz kL)
  have hc:iC (.int 0) [some (.d (.tup RR)),some (.d (.int n)),some (.d (.int cc)),some (.d (.tup [.str "both",.tup PP])),none] st=some (.d (.int 0),st):=rfl
  simp only [lO,hq,hc,hls,hmx,qag,qaC]
 have b6:bY (.nm 4) (aH (iLc 1 [3] (cu (ae (iOp xI (iC (.int 1)) (iV 1)) ak)) (.nm 0) dg em)) [some (.d (.tup RR)),some (.d (.int n)),some (.d (.int cc)),some (.d (.tup [.str "both",.tup PP])),none] st=some (.nx [some (.d (.tup RR)),some (.d (.int n)),some (.d (.int cc)),some (.d (.tup [.str "both",.tup PP])),some (.d (.lst VV))] st):=
  bV (aP (cA (fE (ar rfl rfl (hq1 _)) q0 (by lia) q1) (by rw [cG];lia) kV))
 have b7:iCB wB (ae (aH (iLc 2 [0] (oE (ae (iV 4) ak)) (.tp [0,1]) dg d9)) ak) [some (.d (.tup RR)),some (.d (.int n)),some (.d (.int cc)),some (.d (.tup [.str "both",.tup PP])),some (.d (.lst VV))] st=some (.d (.bl true),st):=
  CJ (λd hd=>by obtain⟨_,_,e⟩:=qaB.mp hd;exact e.symm) (ag (aP (cA (k:=2) (js:=[0]) (ds:=eI 0 VV) (s:=st) rfl hzv kA)) rfl)
 exact bW (n:=5) (k:=1) (b:=b__law_right) rfl (aG b1 (aG b2 (aG b3 (aG (lT b4 rfl) (aG (lT (bP b5 rfl (by rw [lE,beq_self_eq_true];rfl)) rfl) (aG b6 (bN b7)))))))
theorem wA (ns:List Int) (hl:ns.length<=63):∃ st,m_law [.d (.scr ns)] []=some (.d (.bl true),st):=by
 obtain⟨p,hp,e1⟩:=xY ns hl
 obtain⟨e',s',hF,p',x2,rfl,rfl,hp'⟩:=dE (g:=.nm 2) (body:=ut) (ds:=eu 0 3)
  (λi env s=>∃ p x2,env=[some (.d (.scr ns)),some (.h 1),x2]/\s=spo p []/\okP p (1000*(i:Int)))
  (env:=[some (.d (.scr ns)),some (.h 1),none]) (st:=spo p []) ⟨p,_,rfl,rfl,by simpa using hp⟩ (by
  rintro i d env s hd ⟨p,x2,rfl,rfl,hp⟩
  obtain⟨rfl,hi⟩:=fm hd
  obtain⟨n,row,p1,hn,hr,hv,h1,f1⟩:=Bo [] hp (by lia)
  have f2:=wY (st:=spo p1 []) hn hr hv
  generalize row.map D.int=RR at *
  exact⟨_,_,_,rfl,.inl (lT (nz (rg (aK (ag (aK rfl f1) rfl) f2))) rfl),p1,_,rfl,rfl,h1.mono (by push_cast;lia)⟩)
 exact⟨_,iJ (n:=3) (k:=1) (b:=mT) rfl (aG (bV (aK rfl e1)) (aG (iS (fE (m:=3) rfl (by decide) (by decide) rfl) hF) (bN rfl)))⟩
end Own
end
namespace Own
open PySem L2
theorem nH {us:List Value} (h:us.length=1):∃ a0,us=[a0]:=List.length_eq_one_iff.mp h
theorem zU {us:List Value}{n:Nat} (h:us.length=n+1):∃ a t,us=a::t/\t.length=n:=by
 cases us with
 | nil=>cases h
 | cons a t=>exact⟨a,t,rfl,Nat.succ.inj h⟩
theorem qP {us:List Value} (h:us.length=2):∃ a0 a1,us=[a0,a1]:=by
 obtain⟨a,t,rfl,k⟩:=zU h
 obtain⟨b,rfl⟩:=nH k
 exact⟨a,b,rfl⟩
theorem zg {us:List Value} (h:us.length=3):∃ a0 a1 a2,us=[a0,a1,a2]:=by
 obtain⟨a,t,rfl,k⟩:=zU h
 obtain⟨b,c,rfl⟩:=qP k
 exact⟨a,b,c,rfl⟩
theorem Dy {us:List Value} (h:us.length=4):∃ a0 a1 a2 a3,us=[a0,a1,a2,a3]:=by
 obtain⟨a,t,rfl,k⟩:=zU h
 obtain⟨b,c,d,rfl⟩:=zg k
 exact⟨a,b,c,d,rfl⟩
theorem DX {us:List Value} (h:us.length=5):∃ a0 a1 a2 a3 a4,us=[a0,a1,a2,a3,a4]:=by
 obtain⟨a,t,rfl,k⟩:=zU h
 obtain⟨b,c,d,e,rfl⟩:=Dy k
 exact⟨a,b,c,d,e,rfl⟩
theorem txt_mk {K:PySem.W.Frag}{h:Heap}{mg:Str->Option Value} (X:K.In h) (G:h.Ns mainGlobals mg)
  {f0:Addr}{od0 an0:Option Addr}{sl0:Array (Option Value)}{oc0 kV0 dc0 pm0 cd0 ct0:Value}
  (a0:PySem.W.nsIn K mainGlobals "poly_from" = some (some (.ref f0))) (l0:K.lookup f0=some ⟨oc0,od0,.func (PySem.W.fnOf "poly_from" "poly_from" (bj bG) (ap bG) (ab bG) .none kV0 dc0 pm0 an0 cd0 ct0),sl0⟩) (c0:PySem.W.codeIn K cd0 "poly_from" = true) (k0:PySem.W.keepIn K (.ref f0)=true)
  {f1:Addr}{od1 an1:Option Addr}{sl1:Array (Option Value)}{oc1 kV1 dc1 pm1 cd1 ct1:Value}
  (a1:PySem.W.nsIn K mainGlobals "gathered" = some (some (.ref f1))) (l1:K.lookup f1=some ⟨oc1,od1,.func (PySem.W.fnOf "gathered" "gathered" (bj b0) (ap b0) (ab b0) .none kV1 dc1 pm1 an1 cd1 ct1),sl1⟩) (c1:PySem.W.codeIn K cd1 "gathered" = true) (k1:PySem.W.keepIn K (.ref f1)=true)
  {f2:Addr}{od2 an2:Option Addr}{sl2:Array (Option Value)}{oc2 kV2 dc2 pm2 cd2 ct2:Value}
  (a2:PySem.W.nsIn K mainGlobals "joined" = some (some (.ref f2))) (l2:K.lookup f2=some ⟨oc2,od2,.func (PySem.W.fnOf "joined" "joined" (bj cQ) (ap cQ) (ab cQ) .none kV2 dc2 pm2 an2 cd2 ct2),sl2⟩) (c2:PySem.W.codeIn K cd2 "joined" = true) (k2:PySem.W.keepIn K (.ref f2)=true)
  {f3:Addr}{od3 an3:Option Addr}{sl3:Array (Option Value)}{oc3 kV3 dc3 pm3 cd3 ct3:Value}
  (a3:PySem.W.nsIn K mainGlobals "product_of" = some (some (.ref f3))) (l3:K.lookup f3=some ⟨oc3,od3,.func (PySem.W.fnOf "product_of" "product_of" (bj br) (ap br) (ab br) .none kV3 dc3 pm3 an3 cd3 ct3),sl3⟩) (c3:PySem.W.codeIn K cd3 "product_of" = true) (k3:PySem.W.keepIn K (.ref f3)=true)
  {f4:Addr}{od4 an4:Option Addr}{sl4:Array (Option Value)}{oc4 kV4 dc4 pm4 cd4 ct4:Value}
  (a4:PySem.W.nsIn K mainGlobals "ends_of" = some (some (.ref f4))) (l4:K.lookup f4=some ⟨oc4,od4,.func (PySem.W.fnOf "ends_of" "ends_of" (bj cf) (ap cf) (ab cf) .none kV4 dc4 pm4 an4 cd4 ct4),sl4⟩) (c4:PySem.W.codeIn K cd4 "ends_of" = true) (k4:PySem.W.keepIn K (.ref f4)=true)
  {f5:Addr}{od5 an5:Option Addr}{sl5:Array (Option Value)}{oc5 kV5 dc5 pm5 cd5 ct5:Value}
  (a5:PySem.W.nsIn K mainGlobals "changes_of" = some (some (.ref f5))) (l5:K.lookup f5=some ⟨oc5,od5,.func (PySem.W.fnOf "changes_of" "changes_of" (bj bC) (ap bC) (ab bC) .none kV5 dc5 pm5 an5 cd5 ct5),sl5⟩) (c5:PySem.W.codeIn K cd5 "changes_of" = true) (k5:PySem.W.keepIn K (.ref f5)=true)
  {f6:Addr}{od6 an6:Option Addr}{sl6:Array (Option Value)}{oc6 kV6 dc6 pm6 cd6 ct6:Value}
  (a6:PySem.W.nsIn K mainGlobals "twice_above" = some (some (.ref f6))) (l6:K.lookup f6=some ⟨oc6,od6,.func (PySem.W.fnOf "twice_above" "twice_above" (bj aY) (ap aY) (ab aY) .none kV6 dc6 pm6 an6 cd6 ct6),sl6⟩) (c6:PySem.W.codeIn K cd6 "twice_above" = true) (k6:PySem.W.keepIn K (.ref f6)=true)
  {f7:Addr}{od7 an7:Option Addr}{sl7:Array (Option Value)}{oc7 kV7 dc7 pm7 cd7 ct7:Value}
  (a7:PySem.W.nsIn K mainGlobals "counts_poly" = some (some (.ref f7))) (l7:K.lookup f7=some ⟨oc7,od7,.func (PySem.W.fnOf "counts_poly" "counts_poly" (bj bu) (ap bu) (ab bu) .none kV7 dc7 pm7 an7 cd7 ct7),sl7⟩) (c7:PySem.W.codeIn K cd7 "counts_poly" = true) (k7:PySem.W.keepIn K (.ref f7)=true)
  {f8:Addr}{od8 an8:Option Addr}{sl8:Array (Option Value)}{oc8 kV8 dc8 pm8 cd8 ct8:Value}
  (a8:PySem.W.nsIn K mainGlobals "_law_spool" = some (some (.ref f8))) (l8:K.lookup f8=some ⟨oc8,od8,.func (PySem.W.fnOf "_law_spool" "_law_spool" (bj bp) (ap bp) (ab bp) .none kV8 dc8 pm8 an8 cd8 ct8),sl8⟩) (c8:PySem.W.codeIn K cd8 "_law_spool" = true) (k8:PySem.W.keepIn K (.ref f8)=true)
  {f9:Addr}{od9 an9:Option Addr}{sl9:Array (Option Value)}{oc9 kV9 dc9 pm9 cd9 ct9:Value}
  (a9:PySem.W.nsIn K mainGlobals "_law_take" = some (some (.ref f9))) (l9:K.lookup f9=some ⟨oc9,od9,.func (PySem.W.fnOf "_law_take" "_law_take" (bj bO) (ap bO) (ab bO) .none kV9 dc9 pm9 an9 cd9 ct9),sl9⟩) (c9:PySem.W.codeIn K cd9 "_law_take" = true) (k9:PySem.W.keepIn K (.ref f9)=true)
  {f10:Addr}{od10 an10:Option Addr}{sl10:Array (Option Value)}{oc10 kV10 dc10 pm10 cd10 ct10:Value}
  (a10:PySem.W.nsIn K mainGlobals "_law_on" = some (some (.ref f10))) (l10:K.lookup f10=some ⟨oc10,od10,.func (PySem.W.fnOf "_law_on" "_law_on" (bj ce) (ap ce) (ab ce) .none kV10 dc10 pm10 an10 cd10 ct10),sl10⟩) (c10:PySem.W.codeIn K cd10 "_law_on" = true) (k10:PySem.W.keepIn K (.ref f10)=true)
  {f11:Addr}{od11 an11:Option Addr}{sl11:Array (Option Value)}{oc11 kV11 dc11 pm11 cd11 ct11:Value}
  (a11:PySem.W.nsIn K mainGlobals "_law_term" = some (some (.ref f11))) (l11:K.lookup f11=some ⟨oc11,od11,.func (PySem.W.fnOf "_law_term" "_law_term" (bj bF) (ap bF) (ab bF) .none kV11 dc11 pm11 an11 cd11 ct11),sl11⟩) (c11:PySem.W.codeIn K cd11 "_law_term" = true) (k11:PySem.W.keepIn K (.ref f11)=true)
  {f12:Addr}{od12 an12:Option Addr}{sl12:Array (Option Value)}{oc12 kV12 dc12 pm12 cd12 ct12:Value}
  (a12:PySem.W.nsIn K mainGlobals "_law_value" = some (some (.ref f12))) (l12:K.lookup f12=some ⟨oc12,od12,.func (PySem.W.fnOf "_law_value" "_law_value" (bj bq) (ap bq) (ab bq) .none kV12 dc12 pm12 an12 cd12 ct12),sl12⟩) (c12:PySem.W.codeIn K cd12 "_law_value" = true) (k12:PySem.W.keepIn K (.ref f12)=true)
  {f13:Addr}{od13 an13:Option Addr}{sl13:Array (Option Value)}{oc13 kV13 dc13 pm13 cd13 ct13:Value}
  (a13:PySem.W.nsIn K mainGlobals "_law_terms" = some (some (.ref f13))) (l13:K.lookup f13=some ⟨oc13,od13,.func (PySem.W.fnOf "_law_terms" "_law_terms" (bj aU) (ap aU) (ab aU) .none kV13 dc13 pm13 an13 cd13 ct13),sl13⟩) (c13:PySem.W.codeIn K cd13 "_law_terms" = true) (k13:PySem.W.keepIn K (.ref f13)=true)
  {f14:Addr}{od14 an14:Option Addr}{sl14:Array (Option Value)}{oc14 kV14 dc14 pm14 cd14 ct14:Value}
  (a14:PySem.W.nsIn K mainGlobals "_law_is_poly" = some (some (.ref f14))) (l14:K.lookup f14=some ⟨oc14,od14,.func (PySem.W.fnOf "_law_is_poly" "_law_is_poly" (bj aL) (ap aL) (ab aL) .none kV14 dc14 pm14 an14 cd14 ct14),sl14⟩) (c14:PySem.W.codeIn K cd14 "_law_is_poly" = true) (k14:PySem.W.keepIn K (.ref f14)=true)
  {f15:Addr}{od15 an15:Option Addr}{sl15:Array (Option Value)}{oc15 kV15 dc15 pm15 cd15 ct15:Value}
  (a15:PySem.W.nsIn K mainGlobals "_law_row" = some (some (.ref f15))) (l15:K.lookup f15=some ⟨oc15,od15,.func (PySem.W.fnOf "_law_row" "_law_row" (bj b8) (ap b8) (ab b8) .none kV15 dc15 pm15 an15 cd15 ct15),sl15⟩) (c15:PySem.W.codeIn K cd15 "_law_row" = true) (k15:PySem.W.keepIn K (.ref f15)=true)
  {f16:Addr}{od16 an16:Option Addr}{sl16:Array (Option Value)}{oc16 kV16 dc16 pm16 cd16 ct16:Value}
  (a16:PySem.W.nsIn K mainGlobals "_law_right" = some (some (.ref f16))) (l16:K.lookup f16=some ⟨oc16,od16,.func (PySem.W.fnOf "_law_right" "_law_right" (bj aO) (ap aO) (ab aO) .none kV16 dc16 pm16 an16 cd16 ct16),sl16⟩) (c16:PySem.W.codeIn K cd16 "_law_right" = true) (k16:PySem.W.keepIn K (.ref f16)=true)
  {f17:Addr}{od17 an17:Option Addr}{sl17:Array (Option Value)}{oc17 kV17 dc17 pm17 cd17 ct17:Value}
  (a17:PySem.W.nsIn K mainGlobals "law" = some (some (.ref f17))) (l17:K.lookup f17=some ⟨oc17,od17,.func (PySem.W.fnOf "law" "law" (bj il) (ap il) (ab il) .none kV17 dc17 pm17 an17 cd17 ct17),sl17⟩) (c17:PySem.W.codeIn K cd17 "law" = true) (k17:PySem.W.keepIn K (.ref f17)=true)
  (z_abs:PySem.W.nsIn K mainGlobals "abs" = some none)
  (z_all:PySem.W.nsIn K mainGlobals "all" = some none)
  (z_bool:PySem.W.nsIn K mainGlobals "bool" = some none)
  (z_enumerate:PySem.W.nsIn K mainGlobals "enumerate" = some none)
  (z_int:PySem.W.nsIn K mainGlobals "int" = some none)
  (z_isinstance:PySem.W.nsIn K mainGlobals "isinstance" = some none)
  (z_len:PySem.W.nsIn K mainGlobals "len" = some none)
  (z_max:PySem.W.nsIn K mainGlobals "max" = some none)
  (z_range:PySem.W.nsIn K mainGlobals "range" = some none)
  (z_repr:PySem.W.nsIn K mainGlobals "repr" = some none)
  (z_set:PySem.W.nsIn K mainGlobals "set" = some none)
  (z_sorted:PySem.W.nsIn K mainGlobals "sorted" = some none)
  (z_sum:PySem.W.nsIn K mainGlobals "sum" = some none)
  (z_tuple:PySem.W.nsIn K mainGlobals "tuple" = some none)
  : ∃ t,Txt K mg t/\t.f_law=f17:=by
 have F0:=ci (st:=bG) l0 c0 k0
 have F1:=ci (st:=b0) l1 c1 k1
 have F2:=ci (st:=cQ) l2 c2 k2
 have F3:=ci (st:=br) l3 c3 k3
 have F4:=ci (st:=cf) l4 c4 k4
 have F5:=ci (st:=bC) l5 c5 k5
 have F6:=ci (st:=aY) l6 c6 k6
 have F7:=ci (st:=bu) l7 c7 k7
 have F8:=ci (st:=bp) l8 c8 k8
 have F9:=ci (st:=bO) l9 c9 k9
 have F10:=ci (st:=ce) l10 c10 k10
 have F11:=ci (st:=bF) l11 c11 k11
 have F12:=ci (st:=bq) l12 c12 k12
 have F13:=ci (st:=aU) l13 c13 k13
 have F14:=ci (st:=aL) l14 c14 k14
 have F15:=ci (st:=b8) l15 c15 k15
 have F16:=ci (st:=aO) l16 c16 k16
 have F17:=ci (st:=il) l17 c17 k17
 refine⟨⟨f0,_,f1,_,f2,_,f3,_,f4,_,f5,_,f6,_,f7,_,f8,_,f9,_,f10,_,f11,_,f12,_,f13,_,f14,_,f15,_,f16,_,f17,_⟩,⟨F0,qbe X G a0,F0.binds λ_ _ _ _ _ _ us hl=>(by obtain⟨_,_,rfl⟩:=qP hl;rfl),F1,qbe X G a1,F1.binds λ_ _ _ _ _ _ us hl=>(by obtain⟨_,_,rfl⟩:=qP hl;rfl),F2,qbe X G a2,F2.binds λ_ _ _ _ _ _ us hl=>(by obtain⟨_,_,_,rfl⟩:=zg hl;rfl),F3,qbe X G a3,F3.binds λ_ _ _ _ _ _ us hl=>(by obtain⟨_,_,rfl⟩:=qP hl;rfl),F4,qbe X G a4,F4.binds λ_ _ _ _ _ _ us hl=>(by obtain⟨_,rfl⟩:=nH hl;rfl),F5,qbe X G a5,F5.binds λ_ _ _ _ _ _ us hl=>(by obtain⟨_,rfl⟩:=nH hl;rfl),F6,qbe X G a6,F6.binds λ_ _ _ _ _ _ us hl=>(by obtain⟨_,_,rfl⟩:=qP hl;rfl),F7,qbe X G a7,F7.binds λ_ _ _ _ _ _ us hl=>(by obtain⟨_,rfl⟩:=nH hl;rfl),F8,qbe X G a8,F8.binds λ_ _ _ _ _ _ us hl=>(by obtain⟨_,rfl⟩:=nH hl;rfl),F9,qbe X G a9,F9.binds λ_ _ _ _ _ _ us hl=>(by obtain⟨_,_,rfl⟩:=qP hl;rfl),F10,qbe X G a10,F10.binds λ_ _ _ _ _ _ us hl=>(by obtain⟨_,rfl⟩:=nH hl;rfl),F11,qbe X G a11,F11.binds λ_ _ _ _ _ _ us hl=>(by obtain⟨_,_,_,rfl⟩:=zg hl;rfl),F12,qbe X G a12,F12.binds λ_ _ _ _ _ _ us hl=>(by obtain⟨_,_,rfl⟩:=qP hl;rfl),F13,qbe X G a13,F13.binds λ_ _ _ _ _ _ us hl=>(by obtain⟨_,_,rfl⟩:=qP hl;rfl),F14,qbe X G a14,F14.binds λ_ _ _ _ _ _ us hl=>(by obtain⟨_,_,_,rfl⟩:=zg hl;rfl),F15,qbe X G a15,F15.binds λ_ _ _ _ _ _ us hl=>(by obtain⟨_,rfl⟩:=nH hl;rfl),F16,qbe X G a16,F16.binds λ_ _ _ _ _ _ us hl=>(by obtain⟨_,rfl⟩:=nH hl;rfl),F17,qbe X G a17,F17.binds λ_ _ _ _ _ _ us hl=>(by obtain⟨_,rfl⟩:=nH hl;rfl),qa3 X G z_abs,qa3 X G z_all,qa3 X G z_bool,qa3 X G z_enumerate,qa3 X G z_int,qa3 X G z_isinstance,qa3 X G z_len,qa3 X G z_max,qa3 X G z_range,qa3 X G z_repr,qa3 X G z_set,qa3 X G z_sorted,qa3 X G z_sum,qa3 X G z_tuple⟩,rfl⟩
theorem txt_ex {K:PySem.W.Frag}{mg:Str->Option Value}{f:Addr} (h:∃ t,Txt K mg t/\t.f_law=f):∃ t,Txt K mg t:=let ⟨t,a,_⟩:=h;⟨t,a⟩
theorem walk {l:PySem.W.OpenLaw}{q:Program}{loose:List Str}{XP:(Str->Option Value)->Heap->Prop}{YP:World->Heap->Prop}{d:DefRec}{K:Params->PySem.W.Frag} (hn:l.most=some 63) (hdf:d.params.defaults=[])
  (hY:∀ (w:World) (h:Heap),YP w h->(K w.params).In h)
  (F:∀ (w:World) (mg:Str->Option Value) (fa:Addr) (h:Heap),(K w.params).In h->h.Ns mainGlobals mg->mg d.name=some (.ref fa)->
    ∃ fd:FuncData,(∀ (s:Shared) (u:Value),BindsTo s fd ⟨[u],[]⟩ [("_law_script",u)])/\∀ base:Heap,(K w.params).In base->base.Ns mainGlobals mg->bB l.prog w (K w.params) mg base CX0 6 fa fd ["_law_script"] (spI (K w.params) m_law)) :
  PySem.W.WalkO q loose XP YP l.row.toRowW d [] (λf vs=>PySem.call f vs):=
 L2.walk_of (n:=63) (k:=6) (x:="_law_script") (CX:=λ_=>CX0) (sp:=λw=>spI (K w.params) m_law) hn (by decide) hdf ⟨rfl,by decide,by decide,rfl⟩ hY F (λ_ _ a ns hl hO hS=>zn hO hS (wA ns hl)) λ_ _ _ _ _ z=>z
theorem law_mk {l:PySem.W.OpenLaw}{w:World}{K:PySem.W.Frag}{h:Heap}{mg:Str->Option Value}{fa:Addr} (hfa:mg "law" = some (.ref fa)) (T0:∃ t,Txt K mg t) :
  ∃ fd:FuncData,(∀ (s:Shared) (v:Value),BindsTo s fd ⟨[v],[]⟩ [("_law_script",v)])/\∀ base:Heap,K.In base->base.Ns mainGlobals mg->bB l.prog w K mg base CX0 6 fa fd ["_law_script"] (spI K m_law):=by
 obtain⟨t,T⟩:=T0
 have e:=hfa.symm.trans T.m_law
 cases e
 refine⟨t.fd_law,λs v=>?_,λbase _ _=>Aq T⟩
 obtain⟨oc,od,kV,doc,pm,an,cdv,ct,osl,e,_⟩:=T.F_law.ex
 rw [e]
 exact .of_eq rfl
end Own
open PySem PySem.W PyProof.Rows
set_option maxRecDepth 100000 in
set_option maxHeartbeats 0 in
theorem PySem.Challenge.cw_signpoly_k59_changes_and_a_polynomial_holds : PySem.Challenge.rw_signpoly_k59_changes_and_a_polynomial.Holds := by
 w_on;o_law;k_head;(case hw=>w_witness2)
 k_fill
 refine Own.walk (l:=PySem.Challenge.rw_signpoly_k59_changes_and_a_polynomial) rfl rfl (λw h Y=>PySem.W.kIn_of Y) ?F
 case F=>
  intro w mg fa h KX G hmg
  refine Own.law_mk (h:=h) hmg ?T
  case T=>
   refine' Own.txt_ex (Own.txt_mk KX G ?a0 ?l0 ?c0 ?k0 ?a1 ?l1 ?c1 ?k1 ?a2 ?l2 ?c2 ?k2 ?a3 ?l3 ?c3 ?k3 ?a4 ?l4 ?c4 ?k4 ?a5 ?l5 ?c5 ?k5 ?a6 ?l6 ?c6 ?k6 ?a7 ?l7 ?c7 ?k7 ?a8 ?l8 ?c8 ?k8 ?a9 ?l9 ?c9 ?k9 ?a10 ?l10 ?c10 ?k10 ?a11 ?l11 ?c11 ?k11 ?a12 ?l12 ?c12 ?k12 ?a13 ?l13 ?c13 ?k13 ?a14 ?l14 ?c14 ?k14 ?a15 ?l15 ?c15 ?k15 ?a16 ?l16 ?c16 ?k16 ?a17 ?l17 ?c17 ?k17 ?z_abs ?z_all ?z_bool ?z_enumerate ?z_int ?z_isinstance ?z_len ?z_max ?z_range ?z_repr ?z_set ?z_sorted ?z_sum ?z_tuple)
   (case a0=>k_is)
   (case l0=>k_is)
   (case c0=>k_is)
   (case k0=>k_is)
   (case a1=>k_is)
   (case l1=>k_is)
   (case c1=>k_is)
   (case k1=>k_is)
   (case a2=>k_is)
   (case l2=>k_is)
   (case c2=>k_is)
   (case k2=>k_is)
   (case a3=>k_is)
   (case l3=>k_is)
   (case c3=>k_is)
   (case k3=>k_is)
   (case a4=>k_is)
   (case l4=>k_is)
   (case c4=>k_is)
   (case k4=>k_is)
   (case a5=>k_is)
   (case l5=>k_is)
   (case c5=>k_is)
   (case k5=>k_is)
   (case a6=>k_is)
   (case l6=>k_is)
   (case c6=>k_is)
   (case k6=>k_is)
   (case a7=>k_is)
   (case l7=>k_is)
   (case c7=>k_is)
   (case k7=>k_is)
   (case a8=>k_is)
   (case l8=>k_is)
   (case c8=>k_is)
   (case k8=>k_is)
   (case a9=>k_is)
   (case l9=>k_is)
   (case c9=>k_is)
   (case k9=>k_is)
   (case a10=>k_is)
   (case l10=>k_is)
   (case c10=>k_is)
   (case k10=>k_is)
   (case a11=>k_is)
   (case l11=>k_is)
   (case c11=>k_is)
   (case k11=>k_is)
   (case a12=>k_is)
   (case l12=>k_is)
   (case c12=>k_is)
   (case k12=>k_is)
   (case a13=>k_is)
   (case l13=>k_is)
   (case c13=>k_is)
   (case k13=>k_is)
   (case a14=>k_is)
   (case l14=>k_is)
   (case c14=>k_is)
   (case k14=>k_is)
   (case a15=>k_is)
   (case l15=>k_is)
   (case c15=>k_is)
   (case k15=>k_is)
   (case a16=>k_is)
   (case l16=>k_is)
   (case c16=>k_is)
   (case k16=>k_is)
   (case a17=>k_is)
   (case l17=>k_is)
   (case c17=>k_is)
   (case k17=>k_is)
   (case z_abs=>k_is)
   (case z_all=>k_is)
   (case z_bool=>k_is)
   (case z_enumerate=>k_is)
   (case z_int=>k_is)
   (case z_isinstance=>k_is)
   (case z_len=>k_is)
   (case z_max=>k_is)
   (case z_range=>k_is)
   (case z_repr=>k_is)
   (case z_set=>k_is)
   (case z_sorted=>k_is)
   (case z_sum=>k_is)
   (case z_tuple=>k_is)
