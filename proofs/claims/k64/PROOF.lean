import PyProof.Rows.All
import Wide.All
import OpenK.AllK
import Wide.FinOn
import Lean
import PyProof.EqAt
import PyProof.EqKinds
import PyProof.TupleCall
import PyProof.ListRange
import PyProof.NeKinds
import KE.KUnpack
import KE.KSortTup
import PyProof.ZipIter
import PyProof.Rows.CallKwBuiltin
import KE.KDictLaws
import KE.KDictList
import PyProof.SetKind
import PyProof.SetRoads
import PyProof.Rows.SetFrom
import PyProof.WalksMore
import PySem.Challenge.RW_signpoly_k64_weights_beside
set_option Elab.async false
set_option linter.all false
set_option maxRecDepth 100000
set_option genSizeOf false
noncomputable section
open And renaming left -> qfm
open Array renaming getElem?_eq_getElem -> qaS, toList_append -> qa6, length_toList -> qbb, toList_inj -> qbt, perm_iff_toList_perm -> qbZ, toList_extract -> qb9, getElem_toList -> qcZ, toList_reverse -> qdz, getElem_mem_toList -> qey
open Array.Perm renaming refl -> qib
open Bool renaming false_ne_true -> qaB, false_eq_true -> qaM, and_eq_true -> qa0, not_eq_true' -> qbV, eq_iff_iff -> qcd, not_false -> qdc, not_eq_true -> qdl, not_true -> qdU, or_eq_true -> qen, not_eq_false' -> qfb, or_false -> qfU, false_or -> qfV, and_true -> qfW
open Classical renaming byContradiction -> qbY
open Int renaming toNat_natCast -> qat, zero_add -> qbl, mul_assoc -> qbq, eq_ofNat_of_zero_le -> qbU, mul_zero -> qce, one_mul -> qcf, zero_mul -> qcF, mul_left_comm -> qcV, fdiv_eq_ediv_of_nonneg -> qc7, pow_succ -> qdw, mul_ne_zero -> qdx, add_zero -> qdy, emod_lt_of_pos -> qdY, mul_comm -> qec, le_trans -> qed, neg_mul -> qeq, mul_eq_zero -> qer, emod_nonneg -> qes, ediv_nonneg -> qet, mul_one -> qe8, mul_add -> qe9, le_refl -> qfa, natCast_nonneg -> qfk, lt_of_le_of_lt -> qfl, natCast_ediv -> qfz, neg_one_mul -> qfG, natCast_mul -> qfH, natCast_add -> qfI, mul_nonneg -> qfP, pow_zero -> qgU, pow_pos -> qgZ, add_mul -> qg0
open List renaming length_map -> qaf, mem_cons_of_mem -> qah, mem_cons_self -> qai, length_cons -> qaj, map_cons -> qal, getElem?_eq_some_iff -> qan, getD_cons_zero -> qap, map_congr_left -> qas, mem_append_right -> qau, size_toArray -> qax, mem_singleton -> qaz, mem_map -> qaD, getD_cons_succ -> qaE, mem_cons -> qaF, getElem?_eq_getElem -> qaG, getElem?_map -> qaI, all_eq_true -> qaJ, replicate_succ -> qaL, map_map -> qaN, set_cons_zero -> qaP, getElem?_append_left -> qaT, cons_append -> qaU, length_append -> qaV, nil_append -> qaW, mem_filter -> qaY, replicate_zero -> qa2, mem_iff_getElem? -> qa3, length_nil -> qa4, set_cons_succ -> qa5, mem_range -> qa7, getElem_mem -> qa8, pairwise_cons -> qa9, map_nil -> qba, mem_of_getElem? -> qbf, mem_append -> qbg, getElem?_append_right -> qbj, getElem?_eq_none_iff -> qbk, sum_cons -> qbm, map_append -> qbs, getD_eq_getElem?_getD -> qbu, lookup_cons -> qbz, length_range -> qbB, append_assoc -> qbC, foldl_cons -> qbF, append_nil -> qbG, mem_append_left -> qbH, length_replicate -> qbJ, length_filter_le -> qbK, filter_map -> qbL, getElem?_set_ne -> qbR, filter_cons_of_pos -> qbS, filter_cons_of_neg -> qbT, length_set -> qbW, all_cons -> qb3, extract_eq_take_drop -> qb5, drop_eq_getElem_cons -> qb6, take_succ_eq_append_getElem -> qb7, mem_iff_getElem -> qcb, flatten_cons -> qcc, take_length -> qcg, getElem?_set_self -> qch, pairwise_append -> qcr, nodup_cons -> qcI, getElem?_replicate -> qcJ, take_of_length_le -> qcP, pairwise_map -> qcQ, map_id -> qcR, mapM_toArray -> qcS, length_singleton -> qcW, not_mem_nil -> qcX, length_take -> qcY, sum_append -> qc2, filterMap_cons -> qc3, drop_drop -> qda, foldl_append -> qde, filter_congr -> qdf, any_eq_true -> qdk, getElem?_eq_none -> qdo, all_nil -> qdp, take_zero -> qdD, forIn_nil -> qdE, getElem_of_mem -> qdI, getElem?_range -> qdJ, mem_filterMap -> qdS, filter_append -> qdT, take_add_one -> qd0, all_map -> qd2, zipIdx_cons -> qd7, getElem_inj -> qd8, filter_cons -> qd9, all_toArray -> qea, of_mem_zip -> qej, forIn_cons -> qek, drop_zero -> qew, getElem?_take_of_lt -> qeD, pairwise_singleton -> qeI, sublist_cons_self -> qeL, filter_eq_nil_iff -> qeM, singleton_append -> qeP, cons_merge_cons -> qeV, filter_eq_self -> qeY, zip_cons_cons -> qe6, push_toArray -> qfh, nodup_append -> qfi, any_eq_false -> qfj, length_drop -> qfr, isEmpty_iff -> qfs, drop_length -> qft, zipIdx_nil -> qfx, range_succ -> qfy, take_add -> qfO
open List.Perm renaming refl -> qcK, eq_of_pairwise -> qeb
open Nat renaming le_refl -> qaq, ne_of_lt -> qaw, lt_of_lt_of_le -> qaH, lt_succ_of_lt -> qaO, zero_add -> qaQ, le_trans -> qaX, zero_le -> qaZ, pow_le_pow_right -> qbx, lt_irrefl -> qbA, lt_succ_self -> qb2, ne_of_gt -> qb4, testBit_lt_two_pow -> qcj, mod_lt -> qcq, le_add_right -> qcz, pow_pos -> qcA, le_succ -> qcB, add_comm -> qcE, testBit_eq_decide_div_mod_eq -> qcO, succ_ne_self -> qc1, pow_add -> qc5, le_of_eq -> qc9, pow_succ -> qdu, not_lt_zero -> qdv, add_mul_div_left -> qdC, mul_le_mul -> qdH, add_one_ne_zero -> qdN, le_of_lt -> qd6, add_mul_mod_self_left -> qeC, lt_of_succ_lt_succ -> qeO, log2_lt -> qe5, lt_of_le_of_lt -> qfg, div_eq_of_lt -> qfw, dvd_trans -> qf3, add_assoc -> qf4, sub_zero -> qgN, sub_self -> qgO, min_self -> qgP, lt_trans -> qgQ, lt_or_ge -> qgR, gcd_comm -> qgS, add_zero -> qgT
open Ne renaming symm -> qbI
open Option renaming bind_eq_some_iff -> qab, map_eq_some_iff -> qac, bind_some -> qad, map_some -> qak, isSome_iff_exists -> qcy, getD_none -> qe4
open Option.some renaming inj -> qaA
open PyProof.Rows renaming wpS_bind -> qam, wpS_pure -> qay, boot_tuple -> qaR, slot_tuple_getitem -> qbr, wpS_forRange -> qby, callWith_type1 -> qbQ, wpS_modify -> qcn, boot_repr -> qcx, boot_sum -> qcC, boot_abs -> qcD, boot_isinstance -> qcM, wpS_mono -> qcT, wpS_get -> qc4, boot_all -> qc8, lt_int -> qdi, boot_sorted -> qdX, boot_min -> qd4, boot_int -> qd5, assignInOrder_cons -> qeg, gt_int -> qei, listUpdate_at -> qe3, subscriptTail_builtinR -> qfc, seqEpoch_at -> qfC, keyKind'_eq -> qfD, getElem?_mirror_all -> qfE, entry_tuple_getitem -> qfF, args_tuple_getitem -> qfN, assignInOrder_nil -> qf2, truthy_int -> qgI, callWith_builtin1 -> qgJ, boot_max -> qgK, boot_bool -> qgL, boot_any -> qgM, oneTypeOnly'_eq -> qgW, getElem?_bubble -> qgY, slicePart_none -> qg4, boot_enumerate -> qg7
open PyProof.Rows.KeyOrd renaming kle_trans -> qbe, kle_refl -> qcl, kle_of_klt -> qcN, klt_of_kle_of_klt -> qdb, klt_of_klt_of_kle -> qep, kle_antisymm -> qeQ, klt_asymm -> qe7
open PySem renaming wpAny_bind -> qaa, wpAny_pure -> qag, boot_len -> qaK, wpAny_seqItems -> qbd, mem_of_lookup -> qbi, wpAny_tryCatch -> qbn, wpAny_newObj_type -> qbo, wpAny_holding -> qbE, wpAny_truthy_bool -> qbM, wpAny_letGo -> qbN, wpAny_field -> qbO, plainId_quiet -> qbP, wpAny_callSpecial?_slot -> qbX, wpAny_updateSeq -> qb0, codeAny_builtin -> qb1, wpAny_rule -> qb8, wpAny_pyIter_tuple -> qca, sizeLine_eq -> qci, wpAny_call_entry -> qcm, wpAny_pyNext_list_item -> qco, wpAny_setField_rec -> qcp, wpAny_pyNext_list_end -> qcs, wpAny_passesOwn -> qct, pushCells_keeps -> qcu, wpAny_mono -> qcw, call_meets -> qcL, strLen_append -> qcU, wpAny_pyIter_list -> qc0, wpAny_pyIter_enum -> qdm, wpAny_standAt -> qdr, wpAny_pyNext_tuple_item -> qds, wpAny_of_eq -> qdt, wpAny_pyNext_tuple_end -> qdB, wpAny_ite_false -> qdK, wpAny_execs_nil -> qdL, typeIs_int -> qdP, wpAny_updateSeq_pair -> qdV, list_append -> qdW, wpAny_onRaise -> qee, wpAny_Call_Name_kw -> qef, noFill_tuple_add -> qez, ofString_length -> qeK, wpAny_binaryOp_repeat_ref -> qeS, wpAny_comprehension_free -> qeW, wpAny_pyNext_enum_itemD -> qe0, wpAny_attempt -> qe1, seq_tuple_add -> qe2, codeAny_compStart_list -> qfd, seqSlot_of -> qfe, wpAny_typeOf -> qfn, seqIndex_neg -> qfo, concat_meets -> qfp, codeAny_mono -> qfq, seqIndex_of -> qfB, wpAny_sequenceKey -> qfX, wpAny_assign_Name -> qfY, wpAny_Name -> qfZ, slot_list_getitem -> qf0, piled_cons -> qf1, wpAny_pyIter_zip -> qf6, wpAny_execs_cons -> qf7, join_length_add -> qgX, wpAny_setField -> qg1, wpAny_newTuple -> qg2, wpAny_bindName -> qg3, repr_of_reads' -> qg5, fitsIndex_both -> qg6
open PySem.Around renaming under_plainId -> qbv
open PySem.Calls renaming Name_function_global -> qem
open PySem.Draws renaming list -> qgV
open PySem.F renaming plain_max_loop -> qbh, plain_min_loop -> qck, slot_tuple_iterator_next -> qcv, entry_max_loop -> qcG, args_tuple_add_2 -> qc6, entry_tuple_add -> qdd, slot_tuple_add -> qdh, slot_tuple_lt -> qdj, slot_tuple_mul -> qdq, slot_zip_next -> qdF, slot_int_rmul -> qdG, args_list_append_2 -> qdO, entry_list_append -> qdZ, slot_list_append -> qd3, args_tuple_lt_2 -> qeo, entry_min_loop -> qeu, entry_tuple_lt -> qev, args_tuple_iterator_next_1 -> qex, plain_max -> qeE, entry_tuple_iterator_next -> qeF, entry_max -> qeG, kind_max -> qeR, args_tuple_mul_2 -> qfA, slot_tuple_rmul -> qfJ, entry_tuple_mul -> qfK, args_zip_next_1 -> qfL, args_int_rmul_2 -> qfM, slot_int_index -> qfR, entry_zip_next -> qfS, entry_int_rmul -> qfT, fills_int_mul -> qf5
open PySem.Heap renaming get?_push_of_some -> qae, lt_size -> qao, get?_update_other -> qar, get?_push_size -> qav, size_push -> qbc, get?_update_self -> qbD, get?_push_ne -> qdg, get?_update_ne -> qeZ, size_update -> qfu
open PySem.Heap.IsSliceOf renaming new -> qfQ
open PySem.Heap.SameBut renaming update -> qel
open PySem.IsL renaming update -> qdM
open PySem.Obj renaming data_mapFields -> qff
open PySem.Paired renaming length -> qfv
open PySem.PassesOwn renaming never -> qbp
open PySem.PyData renaming noDict_hsm -> qeX
open PySem.SeqAt renaming ne_of_list_tuple -> qeH
open PySem.SeqAt.EqAt renaming of_refs -> qdn, same -> qdR, str_int -> qeA, int_str -> qeB, tuple_str -> qhG, tuple_none -> qhH, tuple_list -> qhI, tuple_int -> qhJ, tuple_bool -> qhK, str_tuple -> qhL, str_str -> qhM, str_none -> qhN, str_list -> qhO, str_bool -> qhP, none_tuple -> qhQ, none_str -> qhR, none_list -> qhS, none_int -> qhT, none_bool -> qhU, list_tuple -> qhV, list_str -> qhW, list_none -> qhX, list_int -> qhY, list_bool -> qhZ, int_tuple -> qh0, int_none -> qh1, int_list -> qh2, int_int -> qh3, int_bool -> qh4, bool_tuple -> qh5, bool_str -> qh6, bool_none -> qh7, bool_list -> qh8, bool_int -> qh9, bool_bool -> qia
open PySem.SeqAt.RcAt renaming tuples -> qdA, lists_lengths -> qd1, lists -> qeJ, tuple_str -> qg8, tuple_none -> qg9, tuple_list -> qha, tuple_int -> qhb, tuple_bool -> qhc, str_tuple -> qhd, str_str -> qhe, str_none -> qhf, str_list -> qhg, str_int -> qhh, str_bool -> qhi, none_tuple -> qhj, none_str -> qhk, none_none -> qhl, none_list -> qhm, none_int -> qhn, none_bool -> qho, list_tuple -> qhp, list_str -> qhq, list_none -> qhr, list_int -> qhs, list_bool -> qht, int_tuple -> qhu, int_str -> qhv, int_none -> qhw, int_list -> qhx, int_int -> qhy, int_bool -> qhz, bool_tuple -> qhA, bool_str -> qhB, bool_none -> qhC, bool_list -> qhD, bool_int -> qhE, bool_bool -> qhF
open PySem.SeqAt.RcNeAt renaming tuples -> qeh, tuple_str -> qf8, tuple_none -> qf9, tuple_list -> qga, tuple_int -> qgb, tuple_bool -> qgc, str_tuple -> qgd, str_str -> qge, str_none -> qgf, str_list -> qgg, str_int -> qgh, str_bool -> qgi, none_tuple -> qgj, none_str -> qgk, none_none -> qgl, none_list -> qgm, none_int -> qgn, none_bool -> qgo, lists_lengths -> qgp, lists -> qgq, list_tuple -> qgr, list_str -> qgs, list_none -> qgt, list_int -> qgu, list_bool -> qgv, int_tuple -> qgw, int_str -> qgx, int_none -> qgy, int_list -> qgz, int_int -> qgA, int_bool -> qgB, bool_tuple -> qgC, bool_str -> qgD, bool_none -> qgE, bool_list -> qgF, bool_int -> qgG, bool_bool -> qgH
open PySem.W renaming mg_of -> qaC, mg_none_of -> qa1, kia_one -> qbw, cellsFrom_some -> qcH, kitx_tuple -> qeN, kitx_list -> qeT, kitx_dict -> qeU
open PySem.WalksT renaming enumerateD -> qdQ
namespace L2
open PySem PySem.Spec PyProof.Rows
abbrev Key:=Sum Int Str
noncomputable def y0:Key->Value->Bool
 | .inl k,v=>Value.isInt k v
 | .inr x,v=>Value.isStrOf x v
noncomputable def Co (w:World):Key->Int
 | .inl k=>hashInt k
 | .inr x=>hashStr w x
theorem cg:∀ {k:Key}{v:Value},y0 k v=true->(∃ i t,k=Sum.inl i/\v=Value.int i t)\/(∃ x t,k=Sum.inr x/\v=Value.str x t)
 | .inl i,v,h=>by
  obtain⟨t,e⟩:=Value.isInt_shape (k:=i) (v:=v) h
  exact .inl ⟨i,t,rfl,e⟩
 | .inr x,v,h=>by
  obtain⟨t,e⟩:=Value.isStrOf_shape (x:=x) (v:=v) h
  exact .inr ⟨x,t,rfl,e⟩
theorem zv (a b:Int):decide ((Sum.inl a:Key)=Sum.inl b)=(a==b):=by
 by_cases e:a=b
 ·subst e;simp
 ·have h:¬ (Sum.inl a:Key)=Sum.inl b:=λq=>e (Sum.inl.inj q)
  rw [decide_eq_false h]
  exact (beq_eq_false_iff_ne.mpr e).symm
theorem At (a b:Str):decide ((Sum.inr a:Key)=Sum.inr b)=decide (a=b):=by
 by_cases e:a=b
 ·subst e;simp
 ·have h:¬ (Sum.inr a:Key)=Sum.inr b:=λq=>e (Sum.inr.inj q)
  rw [decide_eq_false h,decide_eq_false e]
theorem Al (a:Int) (b:Str):decide ((Sum.inl a:Key)=Sum.inr b)=false:=decide_eq_false (λq=>nomatch q)
theorem z7 (a:Str) (b:Int):decide ((Sum.inr a:Key)=Sum.inl b)=false:=decide_eq_false (λq=>nomatch q)
noncomputable def n4 (prog:Program) (w:World):PySem.KeyKind prog w Key where
 is:=y0
 hash:=Co w
 inj:=λv a b ha hb=>by
  rcases cg ha with⟨i,t,rfl,rfl⟩ | ⟨x,t,rfl,rfl⟩
  ·rcases cg hb with⟨j,u,rfl,e⟩ | ⟨y,u,rfl,e⟩
   ·injection e with e1 _;rw [e1]
   ·exact nomatch e
  ·rcases cg hb with⟨j,u,rfl,e⟩ | ⟨y,u,rfl,e⟩
   ·exact nomatch e
   ·injection e with e1 _;rw [e1]
 byValue:=λk v h=>by
  rcases cg h with⟨i,t,rfl,rfl⟩ | ⟨x,t,rfl,rfl⟩<;>rfl
 pyHash:=λhv h=>by
  rcases cg hv with⟨i,t,rfl,rfl⟩ | ⟨x,t,rfl,rfl⟩
  ·exact wpAny_pyHash_int h
  ·exact wpAny_pyHash_str h
 eqBool:=λhu hv h=>by
  rcases cg hu with⟨i,t,rfl,rfl⟩ | ⟨x,t,rfl,rfl⟩
  ·rcases cg hv with⟨j,u,rfl,rfl⟩ | ⟨y,u,rfl,rfl⟩
   ·rw [zv] at h;exact wpAny_eqBool_int h
   ·rw [Al] at h;exact qeB i t y u _ _ _ _ h
  ·rcases cg hv with⟨j,u,rfl,rfl⟩ | ⟨y,u,rfl,rfl⟩
   ·rw [z7] at h;exact qeA x t j u _ _ _ _ h
   ·rw [At] at h;exact wpAny_eqBool_str h
 «strs»:=λk x t v h=>by
  rcases cg h with⟨i,u,rfl,e⟩ | ⟨y,u,rfl,e⟩
  ·exact nomatch e
  ·injection e with e1 _
   subst e1
   cases v<;>rfl
inductive V where
 | non | bl (b:Bool) | int (i:Int) | str (x:Str) | byt (b:Array UInt8) | flt (b:UInt64) | ref (a:Addr) | ty (n:String)
 deriving DecidableEq
noncomputable def bi:V->Value->Prop
 | .non,u=>u=Value.none
 | .bl b,u=>u=Value.bool b
 | .int i,u=>∃ t,u=Value.int i t
 | .str x,u=>∃ t,u=Value.str x t
 | .byt b,u=>∃ t,u=Value.bytes b t
 | .flt b,u=>∃ t,u=Value.float b t
 | .ref a,u=>u=Value.ref a
 | .ty n,u=>u=Value.type n
abbrev aN:List V->List Value->Prop:=Paired bi
theorem aN.length {xs:List V}{us:List Value} (r:aN xs us):xs.length=us.length:=qfv r
theorem aN.get:∀ {xs:List V}{us:List Value}{i:Nat}{x:V},aN xs us->xs[i]?=some x->∃ u,us[i]?=some u/\bi x u
 | _,_,_,_,.nil,e=>by simp at e
 | _,_,0,_,.cons r _,e=>by simp at e;subst e;exact⟨_,rfl,r⟩
 | _,_,i+1,x,.cons _ t,e=>by
  obtain⟨u,h1,h2⟩:=aN.get (i:=i) (x:=x) t (by simpa using e)
  exact⟨u,by simpa using h1,h2⟩
theorem aN.set {x:V}{u:Value} (r:bi x u):∀ {xs:List V}{us:List Value} (i:Nat),aN xs us->aN (xs.set i x) (us.set i u)
 | _,_,_,.nil=>.nil
 | _,_,0,.cons _ t=>.cons r t
 | _,_,i+1,.cons q t=>.cons q (aN.set r i t)
theorem aN.append:∀ {xs ys:List V}{us ws:List Value},aN xs us->aN ys ws->aN (xs++ys) (us++ws)
 | _,_,_,_,.nil,s=>s
 | _,_,_,_,.cons r t,s=>.cons r (aN.append t s)
theorem aN.take:∀ {xs:List V}{us:List Value} (n:Nat),aN xs us->aN (xs.take n) (us.take n)
 | _,_,0,_=>.nil
 | _,_,_+1,.nil=>.nil
 | _,_,n+1,.cons r t=>.cons r (aN.take n t)
theorem aN.drop:∀ {xs:List V}{us:List Value} (n:Nat),aN xs us->aN (xs.drop n) (us.drop n)
 | _,_,0,r=>r
 | _,_,_+1,.nil=>.nil
 | _,_,n+1,.cons _ t=>aN.drop n t
noncomputable def zK:Option V->Option Value->Prop
 | some v,some u=>bi v u
 | none,none=>True
 | _,_=>False
noncomputable def KV {κ:Type}:List (κ×V)->List (κ×Value)->Prop:=Paired λ(p:κ×V) (q:κ×Value)=>p.1=q.1/\bi p.2 q.2
noncomputable def kV:Key->V
 | .inl i=>.int i
 | .inr x=>.str x
inductive HO where
 | lst (xs:List V)
 | tup (xs:List V)
 | dK (kvs:List (Key×V)) | dT (kvs:List (List Key×V))
 | set (S:Int->Bool) (n:Nat)
 | ins (C dx:Addr) (fs:List (Str×V))
 | own (x:Addr)
 | xd (fs:List (Str×V))
 | met (f x:Addr)
 | rng (lo hi:Int)
 | frz (o:Obj) (u:HO)
 | tbl (ps:Array Value)
 | ext (φ:Heap->Prop)
abbrev Hp:=Addr->Option HO
noncomputable def upd (H:Hp) (a:Addr) (o:HO):Hp:=λb=>if b=a then some o else H b
theorem bm {H:Hp}{a:Addr}{o:HO}:upd H a o a=some o:=by unfold upd;rw [if_pos rfl]
theorem aK {H:Hp}{a b:Addr}{o:HO} (h:b≠a):upd H a o b=H b:=by unfold upd;rw [if_neg h]
theorem aL {H:Hp}{a b:Addr}{o:HO} (h:H a=some o) (h':H b=none):a≠b:=by
 intro e;subst e;rw [h] at h';cases h'
noncomputable def dq (h:Heap) (a:Addr) (its:Array Value):Prop:=∃ o:Obj,h.get? a=some o/\o.cls=.type "tuple"/\(∃ n,o.data=.seq its n)/\o.dict=none
theorem dq.tup {h:Heap}{a:Addr}{its:Array Value} (x:dq h a its):IsTup h a its:=let ⟨o,e,c,n,_⟩:=x;⟨o,e,c,n⟩
theorem dq.new (h:Heap) (its:Array Value):dq (h.push { cls:=.type "tuple",data:=.seq its }) h.objs.size its:=⟨_,qav _ rfl,rfl,⟨_,rfl⟩,rfl⟩
section
variable (P:Program) (w:World)
noncomputable def cL (H:Hp) (h:Heap) (a:Addr):HO->Prop
 | .lst xs=>xs.length<=sizeLine/\∃ (its:List Value) (n:Nat),aN xs its/\h.get? a=some { cls:=.type "list",data:=.seq its.toArray n }
 | .tup xs=>xs.length<=sizeLine/\∃ its:List Value,aN xs its/\dq h a its.toArray
 | .dK kvs=>kvs.length<=sizeLine/\(a==sysModules)=false/\∃ vs,KV kvs vs/\h.DictOf (n4 P w) a vs
 | .dT kvs=>kvs.length<=sizeLine/\(a==sysModules)=false/\∃ xs:List (List Key×Addr×Value),
   Paired (λ(p:List Key×V) (q:List Key×Addr×Value)=>p.1=q.1/\H q.2.1=some (.tup (p.1.map kV))/\bi p.2 q.2.2) kvs xs/\
   ∃ o es ep,h.get? a=some o/\o.ExactDict/\o.data=.dict es ep/\es.toList=xs.map (entryOfKey (tupleKind (n4 P w)))/\(xs.map (·.1)).Nodup
 | .set S n=>h.SetOf (intKind P w) a S n
 | .ins C dx fs=>H dx=some (.own a)/\fs.length<=1000/\dx≠a/\h.get? a=some (PySem.W.instObj C dx)/\
   ∃ mA,h.Ns1 dx mA/\(∀ f,zK (fs.lookup f) (mA f))/\PySem.Within mA (fs.map (·.1))
 | .own _=>∃ o,h.get? a=some o
 | .xd fs=>∃ mA,h.Ns1 a mA/\∀ f,zK (fs.lookup f) (mA f)
 | .rng lo hi=>∃ t u v,h.get? a=some { cls:=.type "range",data:=.fields #[.int lo t,.int hi u,.int 1 v] }
 | .frz o u=>h.get? a=some o/\cL H h a u
 | .tbl ps=>h.get? a=some { cls:=.none,data:=.fields ps }
 | .met f x=>h.get? a=some (PySem.W.methodObj (.ref f) (.ref x))
 | .ext φ=>φ h/\(∃ o,h.get? a=some o)/\∀ h1 h2:Heap,φ h1->(∀ o,h1.get? a=some o->h2.get? a=some o)->φ h2
noncomputable def HOk (H:Hp) (h:Heap):Prop:=∀ a o,H a=some o->cL P w H h a o
end
section
variable {P:Program}{w:World}{H H':Hp}{h h':Heap}{a:Addr}{o:HO}
theorem cL.lt (x:cL P w H h a o):a < h.objs.size:=by
 cases o with
 | lst xs=>obtain⟨_,_,_,_,e⟩:=x;exact qao e
 | tup xs=>obtain⟨_,_,_,p⟩:=x;exact p.tup.lt
 | dK kvs=>obtain⟨_,_,_,_,o,_,_,e,_⟩:=x;exact qao e
 | dT kvs=>obtain⟨_,_,_,_,o,_,_,e,_⟩:=x;exact qao e
 | set S n=>obtain⟨o,_,_,_,e,_⟩:=x;exact qao e
 | ins C dx fs=>obtain⟨_,_,_,e,_⟩:=x;exact qao e
 | own y=>obtain⟨_,e⟩:=x;exact qao e
 | xd fs=>obtain⟨_,⟨_,_,_,e,_⟩,_⟩:=x;exact qao e
 | rng lo hi=>obtain⟨_,_,_,e⟩:=x;exact qao e
 | frz ob u=>obtain⟨e,_⟩:=x;exact qao e
 | tbl ps=>exact qao (show h.get? a=some _ from x)
 | met f y=>exact qao (show h.get? a=some _ from x)
 | ext φ=>obtain⟨_,⟨_,e⟩,_⟩:=x;exact qao e
theorem Paired.mapP {α β:Type}{F G:α->β->Prop}:∀ {l₁:List α}{l₂:List β},Paired F l₁ l₂->(∀ a b,F a b->G a b)->Paired G l₁ l₂
 | _,_,.nil,_=>.nil
 | _,_,.cons r t,f=>.cons (f _ _ r) (Paired.mapP t f)
theorem cL.stay (x:cL P w H h a o) (k:∀ b u,(b=a\/H b=some (.own a))->h.get? b=some u->h'.get? b=some u)
  (ho:∀ b,H b=some (.own a)->H' b=some (.own a)) (ht:∀ b xs,H b=some (.tup xs)->H' b=some (.tup xs)):cL P w H' h' a o:=by
 induction o with
 | lst xs=>obtain⟨z,its,n,r,e⟩:=x;exact⟨z,its,n,r,k _ _ (.inl rfl) e⟩
 | tup xs=>obtain⟨z,its,r,ob,e,c⟩:=x;exact⟨z,its,r,ob,k _ _ (.inl rfl) e,c⟩
 | dK kvs=>obtain⟨z,y,vs,r,ob,es,ep,e,c⟩:=x;exact⟨z,y,vs,r,ob,es,ep,k _ _ (.inl rfl) e,c⟩
 | dT kvs=>
  obtain⟨z,y,xs,r,ob,es,ep,e,c⟩:=x
  exact⟨z,y,xs,Paired.mapP r λp q z=>⟨z.1,ht _ _ z.2.1,z.2.2⟩,ob,es,ep,k _ _ (.inl rfl) e,c⟩
 | set S n=>obtain⟨ob,es,ep,t,e,c⟩:=x;exact⟨ob,es,ep,t,k _ _ (.inl rfl) e,c⟩
 | ins C dx fs=>
  obtain⟨d,z,ne,e,mA,⟨od,es,ep,e2,c⟩,r⟩:=x
  exact⟨ho _ d,z,ne,k _ _ (.inl rfl) e,mA,⟨od,es,ep,k _ _ (.inr d) e2,c⟩,r⟩
 | own y=>obtain⟨ob,e⟩:=x;exact⟨ob,k _ _ (.inl rfl) e⟩
 | xd fs=>obtain⟨mA,⟨od,es,ep,e,c⟩,r⟩:=x;exact⟨mA,⟨od,es,ep,k _ _ (.inl rfl) e,c⟩,r⟩
 | rng lo hi=>obtain⟨t,u,v,e⟩:=x;exact⟨t,u,v,k _ _ (.inl rfl) e⟩
 | frz ob u ih=>obtain⟨e,q⟩:=x;exact⟨k _ _ (.inl rfl) e,ih q⟩
 | tbl ps=>
  have e:h.get? a=some { cls:=.none,data:=.fields ps }:=x
  show h'.get? a=some { cls:=.none,data:=.fields ps }
  exact k a _ (.inl rfl) e
 | met f y=>
  have e:h.get? a=some (PySem.W.methodObj (.ref f) (.ref y)):=x
  show h'.get? a=some (PySem.W.methodObj (.ref f) (.ref y))
  exact k a _ (.inl rfl) e
 | ext φ=>obtain⟨p,⟨o,e⟩,st⟩:=x;exact⟨st _ _ p λo q=>k _ _ (.inl rfl) q,⟨o,k _ _ (.inl rfl) e⟩,st⟩
theorem HOk.lt (x:HOk P w H h) (e:H a=some o):a < h.objs.size:=(x a o e).lt
theorem HOk.fresh (x:HOk P w H h) (e:h.objs.size<=a):H a=none:=by
 cases q:H a with
 | none=>rfl
 | some u=>exact absurd (qaH (x.lt q) e) (qbA _)
theorem HOk.kept (x:HOk P w H h) (k:∀ b u,h.get? b=some u->h'.get? b=some u):HOk P w H h':=λa o e=>
 (x a o e).stay (λb u _ q=>k b u q) (λ_ q=>q) λ_ _ q=>q
theorem HOk.laid (x:HOk P w H h) (k:∀ b u,h.get? b=some u->h'.get? b=some u) (hp:h.objs.size<=a) (new:cL P w (upd H a o) h' a o):HOk P w (upd H a o) h':=λb u e=>by
 have hn:=x.fresh hp
 by_cases hb:b=a
 ·subst hb;rw [bm] at e;cases e;exact new
 ·rw [aK hb] at e
  exact (x b u e).stay (λc v _ q=>k c v q) (λc q=>by rw [aK (aL q hn)];exact q) λc xs q=>by rw [aK (aL q hn)];exact q
end
noncomputable def Rd (H:Hp) (a:Addr) (u:HO):Prop:=H a=some u\/∃ o,H a=some (.frz o u)
theorem Rd.of {H:Hp}{a:Addr}{u:HO} (h:H a=some u):Rd H a u:=.inl h
theorem Rd.ok {P:Program}{w:World}{H:Hp}{h:Heap}{a:Addr}{u:HO} (r:Rd H a u) (x:HOk P w H h):cL P w H h a u:=by
 rcases r with r | ⟨o,r⟩
 ·exact x a u r
 ·obtain⟨_,q⟩:=x a _ r
  exact q
noncomputable def Mut:Option HO->Prop
 | some (.lst _)=>True
 | some (.dK _)=>True
 | some (.dT _)=>True
 | some (.set _ _)=>True
 | some (.ins _ _ _)=>True
 | some (.ext _)=>True
 | _=>False
section
variable {P:Program}{w:World}{H:Hp}{h h':Heap}{x e:Addr}{o':HO}
theorem HOk.write (ok:HOk P w H h) (mu:Mut (H x)) (he:e=x\/H e=some (.own x)) (k:∀ b u,b≠e->h.get? b=some u->h'.get? b=some u) (heo:∃ u,h'.get? e=some u)
  (new:cL P w (upd H x o') h' x o'):HOk P w (upd H x o') h':=λb u q=>by
 have nown:∀ c y,H c=some (.own y)->c≠x:=λc y r z=>by subst z;rw [r] at mu;exact mu
 have ntup:∀ c xs,H c=some (.tup xs)->c≠x:=λc xs r z=>by subst z;rw [r] at mu;exact mu
 by_cases hb:b=x
 ·subst hb;rw [bm] at q;cases q;exact new
 ·rw [aK hb] at q
  by_cases hbe:b=e
  ·have q':H b=some (.own x):=by
    rcases he with z | z
    ·exact absurd (hbe.trans z) hb
    ·rw [hbe];exact z
   rw [q] at q';cases q'
   obtain⟨v,hv⟩:=heo
   exact⟨v,by rw [hbe];exact hv⟩
  ·refine (ok b u q).stay (λc v hc r=>k c v ?_ r) (λc r=>by rw [aK (nown c b r)];exact r) λc xs r=>by rw [aK (ntup c xs r)];exact r
   rcases hc with rfl | hc
   ·exact hbe
   ·rintro rfl
    rcases he with z | z
    ·exact nown c b hc z
    ·rw [hc] at z;cases z;exact hb rfl
end
structure Un (fs ex:List Addr) (H H':Hp) (h h':Heap):Prop where
 keep:∀ b o,h.get? b=some o->H b=none->b ∉ fs->b ∉ ex->h'.get? b=some o
 slot:∀ b o,h.get? b=some o->H b=none->b ∈ fs->b ∉ ex->∃ sl,h'.get? b=some { o with slots:=sl }
 free:∀ b o,h.get? b=some o->H b=none->b ∉ ex->H' b=none
 there:∀ b o,h.get? b=some o->b ∉ ex->∃ o',h'.get? b=some o'
 tups:∀ b xs,H b=some (.tup xs)->H' b=some (.tup xs)
 frzs:∀ b o u,H b=some (.frz o u)->H' b=some (.frz o u)
 tbls:∀ b ps,H b=some (.tbl ps)->∃ more,H' b=some (.tbl (ps++more))
section
variable {fs fs' ex ex':List Addr}{H H1 H2:Hp}{h h1 h2 h':Heap}{a x e:Addr}{o:HO}
theorem Un.any (u:Un fs ex H H1 h h1) {b:Addr}{ob:Obj} (q:h.get? b=some ob) (n:H b=none) (hx:b ∉ ex):∃ sl,h1.get? b=some { ob with slots:=sl }:=by
 by_cases hb:b ∈ fs
 ·exact u.slot b ob q n hb hx
 ·exact⟨ob.slots,u.keep b ob q n hb hx⟩
theorem Un.kept (k:∀ b u,h.get? b=some u->h'.get? b=some u):Un fs ex H H h h':=
 ⟨λb ob q _ _ _=>k b ob q,λb ob q _ _ _=>⟨ob.slots,k b ob q⟩,λ_ _ _ n _=>n,λb ob q _=>⟨ob,k b ob q⟩,λ_ _ q=>q,λ_ _ _ q=>q,λ_ ps q=>⟨#[],by rw [q];simp⟩⟩
theorem Un.refl:Un fs ex H H h h:=Un.kept λ_ _ q=>q
theorem Un.laid (k:∀ b u,h.get? b=some u->h'.get? b=some u) (hp:h.objs.size<=a) (hn:H a=none):Un fs ex H (upd H a o) h h' where
 keep:=λb u q _ _ _=>k b u q
 slot:=λb u q _ _ _=>⟨u.slots,k b u q⟩
 free:=λb u q n _=>by rw [aK (qaw (qaH (qao q) hp))];exact n
 there:=λb u q _=>⟨u,k b u q⟩
 tups:=λb xs q=>by rw [aK (aL q hn)];exact q
 frzs:=λb u xs q=>by rw [aK (aL q hn)];exact q
 tbls:=λb ps q=>⟨#[],by rw [aK (aL q hn),q];simp⟩
theorem Un.write (mu:Mut (H x)) (he:e=x\/H e=some (.own x)) (k:∀ b u,b≠e->h.get? b=some u->h'.get? b=some u) (heo:∃ u,h'.get? e=some u):Un fs ex H (upd H x o) h h':=by
 have hx:∀ b,H b=none->b≠x:=λb n z=>by subst z;rw [n] at mu;exact mu
 have hb:∀ b,H b=none->b≠e:=λb n z=>by
  subst z
  rcases he with r | r
  ·exact hx b n r
  ·rw [n] at r;cases r
 have hm:∀ b u,H b=some u->¬ Mut (some u)->b≠x:=λb u q nm z=>by subst z;rw [q] at mu;exact nm mu
 refine⟨λb u q n _ _=>k b u (hb b n) q,λb u q n _ _=>⟨u.slots,k b u (hb b n) q⟩,λb u q n _=>by rw [aK (hx b n)];exact n,λb u q _=>?_,
  λb xs q=>by rw [aK (hm b _ q λz=>z)];exact q,λb u xs q=>by rw [aK (hm b _ q λz=>z)];exact q,λb ps q=>⟨#[],by rw [aK (hm b _ q λz=>z),q];simp⟩⟩
 by_cases hbe:b=e
 ·subst hbe;exact heo
 ·exact⟨u,k b u hbe q⟩
end
noncomputable def trk (h:Heap) (H:Hp):List Addr:=(List.range h.objs.size).filter λa=>(H a).isSome
noncomputable def nH (h:Heap) (H:Hp):Heap:=PySem.W.hideAll h (trk h H)
theorem t6 (h:Heap) (H:Hp):(nH h H).objs.size=h.objs.size:=PySem.W.hideAll_size _ _
theorem wL {h:Heap}{H:Hp}{b:Addr}{o:Obj} (e:h.get? b=some o) (n:H b=none):(nH h H).get? b=some o:=
 PySem.W.hideAll_get _ e λhm=>by
  have q:(H b).isSome=true:=(qaY.mp hm).2
  rw [n] at q;simp at q
theorem xg {h:Heap}{H:Hp}{b:Addr}{o:Obj} (e:(nH h H).get? b=some o):h.get? b=some o/\H b=none:=by
 have e':h.get? b=some o:=PySem.W.of_hideAll (trk h H) e
 refine⟨e',?_⟩
 cases q:H b with
 | none=>rfl
 | some x=>
  have hm:b ∈ trk h H:=qaY.mpr ⟨qa7.mpr (qao e'),by simp [q]⟩
  have z:(nH h H).get? b=none:=PySem.W.hideAll_none (trk h H) hm
  rw [z] at e;cases e
structure Mod (K:PySem.W.Frag) (mg:Str->Option Value) (base:Heap):Prop where
 kin:K.In base
 glob:base.Ns mainGlobals mg
 blt:∃ mb,base.Ns builtinsNs mb/\∀ x:Str,x≠"__name__"->mb x=bootBuiltins x
 nolimit:base.NoLimit
structure Cx where
 prog:Program
 w:World
 K:PySem.W.Frag
 mg:Str->Option Value
 base:Heap
 A:Around
 N:List Str
 s₀:Shared
 H₀:Hp
 env:Env
 outer:List Env
 stack:List Env
 ex:List Addr
 fn:Str->Bool
 calm:Bool
 pn:List (Addr×Obj)
 xe:Value->Shared->Prop
noncomputable def frs (l:List Env):List Addr:=l.filterMap (·.frame)
abbrev Cx.fs (X:Cx):List Addr:=frs X.outer
noncomputable def Vis (sc:Scope) (x:Str):Prop:=sc.names.lookup x=some .local\/sc.names.lookup x=some .cell\/sc.names.lookup x=some .free
noncomputable def Loc (sc:Scope) (x:Str):Prop:=sc.names.lookup x=some .local\/sc.names.lookup x=some .cell
noncomputable def Cv (env:Env) (h:Heap) (m:Str->Option Value) (x:Str) (u:Value):Prop:=
 (env.kindOf x=some .local/\m x=some u)\/((env.kindOf x=some .cell\/env.kindOf x=some .free)/\∃ c,env.cells.lookup x=some c/\h.IsCell c (some u))
structure Cx.Ok (X:Cx):Prop where
 mod:Mod X.K X.mg X.base
 kind:X.env.scope.kind=.function
 glob:X.env.globals=mainGlobals
 blt:X.env.builtins=builtinsNs
 above:X.s₀.heap.objs.size<=X.env.locals
 inj:∀ x y c,X.env.cells.lookup x=some c->X.env.cells.lookup y=some c->x=y
 has:∀ x,(X.env.kindOf x=some .cell\/X.env.kindOf x=some .free)->∃ c,X.env.cells.lookup x=some c
 cab:∀ x c,X.fn x=true->X.env.cells.lookup x=some c->X.s₀.heap.objs.size<=c
 hd:X.calm=true->X.A.handled=none
 frames:X.A.frames=some X.stack
 stk:X.stack=X.outer\/(X.stack=X.env::X.outer/\X.env.frame=some X.env.locals)
 exf:∀ b ∈ X.ex,b≠X.env.locals/\∀ x c,X.env.cells.lookup x=some c->c≠b
 bs:∀ b o,X.base.get? b=some o->X.s₀.heap.get? b=some o/\X.H₀ b=none
 bsz:X.base.objs.size<=X.s₀.heap.objs.size
 noex:∀ b o,X.base.get? b=some o->b ∉ X.ex
 exfs:∀ b ∈ X.ex,b ∉ X.fs
 funs:X.s₀.heap.FunFrames X.base X.outer
 frf:∀ b ∈ X.fs,X.H₀ b=none
structure Inv (X:Cx) (pins:List (Addr×Obj)) (σ:List (Option V)) (H:Hp) (s:Shared):Prop where
 ok:X.Ok
 os:s.os=X.s₀.os
 bare:AllBare s.gens
 base:Un X.fs X.ex X.H₀ H X.s₀.heap s.heap
 loc:∃ m,s.heap.Ns X.env.locals m/\∀ (i:Nat) (x:Str) (v:V),X.N[i]?=some x->σ[i]?=some (some v)->Vis X.env.scope x->∃ u,bi v u/\Cv X.env s.heap m x u
 cell:∀ x c,X.env.cells.lookup x=some c->∃ v,s.heap.IsCell c v
 free:H X.env.locals=none
 freeC:∀ x c,X.env.cells.lookup x=some c->H c=none
 pin:∀ p ∈ X.pn++pins,s.heap.get? p.1=some p.2/\H p.1=none/\p.1≠X.env.locals/\p.1 ∉ X.fs/\∀ v,p.2.data≠.cell v
 hok:HOk X.prog X.w H s.heap
 len:σ.length=X.N.length
section
variable {X:Cx}{pins:List (Addr×Obj)}{σ:List (Option V)}{H H':Hp}{s:Shared}{h':Heap}
theorem Cx.Ok.nofr (ok:X.Ok) {b:Addr}{o:Obj} (e:X.base.get? b=some o):b ∉ X.fs:=λhb=>by
 have:=(ok.funs.mem hb).1
 rw [e] at this;cases this
theorem Inv.bs (I:Inv X pins σ H s):∀ b o,X.base.get? b=some o->s.heap.get? b=some o/\H b=none:=λb o e=>
 ⟨I.base.keep b o (I.ok.bs b o e).1 (I.ok.bs b o e).2 (I.ok.nofr e) (I.ok.noex b o e),I.base.free b o (I.ok.bs b o e).1 (I.ok.bs b o e).2 (I.ok.noex b o e)⟩
theorem Inv.bk (I:Inv X pins σ H s):∀ b o,X.base.get? b=some o->s.heap.get? b=some o:=λb o e=>(I.bs b o e).1
theorem Inv.mod (I:Inv X pins σ H s):Mod X.K X.mg X.base:=I.ok.mod
theorem Inv.kIn (I:Inv X pins σ H s):X.K.In s.heap:=I.ok.mod.kin.keeps I.bk
theorem Inv.fr (I:Inv X pins σ H s):∃ m,Fr X.base X.env.locals s.heap m:=
 let ⟨m,hn,_⟩:=I.loc
 ⟨m,hn,I.bk,qaX I.ok.bsz I.ok.above⟩
theorem Inv.lt (I:Inv X pins σ H s):X.env.locals < s.heap.objs.size:=let ⟨_,hn,_⟩:=I.loc;hn.lt
theorem Inv.sz (I:Inv X pins σ H s):X.s₀.heap.objs.size<=s.heap.objs.size:=qaX I.ok.above (qd6 I.lt)
theorem Inv.nofs (I:Inv X pins σ H s) {a:Addr} (h:s.heap.objs.size<=a):a ∉ X.fs:=λhb=>by
 obtain⟨_,o,ho,_⟩:=I.ok.funs.mem hb
 exact absurd (qaH (qao ho) (qaX I.sz h)) (qbA _)
theorem Inv.cne (I:Inv X pins σ H s):∀ x c,X.env.cells.lookup x=some c->c≠X.env.locals:=λx c e z=>by
 obtain⟨v,o,ho,hd⟩:=I.cell x c e
 obtain⟨m,⟨o',es,ep,ho',hd',_⟩,_⟩:=I.loc
 rw [z,ho'] at ho;cases ho;rw [hd'] at hd;cases hd
theorem Inv.funs (I:Inv X pins σ H s):s.heap.FunFrames X.base X.outer:=by
 have all:∀ (l:List Env),(∀ b ∈ frs l,b ∈ X.fs)->X.s₀.heap.FunFrames X.base l->s.heap.FunFrames X.base l:=by
  intro l
  induction l with
  | nil=>intro _ _;trivial
  | cons env r ih=>
   intro hs hl
   obtain⟨hk,⟨L,o,hf,hn,ho,hd⟩,hr⟩:=hl
   have hL:L ∈ X.fs:=hs L (by unfold frs;rw [qc3,hf];exact qai)
   obtain⟨sl,e⟩:=I.base.slot L o ho (I.ok.frf L hL) hL λz=>I.ok.exfs L z hL
   exact⟨hk,⟨L,_,hf,hn,e,hd⟩,ih (λb hb=>hs b (by unfold frs;rw [qc3,hf];exact qah _ hb)) hr⟩
 exact all X.outer (λ_ hb=>hb) I.ok.funs
theorem Inv.stack (I:Inv X pins σ H s):s.heap.FunFrames X.base X.stack:=by
 rcases I.ok.stk with e | ⟨e,hf⟩
 ·rw [e];exact I.funs
 ·rw [e]
  obtain⟨m,hn,_⟩:=I.loc
  refine .cons (by rw [I.ok.kind];decide) hf hn ?_ I.funs
  exact Heap.get?_none_of_le (qaX I.ok.bsz I.ok.above)
theorem Inv.stkSub (I:Inv X pins σ H s):∀ b ∈ frs X.stack,b ∈ X.env.locals::X.fs:=λb hb=>by
 rcases I.ok.stk with e | ⟨e,hf⟩
 ·rw [e] at hb;exact qah _ hb
 ·rw [e] at hb
  unfold frs at hb
  rw [qc3,hf] at hb
  exact hb
theorem Inv.stkFree (I:Inv X pins σ H s):∀ b ∈ frs X.stack,H b=none:=λb hb=>by
 rcases qaF.mp (I.stkSub b hb) with e | hb
 ·rw [e];exact I.free
 ·obtain⟨_,o,ho,_⟩:=I.ok.funs.mem hb
  exact I.base.free b o ho (I.ok.frf b hb) λz=>I.ok.exfs b z hb
theorem Inv.step {g':Array GenState}{t':Nat}{d':Drawn}{ch:List Addr} (I:Inv X pins σ H s)
  (hch:∀ b ∈ ch,(b ∈ X.ex\/X.s₀.heap.objs.size<=b)/\b≠X.env.locals/\(∀ x c,X.env.cells.lookup x=some c->c≠b)/\∀ p ∈ X.pn++pins,p.1≠b)
  (keep:∀ b o,b≠X.env.locals->b ∉ X.fs->b ∉ ch->s.heap.get? b=some o->H b=none->h'.get? b=some o)
  (slot:∀ b o,b≠X.env.locals->b ∈ X.fs->b ∉ ch->s.heap.get? b=some o->H b=none->∃ sl,h'.get? b=some { o with slots:=sl }) (free:∀ b o,b ∉ ch->s.heap.get? b=some o->H b=none->H' b=none)
  (there:∀ b o,b ∉ ch->s.heap.get? b=some o->∃ o',h'.get? b=some o')
  (tups:∀ b xs,H b=some (.tup xs)->H' b=some (.tup xs)) (frzs:∀ b o u,H b=some (.frz o u)->H' b=some (.frz o u)) (tbls:∀ b ps,H b=some (.tbl ps)->∃ more,H' b=some (.tbl (ps++more)))
  (ns:∀ m,s.heap.Ns X.env.locals m->h'.Ns X.env.locals m) (hok:HOk X.prog X.w H' h') (hg:AllBare g') :
  Inv X pins σ H' { s with heap:=h',gens:=g',drawn:=d',toks:=t' }:=by
 have neL:∀ b o,X.s₀.heap.get? b=some o->b≠X.env.locals:=λb o e=>qaw (qaH (qao e) I.ok.above)
 have neC:∀ b o,X.s₀.heap.get? b=some o->b ∉ X.ex->b ∉ ch:=λb o e hx hb=>by
  rcases (hch b hb).1 with z | z
  ·exact hx z
  ·exact absurd (qaH (qao e) z) (qbA _)
 have cellK:∀ x c,X.env.cells.lookup x=some c->∀ v,s.heap.IsCell c v->h'.IsCell c v:=λx c e v ⟨o,ho,hd⟩=>by
  have nch:c ∉ ch:=λz=>(hch c z).2.2.1 x c e rfl
  by_cases hc:c ∈ X.fs
  ·obtain⟨sl,q⟩:=slot c o (I.cne x c e) hc nch ho (I.freeC x c e)
   exact⟨_,q,hd⟩
  ·exact⟨o,keep c o (I.cne x c e) hc nch ho (I.freeC x c e),hd⟩
 refine⟨I.ok,I.os,hg,⟨λb o e n hb hx=>?_,λb o e n hb hx=>?_,λb o e n hx=>?_,λb o e hx=>?_,λb xs e=>tups b xs (I.base.tups b xs e),λb o xs e=>frzs b o xs (I.base.frzs b o xs e),λb ps e=>?_⟩,?_,λx c e=>?_,?_,λx c e=>?_,λp hp=>?_,hok,I.len⟩
 ·exact keep b o (neL b o e) hb (neC b o e hx) (I.base.keep b o e n hb hx) (I.base.free b o e n hx)
 ·obtain⟨sl,e1⟩:=I.base.slot b o e n hb hx
  obtain⟨sl',e2⟩:=slot b _ (neL b o e) hb (neC b o e hx) e1 (I.base.free b o e n hx)
  exact⟨sl',e2⟩
 ·obtain⟨o',e1⟩:=I.base.there b o e hx
  exact free b o' (neC b o e hx) e1 (I.base.free b o e n hx)
 ·obtain⟨o',e1⟩:=I.base.there b o e hx
  exact there b o' (neC b o e hx) e1
 ·obtain⟨m1,e1⟩:=I.base.tbls b ps e
  obtain⟨m2,e2⟩:=tbls b _ e1
  exact⟨m1++m2,by rw [e2,Array.append_assoc]⟩
 ·obtain⟨m,hn,hl⟩:=I.loc
  refine⟨m,ns m hn,λi x v e1 e2 e3=>?_⟩
  obtain⟨u,r,l⟩:=hl i x v e1 e2 e3
  refine⟨u,r,?_⟩
  rcases l with l | ⟨k,c,e,z⟩
  ·exact .inl l
  ·exact .inr ⟨k,c,e,cellK x c e _ z⟩
 ·obtain⟨v,z⟩:=I.cell x c e
  exact⟨v,cellK x c e v z⟩
 ·obtain⟨m,⟨o,_,_,ho,_⟩,_⟩:=I.loc
  exact free _ o (λz=>(hch _ z).2.1 rfl) ho I.free
 ·obtain⟨v,o,ho,hd⟩:=I.cell x c e
  exact free c o (λz=>(hch c z).2.2.1 x c e rfl) ho (I.freeC x c e)
 ·obtain⟨e,n,ne,nf,d⟩:=I.pin p hp
  have nch:p.1 ∉ ch:=λz=>(hch p.1 z).2.2.2 p hp rfl
  exact⟨keep p.1 p.2 ne nf nch e n,free p.1 p.2 nch e n,ne,nf,d⟩
theorem Inv.un {t':Nat} (I:Inv X pins σ H s) (u:Un X.fs [] H H' s.heap h') (hok:HOk X.prog X.w H' h'):Inv X pins σ H' { s with heap:=h',toks:=t' }:=by
 obtain⟨m,⟨o,es,ep,ho,r⟩,_⟩:=id I.loc
 obtain⟨sl,hL⟩:=u.any ho I.free (by simp)
 exact I.step (g':=s.gens) (d':=s.drawn) (ch:=[]) (λ_ z=>nomatch z) (λb o _ hb _ e n=>u.keep b o e n hb (by simp)) (λb o _ hb _ e n=>u.slot b o e n hb (by simp)) (λb o _ e n=>u.free b o e n (by simp)) (λb o _ e=>u.there b o e (by simp)) u.tups u.frzs u.tbls (λm' hm=>by
  obtain⟨o',es',ep',ho',r'⟩:=hm
  rw [ho] at ho';cases ho'
  exact⟨_,es',ep',hL,r'⟩) hok I.bare
theorem Inv.call {g':Array GenState}{t':Nat}{d':Drawn}{ch:List Addr} (I:Inv X pins σ H s) (u:Un (frs X.stack) ch H H' s.heap h') (hok:HOk X.prog X.w H' h') (hg:AllBare g')
  (hch:∀ b ∈ ch,(b ∈ X.ex\/X.s₀.heap.objs.size<=b)/\b≠X.env.locals/\(∀ x c,X.env.cells.lookup x=some c->c≠b)/\∀ p ∈ X.pn++pins,p.1≠b) :
  Inv X pins σ H' { s with heap:=h',gens:=g',drawn:=d',toks:=t' }:=by
 obtain⟨m,⟨o,es,ep,ho,r⟩,_⟩:=id I.loc
 obtain⟨sl,hL⟩:=u.any ho I.free λz=>(hch _ z).2.1 rfl
 exact I.step (ch:=ch) hch (λb o hL hb hc e n=>u.keep b o e n (λz=>(qaF.mp (I.stkSub b z)).elim hL hb) hc) (λb o _ _ hc e n=>u.any e n hc) (λb o hc e n=>u.free b o e n hc) (λb o hc e=>u.there b o e hc) u.tups u.frzs u.tbls (λm' hm=>by
  obtain⟨o',es',ep',ho',r'⟩:=hm
  rw [ho] at ho';cases ho'
  exact⟨_,es',ep',hL,r'⟩) hok hg
theorem Inv.turned {t':Nat}{it:Addr} (I:Inv X pins σ H s) (k:∀ b o,b≠it->s.heap.get? b=some o->h'.get? b=some o) (hn:H it=none) (hL:it≠X.env.locals)
  (h1:it ∈ X.ex\/X.s₀.heap.objs.size<=it) (h2:∀ x c,X.env.cells.lookup x=some c->c≠it) (h3:∀ p ∈ X.pn++pins,p.1≠it):Inv X pins σ H { s with heap:=h',toks:=t' }:=by
 have nit:∀ b u,H b=some u->b≠it:=λb u e z=>by rw [z,hn] at e;cases e
 refine I.step (g':=s.gens) (d':=s.drawn) (ch:=[it]) (λb hb=>?_) (λb o _ _ hc e _=>k b o (λz=>hc (by simp [z])) e) (λb o _ _ hc e _=>⟨o.slots,k b o (λz=>hc (by simp [z])) e⟩) (λ_ _ _ _ n=>n)
  (λb o hc e=>⟨o,k b o (λz=>hc (by simp [z])) e⟩) (λ_ _ e=>e) (λ_ _ _ e=>e) (λb ps e=>⟨#[],by rw [e];simp⟩) (λm hm=>?_) (λb u e=>?_) I.bare
 ·have e:b=it:=by simpa using hb
  subst e
  exact⟨h1,hL,h2,h3⟩
 ·obtain⟨o,es,ep,ho,r⟩:=hm
  exact⟨o,es,ep,k _ o (qbI hL) ho,r⟩
 ·refine (I.hok b u e).stay (λc v hc q=>k c v ?_ q) (λ_ q=>q) λ_ _ q=>q
  rcases hc with z | z
  ·rw [z];exact nit b u e
  ·exact nit c _ z
theorem Inv.tok (I:Inv X pins σ H s) (t:Nat):Inv X pins σ H { s with toks:=t }:=I.un (h':=s.heap) (t':=t) Un.refl I.hok
theorem Inv.kept {t':Nat} (I:Inv X pins σ H s) (k:∀ b u,s.heap.get? b=some u->h'.get? b=some u):Inv X pins σ H { s with heap:=h',toks:=t' }:=I.un (Un.kept k) (I.hok.kept k)
theorem Inv.laid {a:Addr}{o:HO}{t':Nat} (I:Inv X pins σ H s) (k:∀ b u,s.heap.get? b=some u->h'.get? b=some u) (hp:s.heap.objs.size<=a) (new:cL X.prog X.w (upd H a o) h' a o) :
  Inv X pins σ (upd H a o) { s with heap:=h',toks:=t' }:=I.un (Un.laid k hp (I.hok.fresh hp)) (I.hok.laid k hp new)
theorem Inv.write {x e:Addr}{o:HO}{t':Nat} (I:Inv X pins σ H s) (mu:Mut (H x)) (he:e=x\/H e=some (.own x)) (k:∀ b u,b≠e->s.heap.get? b=some u->h'.get? b=some u) (heo:∃ u,h'.get? e=some u)
  (new:cL X.prog X.w (upd H x o) h' x o):Inv X pins σ (upd H x o) { s with heap:=h',toks:=t' }:=I.un (Un.write mu he k heo) (I.hok.write mu he k heo new)
theorem Inv.weak {σ':List (Option V)} (I:Inv X pins σ H s) (hl:σ'.length=σ.length) (w:∀ (i:Nat) v,σ'[i]?=some (some v)->σ[i]?=some (some v)):Inv X pins σ' H s:=
 ⟨I.ok,I.os,I.bare,I.base,let ⟨m,hn,hl'⟩:=I.loc;⟨m,hn,λi x v e1 e2 e3=>hl' i x v e1 (w i v e2) e3⟩,I.cell,I.free,I.freeC,I.pin,I.hok,hl.trans I.len⟩
theorem Inv.pins_of {pins':List (Addr×Obj)} (I:Inv X pins σ H s) (h:∀ p ∈ pins',s.heap.get? p.1=some p.2/\H p.1=none/\p.1≠X.env.locals/\p.1 ∉ X.fs/\∀ v,p.2.data≠.cell v):Inv X pins' σ H s:=
 ⟨I.ok,I.os,I.bare,I.base,I.loc,I.cell,I.free,I.freeC,λp hp=>(qbg.mp hp).elim (λz=>I.pin p (qbH _ z)) (h p),I.hok,I.len⟩
theorem pE {N:List Str} (hN:N.Nodup) {i j:Nat}{x:Str} (a:N[i]?=some x) (b:N[j]?=some x):i=j:=by
 obtain⟨h1,e1⟩:=qan.mp a
 obtain⟨h2,e2⟩:=qan.mp b
 exact (qd8 hN).mp (e1.trans e2.symm)
theorem ut {M:Model}{A:Around}{E:Value->Shared->Prop}{i:Nat}{x:Str}{v:V}{u:Value}{Q:Unit->Shared->Prop} (I:Inv X pins σ H s) (hN:X.N.Nodup) (hi:X.N[i]?=some x) (hx:Loc X.env.scope x) (r:bi v u)
  (h:∀ s',Inv X pins (σ.set i (some v)) H s'->(∃ a,Heap.SameBut a s.heap s'.heap/\(a=X.env.locals\/X.env.cells.lookup x=some a))->Q () s') (hf:X.fn x=true\/X.env.scope.names.lookup x=some .local:=by first | exact .inl rfl | exact .inr rfl | assumption):wpAny M A (storeName X.env x u) Q E s:=by
 obtain⟨m,hn,hl⟩:=id I.loc
 have hcls:(X.env.scope.kind==.class || (X.env.scope.kind==.module && X.env.locals != X.env.globals))=false:=by rw [I.ok.kind];rfl
 have hiσ:i < σ.length:=by rw [I.len];exact (qan.mp hi).1
 have cne:=I.cne
 have tracked:∀ {a:Addr}{h':Heap},(∃ o,s.heap.get? a=some o/\H a=none)->Heap.SameBut a s.heap h'->HOk X.prog X.w H h':=λ{a h'} ha hs b ob e=>by
  obtain⟨_,_,hfree⟩:=ha
  refine (I.hok b ob e).stay (λc w' hc q=>(hs.2 c ?_).trans q) (λ_ q=>q) λ_ _ q=>q
  rintro rfl
  rcases hc with rfl | hc
  ·rw [hfree] at e;cases e
  ·rw [hfree] at hc;cases hc
 rcases hx with hk | hk
 ·refine wpAny_storeName_local hk hn (λh' hn' hs=>?_) hcls
  obtain⟨oL,_,_,hoL,_⟩:=id hn
  refine h _ ⟨I.ok,I.os,I.bare,⟨λb o e n hb hx=>?_,λb o e n hb hx=>?_,I.base.free,λb o e hx=>?_,I.base.tups,I.base.frzs,I.base.tbls⟩,⟨_,hn',λj y v' e1 e2 e3=>?_⟩,λy c e=>?_,I.free,I.freeC,λp hp=>?_,tracked ⟨oL,hoL,I.free⟩ hs,by simpa using I.len⟩ ⟨_,hs,.inl rfl⟩
  ·exact (hs.2 b (qaw (qaH (qao e) I.ok.above))).trans (I.base.keep b o e n hb hx)
  ·obtain⟨sl,e1⟩:=I.base.slot b o e n hb hx
   exact⟨sl,(hs.2 b (qaw (qaH (qao e) I.ok.above))).trans e1⟩
  ·obtain⟨o',e1⟩:=I.base.there b o e hx
   exact⟨o',(hs.2 b (qaw (qaH (qao e) I.ok.above))).trans e1⟩
  ·by_cases hj:j=i
   ·subst hj
    rw [hi] at e1;cases e1
    rw [qch hiσ] at e2
    cases e2
    exact⟨u,r,.inl ⟨hk,by simp⟩⟩
   ·rw [qbR (qbI hj)] at e2
    obtain⟨u',r',q⟩:=hl j y v' e1 e2 e3
    refine⟨u',r',?_⟩
    rcases q with⟨k,e⟩ | ⟨k,c,e,z⟩
    ·refine .inl ⟨k,?_⟩
     have:y≠x:=λe=>hj (pE hN e1 (e ▸ hi))
     simp [this,e]
    ·exact .inr ⟨k,c,e,z.sameBut hs (cne y c e)⟩
  ·obtain⟨w',z⟩:=I.cell y c e
   exact⟨w',z.sameBut hs (cne y c e)⟩
  ·obtain⟨e,n,ne,nf,d⟩:=I.pin p hp
   exact⟨(hs.2 p.1 ne).trans e,n,ne,nf,d⟩
 ·have hfn:X.fn x=true:=by
   rcases hf with z | z
   ·exact z
   ·rw [z] at hk;cases hk
  obtain⟨c,hc⟩:=I.ok.has x (.inl hk)
  obtain⟨w',z⟩:=I.cell x c hc
  refine wpAny_storeName_cell I.ok.kind hk hc z (λh' hc' hs=>?_)
  obtain⟨oc,hoc,hocd⟩:=id z
  refine h { s with heap:=h' } ⟨I.ok,I.os,I.bare,⟨λb o e n hb hx=>?_,λb o e n hb hx=>?_,I.base.free,λb o e hx=>?_,I.base.tups,I.base.frzs,I.base.tbls⟩,⟨m,hn.sameBut hs (qbI (cne x c hc)),λj y v' e1 e2 e3=>?_⟩,λy c' e=>?_,I.free,I.freeC,λp hp=>?_,tracked ⟨oc,hoc,I.freeC x c hc⟩ hs,by simpa using I.len⟩ ⟨c,hs,.inr hc⟩
  ·exact (hs.2 b (qaw (qaH (qao e) (I.ok.cab x c hfn hc)))).trans (I.base.keep b o e n hb hx)
  ·obtain⟨sl,e1⟩:=I.base.slot b o e n hb hx
   exact⟨sl,(hs.2 b (qaw (qaH (qao e) (I.ok.cab x c hfn hc)))).trans e1⟩
  ·obtain⟨o',e1⟩:=I.base.there b o e hx
   exact⟨o',(hs.2 b (qaw (qaH (qao e) (I.ok.cab x c hfn hc)))).trans e1⟩
  ·by_cases hj:j=i
   ·subst hj
    rw [hi] at e1;cases e1
    rw [qch hiσ] at e2
    cases e2
    exact⟨u,r,.inr ⟨.inl hk,c,hc,hc'⟩⟩
   ·rw [qbR (qbI hj)] at e2
    obtain⟨u',r',q⟩:=hl j y v' e1 e2 e3
    refine⟨u',r',?_⟩
    rcases q with q | ⟨k,c',e,z'⟩
    ·exact .inl q
    ·refine .inr ⟨k,c',e,z'.sameBut hs ?_⟩
     rintro rfl
     exact hj (pE hN e1 (I.ok.inj _ _ _ e hc ▸ hi))
  ·by_cases hcc:c'=c
   ·subst hcc;exact⟨_,hc'⟩
   ·obtain⟨w2,z2⟩:=I.cell y c' e
    exact⟨w2,z2.sameBut hs hcc⟩
  ·obtain⟨e,n,ne,nf,d⟩:=I.pin p hp
   refine⟨(hs.2 p.1 ?_).trans e,n,ne,nf,d⟩
   intro q
   rw [q,hoc] at e
   have q':oc=p.2:=qaA e
   exact d w' (by rw [<-q'];exact hocd)
theorem gP {M:Model}{A:Around}{E:Value->Shared->Prop}{i:Nat}{x:Str}{v:V}{u:Value}{Q:Unit->Shared->Prop} (I:Inv X pins σ H s) (hN:X.N.Nodup) (hi:X.N[i]?=some x) (hx:Loc X.env.scope x) (r:bi v u)
  (h:∀ s',Inv X pins (σ.set i (some v)) H s'->Q () s') (hf:X.fn x=true\/X.env.scope.names.lookup x=some .local:=by first | exact .inl rfl | exact .inr rfl | assumption):wpAny M A (storeName X.env x u) Q E s:=
 ut I hN hi hx r (λs' I' _=>h s' I') hf
theorem Inv.call' {s':Shared}{ch:List Addr} (I:Inv X pins σ H s) (ho:s'.os=s.os) (u:Un (frs X.stack) ch H H' s.heap s'.heap) (hok:HOk X.prog X.w H' s'.heap) (hg:AllBare s'.gens)
  (hch:∀ b ∈ ch,(b ∈ X.ex\/X.s₀.heap.objs.size<=b)/\b≠X.env.locals/\(∀ x c,X.env.cells.lookup x=some c->c≠b)/\∀ p ∈ X.pn++pins,p.1≠b):Inv X pins σ H' s':=by
 obtain⟨h',g',d',t',o'⟩:=s'
 have e:o'=s.os:=ho
 subst e
 exact I.call (g':=g') (t':=t') (d':=d') u hok hg hch
end
abbrev XK:=Value->Option Addr->Hp->Prop
abbrev St:=List (Option V)
abbrev VK:=V->Hp->Prop
abbrev TE:=St->Hp->VK->Prop
abbrev TT:=St->Hp->(Bool->Hp->Prop)->Prop
abbrev TA:=St->Hp->(List V->Hp->Prop)->Prop
structure pj where
 nx:St->Hp->Prop
 rt:VK
 bk:St->Hp->Prop:=λ_ _=>False
 ct:St->Hp->Prop:=λ_ _=>False
abbrev TS:=pj->St->Hp->Prop
noncomputable def EP (X:Cx) (pins:List (Addr×Obj)) (σ:St) (Q:VK) (u:Value) (s':Shared):Prop:=∃ v H',Inv X pins σ H' s'/\bi v u/\Q v H'
noncomputable def TP (X:Cx) (pins:List (Addr×Obj)) (σ:St) (Q:Bool->Hp->Prop) (b:Bool) (s':Shared):Prop:=∃ H',Inv X pins σ H' s'/\Q b H'
noncomputable def AP (X:Cx) (pins:List (Addr×Obj)) (σ:St) (Q:List V->Hp->Prop) (us:List Value) (s':Shared):Prop:=∃ vs H',Inv X pins σ H' s'/\aN vs us/\Q vs H'
noncomputable def SP (X:Cx) (pins:List (Addr×Obj)) (D:pj) (f:Flow) (s':Shared):Prop:=
 match f with
 | .next=>∃ σ' H',Inv X pins σ' H' s'/\D.nx σ' H'
 | .brk=>∃ σ' H',Inv X pins σ' H' s'/\D.bk σ' H'
 | .cont=>∃ σ' H',Inv X pins σ' H' s'/\D.ct σ' H'
 | .ret u=>∃ v σ' H',Inv X pins σ' H' s'/\bi v u/\D.rt v H'
noncomputable def PE (X:Cx) (e:Expr) (t:TE):Prop:=
 ∀ (pins:List (Addr×Obj)) (s:Shared) (σ:St) (H:Hp) (Q:VK),Inv X pins σ H s->t σ H Q->wpAny (model X.prog X.w) X.A (eval e X.env) (EP X pins σ Q) X.xe s
noncomputable def PT (X:Cx) (e:Expr) (t:TT):Prop:=
 ∀ (pins:List (Addr×Obj)) (s:Shared) (σ:St) (H:Hp) (Q:Bool->Hp->Prop),Inv X pins σ H s->t σ H Q->wpAny (model X.prog X.w) X.A (isTrue e X.env (eval e X.env)) (TP X pins σ Q) X.xe s
noncomputable def PW (X:Cx) (e:Expr) (t:TT):Prop:=
 ∀ (whole:Sem Value) (pins:List (Addr×Obj)) (s:Shared) (σ:St) (H:Hp) (Q:Bool->Hp->Prop),Inv X pins σ H s->t σ H Q->wpAny (model X.prog X.w) X.A (isTrue e X.env whole) (TP X pins σ Q) X.xe s
theorem PW.pt {X:Cx}{e:Expr}{t:TT} (h:PW X e t):PT X e t:=h _
noncomputable def PA (X:Cx) (es:List Expr) (t:TA):Prop:=
 ∀ (pos:Pos) (pins:List (Addr×Obj)) (s:Shared) (σ:St) (H:Hp) (Q:List V->Hp->Prop),Inv X pins σ H s->t σ H Q->wpAny (model X.prog X.w) X.A (spliced (backTo pos (starEach es X.env))) (AP X pins σ Q) X.xe s
noncomputable def PS (X:Cx) (st:Stmt) (t:TS):Prop:=
 ∀ (pins:List (Addr×Obj)) (s:Shared) (σ:St) (H:Hp) (D:pj),Inv X pins σ H s->t D σ H->wpAny (model X.prog X.w) X.A (exec st X.env) (SP X pins D) X.xe s
noncomputable def PSs (X:Cx) (st:List Stmt) (t:TS):Prop:=
 ∀ (pins:List (Addr×Obj)) (s:Shared) (σ:St) (H:Hp) (D:pj),Inv X pins σ H s->t D σ H->wpAny (model X.prog X.w) X.A (execs st X.env) (SP X pins D) X.xe s
theorem thn {α:Type}{t:Sem α}{Q Q':α->Shared->Prop}{M:Model}{A:Around}{E:Value->Shared->Prop}{s:Shared} (h:wpAny M A t Q E s) (hQ:∀ a s,Q a s->Q' a s):wpAny M A t Q' E s:=qcw h hQ λ_ _ x=>x
section
variable {X:Cx}
theorem bin {a b:Expr}{ta tb:TE} (ha:PE X a ta) (hb:PE X b tb) {pins:List (Addr×Obj)}{s:Shared}{σ:St}{H:Hp}{R:V->V->Hp->Prop} (I:Inv X pins σ H s) (h:ta σ H λx H1=>tb σ H1 λy H2=>R x y H2)
  {α:Type}{Q:α->Shared->Prop}{f:Value->Value->Sem α}
  (hf:∀ v u s2 x y H2,Inv X pins σ H2 s2->bi x v->bi y u->R x y H2->wpAny (model X.prog X.w) X.A (f v u) Q X.xe s2) :
  wpAny (model X.prog X.w) X.A (eval a X.env) (λv s₁=>wpAny (model X.prog X.w) X.A (eval b X.env) (λu s₂=>wpAny (model X.prog X.w) X.A (f v u) Q X.xe s₂) X.xe s₁) X.xe s:=by
 refine thn (ha pins s σ H _ I h) λv s1 ⟨x,H1,I1,r1,q1⟩=>?_
 refine thn (hb pins s1 σ H1 _ I1 q1) λu s2 ⟨y,H2,I2,r2,q2⟩=>?_
 exact hf v u s2 x y H2 I2 r1 r2 q2
noncomputable def zM (i:Nat):TE:=λσ H Q=>∃ v,σ[i]?=some (some v)/\Q v H
noncomputable def tC (v:V):TE:=λ_ H Q=>Q v H
theorem AT {i:Nat}{x:Str}{pos:Pos} (hN:X.N[i]?=some x) (hv:Vis X.env.scope x) (hd:(x==("__debug__" : Str))=false:=by decide) (hcd:(x==("__classdict__" : Str))=false:=by decide):PE X (.Name x pos) (zM i):=by
 intro pins s σ H Q I h
 obtain⟨v,e,h⟩:=h
 obtain⟨m,hn,hl⟩:=I.loc
 obtain⟨u,r,l⟩:=hl i x v hN e hv
 have fin:EP X pins σ Q u s:=⟨v,H,I,r,h⟩
 rcases l with⟨hk,hm⟩ | ⟨hk,c,hc,hcell⟩
 ·exact qfZ (wpAny_loadName_local I.ok.kind hk hn hm fin) hd
 ·rcases hk with hk | hk
  ·exact qfZ (wpAny_loadName_cell I.ok.kind hk hc hcell fin) hd
  ·exact qfZ (wpAny_loadName_free I.ok.kind hk hc hcell fin hcd) hd
theorem zq {i j pos}:PE X (.Constant (.int i) j pos) (tC (.int i)):=λ_ _ _ H _ I h=>wpAny_Constant_int ⟨.int i,H,I.tok _,⟨_,rfl⟩,h⟩
theorem Bt {b j pos}:PE X (.Constant (.bool b) j pos) (tC (.bl b)):=λ_ _ _ H _ I h=>Constant_bool ⟨.bl b,H,I,rfl,h⟩
theorem zy {j pos}:PE X (.Constant .none j pos) (tC .non):=λ_ _ _ H _ I h=>Constant_none ⟨.non,H,I,rfl,h⟩
theorem A4 {x j pos}:PE X (.Constant (.str x) j pos) (tC (.str x)):=λ_ _ _ H _ I h=>Calls.Constant_str ⟨.str x,H,I.tok _,⟨_,rfl⟩,h⟩
noncomputable def Gl (X:Cx) (x:Str):Prop:=X.env.kindOf x=some .globalImplicit
theorem yv {E:Value->Shared->Prop}{pins:List (Addr×Obj)}{s:Shared}{σ:St}{H:Hp}{x:Str}{u:Value}{pos:Pos}{Q:Value->Shared->Prop} (I:Inv X pins σ H s) (hg:Gl X x) (hm:X.mg x=some u) (h:Q u s)
  (hd:(x==("__debug__" : Str))=false:=by decide):wpAny (model X.prog X.w) X.A (eval (.Name x pos) X.env) Q E s:=
 qem I.ok.kind hg (Calls.loadGlobal_global (by rw [I.ok.glob];exact I.mod.glob.keeps I.bk) hm h) hd
theorem iU {E:Value->Shared->Prop}{pins:List (Addr×Obj)}{s:Shared}{σ:St}{H:Hp}{x:Str}{u:Value}{pos:Pos}{Q:Value->Shared->Prop} (I:Inv X pins σ H s) (hg:Gl X x) (hm:X.mg x=none) (hv:bootBuiltins x=some u) (h:Q u s)
  (hn:x≠"__name__":=by decide) (hd:(x==("__debug__" : Str))=false:=by decide):wpAny (model X.prog X.w) X.A (eval (.Name x pos) X.env) Q E s:=by
 obtain⟨mb,h1,h2⟩:=I.mod.blt
 exact qem I.ok.kind hg (Calls.loadGlobal_builtin (by rw [I.ok.glob];exact I.mod.glob.keeps I.bk) hm (by rw [I.ok.blt];exact h1.keeps I.bk) ((h2 x hn).trans hv) h) hd
theorem xW {x:Str}{v:V}{u:Value}{pos:Pos} (hg:Gl X x) (hm:X.mg x=none) (hv:bootBuiltins x=some u) (r:bi v u) (hn:x≠"__name__":=by decide) (hd:(x==("__debug__" : Str))=false:=by decide):PE X (.Name x pos) (tC v):=
 λ_ _ _ H _ I h=>iU I hg hm hv ⟨v,H,I,r,h⟩ hn hd
variable {a b:Expr}{ta tb:TE}{pos:Pos}
variable {tA tB':TT}{rest:List Expr}
noncomputable def Cr (t u:TT):TT:=λσ H Q=>t σ H λc H1=>if c=true then u σ H1 Q else Q false H1
noncomputable def tOr (t u:TT):TT:=λσ H Q=>t σ H λc H1=>if c=true then Q true H1 else u σ H1 Q
noncomputable def B6 (t:TT):TT:=λσ H Q=>t σ H λc H1=>Q (!c) H1
theorem yn (ha:PT X a tA):PW X (.BoolOp .And [a] pos) tA:=by
 intro wh pins s σ H Q I h
 refine isTrue_and (thn (ha pins s σ H Q I h) λc s1 e=>?_)
 cases c with
 | true=>exact isTrue_and_nil e
 | false=>exact e
theorem AQ (ha:PT X a tA):PW X (.BoolOp .Or [a] pos) tA:=by
 intro wh pins s σ H Q I h
 refine isTrue_or (thn (ha pins s σ H Q I h) λc s1 e=>?_)
 cases c with
 | false=>exact isTrue_or_nil e
 | true=>exact e
theorem vP (ha:PT X a tA) (hb:PW X (.BoolOp .And (b::rest) pos) tB'):PW X (.BoolOp .And (a::b::rest) pos) (Cr tA tB'):=by
 intro wh pins s σ H Q I h
 refine isTrue_and (thn (ha pins s σ H _ I h) λc s1 ⟨H1,I1,q1⟩=>?_)
 cases c with
 | true=>exact hb wh pins s1 σ H1 Q I1 q1
 | false=>exact⟨H1,I1,q1⟩
theorem yN (ha:PT X a tA) (hb:PW X (.BoolOp .Or (b::rest) pos) tB'):PW X (.BoolOp .Or (a::b::rest) pos) (tOr tA tB'):=by
 intro wh pins s σ H Q I h
 refine isTrue_or (thn (ha pins s σ H _ I h) λc s1 ⟨H1,I1,q1⟩=>?_)
 cases c with
 | true=>exact⟨H1,I1,q1⟩
 | false=>exact hb wh pins s1 σ H1 Q I1 q1
theorem zT (ha:PT X a tA):PT X (.UnaryOp .Not a pos) (B6 tA):=by
 intro pins s σ H Q I h
 exact isTrue_not (ha pins s σ H (λc H1=>Q (!c) H1) I h)
noncomputable def Bf (ta tb:TE):TE:=λσ H Q=>ta σ H λx H1=>∃ c,x=.bl c/\if c=true then tb σ H1 Q else Q (.bl false) H1
noncomputable def BR (ta:TE):TE:=λσ H Q=>ta σ H λx H1=>∃ c,x=.bl c/\Q (.bl (!c)) H1
theorem AN {op}{t:TE} (h:PE X a t):PE X (.BoolOp op [a] pos) t:=λpins s σ H Q I hw=>BoolOp_one (h pins s σ H Q I hw)
theorem vt (ha:PE X a ta) (hb:PE X (.BoolOp .And (b::rest) pos) tb):PE X (.BoolOp .And (a::b::rest) pos) (Bf ta tb):=by
 intro pins s σ H Q I h
 refine BoolOp_and (thn (ha pins s σ H _ I h) λv s1 ⟨x,H1,I1,r1,q1⟩=>?_)
 obtain⟨c,rfl,q1⟩:=q1
 cases r1
 refine qbM ?_
 cases c with
 | true=>exact hb pins s1 σ H1 Q I1 q1
 | false=>exact⟨.bl false,H1,I1,rfl,q1⟩
theorem AA (ha:PE X a ta):PE X (.UnaryOp .Not a pos) (BR ta):=by
 intro pins s σ H Q I h
 refine UnaryOp_ (thn (ha pins s σ H _ I h) λv s1 ⟨x,H1,I1,r1,q1⟩=>?_)
 obtain⟨c,rfl,q1⟩:=q1
 cases r1
 exact not_of (qbM ⟨.bl (!c),H1,I1,rfl,q1⟩)
noncomputable def tIf (t:TT) (ta tb:TE):TE:=λσ H Q=>t σ H λc H1=>if c=true then ta σ H1 Q else tb σ H1 Q
theorem p9 {c:Expr} (hc:PT X c tA) (ha:PE X a ta) (hb:PE X b tb):PE X (.IfExp c a b pos) (tIf tA ta tb):=by
 intro pins s σ H Q I h
 refine wpAny_IfExp (thn (hc pins s σ H _ I h) λd s1 ⟨H1,I1,q1⟩=>?_)
 cases d with
 | true=>exact ha pins s1 σ H1 Q I1 q1
 | false=>exact hb pins s1 σ H1 Q I1 q1
end
noncomputable def SqL (K:PySem.W.Frag) (H:Hp) (a:Addr) (xs:List V):Prop:=
 Rd H a (.lst xs)\/
  ∃ (o:Obj) (its:Array Value) (n:Nat),K.lookup a=some o/\o.cls=.type "list"/\o.dict=none/\o.data=.seq its n/\its.size<=sizeLine/\aN xs its.toList
noncomputable def SqT (K:PySem.W.Frag) (H:Hp) (a:Addr) (xs:List V):Prop:=
 H a=some (.tup xs)\/
  ∃ (o:Obj) (its:Array Value) (n:Nat),K.lookup a=some o/\o.cls=.type "tuple"/\o.data=.seq its n/\its.size<=sizeLine/\aN xs its.toList/\o.dict=none
noncomputable def Cj:Value->Option V
 | .none=>some .non
 | .bool b=>some (.bl b)
 | .int i _=>some (.int i)
 | .str x _=>some (.str x)
 | .bytes b _=>some (.byt b)
 | .float b _=>some (.flt b)
 | .ref a=>some (.ref a)
 | .type n=>some (.ty n)
 | _=>none
theorem bi.abs {x:V}{u:Value} (r:bi x u):Cj u=some x:=by
 cases x with
 | non=>cases r;rfl
 | bl _=>cases r;rfl
 | int _=>obtain⟨t,rfl⟩:=r;rfl
 | str _=>obtain⟨t,rfl⟩:=r;rfl
 | byt _=>obtain⟨t,rfl⟩:=r;rfl
 | flt _=>obtain⟨t,rfl⟩:=r;rfl
 | ref _=>cases r;rfl
 | ty _=>cases r;rfl
theorem bi.inj {x y:V}{u:Value} (r:bi x u) (q:bi y u):x=y:=qaA (r.abs.symm.trans q.abs)
theorem aN.inj:∀ {xs ys:List V}{us:List Value},aN xs us->aN ys us->xs=ys
 | _,_,_,.nil,.nil=>rfl
 | _,_,_,.cons r t,.cons r' t'=>by rw [r.inj r',aN.inj t t']
section
variable {X:Cx}{pins:List (Addr×Obj)}{σ:St}{H:Hp}{s:Shared}{a:Addr}{xs ys:List V}
theorem SqL.of {K:PySem.W.Frag} (h:H a=some (.lst xs)):SqL K H a xs:=.inl (.inl h)
theorem SqT.of {K:PySem.W.Frag} (h:H a=some (.tup xs)):SqT K H a xs:=.inl h
theorem Inv.list (I:Inv X pins σ H s) (h:SqL X.K H a xs):∃ its:List Value,aN xs its/\PlainL s.heap a its.toArray/\xs.length<=sizeLine:=by
 rcases h with h | ⟨o,its,n,hk,hc,hd,hs,hz,r⟩
 ·obtain⟨z,its,n,r,e⟩:=h.ok I.hok
  exact⟨its,r,⟨_,n,e,rfl,rfl,rfl⟩,z⟩
 ·refine⟨its.toList,r,⟨o,n,I.kIn a o hk,hc,hd,by simpa using hs⟩,?_⟩
  have e:=r.length
  simp only [qbb] at e
  lia
theorem Inv.tuple (I:Inv X pins σ H s) (h:SqT X.K H a xs):∃ its:List Value,aN xs its/\IsTup s.heap a its.toArray/\xs.length<=sizeLine:=by
 rcases h with h | ⟨o,its,n,hk,hc,hs,hz,r,_⟩
 ·obtain⟨z,its,r,p⟩:=(Rd.of h).ok I.hok
  exact⟨its,r,p.tup,z⟩
 ·refine⟨its.toList,r,⟨o,I.kIn a o hk,hc,n,by simpa using hs⟩,?_⟩
  have e:=r.length
  simp only [qbb] at e
  lia
theorem Inv.tuple1 (I:Inv X pins σ H s) (h:SqT X.K H a xs):∃ o:Obj,s.heap.get? a=some o/\o.cls=.type "tuple"/\o.dict=none:=by
 rcases h with h | ⟨o,its,n,hk,hc,hs,hz,r,hd⟩
 ·obtain⟨z,its,r,o,e,c,_,hd⟩:=(Rd.of h).ok I.hok
  exact⟨o,e,c,hd⟩
 ·exact⟨o,I.kIn a o hk,hc,hd⟩
theorem Inv.list_inj (I:Inv X pins σ H s) (h:SqL X.K H a xs) (h':SqL X.K H a ys):xs=ys:=by
 obtain⟨its,r,⟨o,n,e,_,_,d⟩,_⟩:=I.list h
 obtain⟨its',r',⟨o',n',e',_,_,d'⟩,_⟩:=I.list h'
 rw [e] at e';cases e'
 rw [d] at d'
 injection d' with d1 _
 have:its=its':=by simpa using congrArg Array.toList d1
 subst this
 exact r.inj r'
theorem Inv.tuple_inj (I:Inv X pins σ H s) (h:SqT X.K H a xs) (h':SqT X.K H a ys):xs=ys:=by
 obtain⟨its,r,⟨o,e,_,n,d⟩,_⟩:=I.tuple h
 obtain⟨its',r',⟨o',e',_,n',d'⟩,_⟩:=I.tuple h'
 rw [e] at e';cases e'
 rw [d] at d'
 injection d' with d1 _
 have:its=its':=by simpa using congrArg Array.toList d1
 subst this
 exact r.inj r'
end
abbrev Cx.wish (X:Cx) (E:Value->Shared->Prop):Cx:={ X with xe:=E }
abbrev Cx.nox (X:Cx):Cx:=X.wish λ_ _=>False
theorem Cx.Ok.wish {X:Cx} (ok:X.Ok) (E:Value->Shared->Prop):(X.wish E).Ok:=
 ⟨ok.mod,ok.kind,ok.glob,ok.blt,ok.above,ok.inj,ok.has,ok.cab,ok.hd,ok.frames,ok.stk,ok.exf,ok.bs,ok.bsz,ok.noex,ok.exfs,ok.funs,ok.frf⟩
theorem Cx.Ok.unwish {X:Cx}{E:Value->Shared->Prop} (ok:(X.wish E).Ok):X.Ok:=
 ⟨ok.mod,ok.kind,ok.glob,ok.blt,ok.above,ok.inj,ok.has,ok.cab,ok.hd,ok.frames,ok.stk,ok.exf,ok.bs,ok.bsz,ok.noex,ok.exfs,ok.funs,ok.frf⟩
section
variable {X:Cx}{pins:List (Addr×Obj)}{σ:St}{H:Hp}{s:Shared}{E:Value->Shared->Prop}
theorem Inv.wish (I:Inv X pins σ H s) (E:Value->Shared->Prop):Inv (X.wish E) pins σ H s:=⟨I.ok.wish E,I.os,I.bare,I.base,I.loc,I.cell,I.free,I.freeC,I.pin,I.hok,I.len⟩
theorem Inv.unwish (I:Inv (X.wish E) pins σ H s):Inv X pins σ H s:=⟨I.ok.unwish,I.os,I.bare,I.base,I.loc,I.cell,I.free,I.freeC,I.pin,I.hok,I.len⟩
theorem SP.unwish {D:pj}{f:Flow}{s':Shared} (h:SP (X.wish E) pins D f s'):SP X pins D f s':=by
 cases f with
 | next=>obtain⟨σ',H',I,q⟩:=h;exact⟨σ',H',I.unwish,q⟩
 | brk=>obtain⟨σ',H',I,q⟩:=h;exact⟨σ',H',I.unwish,q⟩
 | cont=>obtain⟨σ',H',I,q⟩:=h;exact⟨σ',H',I.unwish,q⟩
 | ret u=>obtain⟨v,σ',H',I,r,q⟩:=h;exact⟨v,σ',H',I.unwish,r,q⟩
theorem PSs.nox {st:List Stmt}{t:TS} (h:PSs X.nox st t):PSs X st t:=λpins s σ H D I hw=>
 qcw (h pins s σ H D (I.wish _) hw) (λ_ _ q=>q.unwish) λ_ _ z=>False.elim z
end
section
variable {X:Cx}{st:Stmt}{rest:List Stmt}{t u:TS}{e:Expr}{te:TE}{pos:Pos}
noncomputable def Bm:TS:=λD σ H=>D.nx σ H
noncomputable def B5 (t u:TS):TS:=λD σ H=>t { D with nx:=u D } σ H
theorem xD:PSs X [] Bm:=λ_ _ σ H _ I h=>qdL ⟨σ,H,I,h⟩
theorem jr (h1:PS X st t) (h2:PSs X rest u):PSs X (st::rest) (B5 t u):=by
 intro pins s σ H D I h
 refine qf7 (thn (h1 pins s σ H { D with nx:=u D } I h) λf s1 q=>?_)
 cases f with
 | next=>
  obtain⟨σ',H',I',q⟩:=q
  exact h2 pins s1 σ' H' D I' q
 | ret v=>exact q
 | brk=>exact q
 | cont=>exact q
theorem xo (h1:PS X st t):PSs X [st] t:=by
 intro pins s σ H D I h
 refine qf7 (thn (h1 pins s σ H D I h) λf s1 q=>?_)
 cases f with
 | next=>exact qdL q
 | ret v=>exact q
 | brk=>exact q
 | cont=>exact q
theorem Inv.quiet {pins:List (Addr×Obj)}{σ:St}{H:Hp}{s:Shared} (I:Inv X pins σ H s):interactive X.env=false:=by simp [interactive,I.ok.kind]
noncomputable def Bv (te:TE):TS:=λD σ H=>te σ H λ_ H1=>D.nx σ H1
theorem yA (he:PE X e te) (hs:swapsWith e none pos.line X.env=pure false:=by rfl):PS X (.Expr e pos) (Bv te):=by
 intro pins s σ H D I h
 exact wpAny_Expr_any (thn (he pins s σ H _ I h) λv s1 ⟨x,H1,I1,r1,q1⟩=>⟨σ,H1,I1,q1⟩) I.quiet hs
noncomputable def Cf (te:TE):TS:=λD σ H=>te σ H D.rt
theorem zz (he:PE X e te):PS X (.Return (some e) pos) (Cf te):=by
 intro pins s σ H D I h
 exact wpAny_Return_some (thn (he pins s σ H _ I h) λv s1 ⟨x,H1,I1,r1,q1⟩=>⟨x,σ,H1,I1,r1,q1⟩)
noncomputable def B8 (c:TT) (t u:TS):TS:=λD σ H=>c σ H λb H1=>if b=true then t D σ H1 else u D σ H1
theorem yO {c:Expr}{a b:List Stmt}{tc:TT} (hc:PT X c tc) (ha:PSs X a t) (hb:PSs X b u):PS X (.If c a b pos) (B8 tc t u):=by
 intro pins s σ H D I h
 refine wpAny_If (thn (hc pins s σ H _ I h) λd s1 ⟨H1,I1,q1⟩=>?_)
 cases d with
 | true=>exact ha pins s1 σ H1 D I1 q1
 | false=>exact hb pins s1 σ H1 D I1 q1
noncomputable def zk:TS:=λ_ _ _=>False
theorem fY {sts:List Stmt}:PSs X sts zk:=λ_ _ _ _ _ _ h=>h.elim
end
abbrev TG:=V->St->Hp->(St->Hp->Prop)->Prop
abbrev TGs:=List V->St->Hp->(St->Hp->Prop)->Prop
noncomputable def PG (X:Cx) (target:Expr) (t:TG):Prop:=
 ∀ (pins:List (Addr×Obj)) (s:Shared) (σ:St) (H:Hp) (v:V) (u:Value) (Q:St->Hp->Prop),Inv X pins σ H s->bi v u->t v σ H Q->
  wpAny (model X.prog X.w) X.A (assign target X.env u) (λ_ s'=>∃ σ' H',Inv X pins σ' H' s'/\Q σ' H') X.xe s
noncomputable def PGs (X:Cx) (ts:List Expr) (t:TGs):Prop:=
 ∀ (pins:List (Addr×Obj)) (s:Shared) (σ:St) (H:Hp) (vs:List V) (us:List Value) (Q:St->Hp->Prop),Inv X pins σ H s->aN vs us->t vs σ H Q->
  wpAny (model X.prog X.w) X.A (assignInOrder ((assignEach ts X.env).map (·.2)) us) (λ_ s'=>∃ σ' H',Inv X pins σ' H' s'/\Q σ' H') X.xe s
abbrev Ak:=V->V->V->Hp->(Hp->Prop)->Prop
noncomputable def Ba (X:Cx) (t:Ak):Prop:=
 ∀ (pins:List (Addr×Obj)) (s:Shared) (σ:St) (H:Hp) (o i v:V) (ov iv u:Value) (Q:Hp->Prop),Inv X pins σ H s->bi o ov->bi i iv->bi v u->t o i v H Q->
  wpAny (model X.prog X.w) X.A (setItem ov iv u) (λ_ s'=>∃ H',Inv X pins σ H' s'/\Q H') X.xe s
section
variable {X:Cx}{pos:Pos}
noncomputable def pY (i:Nat):TG:=λv σ H Q=>Q (σ.set i (some v)) H
theorem aA {i:Nat}{x:Str} (hN:X.N.Nodup) (hi:X.N[i]?=some x) (hx:Loc X.env.scope x) (hf:X.fn x=true\/X.env.scope.names.lookup x=some .local:=by first | exact .inl rfl | exact .inr rfl | assumption):PG X (.Name x pos) (pY i):=by
 intro pins s σ H v u Q I r h
 exact qfY (gP I hN hi hx r (λs' I'=>⟨_,H,I',h⟩) hf)
noncomputable def B7:TGs:=λvs σ H Q=>vs=[]/\Q σ H
noncomputable def By (t:TG) (u:TGs):TGs:=λvs σ H Q=>∃ v r,vs=v::r/\t v σ H λσ' H'=>u r σ' H' Q
theorem yH:PGs X [] B7:=by
 intro pins s σ H vs us Q I r h
 obtain⟨e,h⟩:=h
 subst e
 cases r
 exact qf2 ⟨σ,H,I,h⟩
theorem uV {e:Expr}{es:List Expr}{t:TG}{u:TGs} (h1:PG X e t) (h2:PGs X es u)
  (hs:(assignEach (e::es) X.env).map (·.2)=assign e X.env::(assignEach es X.env).map (·.2):=by rfl):PGs X (e::es) (By t u):=by
 intro pins s σ H vs us Q I r h
 obtain⟨v,vr,e1,h⟩:=h
 subst e1
 cases r with
 | cons r rr=>
  rw [hs]
  refine qeg (thn (h1 pins s σ H _ _ _ I r h) λ_ s1 ⟨σ1,H1,I1,q1⟩=>?_)
  exact h2 pins s1 σ1 H1 _ _ Q I1 rr q1
noncomputable def Cb (K:PySem.W.Frag) (n:Nat) (t:TGs):TG:=λv σ H Q=>∃ a xs,v=.ref a/\SqT K H a xs/\xs.length=n/\t xs σ H Q
theorem AF {es:List Expr}{k:Nat}{t:TGs}{n:Nat} (hc:X.calm=true) (h:PGs X es t)
  (hn:(assignEach es X.env).length=n:=by rfl) (hst:(assignEach es X.env).findIdx? (·.1)=none:=by rfl):PG X (.Tuple es k pos) (Cb X.K n t):=by
 intro pins s σ H v u Q I r hw
 obtain⟨a,xs,e1,hq,hl,hw⟩:=hw
 subst e1
 cases r
 obtain⟨its,rv,ht,hz⟩:=I.tuple hq
 refine assign_Tuple_tuple (I.ok.hd hc) ht (by simp [hn,<-hl,rv.length]) hst λh' hx=>?_
 have I1:Inv X pins σ H { s with heap:=h' }:=I.kept (t':=s.toks) λb o e=>hx b o (qaw (qao e)) e
 exact h pins _ σ H xs _ Q I1 (by simpa using rv) hw
noncomputable def Ci (to ti:TE) (t:Ak):TG:=λv σ H Q=>to σ H λo H1=>ti σ H1 λi H2=>t o i v H2 λH3=>Q σ H3
theorem uJ {o i:Expr}{to ti:TE}{t:Ak} (ho:PE X o to) (hi:PE X i ti) (hs:Ba X t)
  (ha:∀ v,assign (.Subscript o i pos) X.env v=(do
    let ov <-holding [v] (eval o X.env)
    let iv <-holding [v,ov] (eval i X.env)
    standAt pos
    holding [v,ov,iv] (setItem ov iv v)
    release [v,ov,iv] []):=by intro _;rfl):PG X (.Subscript o i pos) (Ci to ti t):=by
 intro pins s σ H v u Q I r h
 rw [ha]
 refine qaa (qbE (thn (ho pins s σ H _ I h) λov s1 ⟨x,H1,I1,r1,q1⟩=>?_))
 refine qaa (qbE (thn (hi pins s1 σ H1 _ I1 q1) λiv s2 ⟨y,H2,I2,r2,q2⟩=>?_))
 refine qaa (qdr (qaa (qbE (thn (hs pins s2 σ H2 x y v ov iv u _ I2 r1 r2 r q2) λ_ s3 ⟨H3,I3,q3⟩=>?_))))
 exact wpAny_release ⟨σ,H3,I3,q3⟩
noncomputable def AC (te:TE) (g:TG):TS:=λD σ H=>te σ H λx H1=>g x σ H1 D.nx
theorem rC {tg e:Expr}{te:TE}{g:TG} (he:PE X e te) (hg:PG X tg g) (hs:swapsWithSole [tg] e pos.line X.env=pure false:=by rfl) (hw:swappedStores [tg] e X.env=pure none:=by rfl)
  (h1:(assignEach [tg] X.env).map (·.2)=[assign tg X.env]:=by rfl):PS X (.Assign [tg] e pos) (AC te g):=by
 intro pins s σ H D I h
 refine wpAny_Assign_stores (thn (he pins s σ H _ I h) λv s1 ⟨x,H1,I1,r1,q1⟩=>?_) hs hw
 rw [h1]
 exact thn (hg pins s1 σ H1 x v _ I1 r1 q1) λ_ s2 q=>q
theorem zo {i:Nat}{x:Str}{e:Expr}{te:TE}{pos':Pos} (hN:X.N.Nodup) (hi:X.N[i]?=some x) (hx:Loc X.env.scope x) (he:PE X e te) (hs:swapsWith e (some (.Name x pos')) pos.line X.env=pure false:=by rfl) (hf:X.fn x=true\/X.env.scope.names.lookup x=some .local:=by first | exact .inl rfl | exact .inr rfl | assumption) :
  PS X (.Assign [.Name x pos'] e pos) (AC te (pY i)):=by
 intro pins s σ H D I h
 refine wpAny_Assign_Name (thn (he pins s σ H _ I h) λv s1 ⟨y,H1,I1,r1,q1⟩=>?_) hs
 exact gP I1 hN hi hx r1 (λs2 I2=>⟨_,H1,I2,q1⟩) hf
noncomputable def Bq (i j:Nat) (ta:TA):TS:=λD σ H=>ta σ H λvs H1=>∃ v w,vs=[v,w]/\D.nx ((σ.set i (some v)).set j (some w)) H1
theorem AI {i j:Nat}{x y:Str}{a b:Expr}{ta:TA}{px py pt:Pos}{kt k2 pt2} (hc:X.calm=true) (hN:X.N.Nodup) (hi:X.N[i]?=some x) (hj:X.N[j]?=some y) (hij:i≠j)
  (hx:X.env.scope.names.lookup x=some .local) (hy:X.env.scope.names.lookup y=some .local) (ha:PA X [a,b] ta)
  (hw:swappedStores [.Tuple [.Name x px,.Name y py] kt pt] (.Tuple [a,b] k2 pt2) X.env=pure (some [x,y]))
  (hs:swapsWithSole [.Tuple [.Name x px,.Name y py] kt pt] (.Tuple [a,b] k2 pt2) pos.line X.env=pure false:=by rfl) :
  PS X (.Assign [.Tuple [.Name x px,.Name y py] kt pt] (.Tuple [a,b] k2 pt2) pos) (Bq i j ta):=by
 intro pins s σ H D I h
 rw [exec_Assign_arm]
 refine qaa (qdr ?_)
 rw [hs]
 refine qaa (qag ?_)
 rw [if_neg (by decide)]
 refine qaa (Tuple_ (thn (ha _ pins s σ H _ I h) λus s1 ⟨vs,H1,I1,r1,q1⟩=>?_))
 obtain⟨v,w,e1,q1⟩:=q1
 subst e1
 obtain⟨u1,u2,rfl,rv,rw'⟩:∃ u1 u2,us=[u1,u2]/\bi v u1/\bi w u2:=by
  cases r1 with
  | cons p q=>
   cases q with
   | cons p' q'=>
    cases q'
    exact⟨_,_,rfl,p,p'⟩
 refine qbo ?_ (by show 2<=sizeLine;decide)
 have I2:Inv X pins σ H1 { s1 with heap:=s1.heap.push { cls:=.type "tuple",data:=.seq [u1,u2].toArray } }:=I1.kept (t':=s1.toks) λb o e=>qae _ e
 rw [hw]
 refine qaa (qag ?_)
 show wpAny (model X.prog X.w) X.A (do rule "assign.swapped-stores";let items <-unpackItems (.ref s1.heap.objs.size) 2 none;assignInOrder [λv=>bindName X.env y v,λv=>bindName X.env x v] items.reverse;pure Flow.next) _ _ _
 refine qaa (qb8 (qaa (unpackItems_tuple (items:=#[u1,u2]) (I.ok.hd hc) (IsTup.new s1.heap _) λh' hx'=>?_)))
 have I3:=I2.kept (h':=h') (t':=s1.toks) λb o e=>hx' b o (qaw (qao e)) e
 show wpAny _ _ (assignInOrder [λv=>bindName X.env y v,λv=>bindName X.env x v] [u2,u1] >>= λ_=>pure Flow.next) _ _ _
 refine qaa (qeg (qg3 (gP I3 hN hj (.inl hy) rw' (λs2 I4=>?_) (.inr hy))))
 refine qeg (qg3 (gP I4 hN hi (.inl hx) rv (λs3 I5=>qf2 (qag ?_)) (.inr hx)))
 rw [List.set_comm _ _ (qbI hij)] at I5
 exact⟨_,H1,I5,q1⟩
end
section
variable {X:Cx}{pos:Pos}
noncomputable def Ag (c:TT) (tb:TS):TS:=λD σ H=>∃ W:Nat->St->Hp->Prop,(∃ m,W m σ H)/\∀ m σ H,W m σ H->
 c σ H λb H1=>if b=true then ∃ N:St->Hp->Prop,(∀ σ' H',N σ' H'->∃ m',m' < m/\W m' σ' H')/\tb { D with nx:=N,ct:=N,bk:=D.nx } σ H1 else D.nx σ H1
theorem vW {c:Expr}{body:List Stmt}{tc:TT}{tb:TS} (hp:PassesOwn (model X.prog X.w) X.A X.env X.xe) (hc:PT X c tc) (hb:PSs X body tb):PS X (.While c body [] pos) (Ag tc tb):=by
 intro pins s σ H D I h
 obtain⟨W,⟨m0,w0⟩,turn⟩:=h
 refine wpAny_While (codeAny_whileLoop (λn s'=>∃ σ' H',Inv X pins σ' H' s'/\W n σ' H') ?_ m0 ⟨σ,H,I,w0⟩)
 rintro n s1 ⟨σ1,H1,I1,w1⟩
 refine qct hp (thn (hc pins s1 σ1 H1 _ I1 (turn n σ1 H1 w1)) λb s2 ⟨H2,I2,q2⟩=>?_)
 cases b with
 | true=>
  obtain⟨N,hN,q2⟩:=q2
  rw [if_pos rfl]
  refine qct hp (thn (hb pins s2 σ1 H2 _ I2 q2) λf s3 q3=>?_)
  cases f with
  | next=>
   obtain⟨σ3,H3,I3,n3⟩:=q3
   obtain⟨m',hm,w3⟩:=hN σ3 H3 n3
   exact⟨m',hm,σ3,H3,I3,w3⟩
  | cont=>
   obtain⟨σ3,H3,I3,n3⟩:=q3
   obtain⟨m',hm,w3⟩:=hN σ3 H3 n3
   exact⟨m',hm,σ3,H3,I3,w3⟩
  | brk=>exact q3
  | ret v=>exact q3
 | false=>
  rw [if_neg qaB]
  exact qdL ⟨σ1,H2,I2,q2⟩
end
structure It where
 go:Nat->Hp->Prop
 yld:Nat->Hp->V->Hp->Prop
 stop:Nat->Hp->Prop
noncomputable def iB (X:Cx) (pins:List (Addr×Obj)) (H:Hp) (b:Addr):Prop:=
 H b=none/\b≠X.env.locals/\b ∉ X.fs/\(b ∈ X.ex\/X.s₀.heap.objs.size<=b)/\(∀ x c,X.env.cells.lookup x=some c->c≠b)/\∀ p ∈ X.pn++pins,p.1≠b
theorem Inv.fpOk {X:Cx}{pins:List (Addr×Obj)}{σ:St}{H H':Hp}{s:Shared}{b:Addr} (I:Inv X pins σ H s) (hb:s.heap.objs.size<=b) (hn:H' b=none):iB X pins H' b:=by
 refine⟨hn,qb4 (qaH I.lt hb),I.nofs hb,.inr (qaX I.sz hb),λx c e z=>?_,λp hp z=>?_⟩
 ·obtain⟨v,q⟩:=I.cell x c e
  exact absurd (qaH q.lt (by rw [z];exact hb)) (qbA _)
 ·exact absurd (qaH (qao (I.pin p hp).1) (by rw [z];exact hb)) (qbA _)
structure qJ (P:Program) (w:World) (K:PySem.W.Frag) (tg:Expr) (J:It) (fp:List Addr) (it:Addr) (tn:Nat->Heap->Prop):Prop where
 mem:it ∈ fp
 obj:∀ i h,tn i h->∀ b ∈ fp,∃ o,h.get? b=some o/\∀ v,o.data≠.cell v
 keep:∀ i h h',tn i h->(∀ b ∈ fp,∀ o,h.get? b=some o->h'.get? b=some o)->tn i h'
 item:∀ (X:Cx),X.prog=P->X.w=w->X.K=K->X.calm=true->∀ (i:Nat) (pins:List (Addr×Obj)) (s:Shared) (σ:St) (H:Hp) (E:Value->Shared->Prop),Inv X pins σ H s->(∀ b ∈ fp,iB X pins H b)->tn i s.heap->J.go i H->
  wpAny (model P w) X.A (pyNext (.ref it)) (λr s1=>∃ u,r=some u/\
   wpAny (model P w) X.A (letOwnedTupleGo tg (.ref it) u) (λ_ s2=>∃ x H',Inv X pins σ H' s2/\bi x u/\J.yld i H x H'/\tn (i+1) s2.heap/\∀ b ∈ fp,H' b=none) E s1) E s
 done:∀ (X:Cx),X.prog=P->X.w=w->X.K=K->X.calm=true->∀ (i:Nat) (pins:List (Addr×Obj)) (s:Shared) (σ:St) (H:Hp) (E:Value->Shared->Prop),Inv X pins σ H s->(∀ b ∈ fp,iB X pins H b)->tn i s.heap->J.stop i H->
  wpAny (model P w) X.A (pyNext (.ref it)) (λr s1=>r=none/\Inv X pins σ H s1) E s
 self:∀ (A:Around) (i:Nat) (s:Shared) (Q:Value->Shared->Prop) (E:Value->Shared->Prop),tn i s.heap->Q (.ref it) s->wpAny (model P w) A (pyIter (.ref it)) Q E s
abbrev TI:=St->Hp->(It->Hp->Prop)->Prop
noncomputable def PIE (X:Cx) (pins:List (Addr×Obj)) (σ:St) (tg:Expr) (R:It->Hp->Prop) (itv:Value) (s2:Shared):Prop:=
 ∃ (it:Addr) (fp:List Addr) (tn:Nat->Heap->Prop) (J:It) (H':Hp),itv=.ref it/\Inv X pins σ H' s2/\qJ X.prog X.w X.K tg J fp it tn/\tn 0 s2.heap/\(∀ b ∈ fp,iB X pins H' b)/\R J H'
noncomputable def PI (X:Cx) (tg iter:Expr) (wi:TI):Prop:=
 ∀ (pins:List (Addr×Obj)) (s:Shared) (σ:St) (H:Hp) (R:It->Hp->Prop),Inv X pins σ H s->wi σ H R->
  wpAny (model X.prog X.w) X.A (eval iter X.env) (λv s1=>wpAny (model X.prog X.w) X.A (pyIter v) (PIE X pins σ tg R) X.xe s1) X.xe s
theorem uQ {M:Model}{A:Around}{E:Value->Shared->Prop}{s:Shared}{tg:Expr}{it:Addr}{u:Value}{o:Obj}{n:String}{vs:Array Value}{Q:Unit->Shared->Prop} (ho:s.heap.get? it=some o) (hc:o.cls=.type n) (hd:o.data=.fields vs)
  (hn:["enumerate","zip","dict_itemiterator","dict_reverseitemiterator","odict_iterator","itertools.zip_longest","itertools.pairwise"].contains n=false) (hQ:Q () s):wpAny M A (letOwnedTupleGo tg (.ref it) u) Q E s:=by
 unfold letOwnedTupleGo
 cases tg<;>first
  | exact qag hQ
  | (cases u<;>first
      | exact qag hQ
      | (refine qaa (wpAny_load ho ?_)
         rw [hc,hd]
         show wpAny M A (if (["enumerate","zip","dict_itemiterator","dict_reverseitemiterator","odict_iterator","itertools.zip_longest","itertools.pairwise"].contains n && vs[0]?==some (rawInt _))=true then _ else _) Q E s
         rw [if_neg (by intro h;rw [hn,Bool.false_and] at h;cases h)]
         exact qag hQ))
noncomputable def Itl (K:PySem.W.Frag) (a:Addr):It:=
 ⟨λi H=>∃ xs x,SqL K H a xs/\xs[i]?=some x,λi H x H'=>H'=H/\∀ xs,SqL K H a xs->xs[i]?=some x,λi H=>∃ xs,SqL K H a xs/\xs.length<=i⟩
noncomputable def Itt (K:PySem.W.Frag) (a:Addr):It:=
 ⟨λi H=>∃ xs x,SqT K H a xs/\xs[i]?=some x,λi H x H'=>H'=H/\∀ xs,SqT K H a xs->xs[i]?=some x,λi H=>∃ xs,SqT K H a xs/\xs.length<=i⟩
noncomputable def Itr (lo:Int) (n:Nat):It:=⟨λi _=>i < n,λi H x H'=>H'=H/\x=.int (lo+i),λi _=>n<=i⟩
theorem tF {P:Program}{w:World}{K:PySem.W.Frag}{tg:Expr} (a it:Addr):qJ P w K tg (Itl K a) [it] it (λi h=>h.IsListIter it a i) where
 mem:=by simp
 obj:=λi h st b hb=>by
  have e:b=it:=by simpa using hb
  subst e
  obtain⟨o,e,c,d⟩:=st
  exact⟨o,e,λv z=>by rw [d] at z;cases z⟩
 keep:=λi h h' st k=>st.at λo e=>k it (by simp) o e
 item:=by
  intro X hP hw hK hc i pins s σ H E I hf st hg
  subst hP hw hK
  obtain⟨xs,x,hq,hx⟩:=hg
  obtain⟨its,rv,p,hz⟩:=I.list hq
  obtain⟨u,hu,ru⟩:=rv.get hx
  obtain⟨f0,f1,f2,f3,f4,f5⟩:=hf it (by simp)
  refine qco st p.isList (x:=u) (by simpa using hu) λh' st' sb=>?_
  have I1:Inv X pins σ H { s with heap:=h' }:=I.turned (t':=s.toks) (λb o hb e=>(sb.2 b hb).trans e) f0 f1 f3 f4 f5
  obtain⟨o,e,c,d⟩:=id st'
  exact⟨u,rfl,uQ (s:={ s with heap:=h' }) e c d (by decide) ⟨x,H,I1,ru,⟨rfl,λys hy=>by rw [I.list_inj hy hq];exact hx⟩,st',λb hb=>(hf b hb).1⟩⟩
 done:=by
  intro X hP hw hK hc i pins s σ H E I hf st hg
  subst hP hw hK
  obtain⟨xs,hq,hx⟩:=hg
  obtain⟨its,rv,p,hz⟩:=I.list hq
  obtain⟨f0,f1,f2,f3,f4,f5⟩:=hf it (by simp)
  have hl:=rv.length
  exact qcs (I.ok.hd hc) st p.isList (by simp;lia) λh' eb=>⟨rfl,I.turned (t':=s.toks) (λb o hb e=>eb b o hb e) f0 f1 f3 f4 f5⟩
 self:=λ_ _ _ _ _ st h=>wpAny_pyIter_listiter st h
theorem rq {P:Program}{w:World}{K:PySem.W.Frag}{tg:Expr} (a it:Addr):qJ P w K tg (Itt K a) [it] it (λi h=>h.IsTupleIter it a i) where
 mem:=by simp
 obj:=λi h st b hb=>by
  have e:b=it:=by simpa using hb
  subst e
  obtain⟨o,e,c,d⟩:=st
  exact⟨o,e,λv z=>by rw [d] at z;cases z⟩
 keep:=λi h h' st k=>st.at λo e=>k it (by simp) o e
 item:=by
  intro X hP hw hK hc i pins s σ H E I hf st hg
  subst hP hw hK
  obtain⟨xs,x,hq,hx⟩:=hg
  obtain⟨its,rv,p,hz⟩:=I.tuple hq
  obtain⟨u,hu,ru⟩:=rv.get hx
  obtain⟨f0,f1,f2,f3,f4,f5⟩:=hf it (by simp)
  refine qds st (show s.heap.IsTuple a its.toArray from p) (x:=u) (by simpa using hu) λh' st' sb=>?_
  have I1:Inv X pins σ H { s with heap:=h' }:=I.turned (t':=s.toks) (λb o hb e=>(sb.2 b hb).trans e) f0 f1 f3 f4 f5
  obtain⟨o,e,c,d⟩:=id st'
  exact⟨u,rfl,uQ (s:={ s with heap:=h' }) e c d (by decide) ⟨x,H,I1,ru,⟨rfl,λys hy=>by rw [I.tuple_inj hy hq];exact hx⟩,st',λb hb=>(hf b hb).1⟩⟩
 done:=by
  intro X hP hw hK hc i pins s σ H E I hf st hg
  subst hP hw hK
  obtain⟨xs,hq,hx⟩:=hg
  obtain⟨its,rv,p,hz⟩:=I.tuple hq
  obtain⟨f0,f1,f2,f3,f4,f5⟩:=hf it (by simp)
  have hl:=rv.length
  exact qdB (I.ok.hd hc) st (show s.heap.IsTuple a its.toArray from p) (by simp;lia) λh' eb=>⟨rfl,I.turned (t':=s.toks) (λb o hb e=>eb b o hb e) f0 f1 f3 f4 f5⟩
 self:=λ_ _ _ _ _ st h=>wpAny_pyIter_tupleiter st h
theorem rN {P:Program}{w:World}{K:PySem.W.Frag}{tg:Expr} (it:Addr) (lo:Int) (n:Nat):qJ P w K tg (Itr lo n) [it] it (λi h=>IsRangeIter h it (lo+(i:Nat)*1) ((n:Int) - (i:Nat)) 1) where
 mem:=by simp
 obj:=λi h st b hb=>by
  have e:b=it:=by simpa using hb
  subst e
  exact⟨_,st,λv z=>by
   have z':Data.fields _=Data.cell v:=z
   cases z'⟩
 keep:=λi h h' st k=>k it (by simp) _ st
 item:=by
  intro X hP hw hK hc i pins s σ H E I hf st hg
  subst hP hw hK
  obtain⟨f0,f1,f2,f3,f4,f5⟩:=hf it (by simp)
  have W:=Walks.range (prog:=X.prog) (w:=X.w) (I.ok.hd hc) it lo 1 n
  refine W.item i s _ _ hg st λv h' tk hv st' kk=>?_
  obtain⟨t,rfl⟩:=hv
  have I1:Inv X pins σ H { s with heap:=h',toks:=tk }:=I.turned (λb o hb e=>kk b o (by simpa using hb) e) f0 f1 f3 f4 f5
  refine⟨_,rfl,uQ (s:={ s with heap:=h',toks:=tk }) (n:="range_iterator") st' rfl rfl (by decide) ⟨.int (lo+i),H,I1,⟨t,?_⟩,⟨rfl,rfl⟩,st',λb hb=>(hf b hb).1⟩⟩
  rw [qe8]
 done:=by
  intro X hP hw hK hc i pins s σ H E I hf st hg
  subst hP hw hK
  obtain⟨f0,f1,f2,f3,f4,f5⟩:=hf it (by simp)
  exact wpAny_pyNext_range_end (I.ok.hd hc) st (by have:n<=i:=hg;lia) λh' eb=>⟨rfl,I.turned (t':=s.toks) (λb o hb e=>eb b o hb e) f0 f1 f3 f4 f5⟩
 self:=λ_ _ _ _ _ st h=>wpAny_pyIter_rangeiter st h
section
variable {X:Cx}{tg:Expr}
noncomputable def Bg (K:PySem.W.Frag) (tl:TE):TI:=λσ H R=>tl σ H λx H1=>∃ a,x=.ref a/\(∃ xs,SqL K H1 a xs)/\R (Itl K a) H1
noncomputable def B9 (K:PySem.W.Frag) (tl:TE):TI:=λσ H R=>tl σ H λx H1=>∃ a,x=.ref a/\(∃ xs,SqT K H1 a xs)/\R (Itt K a) H1
theorem xU {l:Expr}{tl:TE} (hl:PE X l tl):PI X tg l (Bg X.K tl):=by
 intro pins s σ H R I h
 refine thn (hl pins s σ H _ I h) λv s1 ⟨x,H1,I1,r1,q1⟩=>?_
 obtain⟨a,e,⟨xs,hq⟩,q⟩:=q1
 subst e
 cases r1
 obtain⟨its,rv,p,hz⟩:=I1.list hq
 refine qc0 p.isList ?_
 refine⟨s1.heap.objs.size,[s1.heap.objs.size],_,_,H1,rfl,I1.kept (t':=s1.toks) λb o e=>qae _ e,tF a _,⟨_,qav _ rfl,rfl,rfl⟩,λb hb=>?_,q⟩
 have e:b=s1.heap.objs.size:=by simpa using hb
 subst e
 exact I1.fpOk (qaq _) (I1.hok.fresh (qaq _))
theorem zm {l:Expr}{tl:TE} (hl:PE X l tl):PI X tg l (B9 X.K tl):=by
 intro pins s σ H R I h
 refine thn (hl pins s σ H _ I h) λv s1 ⟨x,H1,I1,r1,q1⟩=>?_
 obtain⟨a,e,⟨xs,hq⟩,q⟩:=q1
 subst e
 cases r1
 obtain⟨its,rv,p,hz⟩:=I1.tuple hq
 refine qca (show s1.heap.IsTuple a its.toArray from p) ?_
 refine⟨s1.heap.objs.size,[s1.heap.objs.size],_,_,H1,rfl,I1.kept (t':=s1.toks) λb o e=>qae _ e,rq a _,⟨_,qav _ rfl,rfl,rfl⟩,λb hb=>?_,q⟩
 have e:b=s1.heap.objs.size:=by simpa using hb
 subst e
 exact I1.fpOk (qaq _) (I1.hok.fresh (qaq _))
theorem v0 {pins:List (Addr×Obj)}{σ:St}{H:Hp}{s:Shared}{R:It->Hp->Prop}{E:Value->Shared->Prop}{lo hi:Int}{t u v:Tok}{tk:Nat} (I:Inv X pins σ H s) (h1:-(2 ^ 62)<=lo) (h2:lo < 2 ^ 62) (h3:-(2 ^ 62)<=hi) (h4:hi < 2 ^ 62)
  (q:R (Itr lo (hi - lo).toNat) H):wpAny (model X.prog X.w) X.A (pyIter (.ref s.heap.objs.size)) (PIE X pins σ tg R) E { s with heap:=s.heap.push { cls:=.type "range",data:=.fields #[.int lo t,.int hi u,.int 1 v] },toks:=tk }:=by
 refine wpAny_pyIter_range (IsRange.new ..) (small_one h1 h2 h3 h4) ?_
 have I1:Inv X pins σ H { s with heap:=s.heap.push { cls:=.type "range",data:=.fields #[.int lo t,.int hi u,.int 1 v] },toks:=tk }:=I.kept λb o e=>qae _ e
 refine⟨(s.heap.push { cls:=.type "range",data:=.fields #[.int lo t,.int hi u,.int 1 v] }).objs.size,[(s.heap.push { cls:=.type "range",data:=.fields #[.int lo t,.int hi u,.int 1 v] }).objs.size],_,_,H,rfl,
  I1.kept (t':=tk) λb o e=>qae _ e,rN _ lo (hi - lo).toNat,?_,λb hb=>?_,q⟩
 ·have e1:lo+((0:Nat):Int)*1=lo:=by simp
  have e2:(((hi - lo).toNat:Nat):Int) - ((0:Nat):Int)=Builtin.Range.rangeSize lo hi 1:=by rw [rangeSize_one];split<;>lia
  show IsRangeIter _ _ (lo+((0:Nat):Int)*1) ((((hi - lo).toNat:Nat):Int) - ((0:Nat):Int)) 1
  rw [e1,e2]
  exact qav _ rfl
 ·have e:b=(s.heap.push { cls:=.type "range",data:=.fields #[.int lo t,.int hi u,.int 1 v] }).objs.size:=by simpa using hb
  subst e
  exact I1.fpOk (qaq _) (I1.hok.fresh (qaq _))
noncomputable def Bk (ta:TA):TI:=λσ H R=>ta σ H λvs H1=>∃ j:Int,vs=[.int j]/\-(2 ^ 62)<=j/\j < 2 ^ 62/\R (Itr 0 j.toNat) H1
theorem tT {a:Expr}{ta:TA}{p pos:Pos} (hg:Gl X "range") (hm:X.mg "range" = none) (ha:PA X [a] ta) (hs:starEach [a] X.env=[(false,eval a X.env)]:=by rfl):PI X tg (.Call (.Name "range" p) [a] [] pos) (Bk ta):=by
 intro pins s σ H R I h
 refine Call_ (iU I hg hm boot_range (qbQ (thn (ha pos pins s σ H _ I h) λus s1 ⟨vs,H1,I1,r1,q1⟩=>?_) hs rfl))
 obtain⟨j,e,q1,q2,q⟩:=q1
 subst e
 cases r1 with
 | cons r rr=>
  cases rr
  obtain⟨t,rfl⟩:=r
  exact call_range_1 (v0 I1 (by lia) (by lia) q1 q2 (by simpa using q))
noncomputable def Cc (wi:TI) (g:TG) (tb:TS):TS:=λD σ H=>wi σ H λJ H1=>∃ W:Nat->Nat->St->Hp->Prop,(∃ m,W 0 m σ H1)/\∀ i m σ H,W i m σ H->
 (J.stop i H/\D.nx σ H)\/(J.go i H/\∃ N:St->Hp->Prop,(∀ σ' H',N σ' H'->∃ m',m' < m/\W (i+1) m' σ' H')/\∀ x H',J.yld i H x H'->g x σ H' λσ2 H2=>tb { D with nx:=N,ct:=N,bk:=D.nx } σ2 H2)
noncomputable def jT (fp:List Addr) (h:Heap):List (Addr×Obj):=fp.filterMap λb=>(h.get? b).map λo=>(b,o)
theorem dj {fp:List Addr}{h:Heap}{b:Addr}{o:Obj} (hb:b ∈ fp) (e:h.get? b=some o):(b,o) ∈ jT fp h:=qdS.mpr ⟨b,hb,by rw [e];rfl⟩
theorem t9 {fp:List Addr}{h:Heap}{p:Addr×Obj} (hp:p ∈ jT fp h):p.1 ∈ fp/\h.get? p.1=some p.2:=by
 obtain⟨b,hb,e⟩:=qdS.mp hp
 cases q:h.get? b with
 | none=>rw [q] at e;cases e
 | some o=>
  rw [q] at e
  have e':(b,o)=p:=qaA e
  subst e'
  exact⟨hb,q⟩
theorem Inv.pinned {pins:List (Addr×Obj)}{σ:St}{H:Hp}{s:Shared}{fp:List Addr} (I:Inv X pins σ H s) (hf:∀ b ∈ fp,iB X pins H b) (ho:∀ b ∈ fp,∃ o,s.heap.get? b=some o/\∀ v,o.data≠.cell v):Inv X (pins++jT fp s.heap) σ H s:=
 I.pins_of λp hp=>(qbg.mp hp).elim (λz=>I.pin p (qau _ z)) λz=>by
  obtain⟨hb,e⟩:=t9 z
  obtain⟨f0,f1,f2,_⟩:=hf p.1 hb
  obtain⟨o,e',d⟩:=ho p.1 hb
  rw [e] at e';cases e'
  exact⟨e,f0,f1,f2,d⟩
theorem Inv.unpinned {pins pl:List (Addr×Obj)}{σ:St}{H:Hp}{s:Shared} (I:Inv X (pins++pl) σ H s):Inv X pins σ H s:=I.pins_of λp hp=>I.pin p (qau _ (qbH _ hp))
theorem AH {iter:Expr}{body:List Stmt}{wi:TI}{g:TG}{tb:TS}{pos:Pos} (hp:PassesOwn (model X.prog X.w) X.A X.env X.xe) (hc:X.calm=true) (hi:PI X tg iter wi) (hg:PG X tg g) (hb:PSs X body tb)
  (hs:∀ x,foldedSetIterable iter X.env x=pure x:=by intro _;rfl):PS X (.For tg iter body [] pos) (Cc wi g tb):=by
 intro pins s σ H D I h
 refine wpAny_For (thn (hi pins s σ H _ I h) λv s1 h1=>thn h1 λitv s2 h2=>?_) hs
 obtain⟨it,fp,tn,J,H2,e,I2,T,st2,f2,W,⟨m0,w0⟩,turn⟩:=h2
 subst e
 -- what stays true of the iterator's objects through the loop
 have stat:∀ {H':Hp},(∀ b ∈ fp,H' b=none)->∀ b ∈ fp,iB X pins H' b:=λhn b hb=>⟨hn b hb,(f2 b hb).2⟩
 refine codeAny_forLoop_any (λn s'=>∃ i σ' H',Inv X pins σ' H' s'/\tn i s'.heap/\(∀ b ∈ fp,H' b=none)/\W i n σ' H') ?_ m0 ⟨0,σ,H2,I2,st2,λb hb=>(f2 b hb).1,w0⟩
 rintro n s3 ⟨i,σ3,H3,I3,st3,fr3,w3⟩
 rcases turn i n σ3 H3 w3 with⟨stop,qn⟩ | ⟨go,N,hN,step⟩
 ·refine qct hp (thn (T.done X rfl rfl rfl hc i pins s3 σ3 H3 X.xe I3 (stat fr3) st3 stop) λr s4 ⟨hr,I4⟩=>?_)
  subst hr
  exact qdL ⟨σ3,H3,I4,qn⟩
 ·refine qct hp (thn (T.item X rfl rfl rfl hc i pins s3 σ3 H3 X.xe I3 (stat fr3) st3 go) λr s4 ⟨u,hr,h4⟩=>?_)
  subst hr
  refine qct hp (thn h4 λ_ s5 ⟨x,H5,I5,r5,y5,st5,fr5⟩=>?_)
  have I5':=I5.pinned (stat fr5) (T.obj _ _ st5)
  refine qct hp (thn (hg _ s5 σ3 H5 x u _ I5' r5 (step x H5 y5)) λ_ s6 ⟨σ6,H6,I6,q6⟩=>?_)
  refine qct hp (thn (hb _ s6 σ6 H6 _ I6 q6) λf s7 q7=>?_)
  have again:∀ {σ7:St}{H7:Hp},Inv X (pins++jT fp s5.heap) σ7 H7 s7->N σ7 H7->∃ m,m < n/\∃ i σ' H',Inv X pins σ' H' s7/\tn i s7.heap/\(∀ b ∈ fp,H' b=none)/\W i m σ' H':=λ{σ7 H7} I7 n7=>by
   obtain⟨m',hm,w7⟩:=hN σ7 H7 n7
   refine⟨m',hm,i+1,σ7,H7,I7.unpinned,T.keep _ _ _ st5 λb hb o e=>(I7.pin (b,o) (qau _ (qau _ (dj hb e)))).1,λb hb=>?_,w7⟩
   obtain⟨o,e,d⟩:=T.obj _ _ st5 b hb
   exact (I7.pin (b,o) (qau _ (qau _ (dj hb e)))).2.1
  cases f with
  | next=>obtain⟨σ7,H7,I7,n7⟩:=q7;exact again I7 n7
  | cont=>obtain⟨σ7,H7,I7,n7⟩:=q7;exact again I7 n7
  | brk=>obtain⟨σ7,H7,I7,q7⟩:=q7;exact⟨σ7,H7,I7.unpinned,q7⟩
  | ret v=>obtain⟨x7,σ7,H7,I7,r7,q7⟩:=q7;exact⟨x7,σ7,H7,I7.unpinned,r7,q7⟩
end
abbrev R2:=V->V->Hp->VK->Prop
noncomputable def OpR (X:Cx) (f:Value->Value->Sem Value) (r:R2):Prop:=
 ∀ (pins:List (Addr×Obj)) (s:Shared) (σ:St) (H:Hp) (x y:V) (v u:Value) (Q:VK),Inv X pins σ H s->bi x v->bi y u->r x y H Q->
  wpAny (model X.prog X.w) X.A (f v u) (EP X pins σ Q) X.xe s
noncomputable def UnR (X:Cx) (f:Value->Sem Value) (r:V->Hp->VK->Prop):Prop:=
 ∀ (pins:List (Addr×Obj)) (s:Shared) (σ:St) (H:Hp) (x:V) (v:Value) (Q:VK),Inv X pins σ H s->bi x v->r x H Q->
  wpAny (model X.prog X.w) X.A (f v) (EP X pins σ Q) X.xe s
noncomputable def bS (X:Cx) (f:Value) (r:List V->Hp->VK->Prop):Prop:=
 ∀ (pins:List (Addr×Obj)) (s:Shared) (σ:St) (H:Hp) (xs:List V) (us:List Value) (Q:VK),Inv X pins σ H s->aN xs us->r xs H Q->
  wpAny (model X.prog X.w) X.A (call f us) (EP X pins σ Q) X.xe s
noncomputable def Ce (X:Cx) (r:V->Hp->(Bool->Hp->Prop)->Prop):Prop:=
 ∀ (pins:List (Addr×Obj)) (s:Shared) (σ:St) (H:Hp) (x:V) (v:Value) (Q:Bool->Hp->Prop),Inv X pins σ H s->bi x v->r x H Q->
  wpAny (model X.prog X.w) X.A (truthy v) (TP X pins σ Q) X.xe s
noncomputable def tOp (r:R2) (ta tb:TE):TE:=λσ H Q=>ta σ H λx H1=>tb σ H1 λy H2=>r x y H2 Q
noncomputable def tUn (r:V->Hp->VK->Prop) (ta:TE):TE:=λσ H Q=>ta σ H λx H1=>r x H1 Q
noncomputable def rI (C:Int->Int->Prop) (g:Int->Int->V):R2:=λx y H Q=>∃ i j,x=.int i/\y=.int j/\C i j/\Q (g i j) H
noncomputable def rI0 (g:Int->Int->V):R2:=λx y H Q=>∃ i j,x=.int i/\y=.int j/\Q (g i j) H
noncomputable def rU (g:Int->V):V->Hp->VK->Prop:=λx H Q=>∃ i,x=.int i/\Q (g i) H
section
variable {X:Cx}{a b c:Expr}{ta tb tc:TE}{pos:Pos}
theorem AK (ha:PE X a ta) (hb:PE X b tb) {pins:List (Addr×Obj)}{s:Shared}{σ:St}{H:Hp}{R:V->V->Hp->Prop} (I:Inv X pins σ H s)
  (h:ta σ H λx H1=>tb σ H1 λy H2=>R x y H2) {Q:Value->Shared->Prop}{f:Value->Value->Sem Value}
  (hf:∀ v u s2 x y H2,Inv X pins σ H2 s2->bi x v->bi y u->R x y H2->wpAny (model X.prog X.w) X.A (f v u) Q X.xe s2) :
  wpAny (model X.prog X.w) X.A (eval a X.env) (λv s₁=>wpAny (model X.prog X.w) X.A (eval b X.env) (λu s₂=>wpAny (model X.prog X.w) X.A (f v u) Q X.xe s₂) X.xe s₁) X.xe s:=by
 refine thn (ha pins s σ H _ I h) λv s1 ⟨x,H1,I1,r1,q1⟩=>?_
 refine thn (hb pins s1 σ H1 _ I1 q1) λu s2 ⟨y,H2,I2,r2,q2⟩=>?_
 exact hf v u s2 x y H2 I2 r1 r2 q2
theorem yU {op:Operator}{r:R2} (ho:OpR X (binaryOp op) r) (ha:PE X a ta) (hb:PE X b tb):PE X (.BinOp a op b pos) (tOp r ta tb):=by
 intro pins s σ H Q I h
 exact wpAny_BinOp (AK ha hb I h λv u s2 x y H2 I2 rx ry q=>ho pins s2 σ H2 x y v u Q I2 rx ry q)
theorem BU {op:UnaryOp}{r:V->Hp->VK->Prop} (ho:UnR X (unaryOp op) r) (ha:PE X a ta):PE X (.UnaryOp op a pos) (tUn r ta):=by
 intro pins s σ H Q I h
 exact UnaryOp_ (thn (ha pins s σ H _ I h) λv s1 ⟨x,H1,I1,r1,q1⟩=>ho pins s1 σ H1 x v Q I1 r1 q1)
theorem opI {f:Value->Value->Sem Value}{C:Int->Int->Prop}{g:Int->Int->Int}
  (rule:∀ (i j:Int) (t u:Tok) (s:Shared) (Q:Value->Shared->Prop) (E:Value->Shared->Prop),C i j->Q (.int (g i j) s.toks) { s with toks:=s.toks+1 }->wpAny (model X.prog X.w) X.A (f (.int i t) (.int j u)) Q E s) :
  OpR X f (rI C λi j=>.int (g i j)):=by
 intro pins s σ H x y v u Q I rx ry h
 obtain⟨i,j,rfl,rfl,hc,q⟩:=h
 obtain⟨t,rfl⟩:=rx
 obtain⟨t',rfl⟩:=ry
 exact rule i j t t' s _ _ hc ⟨.int (g i j),H,I.tok _,⟨_,rfl⟩,q⟩
theorem AY {f:Value->Value->Sem Value}{g:Int->Int->Int}
  (rule:∀ (i j:Int) (t u:Tok) (s:Shared) (Q:Value->Shared->Prop) (E:Value->Shared->Prop),Q (.int (g i j) s.toks) { s with toks:=s.toks+1 }->wpAny (model X.prog X.w) X.A (f (.int i t) (.int j u)) Q E s) :
  OpR X f (rI0 λi j=>.int (g i j)):=by
 intro pins s σ H x y v u Q I rx ry h
 obtain⟨i,j,rfl,rfl,q⟩:=h
 obtain⟨t,rfl⟩:=rx
 obtain⟨t',rfl⟩:=ry
 exact rule i j t t' s _ _ ⟨.int (g i j),H,I.tok _,⟨_,rfl⟩,q⟩
theorem xO {f:Value->Value->Sem Value}{g:Int->Int->Bool}
  (rule:∀ (i j:Int) (t u:Tok) (s:Shared) (Q:Value->Shared->Prop) (E:Value->Shared->Prop),Q (.bool (g i j)) s->wpAny (model X.prog X.w) X.A (f (.int i t) (.int j u)) Q E s) :
  OpR X f (rI0 λi j=>.bl (g i j)):=by
 intro pins s σ H x y v u Q I rx ry h
 obtain⟨i,j,rfl,rfl,q⟩:=h
 obtain⟨t,rfl⟩:=rx
 obtain⟨t',rfl⟩:=ry
 exact rule i j t t' s _ _ ⟨.bl (g i j),H,I,rfl,q⟩
noncomputable def Cp (i j:Int):Prop:=0 < j/\j < 1073741824
noncomputable def oW (i j:Int):Prop:=0<=j/\j<=1000000/\i.natAbs < 2 ^ 64
noncomputable def xQ (i j:Int):Prop:=(-(2 ^ 64) < i/\i < 2 ^ 64)\/(-(2 ^ 64) < j/\j < 2 ^ 64)
theorem xQ.ok {i j:Int} (h:xQ i j):IntMulOk i j:=by
 rcases h with⟨h1,h2⟩ | ⟨h1,h2⟩
 ·exact .of_left (intBits_le_64 h1 h2)
 ·exact .of_right (intBits_le_64 h1 h2)
theorem qO (k:Nat):(0:Int)<=2 ^ k:=by
 rw [two_pow_cast]
 exact qfk _
theorem An:OpR X (binaryOp .Add) (rI0 λi j=>.int (i+j)):=AY λ_ _ _ _ _ _ _ q=>add_int q
theorem Ai:OpR X (binaryOp .Sub) (rI0 λi j=>.int (i - j)):=AY λ_ _ _ _ _ _ _ q=>sub_int q
theorem xy:OpR X (binaryOp .FloorDiv) (rI Cp λi j=>.int (i / j)):=opI λi j _ _ _ _ _ hc q=>by
 have h1:(0:Int) < j:=hc.1
 have h2:j < 1073741824:=hc.2
 exact floordiv_int (by lia) (by rw [qc7 i (by lia)];exact q) (.inl (PyProof.noPylong_small (by lia)))
theorem AR:OpR X (binaryOp .Mod) (rI (λ_ j=>0 < j) λi j=>.int (i % j)):=opI λi j _ _ _ _ _ hc q=>by
 have h1:(0:Int) < j:=hc
 exact mod_int' (by lia) (by rw [Int.fmod_eq_emod_of_nonneg i (by lia)];exact q)
theorem zD:OpR X (binaryOp .Pow) (rI oW λi j=>.int (i ^ j.toNat)):=opI λ_ _ _ _ _ _ _ hc q=>pow_int_small hc.1 hc.2.1 hc.2.2 q
theorem Ao:OpR X (binaryOp .LShift) (rI oW λi j=>.int (i*2 ^ j.toNat)):=opI λ_ _ _ _ _ _ _ hc q=>lshift_int_small hc.1 hc.2.1 hc.2.2 q
theorem zZ:OpR X (binaryOp .RShift) (rI (λ_ j=>0<=j) λi j=>.int (i / 2 ^ j.toNat)):=opI λi j _ _ _ _ _ hc q=>
 rshift_int hc (by rw [qc7 i (qO _)];exact q)
theorem zj:OpR X (binaryOp .BitAnd) (rI0 λi j=>.int (Builtin.bitAnd i j)):=AY λ_ _ _ _ _ _ _ q=>and_int q
theorem unI {f:Value->Sem Value}{g:Int->Int}
  (rule:∀ (i:Int) (t:Tok) (s:Shared) (Q:Value->Shared->Prop) (E:Value->Shared->Prop),Q (.int (g i) s.toks) { s with toks:=s.toks+1 }->wpAny (model X.prog X.w) X.A (f (.int i t)) Q E s) :
  UnR X f (rU λi=>.int (g i)):=by
 intro pins s σ H x v Q I rx h
 obtain⟨i,rfl,q⟩:=h
 obtain⟨t,rfl⟩:=rx
 exact rule i t s _ _ ⟨.int (g i),H,I.tok _,⟨_,rfl⟩,q⟩
theorem AW:UnR X (unaryOp .USub) (rU λi=>.int (-i)):=unI λ_ _ _ _ _ q=>neg_int q
end
section
variable {X:Cx}{a b c:Expr}{ta tb tc:TE}{pos:Pos}
theorem rK {pins:List (Addr×Obj)}{σ:St}{H:Hp}{s:Shared}{Q:VK}{k k':Bool} (I:Inv X pins σ H s) (q:Q (.bl k) H) (e:k=k'):EP X pins σ Q (.bool k') s:=by
 subst e
 exact⟨.bl k,H,I,rfl,q⟩
theorem B0:OpR X (compareOp .Lt) (rI0 λi j=>.bl (decide (i < j))):=xO λ_ _ _ _ _ _ _ q=>lt_int q
theorem Bj:OpR X (compareOp .LtE) (rI0 λi j=>.bl (decide (i<=j))):=xO λ_ _ _ _ _ _ _ q=>le_int q
theorem A8:OpR X (compareOp .Gt) (rI0 λi j=>.bl (decide (j < i))):=xO λ_ _ _ _ _ _ _ q=>gt_int q
theorem Bu:OpR X (compareOp .GtE) (rI0 λi j=>.bl (decide (j<=i))):=xO λ_ _ _ _ _ _ _ q=>ge_int q
theorem Aq:OpR X (compareOp .Is) (λx y H Q=>y=.non/\Q (.bl (decide (x=.non))) H):=by
 intro pins s σ H x y v u Q I rx ry h
 obtain⟨rfl,q⟩:=h
 cases ry
 refine is_none_gen (rK I q ?_)
 cases x<;>first
  | (cases rx;rfl)
  | (obtain⟨t,rfl⟩:=rx;rfl)
theorem yr:OpR X (compareOp .IsNot) (λx y H Q=>y=.non/\Q (.bl (!decide (x=.non))) H):=by
 intro pins s σ H x y v u Q I rx ry h
 obtain⟨rfl,q⟩:=h
 cases ry
 refine isnot_none_gen (rK I q ?_)
 cases x<;>first
  | (cases rx;rfl)
  | (obtain⟨t,rfl⟩:=rx;rfl)
theorem aI (b:Expr) {op:CmpOp} (h:op≠.In:=by decide) (h2:op≠.NotIn:=by decide):behindInMarks op b=false:=by
 have e1:(op==CmpOp.In)=false:=by cases op<;>first | rfl | exact absurd rfl h
 have e2:(op==CmpOp.NotIn)=false:=by cases op<;>first | rfl | exact absurd rfl h2
 cases b<;>simp [behindInMarks,e1,e2]
theorem xu {op:CmpOp}{r:R2} (ho:OpR X (compareOp op) r) (ha:PE X a ta) (hb:PE X b tb) (hm:behindInMarks op b=false):PE X (.Compare a [op] [b] pos) (tOp r ta tb):=by
 intro pins s σ H Q I h
 exact wpAny_Compare1 (AK ha hb I h λv u s2 x y H2 I2 rx ry q=>ho pins s2 σ H2 x y v u Q I2 rx ry q) hm
noncomputable def BD (t:TE):TT:=λσ H Q=>t σ H λx H'=>∃ k,x=.bl k/\Q k H'
theorem yt {op:CmpOp}{r:R2} (ho:OpR X (compareOp op) r) (ha:PE X a ta) (hb:PE X b tb) (hm:behindInMarks op b=false):PT X (.Compare a [op] [b] pos) (BD (tOp r ta tb)):=by
 intro pins s σ H Q I h
 refine wpAny_isTrue_Compare1 (thn (ha pins s σ H _ I h) λv s1 ⟨x,H1,I1,r1,q1⟩=>thn (hb pins s1 σ H1 _ I1 q1) λu s2 ⟨y,H2,I2,r2,q2⟩=>
  thn (ho pins s2 σ H2 x y v u _ I2 r1 r2 q2) λc s3 ⟨z,H3,I3,r3,k,e,q3⟩=>?_) hm
 subst e
 cases r3
 exact qbM ⟨H3,I3,q3⟩
noncomputable def yu (K:PySem.W.Frag) (x:V) (H:Hp) (k:Bool):Prop:=
 match x with
 | .non=>k=false
 | .bl b=>k=b
 | .int i=>k=(i != 0)
 | .str y=>y.length<=sizeLine/\k=((y.length:Int) != 0)
 | .byt y=>y.size<=sizeLine/\k=((y.size:Int) != 0)
 | .ref p=>(∃ xs,SqL K H p xs/\k=!xs.isEmpty)\/(∃ xs,SqT K H p xs/\k=!xs.isEmpty)\/∃ kvs,H p=some (.dK kvs)/\k=!kvs.isEmpty
 | _=>False
theorem rB {κ:Type}{kvs:List (κ×V)}{vs:List (κ×Value)} (r:KV kvs vs):(!vs.isEmpty)=!kvs.isEmpty:=by
 cases r<;>rfl
theorem mv {xs:List V}{its:List Value} (r:aN xs its):(!its.toArray.isEmpty)=!xs.isEmpty:=by
 cases r<;>simp
theorem iR:(sizeLine:Nat) < 2 ^ 63:=by rw [qci];decide
theorem Az:Ce X (λx H Q=>∃ k,yu X.K x H k/\Q k H):=by
 intro pins s σ H x v Q I rx h
 obtain⟨k,e,q⟩:=h
 have hl:=iR
 have hs:sizeLine=16777216:=qci
 cases x with
 | non=>
  cases rx
  have e':k=false:=e
  subst e'
  exact truthy_none ⟨H,I,q⟩
 | bl b=>
  cases rx
  have e':k=b:=e
  subst e'
  exact qbM ⟨H,I,q⟩
 | int i=>
  obtain⟨t,rfl⟩:=rx
  have e':k=(i != 0):=e
  subst e'
  exact PySem.P.truthy_int ⟨H,I,q⟩
 | str y=>
  obtain⟨t,rfl⟩:=rx
  obtain⟨hy,e'⟩:y.length<=sizeLine/\k=((y.length:Int) != 0):=e
  subst e'
  exact PySem.P.truthy_str (by lia) ⟨H,I.tok _,q⟩
 | byt y=>
  obtain⟨t,rfl⟩:=rx
  obtain⟨hy,e'⟩:y.size<=sizeLine/\k=((y.size:Int) != 0):=e
  subst e'
  exact PySem.W.truthy_bytes (by lia) ⟨H,I.tok _,q⟩
 | ref p=>
  cases rx
  have e':(∃ xs,SqL X.K H p xs/\k=!xs.isEmpty)\/(∃ xs,SqT X.K H p xs/\k=!xs.isEmpty)\/∃ kvs,H p=some (.dK kvs)/\k=!kvs.isEmpty:=e
  rcases e' with⟨xs,hx,e'⟩ | ⟨xs,hx,e'⟩ | ⟨kvs,hx,e'⟩
  ·subst e'
   obtain⟨its,r,pl,hz⟩:=I.list hx
   have hlen:=r.length
   exact wpAny_truthy_list pl.isList (by simp only [qax];lia) ⟨H,I.tok _,by rw [mv r];exact q⟩
  ·subst e'
   obtain⟨its,r,pl,hz⟩:=I.tuple hx
   have hlen:=r.length
   exact truthy_tuple pl (by simp only [qax];lia) ⟨H,I.tok _,by rw [mv r];exact q⟩
  ·subst e'
   obtain⟨hz,hS,vs,r,m⟩:kvs.length<=sizeLine/\(p==sysModules)=false/\∃ vs,KV kvs vs/\s.heap.DictOf (n4 X.prog X.w) p vs:=I.hok p _ hx
   have hlen:kvs.length=vs.length:=qfv r
   exact wpAny_truthy_dict hS m (by lia) ⟨H,I.tok _,by rw [rB r];exact q⟩
 | _=>exact (show False from e).elim
theorem wK (ha:PE X a ta) (he:∀ whole,isTrue a X.env whole=(do let v <-whole;standAt a.pos;holding [v] (truthy v))) :
  PT X a (λσ H Q=>ta σ H λx H'=>∃ k,yu X.K x H' k/\Q k H'):=by
 intro pins s σ H Q I h
 exact isTrue_plain (thn (ha pins s σ H _ I h) λv s1 ⟨x,H1,I1,r1,q1⟩=>Az pins s1 σ H1 x v Q I1 r1 q1) (he _)
theorem qR:OpR X (binaryOp .Add) (λx y H Q=>∃ i j,x=.str i/\y=.str j/\i.length+j.length<=sizeLine/\Q (.str (i++j)) H):=by
 intro pins s σ H x y v u Q I rx ry h
 obtain⟨i,j,rfl,rfl,hz,q⟩:=h
 obtain⟨t,rfl⟩:=rx
 obtain⟨t',rfl⟩:=ry
 exact add_str (λt' tk=>⟨.str (i++j),H,I.tok _,⟨_,rfl⟩,q⟩) hz
theorem gD {x:V}{us:List Value} (r:aN [x] us):∃ u,us=[u]/\bi x u:=by
 cases r with
 | cons r1 r2=>cases r2;exact⟨_,rfl,r1⟩
theorem yV {x y:V}{us:List Value} (r:aN [x,y] us):∃ u w',us=[u,w']/\bi x u/\bi y w':=by
 cases r with
 | cons r1 r2=>
  cases r2 with
  | cons r3 r4=>cases r4;exact⟨_,_,rfl,r1,r3⟩
theorem v8:bS X (.builtin "abs") (λxs H Q=>∃ i,xs=[.int i]/\Q (.int (if i < 0 then -i else i)) H):=by
 intro pins s σ H xs us Q I r h
 obtain⟨i,rfl,q⟩:=h
 obtain⟨u,rfl,t,rfl⟩:=gD r
 exact call_abs_int λu tk=>⟨.int (if i < 0 then -i else i),H,I.tok _,⟨_,rfl⟩,q⟩
theorem uF (hc:X.calm=true):bS X (.builtin "max") (λxs H Q=>∃ i j,xs=[.int i,.int j]/\Q (.int (if j > i then j else i)) H):=by
 intro pins s σ H xs us Q I r h
 obtain⟨i,j,rfl,q⟩:=h
 obtain⟨u,w',rfl,⟨t,rfl⟩,⟨t',rfl⟩⟩:=yV r
 refine max_two_ints (I.ok.hd hc) λh' tk k=>⟨_,H,I.kept k,?_,q⟩
 by_cases hj:j > i
 ·rw [if_pos hj,if_pos hj];exact⟨_,rfl⟩
 ·rw [if_neg hj,if_neg hj];exact⟨_,rfl⟩
theorem uv (hc:X.calm=true):bS X (.builtin "min") (λxs H Q=>∃ i j,xs=[.int i,.int j]/\Q (.int (if j < i then j else i)) H):=by
 intro pins s σ H xs us Q I r h
 obtain⟨i,j,rfl,q⟩:=h
 obtain⟨u,w',rfl,⟨t,rfl⟩,⟨t',rfl⟩⟩:=yV r
 refine min_two_ints (I.ok.hd hc) λh' tk k=>⟨_,H,I.kept k,?_,q⟩
 by_cases hj:j < i
 ·rw [if_pos hj,if_pos hj];exact⟨_,rfl⟩
 ·rw [if_neg hj,if_neg hj];exact⟨_,rfl⟩
theorem mV:bS X (.type "int") (λxs H Q=>(∃ i,xs=[.int i]/\Q (.int i) H)\/∃ k,xs=[.bl k]/\Q (.int (if k then 1 else 0)) H):=by
 intro pins s σ H xs us Q I r h
 rcases h with⟨i,rfl,q⟩ | ⟨k,rfl,q⟩
 ·obtain⟨u,rfl,t,rfl⟩:=gD r
  exact call_int_int ⟨.int i,H,I,⟨_,rfl⟩,q⟩
 ·obtain⟨u,rfl,r1⟩:=gD r
  cases r1
  exact call_int_bool ⟨.int (if k then 1 else 0),H,I.tok _,⟨_,rfl⟩,q⟩
end
structure zA (h:Heap) (x dx C:Addr) (mA:Str->Option Value):Prop where
 obj:h.get? x=some (PySem.W.instObj C dx)
 ns:h.Ns1 dx mA
 ne:dx≠x
theorem t0 {h:Heap}{dx:Addr}{mA:Str->Option Value} (n:h.Ns1 dx mA):∃ od,h.get? dx=some od/\∀ name,PySem.W.lookIn name od=some (mA name):=by
 obtain⟨o,es,ep,ho,hd,hk,_,hm⟩:=n
 refine⟨o,ho,λname=>?_⟩
 have e:=hm name
 unfold nsFind findBy at e
 rw [<-Array.find?_toList] at e
 unfold PySem.W.lookIn
 rw [hd]
 dsimp only
 split
 ·rename_i y q
  rw [q] at e
  exact congrArg some e
 ·rename_i q
  rw [q] at e
  have a:es.toList.any (·.refKey)=false:=by
   rw [qfj]
   intro y hy
   obtain⟨z,t,hkey⟩:=hk y (Array.mem_toList_iff.mp hy)
   simp [DictEntry.refKey,hkey]
  have a':¬ es.toList.any (·.refKey)=true:=by rw [a];exact qaB
  rw [if_neg a']
  exact congrArg some e
theorem zA.look {h:Heap}{x dx C:Addr}{mA:Str->Option Value} (I:zA h x dx C mA):∃ od,PySem.W.InstAt h x (PySem.W.instObj C dx) C (some od)/\∀ name,PySem.W.lookIn name od=some (mA name):=
 let ⟨od,ho,hl⟩:=t0 I.ns
 ⟨od,⟨I.obj,rfl,rfl,ho⟩,hl⟩
section
variable {prog:Program}{w:World}{A:Around}{E:Value->Shared->Prop}{s:Shared}{K:PySem.W.Frag}{x dx C f:Addr}{mA:Str->Option Value}{name:Str}{v:Value}
end
section
variable {P:Program}{w:World}{H H':Hp}{h h':Heap}{a C dx:Addr}{fs fs':List (Str×V)}
theorem yq (hok:HOk P w H h) (e:H a=some (.ins C dx fs)):∃ mA,zA h a dx C mA/\(∀ f,zK (fs.lookup f) (mA f))/\PySem.Within mA (fs.map (·.1))/\fs.length<=1000/\H dx=some (.own a):=by
 obtain⟨d,z,ne,ob,mA,n,r,q⟩:=(show cL P w H h a (.ins C dx fs) from hok a _ e)
 exact⟨mA,⟨ob,n,ne⟩,r,q,z,d⟩
end
structure Cls (K:PySem.W.Frag) (C:Addr):Prop where
 pg:PySem.W.plainGet K C Str.empty=true
 hd:PySem.W.hasDictIn K C=true
 po:PySem.W.plainOver K C=true
 sa:PySem.W.findIn K (.ref C) "__setattr__" = some (some (.builtin "object.__setattr__"))
theorem Cls.get {K:PySem.W.Frag}{C:Addr} (c:Cls K C) (f:Str):PySem.W.plainGet K C f=true:=c.pg
section
variable {X:Cx}{pins:List (Addr×Obj)}{σ:St}{H:Hp}{s:Shared}{a C dx:Addr}{fs:List (Str×V)}{f:Str}{v:V}{A:Around}{E:Value->Shared->Prop}
end
section
variable {X:Cx}{o e value:Expr}{f:Str}{pos pos' tpos:Pos}{ta tv:TE}
end
section
variable {X:Cx}{pins:List (Addr×Obj)}{σ:St}{H:Hp}{s:Shared}{A:Around}{E:Value->Shared->Prop}{Q:Value->Shared->Prop}{c:Value}{b:Bool}
inductive kL (K:PySem.W.Frag) (H:Hp):V->Value->Prop where
 | non:kL K H .non (.type "NoneType")
 | bl (x:Bool):kL K H (.bl x) (.type "bool")
 | int (i:Int):kL K H (.int i) (.type "int")
 | str (x:Str):kL K H (.str x) (.type "str")
 | flt (x:UInt64):kL K H (.flt x) (.type "float")
 | lst {a:Addr}{xs:List V} (e:H a=some (.lst xs)):kL K H (.ref a) (.type "list")
 | frz {a:Addr}{o:Obj}{xs:List V} (e:H a=some (.frz o (.lst xs))):kL K H (.ref a) (.type "list")
 | tup {a:Addr}{xs:List V} (e:H a=some (.tup xs)):kL K H (.ref a) (.type "tuple")
 | dK {a:Addr}{kvs:List (Key×V)} (e:H a=some (.dK kvs)):kL K H (.ref a) (.type "dict")
 | dT {a:Addr}{kvs:List (List Key×V)} (e:H a=some (.dT kvs)):kL K H (.ref a) (.type "dict")
 | ins {a C dx:Addr}{fs:List (Str×V)} (e:H a=some (.ins C dx fs)) (cl:Cls K C) (ha:PySem.W.findIn K (.ref C) "__class__" = some (some (.builtin "object.__class__")))
   (hn:PySem.W.specialIn K (.builtin "object.__class__") "__get__" = some (some (.builtin "getset_descriptor.__get__"))) (htk:PySem.W.takesIn K (.builtin "object.__class__")=some true)
   (hm:PySem.W.mroIn K C (.type "object")=some true):kL K H (.ref a) (.ref C)
theorem cP {x:V}{u t:Value} (I:Inv X pins σ H s) (rx:bi x u) (ty:kL X.K H x t) (e:PySem.W.kitOne X.K t c=some b) (h:∀ tk,Q (.bool b) { s with toks:=tk }) :
  wpAny (model X.prog X.w) A (call (.builtin "isinstance") [u,c]) Q E s:=by
 cases ty with
 | non=>cases (show u=Value.none from rx);exact qbw PySem.W.kitx_none I.kIn True.intro e (λz=>nomatch z) h
 | bl y=>cases (show u=Value.bool y from rx);exact qbw PySem.W.kitx_bool I.kIn True.intro e (λz=>nomatch z) h
 | int i=>obtain⟨t,q⟩:=(show ∃ t,u=Value.int i t from rx);cases q;exact qbw PySem.W.kitx_int I.kIn True.intro e (λz=>nomatch z) h
 | str y=>obtain⟨t,q⟩:=(show ∃ t,u=Value.str y t from rx);cases q;exact qbw PySem.W.kitx_str I.kIn True.intro e (λz=>nomatch z) h
 | flt y=>obtain⟨t,q⟩:=(show ∃ t,u=Value.float y t from rx);cases q;exact qbw PySem.W.kitx_float I.kIn True.intro e (λz=>nomatch z) h
 | @lst a xs ea=>
  cases (show u=Value.ref a from rx)
  obtain⟨_,_,n,_,h1⟩:=(show cL X.prog X.w H s.heap a (.lst xs) from I.hok a _ ea)
  exact qbw qeT I.kIn ⟨_,h1,rfl⟩ e (λz=>nomatch z) h
 | @frz a ob xs ea=>
  cases (show u=Value.ref a from rx)
  obtain⟨_,_,_,n,_,h1⟩:=(show cL X.prog X.w H s.heap a (.frz ob (.lst xs)) from I.hok a _ ea)
  exact qbw qeT I.kIn ⟨_,h1,rfl⟩ e (λz=>nomatch z) h
 | @tup a xs ea=>
  cases (show u=Value.ref a from rx)
  obtain⟨_,_,_,p⟩:=(show cL X.prog X.w H s.heap a (.tup xs) from I.hok a _ ea)
  obtain⟨o,h1,h2,_⟩:=p
  exact qbw qeN I.kIn ⟨o,h1,h2⟩ e (λz=>nomatch z) h
 | @dK a kvs ea=>
  cases (show u=Value.ref a from rx)
  obtain⟨_,_,vs,_,p⟩:=(show cL X.prog X.w H s.heap a (.dK kvs) from I.hok a _ ea)
  obtain⟨o,es,ep,h1,h2,_⟩:=p
  exact qbw qeU I.kIn ⟨o,h1,h2.1⟩ e (λz=>nomatch z) h
 | @dT a kvs ea=>
  cases (show u=Value.ref a from rx)
  obtain⟨_,_,xs,_,o,es,ep,h1,h2,_⟩:=(show cL X.prog X.w H s.heap a (.dT kvs) from I.hok a _ ea)
  exact qbw qeU I.kIn ⟨o,h1,h2.1⟩ e (λz=>nomatch z) h
 | @ins a C dx fs ea cl ha hn htk hm=>
  cases (show u=Value.ref a from rx)
  obtain⟨mA,O,_⟩:=yq I.hok ea
  obtain⟨od,J,_⟩:=O.look
  exact qbw (PySem.W.kitx_own (cl.get _) cl.hd ha hn htk hm) I.kIn J e (λz=>nomatch z) h
end
structure bh (k:Nat) (A:Around):Prop where
 hd:A.handled=none
 dp:A.depth+3*k+5 < recursionLimit
 un:A.units+16*k+200 < cLine
 gd:A.guards=some []
theorem bh.mono {j k:Nat}{A:Around} (r:bh k A) (h:j<=k):bh j A:=⟨r.hd,by have:=r.dp;lia,by have:=r.un;lia,r.gd⟩
theorem bh.deeper {k:Nat}{A:Around} (r:bh (k+1) A) (env:Env):bh k (A.deeper env):=
 ⟨r.hd,by have:=r.dp;show A.depth+1+3*k+5 < _;lia,by have:=r.un;show A.units+3+16*k+200 < _;lia,r.gd⟩
theorem bh.depth {k:Nat}{A:Around} (r:bh k A):A.depth < recursionLimit:=by have:=r.dp;lia
theorem bh.units {k:Nat}{A:Around} (r:bh k A):A.units+64 < cLine:=by have:=r.un;lia
theorem bh.units0 {k:Nat}{A:Around} (r:bh k A):A.units < cLine:=by have:=r.un;lia
noncomputable def Cy:TA:=λ_ H Q=>Q [] H
noncomputable def BE (ta:TE) (tr:TA):TA:=λσ H Q=>ta σ H λx H1=>tr σ H1 λxs H2=>Q (x::xs) H2
section
variable {X:Cx}{e:Expr}{es:List Expr}{te:TE}{t:TA}{pos:Pos}
theorem zY:PA X [] Cy:=λ_ _ _ _ H Q I h=>Calls.spliced_nil ⟨[],H,I,.nil,h⟩
theorem yo (ha:PE X e te) (hr:PA X es t) (hs:starEach (e::es) X.env=(false,eval e X.env)::starEach es X.env:=by rfl):PA X (e::es) (BE te t):=by
 intro pos pins s σ H Q I h
 rw [hs]
 show wpAny _ _ (spliced ((false,eval e X.env)::backTo pos (starEach es X.env))) _ _ s
 refine Calls.spliced_cons (thn (ha pins s σ H _ I h) λu s1 ⟨x,H1,I1,r1,q1⟩=>?_)
 exact thn (hr pos pins s1 σ H1 _ I1 q1) λus s2 ⟨xs,H2,I2,r2,q2⟩=>⟨x::xs,H2,I2,.cons r1 r2,q2⟩
noncomputable def Ct (t:TA):TE:=λσ H Q=>t σ H λxs H1=>xs.length<=sizeLine/\∀ p,H1 p=none->Q (.ref p) (upd H1 p (.tup xs))
noncomputable def Cn (t:TA):TE:=λσ H Q=>t σ H λxs H1=>xs.length<=sizeLine/\∀ p,H1 p=none->Q (.ref p) (upd H1 p (.lst xs))
theorem AG {x1} (h:PA X es t):PE X (.Tuple es x1 pos) (Ct t):=by
 intro pins s σ H Q I hq
 refine wpAny_Tuple_spliced (thn (h pos pins s σ H _ I hq) λus s1 ⟨xs,H1,I1,r,z,q⟩=>⟨by rw [<-r.length];exact z,?_⟩)
 have hf:H1 s1.heap.objs.size=none:=I1.hok.fresh (qaq _)
 refine⟨.ref s1.heap.objs.size,upd H1 s1.heap.objs.size (.tup xs),I1.laid (t':=s1.toks) (λb u e=>qae _ e) (qaq _) ?_,rfl,q _ hf⟩
 exact⟨z,us,r,dq.new _ _⟩
theorem wR (h:PA X es t):PE X (.List es pos) (Cn t):=by
 intro pins s σ H Q I hq
 refine wpAny_List_spliced (thn (h pos pins s σ H _ I hq) λus s1 ⟨xs,H1,I1,r,z,q⟩=>⟨by rw [<-r.length];exact z,?_⟩)
 have hf:H1 s1.heap.objs.size=none:=I1.hok.fresh (qaq _)
 refine⟨.ref s1.heap.objs.size,upd H1 s1.heap.objs.size (.lst xs),I1.laid (t':=s1.toks) (λb u e=>qae _ e) (qaq _) ?_,rfl,q _ hf⟩
 exact⟨z,us,0,r,qav _ rfl⟩
end
abbrev Sp:=List V->Hp->VK->XK->Prop
abbrev CXT:=List Env->Hp->Shared->XK->Value->Shared->Prop
structure yK (P:Program) (w:World) (K:PySem.W.Frag) (mg:Str->Option Value) (base:Heap) (A:Around) (outer:List Env) (s:Shared) (H:Hp):Prop where
 frames:A.frames=some outer
 mod:Mod K mg base
 bs:∀ b o,base.get? b=some o->s.heap.get? b=some o/\H b=none
 bsz:base.objs.size<=s.heap.objs.size
 funs:s.heap.FunFrames base outer
 frf:∀ b ∈ frs outer,H b=none
 hok:HOk P w H s.heap
 bare:AllBare s.gens
noncomputable def CE (outer:List Env) (P:Program) (w:World) (H:Hp) (s:Shared) (Q:VK) (u:Value) (s':Shared):Prop:=
 ∃ v H',s'.os=s.os/\AllBare s'.gens/\Un (frs outer) [] H H' s.heap s'.heap/\HOk P w H' s'.heap/\bi v u/\Q v H'
noncomputable def CR (CX:CXT) (outer:List Env) (P:Program) (w:World) (H:Hp) (s:Shared) (Q:VK) (E:XK) (r:Result) (s':Shared):Prop:=
 match r with
 | .ok (.ret u)=>CE outer P w H s Q u s'
 | .ok _=>False
 | .error e=>CX outer H s E e s'
structure aH (P:Program) (w:World) (K:PySem.W.Frag) (mg:Str->Option Value) (base:Heap) (CX:CXT) (k:Nat) (f:Addr) (fd:FuncData) (ps:List Str) (sp:Sp):Prop where
 len:∀ vs H Q E,sp vs H Q E->vs.length=ps.length
 run:∀ (A:Around) (outer:List Env) (s:Shared) (H:Hp) (args:Args) (us:List Value) (vs:List V) (Q:VK) (E:XK),bh k A->yK P w K mg base A outer s H->BindsTo s fd args (ps.zip us)->aN vs us->sp vs H Q E->
  codeAny (model P w) A (.call (.ref f) args) (CR CX outer P w H s Q E) s
theorem aH.mono {P:Program}{w:World}{K:PySem.W.Frag}{mg:Str->Option Value}{base:Heap}{CX:CXT}{j k:Nat}{f:Addr}{fd:FuncData}{ps:List Str}{sp:Sp} (F:aH P w K mg base CX j f fd ps sp) (h:j<=k) :
  aH P w K mg base CX k f fd ps sp:=⟨F.len,λA outer s H args us vs Q E hr=>F.run A outer s H args us vs Q E (hr.mono h)⟩
section
variable {X:Cx}{pins:List (Addr×Obj)}{σ:St}{H:Hp}{s s':Shared}
theorem Inv.env0 (I:Inv X pins σ H s):yK X.prog X.w X.K X.mg X.base X.A X.stack s H:=
 ⟨I.ok.frames,I.ok.mod,I.bs,qaX I.ok.bsz I.sz,I.stack,I.stkFree,I.hok,I.bare⟩
theorem Inv.after {Q:VK}{u:Value} (I:Inv X pins σ H s) (h:CE X.stack X.prog X.w H s Q u s'):EP X pins σ Q u s':=by
 obtain⟨v,H',os,bare,un,hok,r,q⟩:=h
 obtain⟨hh,g,d,t,os'⟩:=s'
 obtain rfl:os'=s.os:=os
 exact⟨v,H',I.call (h':=hh) (g':=g) (d':=d) (t':=t) (ch:=[]) un hok bare (λb z=>absurd z (by simp)),r,q⟩
end
noncomputable def BJ (sp:Sp) (dvs:List V) (E:XK) (t:TA):TE:=λσ H Q=>t σ H λvs H1=>sp (vs++dvs) H1 Q E
noncomputable def bp (K:PySem.W.Frag) (fd:FuncData) (ps:List Str) (ds:List Value):Prop:=
 ∀ (s:Shared) (us:List Value),K.In s.heap->(us++ds).length=ps.length->BindsTo s fd ⟨us,[]⟩ (ps.zip (us++ds))
theorem bp.all {K:PySem.W.Frag}{fd:FuncData}{ps:List Str} (h:∀ us:List Value,us.length=ps.length->bindArgs fd ⟨us,[]⟩=pure (ps.zip us)):bp K fd ps []:=λs us _ hl=>by
 rw [qbG] at hl ⊢
 exact .of_eq (h us hl)
noncomputable def rR (CX:CXT) (X:Cx) (E:XK):Prop:=∀ (pins:List (Addr×Obj)) (σ:St) (H:Hp) (s:Shared) (e:Value) (s':Shared),Inv X pins σ H s->CX X.stack H s E e s'->X.xe e s'
section
variable {X:Cx}{CX:CXT}{k:Nat}{f C:Addr}{fd:FuncData}{ps:List Str}{sp:Sp}{dvs:List V}{ds:List Value}{E:XK}{x m:Str}{p pos apos:Pos}{e o:Expr}{es:List Expr}{ta:TE}{t:TA}
theorem zL {pins:List (Addr×Obj)}{σ:St}{H:Hp}{s:Shared}{Q:VK}{us:List Value}{vs:List V} (F:aH X.prog X.w X.K X.mg X.base CX k f fd ps sp) (hr:bh k X.A) (hb:bp X.K fd ps ds) (hd:aN dvs ds) (hx:rR CX X E)
  (I:Inv X pins σ H s) (r:aN vs us) (h:sp (vs++dvs) H Q E):wpAny (model X.prog X.w) X.A (call (.ref f) us) (EP X pins σ Q) X.xe s:=by
 have r2:aN (vs++dvs) (us++ds):=r.append hd
 have hl:(us++ds).length=ps.length:=by rw [<-r2.length];exact F.len _ _ _ _ h
 refine wpAny_call (qfq (F.run X.A X.stack s H ⟨us,[]⟩ (us++ds) (vs++dvs) Q E hr I.env0 (hb s us I.kIn hl) r2 h) λr s' hq=>?_)
 cases r with
 | error e=>exact hx pins σ H s e s' I hq
 | ok fl=>
  cases fl with
  | ret u=>exact I.after hq
  | next=>exact False.elim hq
  | brk=>exact False.elim hq
  | cont=>exact False.elim hq
theorem yI (F:aH X.prog X.w X.K X.mg X.base CX k f fd ps sp) (hr:bh k X.A) (hg:Gl X x) (hm:X.mg x=some (.ref f)) (hk:PySem.W.keepIn X.K (.ref f)=true) (hb:bp X.K fd ps ds) (hd:aN dvs ds) (hx:rR CX X E)
  (ha:PA X (e::es) t) (hdb:(x==("__debug__" : Str))=false:=by decide) (he:starEach (e::es) X.env=(false,eval e X.env)::starEach es X.env:=by rfl) (hpl:(backTo pos (starEach es X.env)).any (·.1)=false:=by rfl) :
  PE X (.Call (.Name x p) (e::es) [] pos) (BJ sp dvs E t):=by
 intro pins s σ H Q I h
 refine qef (yv I hg hm ?_ hdb)
 refine PySem.W.callWith_K (h₀:=X.base) I.ok.mod.kin hk (thn (ha pos pins s σ H _ I h) λus s1 ⟨vs,H1,I1,r,q⟩=>⟨I1.kIn,?_⟩) he hpl
 exact zL F hr hb hd hx I1 r q
end
section
variable {X:Cx}{CX:CXT}{k:Nat}{f C:Addr}{fd:FuncData}{ps ks:List Str}{sp:Sp}{E:XK}{x m:Str}{p pos apos kpos:Pos}{e o:Expr}{es:List Expr}{kws:List Keyword}{te ta:TE}{t tk:TA}{nm:Option Str}
variable {g:List Value->List Value->List Value}{gV:List V->List V->List V}
end
structure aB (N P:List Str) (sc:Scope):Prop where
 kind:sc.kind=.function
 co:sc.isCoroutine=false
 gen:sc.isGenerator=false
 nd:N.Nodup
 pre:N.take P.length=P
 par:∀ x ∈ P,sc.names.lookup x=some .local\/sc.names.lookup x=some .cell
 nofree:∀ y ∈ sc.names,y.2≠.free
theorem nw {kindOf:Str->Option NameKind}{x:Str}:∀ {binds:List (Str×Value)}{m:Str->Option Value},(∀ v,(x,v) ∉ binds)->bindL kindOf binds m x=m x
 | [],_,_=>rfl
 | (n,v)::r,m,h=>by
  unfold bindL
  rw [nw λw hw=>h w (qah _ hw)]
  split
  ·have:x≠n:=by rintro rfl;exact h v qai
   simp [this]
  ·rfl
theorem np {kindOf:Str->Option NameKind}{x:Str}:∀ {binds:List (Str×Value)}{m:Str->Option Value},(∀ v,(x,v) ∉ binds)->bindC kindOf binds m x=m x
 | [],_,_=>rfl
 | (n,v)::r,m,h=>by
  unfold bindC
  rw [np λw hw=>h w (qah _ hw)]
  split
  ·rfl
  ·have:x≠n:=by rintro rfl;exact h v qai
   simp [this]
theorem mY {kindOf:Str->Option NameKind}{x:Str}{v:Value}:∀ {P:List Str}{vs:List Value}{i:Nat}{m:Str->Option Value},P.Nodup->P[i]?=some x->vs[i]?=some v->kindOf x=some .local->
  bindL kindOf (P.zip vs) m x=some v
 | [],_,_,_,_,h,_,_=>by simp at h
 | _::_,[],_,_,_,_,h,_=>by simp at h
 | p::P,w::vs,0,m,nd,h1,h2,hk=>by
  simp at h1 h2;subst h1;subst h2
  show bindL kindOf ((p,w)::P.zip vs) m p=_
  unfold bindL
  rw [nw λv hv=>(qcI.mp nd).1 (qej hv).1,if_pos hk]
  simp
 | p::P,w::vs,i+1,m,nd,h1,h2,hk=>by
  show bindL kindOf ((p,w)::P.zip vs) m x=_
  unfold bindL
  exact mY (i:=i) (qcI.mp nd).2 (by simpa using h1) (by simpa using h2) hk
theorem m8 {kindOf:Str->Option NameKind}{x:Str}{v:Value}:∀ {P:List Str}{vs:List Value}{i:Nat}{m:Str->Option Value},P.Nodup->P[i]?=some x->vs[i]?=some v->kindOf x≠some .local->
  bindC kindOf (P.zip vs) m x=some v
 | [],_,_,_,_,h,_,_=>by simp at h
 | _::_,[],_,_,_,_,h,_=>by simp at h
 | p::P,w::vs,0,m,nd,h1,h2,hk=>by
  simp at h1 h2;subst h1;subst h2
  show bindC kindOf ((p,w)::P.zip vs) m p=_
  unfold bindC
  rw [np λv hv=>(qcI.mp nd).1 (qej hv).1,if_neg hk]
  simp
 | p::P,w::vs,i+1,m,nd,h1,h2,hk=>by
  show bindC kindOf ((p,w)::P.zip vs) m x=_
  unfold bindC
  exact m8 (i:=i) (qcI.mp nd).2 (by simpa using h1) (by simpa using h2) hk
noncomputable def start (N:List Str) (vs:List V):St:=vs.map some++List.replicate (N.length - vs.length) none
noncomputable def b9 (CX:CXT) (P:Program) (w:World) (K:PySem.W.Frag) (mg:Str->Option Value) (base:Heap) (N:List Str) (qual:Str) (scope:Scope) (f:Addr) (cd:Value) (A:Around) (outer:List Env) (s:Shared) (H:Hp) (E:XK):Cx where
 prog:=P
 w:=w
 K:=K
 mg:=mg
 base:=base
 A:=A.deeper (envOfC qual scope s.heap.objs.size f cd)
 N:=N
 s₀:=s
 H₀:=H
 env:=envOfC qual scope s.heap.objs.size f cd
 outer:=outer
 stack:=envOfC qual scope s.heap.objs.size f cd::outer
 ex:=[]
 calm:=true
 fn:=λ_=>true
 pn:=[]
 xe:=λe s'=>wpAny (model P w) (A.deeper (envOfC qual scope s.heap.objs.size f cd)) (leaving (envOfC qual scope s.heap.objs.size f cd) e) (λ_ s''=>CX outer H s E e s'') (λe' s''=>CX outer H s E e' s'') s'
theorem pr {sc:Scope}{n:Nat}{x:Str} (h:sc.names.lookup x=some .cell):∃ c,(cellsFrom n sc.names []).lookup x=some c:=by
 have q:=qcH sc.names n [] (.inl h)
 exact qcy.mp q
theorem tw {CX:CXT}{P:Program}{w:World}{K:PySem.W.Frag}{mg:Str->Option Value}{base:Heap}{N ps:List Str}{qual:Str}{scope:Scope}{f:Addr}{cd:Value}{A:Around}{outer:List Env}{s s1:Shared}{H:Hp}{E:XK}{us:List Value}{vs:List V}
  (S:aB N ps scope) (hd:A.handled=none) (e0:yK P w K mg base A outer s H) (hl:vs.length=ps.length) (r:aN vs us)
  (x:InCallC s s.heap.objs.size (bindL (envOfC qual scope s.heap.objs.size f cd).kindOf (ps.zip us) λ_=>none) (cellsFrom (s.heap.objs.size+1) scope.names []) (bindC (envOfC qual scope s.heap.objs.size f cd).kindOf (ps.zip us) λ_=>none) s1) :
  Inv (b9 CX P w K mg base N qual scope f cd A outer s H E) [] (start N vs) H s1:=by
 have hpl:ps.length<=N.length:=by have:=congrArg List.length S.pre;rw [qcY] at this;lia
 obtain⟨h1,tk,rfl,hk⟩:=x.done
 have noA:∀ b:Addr,b ∉ (b9 CX P w K mg base N qual scope f cd A outer s H E).ex:=λb z=>absurd (show b ∈ ([]:List Addr) from z) (by simp)
 refine⟨⟨e0.mod,S.kind,rfl,rfl,qaq _,λy z c h1 h2=>?_,λy hy=>?_,λy c _ h=>?_,λ_=>hd,Around.frames_deeper e0.frames,.inr ⟨rfl,rfl⟩,λb z=>absurd z (noA b),e0.bs,e0.bsz,λb _ _=>noA b,λb z=>absurd z (noA b),e0.funs,e0.frf⟩,
  rfl,e0.bare,Un.kept hk,⟨_,x.toInCall.ns,λi y v h1 h2 h3=>?_⟩,λy c h=>⟨_,x.cell y c h⟩,e0.hok.fresh (qaq _),λy c h=>?_,λp hp=>absurd (show p ∈ ([]:List (Addr×Obj)) from hp) (by simp),e0.hok.kept hk,?_⟩
 ·exact name_of_addr x.apart (qbi h1) (qbi h2)
 ·have hy:scope.names.lookup y=some .cell\/scope.names.lookup y=some .free:=hy
  rcases hy with hy | hy
  ·exact pr hy
  ·exact absurd rfl (S.nofree _ (qbi hy))
 ·exact qd6 (x.above y c (qbi h))
 ·have hi:i < vs.length:=by
   unfold start at h2
   by_cases hi:i < vs.length
   ·exact hi
   ·rw [qbj (by simpa using hi)] at h2
    rw [qcJ] at h2
    split at h2<;>cases h2
  have ha:vs[i]?=some v:=by
   unfold start at h2
   rw [qaT (by simpa using hi),qaI] at h2
   cases e:vs[i]? with
   | none=>rw [e] at h2;cases h2
   | some a=>rw [e] at h2;cases h2;rfl
  obtain⟨u,hu,rv⟩:=r.get ha
  have hp:ps[i]?=some y:=by
   rw [<-S.pre,qeD (by lia)];exact h1
  have ndP:ps.Nodup:=by rw [<-S.pre];exact S.nd.sublist (List.take_sublist _ _)
  refine⟨u,rv,?_⟩
  rcases S.par y (qbf hp) with k | k
  ·exact .inl ⟨k,mY ndP hp hu k⟩
  ·obtain⟨c,e⟩:=pr (n:=s.heap.objs.size+1) k
   refine .inr ⟨.inl k,c,e,?_⟩
   have q:=x.cell y c e
   rw [m8 ndP hp hu (by show scope.names.lookup y≠_;rw [k];decide)] at q
   exact q
 ·exact e0.hok.fresh (qd6 (x.above y c (qbi h)))
 ·unfold start
  show _=N.length
  rw [qaV,qaf,qbJ]
  lia
theorem A9 {CX:CXT}{P:Program}{w:World}{K:PySem.W.Frag}{mg:Str->Option Value}{base:Heap}{k:Nat}{f:Addr}{name qual:Str}{params:Arguments}{body:List Stmt}{scope:Scope}{dV kV doc pm cdv ct oc:Value}{an od:Option Addr}
  {osl:Array (Option Value)}{N ps:List Str}{sp:Sp} (lk:K.lookup f=some ⟨oc,od,.func (PySem.W.fnOf name qual params body scope dV kV doc pm an cdv ct),osl⟩) (hcd:PySem.W.codeIn K cdv qual=true) (S:aB N ps scope)
  (len:∀ vs H Q E,sp vs H Q E->vs.length=ps.length)
  (hbody:∀ (A:Around) (outer:List Env) (s:Shared) (H:Hp) (vs:List V) (Q:VK) (E:XK),bh k (A.deeper (envOfC qual scope s.heap.objs.size f cdv))->sp vs H Q E->
    ∃ t,PSs (b9 CX P w K mg base N qual scope f cdv A outer s H E) body t/\t { nx:=λ_ H'=>Q .non H',rt:=Q } (start N vs) H) :
  aH P w K mg base CX (k+1) f (PySem.W.fnOf name qual params body scope dV kV doc pm an cdv ct) ps sp:=by
 refine⟨len,λA outer s H args us vs Q E hr e0 hb r hsp=>?_⟩
 have hl:=len _ _ _ _ hsp
 have KX:K.In s.heap:=e0.mod.kin.keeps λb o e=>(e0.bs b o e).1
 have lim:s.heap.NoLimit:=e0.mod.nolimit.keeps λb o e=>(e0.bs b o e).1
 have hkind:∀ y ∈ ps.zip us,scope.names.lookup y.1=some .local\/(scope.names.lookup y.1=some .cell/\((cellsFrom (s.heap.objs.size+1) scope.names []).lookup y.1).isSome=true):=λ⟨n,v⟩ hy=>by
  rcases S.par n (qej hy).1 with q | q
  ·exact .inl q
  ·exact .inr ⟨q,qcH _ _ _ (.inl q)⟩
 refine codeAny_call_function hr.depth (KX _ _ lk) rfl S.co S.gen rfl (PySem.W.codeRec_of KX hcd) (hb _ _ _ _ ?_)
 refine wpAny_newFunctionEnv_cells S.kind hkind λenv he s1 x=>?_
 subst he
 refine⟨lim.keeps x.toInCall.keep,codeAny_func ?_⟩
 obtain⟨t,ht,hq⟩:=hbody A outer s H vs Q E (hr.deeper _) hsp
 have I:Inv (b9 CX P w K mg base N qual scope f cdv A outer s H E) [] (start N vs) H s1:=tw S hr.hd e0 hl r x
 refine qcw (ht [] s1 (start N vs) H _ I hq) (λfl s' hs=>?_) λe s' hs=>hs
 have fin:∀ {σ':St}{H':Hp}{v:V}{u:Value},Inv (b9 CX P w K mg base N qual scope f cdv A outer s H E) [] σ' H' s'->bi v u->Q v H'->CE outer P w H s Q u s':=
  λ{σ' H' v u} J rv q=>⟨v,H',J.os,J.bare,J.base,J.hok,rv,q⟩
 cases fl with
 | ret u=>
  obtain⟨v,σ',H',J,rv,q⟩:=hs
  exact fin J rv q
 | next=>
  obtain⟨σ',H',J,q⟩:=hs
  exact fin (v:=V.non) (u:=Value.none) J rfl q
 | brk=>
  obtain⟨_,_,_,q⟩:=hs
  exact False.elim q
 | cont=>
  obtain⟨_,_,_,q⟩:=hs
  exact False.elim q
section
variable {X:Cx}{x:Str}{p pos:Pos}{e:Expr}{es:List Expr}{t:TA}{id T:String}{r:List V->Hp->VK->Prop}
noncomputable def tCB (r:List V->Hp->VK->Prop) (t:TA):TE:=λσ H Q=>t σ H λvs H1=>r vs H1 Q
theorem pQ (hc:bS X (.builtin id) r) (hg:Gl X x) (hm:X.mg x=none) (hv:bootBuiltins x=some (.builtin id)) (ha:PA X (e::es) t) (hn:x≠"__name__":=by decide) (hdb:(x==("__debug__" : Str))=false:=by decide)
  (he:starEach (e::es) X.env=(false,eval e X.env)::starEach es X.env:=by rfl) (hpl:(backTo pos (starEach es X.env)).any (·.1)=false:=by rfl):PE X (.Call (.Name x p) (e::es) [] pos) (tCB r t):=by
 intro pins s σ H Q I h
 refine qef (iU I hg hm hv ?_ hn hdb)
 exact qgJ (thn (ha pos pins s σ H _ I h) λus s1 ⟨vs,H1,I1,r1,q1⟩=>hc pins s1 σ H1 vs us Q I1 r1 q1) he hpl
theorem tE (hc:bS X (.type T) r) (hg:Gl X x) (hm:X.mg x=none) (hv:bootBuiltins x=some (.type T)) (ha:PA X (e::es) t) (hn:x≠"__name__":=by decide) (hdb:(x==("__debug__" : Str))=false:=by decide)
  (he:starEach (e::es) X.env=(false,eval e X.env)::starEach es X.env:=by rfl) (hpl:(backTo pos (starEach es X.env)).any (·.1)=false:=by rfl):PE X (.Call (.Name x p) (e::es) [] pos) (tCB r t):=by
 intro pins s σ H Q I h
 refine qef (iU I hg hm hv ?_ hn hdb)
 exact qbQ (thn (ha pos pins s σ H _ I h) λus s1 ⟨vs,H1,I1,r1,q1⟩=>hc pins s1 σ H1 vs us Q I1 r1 q1) he hpl
end
end L2
namespace HT
open PySem PyProof.Rows
section
open PySem.SeqAt
open PySem.AutoSeq1 (wpAny_loadPart')
open PySem.MeetsSeq PySem.MeetsSeq2 PySem.MeetsSeq3
end
section
variable {prog:Program}{w:World}{A:Around}{E:Value->Shared->Prop}{s:Shared}
theorem cat_tup {t b:Addr}{vs ws:List Value}{Q:Value->Shared->Prop} (ht:IsTup s.heap t vs.toArray) (hb:IsTup s.heap b ws.toArray) (hv:vs≠[])
  (h1:ws=[]->Q (.ref t) s) (h2:ws≠[]->Q (.ref s.heap.objs.size) { s with heap:=s.heap.push { cls:=.type "tuple",data:=.seq (vs++ws).toArray } })
  (hsz:vs.length+ws.length<=sizeLine):wpAny (model prog w) A (binaryOp .Add (.ref t) (.ref b)) Q E s:=by
 obtain⟨⟨cls,dd,data,sl⟩,ho,hc,n,hd⟩:=id ht
 obtain⟨⟨cls2,dd2,data2,sl2⟩,ho2,hc2,n2,hd2⟩:=id hb
 simp only at hc hd hc2 hd2
 subst hc hd hc2 hd2
 have e:vs.toArray++ws.toArray=(vs++ws).toArray:=by simp
 by_cases hw:ws=[]
 ·exact qfp ⟨_,ho,rfl⟩ ⟨_,ho2,rfl⟩ qez qe2 qdh qdd (qc6 _ _)
   (tuple_addW1 t b vs.toArray ws.toArray n n2 dd dd2 sl sl2 (by simpa using hv) (by simp [hw])) ⟨ho,ho2,h1 hw⟩
 ·refine qfp ⟨_,ho,rfl⟩ ⟨_,ho2,rfl⟩ qez qe2 qdh qdd (qc6 _ _)
   (tuple_addW2 t b vs.toArray ws.toArray n n2 dd dd2 sl sl2 (by simpa using hv) (by simpa using hw) (by rw [qax,qax];exact hsz)) ⟨ho,ho2,?_⟩
  rw [e]
  exact h2 hw
noncomputable def sIx (n d:Nat):Option Int->Nat
 | none=>d
 | some v=>if v < 0 then (v+(n:Int)).toNat else min v.toNat n
theorem zF (n d:Nat) (hd:d<=n) (o:Option Int):sIx n d o<=n:=by
 cases o with
 | none=>exact hd
 | some v=>
  show (if v < 0 then (v+(n:Int)).toNat else min v.toNat n)<=n
  by_cases hv:v < 0
  ·rw [if_pos hv];lia
  ·rw [if_neg hv];exact Nat.min_le_right _ _
theorem se (v:Int) (n d:Nat):(if v < 0 then max (v+(n:Int)) 0 else min v (n:Int))=((sIx n d (some v):Nat):Int):=by
 show (if v < 0 then max (v+(n:Int)) 0 else min v (n:Int))=(((if v < 0 then (v+(n:Int)).toNat else min v.toNat n):Nat):Int)
 by_cases hv:v < 0
 ·simp only [if_pos hv];lia
 ·simp only [if_neg hv];lia
theorem qH (lo hi:Option Int) (n:Nat):Builtin.Slice.sliceAdjust lo hi 1 (n:Int)=(((sIx n 0 lo:Nat):Int),((sIx n n hi:Nat):Int)):=by
 have h1:¬ ((1:Int) < 0):=by lia
 unfold Builtin.Slice.sliceAdjust
 simp only [h1,if_false]
 refine Prod.ext ?_ ?_
 ·cases lo with
  | none=>rfl
  | some v=>exact se v n 0
 ·cases hi with
  | none=>rfl
  | some v=>exact se v n n
theorem qG (i j:Nat):Builtin.Slice.slicePlaces (i:Int) (j:Int) 1=j - i:=by
 unfold Builtin.Slice.slicePlaces
 have h1:(1:Int) > 0:=by lia
 simp only [h1,if_true,Int.ediv_one]
 split<;>lia
theorem md {v:Value}{o:Option Int}{Q:Option Int->Shared->Prop} (p:IsPart v o) (h:Q o s):wpAny (model prog w) A (Builtin.Slice.slicePartIndex v) Q E s:=by
 cases p with
 | none=>exact qg4 h
 | int i t=>exact slicePart_int h
theorem gf {sl:Addr}{vl vu:Value}{lo hi:Option Int}{n:Nat}{Q:Int×Int×Nat->Shared->Prop} (hs:s.heap.IsSliceOf sl vl vu .none) (pl:IsPart vl lo) (pu:IsPart vu hi)
  (h:Q (((sIx n 0 lo:Nat):Int),1,sIx n n hi - sIx n 0 lo) s):wpAny (model prog w) A (Builtin.Slice.sliceApplied (.ref sl) (pure (n:Int))) Q E s:=by
 obtain⟨os,hos,hcs,hds⟩:=id hs
 unfold Builtin.Slice.sliceApplied Builtin.Slice.sliceFields
 refine qaa (qaa (qbO hos hds (x:=vl) rfl (qaa (qbO hos hds (x:=vu) rfl (qaa (qbO hos hds (x:=.none) rfl (qag ?_)))))))
 refine qaa (qg4 ?_)
 show wpAny _ _ (if ((1:Int)==0)=true then _ else _) _ _ s
 rw [if_neg (by decide)]
 refine qaa (md pl (qaa (md pu (qaa (qag ?_)))))
 show wpAny _ _ (match Builtin.Slice.sliceAdjust lo hi 1 (n:Int) with | (lo,hi)=>pure (lo,(1:Int),Builtin.Slice.slicePlaces lo hi 1)) _ _ s
 rw [qH lo hi n]
 show wpAny _ _ (pure (((sIx n 0 lo:Nat):Int),(1:Int),Builtin.Slice.slicePlaces ((sIx n 0 lo:Nat):Int) ((sIx n n hi:Nat):Int) 1)) _ _ s
 rw [qG]
 exact qag h
theorem vN (xs:Array Value) (i k:Nat):((List.range k).filterMap λ(m:Nat)=>xs[((i:Int)+(m:Int)*1).toNat]?).toArray=((xs.toList.drop i).take k).toArray:=by
 have e:(λ(m:Nat)=>xs[((i:Int)+(m:Int)*1).toNat]?)=λm=>xs[i+m]?:=by
  funext m
  have:((i:Int)+(m:Int)*1).toNat=i+m:=by lia
  rw [this]
 rw [e]
 have:=pick_run xs i k
 rw [List.filterMap_map] at this
 have e2:((λx=>xs[x]?) ∘ λx=>i+x)=λm=>xs[i+m]?:=rfl
 rw [e2] at this
 rw [this]
theorem getItem_tuple_cut {t sl:Addr}{items:Array Value}{vl vu:Value}{lo hi:Option Int}{Q:Value->Shared->Prop} (ht:IsTup s.heap t items) (hs:s.heap.IsSliceOf sl vl vu .none) (pl:IsPart vl lo) (pu:IsPart vu hi)
  (hw:¬ (sIx items.size 0 lo=0/\sIx items.size items.size hi=items.size))
  (h:Q (.ref s.heap.objs.size) { s with heap:=s.heap.push { cls:=.type "tuple",data:=.seq ((items.toList.drop (sIx items.size 0 lo)).take (sIx items.size items.size hi - sIx items.size 0 lo)).toArray } })
  (hsz:items.size<=sizeLine):wpAny (model prog w) A (getItem (.ref t) (.ref sl)) Q E s:=by
 have htake:sizeOk (.seq ((items.toList.drop (sIx items.size 0 lo)).take (sIx items.size items.size hi - sIx items.size 0 lo)).toArray):=by
  show ((items.toList.drop (sIx items.size 0 lo)).take (sIx items.size items.size hi - sIx items.size 0 lo)).toArray.size<=sizeLine
  rw [qax,qcY,qfr,qbb]
  lia
 have hj:sIx items.size items.size hi<=items.size:=zF _ _ (qaq _) hi
 obtain⟨os,hos,hcs,hds⟩:=id hs
 have hTs:s.TypeIs (.ref sl) "slice":=⟨os,hos,hcs⟩
 unfold getItem
 try with_reducible refine qbE ?_
 first | refine qaa (qag ?_) | skip
 refine qaa (qfX ht.typeIs (by decide) ?_)
 refine qaa (qbX (name:=Str.ofString "__getitem__") ht.typeIs qbr
  (qcm qbr ht.typeIs qfF ?_ (qfN _ _)))
 show wpAny _ _ (Builtin.Tuple.tupleItemsOf (.ref t) >>= _) _ _ s
 refine qaa (tupleItemsOf_ ht ?_)
 refine qaa (qfn hTs ?_)
 rw [if_pos (by decide)]
 refine qaa (gf hs pl pu ?_)
 have hno:¬ ((((sIx items.size 0 lo:Nat):Int)==0 && (1:Int)==1 && (sIx items.size items.size hi - sIx items.size 0 lo)==items.size)=true):=by
  intro q
  rw [qa0,qa0] at q
  have q1:((sIx items.size 0 lo:Nat):Int)=0:=eq_of_beq q.1.1
  have q2:sIx items.size items.size hi - sIx items.size 0 lo=items.size:=eq_of_beq q.2
  exact hw ⟨by lia,by lia⟩
 show wpAny _ _ (if (((sIx items.size 0 lo:Nat):Int)==0 && (1:Int)==1 && (sIx items.size items.size hi - sIx items.size 0 lo)==items.size)=true then _ else _) _ _ s
 rw [if_neg hno,vN]
 first
  | exact qaa (m:=Builtin.Tuple.tupleExact _) (qbo (qag ⟨_,rfl,qag h⟩) htake)
  | exact qaa (m:=Builtin.Tuple.tupleExact _) (qbo (qaa (qag (qag ⟨_,rfl,qag h⟩))) htake)
  | exact qaa (qaa (m:=Builtin.Tuple.tupleExact _) (qbo (qag (qag ⟨_,rfl,qag h⟩)) htake))
  | exact qaa (qaa (m:=Builtin.Tuple.tupleExact _) (qbo (qag ⟨_,rfl,qag h⟩) htake))
end
end HT
namespace L2
open PySem PySem.Spec PyProof.Rows
abbrev TO:=St->Hp->(Option Int->Hp->Prop)->Prop
noncomputable def PO (X:Cx) (e:Option Expr) (t:TO):Prop:=
 ∀ (pins:List (Addr×Obj)) (s:Shared) (σ:St) (H:Hp) (Q:Option Int->Hp->Prop),Inv X pins σ H s->t σ H Q->
  wpAny (model X.prog X.w) X.A (evalPart e X.env) (λu s'=>∃ o H',Inv X pins σ H' s'/\IsPart u o/\Q o H') X.xe s
noncomputable def yy:TO:=λ_ H Q=>Q none H
noncomputable def BG (t:TE):TO:=λσ H Q=>t σ H λx H1=>∃ i,x=.int i/\Q (some i) H1
theorem eR {ns:List Int}:∀ {us:List Value},aN (ns.map V.int) us->IntsAre us ns:=by
 induction ns with
 | nil=>intro us r;rw [qba] at r;cases r;exact .nil
 | cons n ns ih=>
  intro us r
  rw [qal] at r
  cases r with
  | cons r1 r2=>
   obtain⟨t,e⟩:=r1
   subst e
   exact .cons n t (ih r2)
section
variable {X:Cx}{e:Expr}{te:TE}{lo hi:Option Expr}{tl th:TO}{pos p2:Pos}
theorem xF:PO X none yy:=by
 intro pins s σ H Q I h
 rw [evalPart_none]
 exact qag ⟨none,H,I,.none,h⟩
theorem yE (h:PE X e te):PO X (some e) (BG te):=by
 intro pins s σ H Q I hw
 rw [evalPart_some]
 refine thn (h pins s σ H _ I hw) λu s1 ⟨x,H1,I1,r1,q1⟩=>?_
 obtain⟨i,rfl,q⟩:=q1
 obtain⟨t,rfl⟩:=r1
 exact⟨some i,H1,I1,.int i t,q⟩
noncomputable def SlR (X:Cx) (r:V->Option Int->Option Int->Hp->VK->Prop):Prop:=
 ∀ (pins:List (Addr×Obj)) (s:Shared) (σ:St) (H:Hp) (x:V) (v vl vu:Value) (lo hi:Option Int) (sl:Addr) (Q:VK),Inv X pins σ H s->bi x v->s.heap.IsSliceOf sl vl vu .none->IsPart vl lo->IsPart vu hi->r x lo hi H Q->
  ∃ T id,typeLookup (.type T) "__getitem__" = pure (some (.builtin id))/\s.TypeIs v T/\wpAny (model X.prog X.w) X.A (getItem v (.ref sl)) (EP X pins σ Q) X.xe s
noncomputable def tSl (r:V->Option Int->Option Int->Hp->VK->Prop) (te:TE) (tl th:TO):TE:=λσ H Q=>te σ H λx H1=>tl σ H1 λl H2=>th σ H2 λu H3=>r x l u H3 Q
theorem pN {r:V->Option Int->Option Int->Hp->VK->Prop} (hr:SlR X r) (he:PE X e te) (hl:PO X lo tl) (hu:PO X hi th):PE X (.Subscript e (.Slice lo hi none p2) pos) (tSl r te tl th):=by
 intro pins s σ H Q I h
 refine Subscript_ (thn (he pins s σ H _ I h) λv s1 ⟨x,H1,I1,r1,q1⟩=>?_)
 refine wpAny_Slice (thn (hl pins s1 σ H1 _ I1 q1) λvl s2 ⟨l,H2,I2,pl,q2⟩=>thn (hu pins s2 σ H2 _ I2 q2) λvu s3 ⟨u,H3,I3,pu,q3⟩=>?_)
 rw [evalPart_none]
 refine qag ?_
 have I4:Inv X pins σ H3 { s3 with heap:=s3.heap.push { cls:=.type "slice",data:=.fields #[vl,vu,.none] } }:=I3.kept (t':=s3.toks) λb ob q=>qae _ q
 obtain⟨T,id,hT,ht,hg⟩:=hr pins { s3 with heap:=s3.heap.push { cls:=.type "slice",data:=.fields #[vl,vu,.none] } } σ H3 x v vl vu l u s3.heap.objs.size Q I4 r1 (qfQ ..) pl pu q3
 show wpAny (model X.prog X.w) X.A (subscriptTail e (.Slice lo hi none p2) v (.ref s3.heap.objs.size)) (EP X pins σ Q) X.xe { s3 with heap:=s3.heap.push { cls:=.type "slice",data:=.fields #[vl,vu,.none] } }
 exact tail_any (ops:=[.ref s3.heap.objs.size,v]) ht hT hg (by with_unfolding_all rfl)
noncomputable def nM (xs:List V) (lo hi:Option Int):List V:=(xs.drop (HT.sIx xs.length 0 lo)).take (HT.sIx xs.length xs.length hi - HT.sIx xs.length 0 lo)
theorem kj (xs:List V) (lo hi:Option Int):(nM xs lo hi).length<=xs.length:=by
 unfold nM
 rw [qcY,qfr]
 lia
noncomputable def Cl (K:PySem.W.Frag):V->Option Int->Option Int->Hp->VK->Prop:=λx lo hi H Q=>∃ a xs,x=.ref a/\SqT K H a xs/\
 ¬ (HT.sIx xs.length 0 lo=0/\HT.sIx xs.length xs.length hi=xs.length)/\∀ p,H p=none->Q (.ref p) (upd H p (.tup (nM xs lo hi)))
theorem Ap:SlR X (Cl X.K):=by
 intro pins s σ H x v vl vu lo hi sl Q I rx hs pl pu h
 obtain⟨a,xs,rfl,hx,hw,q⟩:=h
 cases rx
 obtain⟨its,r,ht,hz⟩:=I.tuple hx
 have hlen:its.toArray.size=xs.length:=by rw [qax];exact r.length.symm
 refine⟨"tuple",_,qbr.lookup,ht.typeIs,?_⟩
 refine HT.getItem_tuple_cut ht hs pl pu (by rw [hlen];exact hw) ?_ (by rw [hlen];exact hz)
 rw [hlen]
 refine⟨.ref s.heap.objs.size,_,I.laid (t':=s.toks) (o:=.tup (nM xs lo hi)) (λb ob q=>qae _ q) (qaq _) ?_,rfl,q _ (I.hok.fresh (qaq _))⟩
 exact⟨qaX (kj xs lo hi) hz,_,(r.drop (HT.sIx xs.length 0 lo)).take (HT.sIx xs.length xs.length hi - HT.sIx xs.length 0 lo),dq.new _ _⟩
noncomputable def A6 (K:PySem.W.Frag):R2:=λx y H Q=>∃ a b xs ys,x=.ref a/\y=.ref b/\SqT K H a xs/\SqT K H b ys/\xs≠[]/\xs.length+ys.length<=sizeLine/\
 (ys=[]->Q (.ref a) H)/\(ys≠[]->∀ p,H p=none->Q (.ref p) (upd H p (.tup (xs++ys))))
theorem aN.nil_iff {xs:List V}{us:List Value} (r:aN xs us):us=[]↔xs=[]:=by
 cases r with
 | nil=>simp
 | cons _ _=>simp
theorem wY:OpR X (binaryOp .Add) (A6 X.K):=by
 intro pins s σ H x y v u Q I rx ry h
 obtain⟨a,b,xs,ys,rfl,rfl,ha,hb,hx,hz,q1,q2⟩:=h
 cases rx
 cases ry
 obtain⟨its,r1,p1,_⟩:=I.tuple ha
 obtain⟨its2,r2,p2,_⟩:=I.tuple hb
 refine HT.cat_tup p1 p2 (λz=>hx (r1.nil_iff.mp z)) (λz=>⟨.ref a,H,I,rfl,q1 (r2.nil_iff.mp z)⟩) (λz=>?_) (by rw [<-r1.length,<-r2.length];exact hz)
 refine⟨.ref s.heap.objs.size,_,I.laid (t':=s.toks) (o:=.tup (xs++ys)) (λb ob q=>qae _ q) (qaq _) ?_,rfl,q2 (λw=>z (r2.nil_iff.mpr w)) _ (I.hok.fresh (qaq _))⟩
 exact⟨by rw [qaV];exact hz,_,r1.append r2,dq.new _ _⟩
end
noncomputable def ixN (n:Nat) (i:Int):Option Nat:=if 0<=i then (if i < n then some i.toNat else none) else if -(n:Int)<=i then some (i+n).toNat else none
noncomputable def atI {α:Type} (xs:List α) (i:Int):Option α:=(ixN xs.length i).bind λj=>xs[j]?
theorem oz {n:Nat}{i:Int}{j:Nat} (h:ixN n i=some j):seqIndex? i n=some j/\j < n/\-(n:Int)<=i/\i < n:=by
 unfold ixN at h
 by_cases h0:0<=i
 ·rw [if_pos h0] at h
  by_cases h1:i < n
  ·rw [if_pos h1] at h
   have e:i.toNat=j:=qaA h
   exact⟨by rw [qfB h0 h1,e],by lia,by lia,h1⟩
  ·rw [if_neg h1] at h;cases h
 ·rw [if_neg h0] at h
  by_cases h1:-(n:Int)<=i
  ·rw [if_pos h1] at h
   have e:(i+n).toNat=j:=qaA h
   exact⟨by rw [qfo (by lia) h1,e],by lia,h1,by lia⟩
  ·rw [if_neg h1] at h;cases h
theorem nZ {α:Type}{xs:List α}{i:Int}{v:α} (h:atI xs i=some v):∃ j,seqIndex? i xs.length=some j/\xs[j]?=some v/\j < xs.length/\-(xs.length:Int)<=i/\i < xs.length:=by
 unfold atI at h
 cases e:ixN xs.length i with
 | none=>rw [e] at h;cases h
 | some j=>
  rw [e] at h
  obtain⟨h1,h2,h3,h4⟩:=oz e
  exact⟨j,h1,h,h2,h3,h4⟩
theorem fF {α:Type}{xs:List α}{j:Nat}{v:α} (h:xs[j]?=some v):atI xs (j:Int)=some v:=by
 have hj:j < xs.length:=(qan.mp h).1
 have e:ixN xs.length (j:Int)=some j:=by
  unfold ixN
  rw [if_pos (by lia),if_pos (by lia)];simp
 unfold atI;rw [e];exact h
noncomputable def sE (b:Expr):Prop:=∀ o i,subscripted b false o i=operate [o,i] (getItem o i)
noncomputable def IxR (X:Cx) (r:R2):Prop:=
 ∀ (value slice:Expr) (pins:List (Addr×Obj)) (s:Shared) (σ:St) (H:Hp) (x y:V) (v u:Value) (Q:VK),Inv X pins σ H s->bi x v->bi y u->r x y H Q->
  subscripted slice false v u=operate [v,u] (getItem v u)->wpAny (model X.prog X.w) X.A (subscriptTail value slice v u) (EP X pins σ Q) X.xe s
noncomputable def MtR (X:Cx) (id:String) (r:V->List V->Hp->VK->Prop):Prop:=
 ∀ (pins:List (Addr×Obj)) (s:Shared) (σ:St) (H:Hp) (x:V) (xs:List V) (v:Value) (us:List Value) (Q:VK),Inv X pins σ H s->bi x v->aN xs us->r x xs H Q->
  wpAny (model X.prog X.w) X.A (call (.builtin id) (v::us)) (EP X pins σ Q) X.xe s
section
variable {X:Cx}{a b:Expr}{ta tb:TE}{pos:Pos}
theorem IxR.or {r r':R2} (h:IxR X r) (h':IxR X r'):IxR X (λx y H Q=>r x y H Q\/r' x y H Q):=by
 intro value slice pins s σ H x y v u Q I rx ry q hs
 rcases q with q | q
 ·exact h value slice pins s σ H x y v u Q I rx ry q hs
 ·exact h' value slice pins s σ H x y v u Q I rx ry q hs
theorem za {r:R2} (hr:IxR X r) (ha:PE X a ta) (hb:PE X b tb) (hs:sE b):PE X (.Subscript a b pos) (tOp r ta tb):=by
 intro pins s σ H Q I h
 exact Subscript_ (AK ha hb I h λv u s2 x y H2 I2 rx ry q=>hr a b pins s2 σ H2 x y v u Q I2 rx ry q (hs _ _))
noncomputable def Bw (K:PySem.W.Frag):R2:=λx y H Q=>∃ p xs i v,x=.ref p/\y=.int i/\SqL K H p xs/\atI xs i=some v/\Q v H
noncomputable def BL (K:PySem.W.Frag):R2:=λx y H Q=>∃ p xs i v,x=.ref p/\y=.int i/\SqT K H p xs/\atI xs i=some v/\Q v H
noncomputable def B1:R2:=λx y H Q=>∃ z i c,x=.str z/\y=.int i/\z.length<=sizeLine/\atI z.cps.toList i=some c/\Q (.str ⟨#[c]⟩) H
theorem yC:IxR X (Bw X.K):=by
 intro value slice pins s σ H x y v u Q I rx ry h hs
 obtain⟨p,xs,i,z,rfl,rfl,hq,he,q⟩:=h
 cases rx
 obtain⟨t,rfl⟩:=ry
 obtain⟨its,r,pl,hz⟩:=I.list hq
 obtain⟨j,h1,h2,h3,h4,h5⟩:=nZ he
 obtain⟨w,ew,rw'⟩:=r.get h2
 have hl:=r.length
 have hn:=iR
 have fin:EP X pins σ Q w s:=⟨z,H,I,rw',q⟩
 by_cases h0:0<=i
 ·have hj:i.toNat=j:=by
   rw [qfB h0 h5] at h1
   exact qaA h1
  exact item_listR pl.isList h0 (by lia) (by rw [hj];simpa using ew) fin hs
 ·have hj:(i+(its.toArray.size:Int)).toNat=j:=by
   rw [qfo (by lia) h4] at h1
   rw [qax,<-hl]
   exact qaA h1
  exact qfc (x:=w) pl.isList.typeIs qf0.lookup
   (wpAny_getItem_list_neg (Q:=λr s'=>r=w/\EP X pins σ Q r s') pl.isList (by lia) (by rw [qax]<;>lia) (by lia) (by rw [hj];simpa using ew) ⟨rfl,fin⟩) hs
theorem A0:IxR X (BL X.K):=by
 intro value slice pins s σ H x y v u Q I rx ry h hs
 obtain⟨p,xs,i,z,rfl,rfl,hq,he,q⟩:=h
 cases rx
 obtain⟨t,rfl⟩:=ry
 obtain⟨its,r,pl,hz⟩:=I.tuple hq
 obtain⟨j,h1,h2,h3,h4,h5⟩:=nZ he
 obtain⟨w,ew,rw'⟩:=r.get h2
 have hl:=r.length
 have hn:=iR
 have fin:EP X pins σ Q w s:=⟨z,H,I,rw',q⟩
 exact qfc (x:=w) pl.typeIs slot_tuple_getitem.lookup
  (getItem_tuple (j:=j) (Q:=λr s'=>r=w/\EP X pins σ Q r s') pl (by lia) (by lia) (by rw [qax,<-hl];exact h1) (by simpa using ew) ⟨rfl,fin⟩) hs
theorem AD:IxR X B1:=by
 intro value slice pins s σ H x y v u Q I rx ry h hs
 obtain⟨z,i,c,rfl,rfl,hz,he,q⟩:=h
 obtain⟨t,rfl⟩:=rx
 obtain⟨t',rfl⟩:=ry
 obtain⟨j,h1,h2,h3,h4,h5⟩:=nZ he
 have hl:z.cps.toList.length=z.length:=by simp [Str.length]
 rw [hl] at h1 h4 h5
 have hn:=iR
 exact tail_any (typeIs_str s z t) slot_str_getitem.lookup (getItem_str (c:=c) (by
  have e1:decide (i < -(2 ^ 63:Int))=false:=decide_eq_false (by lia)
  have e2:decide (i>=2 ^ 63)=false:=decide_eq_false (by lia)
  rw [e1,e2,qfU]) (by rw [h1];simpa using h2) ⟨.str ⟨#[c]⟩,H,I.tok _,⟨_,rfl⟩,q⟩) hs
noncomputable def rIx (K:PySem.W.Frag):R2:=λx y H Q=>Bw K x y H Q\/BL K x y H Q\/B1 x y H Q
theorem rn:IxR X (rIx X.K):=yC.or (A0.or AD)
theorem qM (its:List Value) (n j:Nat) (u:Value):Obj.mapSeq (·.setIfInBounds j u) { cls:=.type "list",data:=.seq its.toArray n }={ cls:=.type "list",data:=.seq (its.set j u).toArray n }:=by
 simp [Obj.mapSeq]
theorem Inv.lst {pins:List (Addr×Obj)}{σ:St}{H:Hp}{s:Shared}{p:Addr}{xs:List V} (I:Inv X pins σ H s) (h:H p=some (.lst xs)) :
  ∃ (its:List Value) (n:Nat),aN xs its/\s.heap.get? p=some { cls:=.type "list",data:=.seq its.toArray n }/\xs.length<=sizeLine:=by
 obtain⟨z,its,n,r,e⟩:=I.hok p _ h
 exact⟨its,n,r,e,z⟩
theorem Inv.lstUpd {pins:List (Addr×Obj)}{σ:St}{H:Hp}{s:Shared}{p:Addr}{xs ys:List V}{its its':List Value}{n n':Nat}{f:Obj->Obj} (I:Inv X pins σ H s) (h:H p=some (.lst xs))
  (ho:s.heap.get? p=some { cls:=.type "list",data:=.seq its.toArray n }) (hf:f { cls:=.type "list",data:=.seq its.toArray n }={ cls:=.type "list",data:=.seq its'.toArray n' }) (r:aN ys its') (hz:ys.length<=sizeLine) (t:Nat) :
  Inv X pins σ (upd H p (.lst ys)) { s with heap:=s.heap.update p f,toks:=t }:=by
 have e:(s.heap.update p f).get? p=some { cls:=.type "list",data:=.seq its'.toArray n' }:=by
  rw [qbD f ho (by rw [hf]<;>rfl),hf]
 refine I.write (x:=p) (e:=p) (by rw [h];trivial) (.inl rfl) (λb u hb q=>(qar _ _ (qbI hb)).trans q) ⟨_,e⟩ ?_
 exact⟨hz,its',n',r,e⟩
noncomputable def B3:V->V->V->Hp->(Hp->Prop)->Prop:=λo i v H Q=>∃ p xs k j,o=.ref p/\i=.int k/\H p=some (.lst xs)/\ixN xs.length k=some j/\Q (upd H p (.lst (xs.set j v)))
theorem pK:Ba X B3:=by
 intro pins s σ H o i v ov iv u Q I ro ri rv h
 obtain⟨p,xs,k,j,rfl,rfl,hp,hj,q⟩:=h
 cases ro
 obtain⟨t,rfl⟩:=ri
 obtain⟨its,n,r,ho,hz⟩:=I.lst hp
 obtain⟨h1,h2,h3,h4⟩:=oz hj
 have hl:=r.length
 have hn:=iR
 have I':Inv X pins σ (upd H p (.lst (xs.set j v))) { s with heap:=s.heap.update p (Obj.mapSeq (·.setIfInBounds j u)) }:=
  I.lstUpd hp ho (qM its n j u) (r.set rv j) (by rw [qbW];exact hz) s.toks
 by_cases h0:0<=k
 ·have hk:k.toNat=j:=by
   rw [qfB h0 h4] at h1
   exact qaA h1
  exact PySem.W.ki_setAt ho h0 (by lia) (by rw [qax,<-hl];exact h4) (by rw [hk];exact⟨_,I',q⟩)
 ·have hk:(k+(its.toArray.size:Int)).toNat=j:=by
   rw [qfo (by lia) h3] at h1
   rw [qax,<-hl]
   exact qaA h1
  exact PySem.W.ki_setBack ho (by lia) (by rw [qax,<-hl];exact h3) (by lia) (by rw [hk];exact⟨_,I',q⟩)
theorem nF (lo hi:Option Int) (n:Nat):(sliceBounds lo hi none n).1=((HT.sIx n 0 lo:Nat):Int)/\(sliceBounds lo hi none n).2.1=((HT.sIx n n hi:Nat):Int)/\(sliceBounds lo hi none n).2.2=1:=by
 refine⟨?_,?_,rfl⟩
 ·cases lo with
  | none=>simp [sliceBounds,HT.sIx]
  | some i=>
   simp only [sliceBounds,HT.sIx,qe4,show (1:Int) > 0 by decide,if_true]
   by_cases h:i < 0
   ·simp only [h,if_true]<;>lia
   ·simp only [h,if_false]<;>lia
 ·cases hi with
  | none=>simp [sliceBounds,HT.sIx]
  | some i=>
   simp only [sliceBounds,HT.sIx,qe4,show (1:Int) > 0 by decide,if_true]
   by_cases h:i < 0
   ·simp only [h,if_true]<;>lia
   ·simp only [h,if_false]<;>lia
theorem mE (its:List Value) (lo hi:Option Int):slicePick its.toArray lo hi none=((its.drop (HT.sIx its.length 0 lo)).take (HT.sIx its.length its.length hi - HT.sIx its.length 0 lo)).toArray:=by
 obtain⟨h1,h2,h3⟩:=nF lo hi its.toArray.size
 unfold slicePick
 rw [h1,h2,h3]
 simp only [sliceRange_one,pick_run,qax]<;>rfl
noncomputable def Cg (K:PySem.W.Frag):V->Option Int->Option Int->Hp->VK->Prop:=λx lo hi H Q=>∃ a xs,x=.ref a/\SqL K H a xs/\∀ p,H p=none->Q (.ref p) (upd H p (.lst (nM xs lo hi)))
theorem yb:SlR X (Cg X.K):=by
 intro pins s σ H x v vl vu lo hi sl Q I rx hs pl pu h
 obtain⟨a,xs,rfl,hx,q⟩:=h
 cases rx
 obtain⟨its,r,ht,hz⟩:=I.list hx
 have hlen:=r.length
 refine⟨"list",_,qf0.lookup,ht.isList.typeIs,?_⟩
 refine wpAny_getItem_list_slice ht.isList hs pl pu .none (by simp) ?_ (by rw [qax]<;>lia)
 rw [mE,<-hlen]
 refine⟨.ref s.heap.objs.size,_,I.laid (t':=s.toks) (o:=.lst (nM xs lo hi)) (λb ob q=>qae _ q) (qaq _) ?_,rfl,q _ (I.hok.fresh (qaq _))⟩
 exact⟨qaX (kj xs lo hi) hz,_,0,(r.drop (HT.sIx xs.length 0 lo)).take (HT.sIx xs.length xs.length hi - HT.sIx xs.length 0 lo),qav _ rfl⟩
noncomputable def j0:V->Bool
 | .non=>true
 | .bl _=>true
 | .int _=>true
 | .str _=>true
 | _=>false
noncomputable def eqV:V->V->Bool
 | .non,.non=>true
 | .bl a,.bl b=>a==b
 | .bl a,.int b=>(if a then 1 else 0)==b
 | .int a,.bl b=>a==(if b then 1 else 0)
 | .int a,.int b=>a==b
 | .str a,.str b=>a==b
 | _,_=>false
theorem u4 {A:Around}{s:Shared}{y x:V}{u v:Value} (ry:bi y u) (rx:bi x v) (fy:j0 y=true) (fx:j0 x=true):SeqAt.EqAt A s u v (eqV y x):=by
 cases y with
 | non=>
  cases ry
  cases x with
  | non=>cases rx;exact qdR _
  | bl b=>cases rx;exact qhU b
  | int b=>obtain⟨t,rfl⟩:=rx;exact qhT b t
  | str b=>obtain⟨t,rfl⟩:=rx;exact qhR b t
  | _=>exact absurd (show false=true from fx) qaB
 | bl a=>
  cases ry
  cases x with
  | non=>cases rx;exact qh7 a
  | bl b=>cases rx;exact qia a b
  | int b=>obtain⟨t,rfl⟩:=rx;exact qh9 a b t
  | str b=>obtain⟨t,rfl⟩:=rx;exact qh6 a b t
  | _=>exact absurd (show false=true from fx) qaB
 | int a=>
  obtain⟨t',rfl⟩:=ry
  cases x with
  | non=>cases rx;exact qh1 a t'
  | bl b=>cases rx;exact qh4 a t' b
  | int b=>obtain⟨t,rfl⟩:=rx;exact qh3 a t' b t
  | str b=>obtain⟨t,rfl⟩:=rx;exact qeB a t' b t
  | _=>exact absurd (show false=true from fx) qaB
 | str a=>
  obtain⟨t',rfl⟩:=ry
  cases x with
  | non=>cases rx;exact qhN a t'
  | bl b=>cases rx;exact qhP a t' b
  | int b=>obtain⟨t,rfl⟩:=rx;exact qeA a t' b t
  | str b=>obtain⟨t,rfl⟩:=rx;exact qhM a t' b t
  | _=>exact absurd (show false=true from fx) qaB
 | _=>exact absurd (show false=true from fy) qaB
theorem oi:bS X (.builtin "len") (λxs H Q=>∃ p ys,xs=[.ref p]/\(SqL X.K H p ys\/SqT X.K H p ys)/\Q (.int ys.length) H):=by
 intro pins s σ H xs us Q I r h
 obtain⟨p,ys,rfl,hq,q⟩:=h
 obtain⟨u,rfl,rx⟩:=gD r
 cases rx
 have hn:=iR
 rcases hq with hq | hq
 ·obtain⟨its,r',pl,hz⟩:=I.list hq
  have hlen:=r'.length
  exact Calls.call_len_list pl.isList (by simp only [qax]<;>lia) ⟨.int ys.length,H,I.tok _,⟨s.toks+1,by rw [qax,hlen]⟩,q⟩
 ·obtain⟨its,r',pl,hz⟩:=I.tuple hq
  have hlen:=r'.length
  exact len_tuple pl (by simp only [qax]<;>lia) ⟨.int ys.length,H,I.tok _,⟨s.toks+1,by rw [qax,hlen]⟩,q⟩
theorem ow:bS X (.builtin "len") (λxs H Q=>∃ z,xs=[.str z]/\z.length<=sizeLine/\Q (.int z.length) H):=by
 intro pins s σ H xs us Q I r h
 obtain⟨z,rfl,hz,q⟩:=h
 obtain⟨u,rfl,t,rfl⟩:=gD r
 have hn:=iR
 exact len_str (by lia) ⟨.int z.length,H,I.tok _,⟨_,rfl⟩,q⟩
theorem bS.or {f:Value}{r r':List V->Hp->VK->Prop} (h:bS X f r) (h':bS X f r'):bS X f (λxs H Q=>r xs H Q\/r' xs H Q):=by
 intro pins s σ H xs us Q I rs q
 rcases q with q | q
 ·exact h pins s σ H xs us Q I rs q
 ·exact h' pins s σ H xs us Q I rs q
theorem mM:bS X (.type "tuple") (λxs H Q=>∃ p ys,xs=[.ref p]/\((SqL X.K H p ys/\∀ l,H l=none->Q (.ref l) (upd H l (.tup ys)))\/(SqT X.K H p ys/\Q (.ref p) H))):=by
 intro pins s σ H xs us Q I r h
 obtain⟨p,ys,rfl,h⟩:=h
 obtain⟨u,rfl,rx⟩:=gD r
 cases rx
 rcases h with⟨hq,q⟩ | ⟨hq,q⟩
 ·obtain⟨its,r',pl,hz⟩:=I.list hq
  have hlen:=r'.length
  refine call_tuple_list pl.isList (λh' kp=>?_) (by simp only [qax]<;>lia)
  have I1:Inv X pins σ H { s with heap:=h' }:=I.kept (t':=s.toks) kp
  have I2:Inv X pins σ (upd H h'.objs.size (.tup ys)) { s with heap:=h'.push { cls:=.type "tuple",data:=.seq its.toArray } }:=
   I1.laid (t':=s.toks) (λb o e=>qae _ e) (qaq _) (show cL X.prog X.w _ _ _ (.tup ys) from ⟨hz,its,r',dq.new _ _⟩)
  exact⟨.ref h'.objs.size,_,I2,rfl,q _ (I1.hok.fresh (qaq _))⟩
 ·obtain⟨its,r',pl,hz⟩:=I.tuple hq
  exact call_tuple_same pl ⟨.ref p,H,I,rfl,q⟩
noncomputable def tyV (K:PySem.W.Frag) (T:String) (x:V) (H:Hp):Prop:=match x with
 | .str _=>T = "str"
 | .int _=>T = "int"
 | .ref p=>(T = "list"/\∃ xs,SqL K H p xs)\/(T = "tuple"/\((∃ o,K.lookup p=some o/\o.cls=.type "tuple"/\o.dict=none)\/∃ xs,SqT K H p xs))\/
   (T = "dict"/\((∃ kvs,H p=some (.dK kvs))\/∃ kvs,H p=some (.dT kvs)))\/(T = "set"/\∃ S n,H p=some (.set S n))
 | _=>False
theorem zu {pins:List (Addr×Obj)}{σ:St}{H:Hp}{s:Shared}{T:String}{x:V}{v:Value} (I:Inv X pins σ H s) (r:bi x v) (ty:tyV X.K T x H) :
  s.TypeIs v T/\∀ a,v=.ref a->∃ ob,s.heap.get? a=some ob/\ob.dict=none:=by
 cases x with
 | str z=>
  obtain⟨t,rfl⟩:=r
  cases (show T = "str" from ty)
  exact⟨typeIs_str s z t,λ_ e=>nomatch e⟩
 | int i=>
  obtain⟨t,rfl⟩:=r
  cases (show T = "int" from ty)
  exact⟨qdP s i t,λ_ e=>nomatch e⟩
 | ref p=>
  cases r
  rcases ty with⟨rfl,xs,hq⟩ | ⟨rfl,ht⟩ | ⟨rfl,hk⟩ | ⟨rfl,S,n,hk⟩
  ·obtain⟨its,_,pl,_⟩:=I.list hq
   refine⟨pl.isList.typeIs,λa e=>?_⟩
   cases e
   obtain⟨o,n,e,c,hd,_⟩:=pl
   exact⟨o,e,hd⟩
  ·have z:∃ o:Obj,s.heap.get? p=some o/\o.cls=.type "tuple"/\o.dict=none:=by
    rcases ht with⟨o,hk,hc,hd⟩ | ⟨xs,hq⟩
    ·exact⟨o,I.kIn p o hk,hc,hd⟩
    ·exact I.tuple1 hq
   obtain⟨o,e1,hc,hd⟩:=z
   refine⟨⟨o,e1,hc⟩,λa e=>?_⟩
   cases e
   exact⟨o,e1,hd⟩
  ·have z:∃ o,s.heap.get? p=some o/\o.ExactDict:=by
    rcases hk with⟨kvs,hk⟩ | ⟨kvs,hk⟩
    ·obtain⟨_,_,_,_,o,_,_,e,ex,_⟩:=I.hok p _ hk
     exact⟨o,e,ex⟩
    ·obtain⟨_,_,_,_,o,_,_,e,ex,_⟩:=I.hok p _ hk
     exact⟨o,e,ex⟩
   obtain⟨o,e,ex⟩:=z
   refine⟨⟨o,e,ex.1⟩,λa e2=>?_⟩
   cases e2
   exact⟨o,e,ex.2.1⟩
  ·obtain⟨o,_,_,_,e,ex,_⟩:=I.hok p _ hk
   refine⟨⟨o,e,ex.1⟩,λa e2=>?_⟩
   cases e2
   exact⟨o,e,ex.2.1⟩
 | _=>exact False.elim ty
noncomputable def tBM (K:PySem.W.Frag) (T:String) (r:V->List V->Hp->VK->Prop) (to:TE) (t:TA):TE:=λσ H Q=>to σ H λx H1=>tyV K T x H1/\t σ H1 λxs H2=>r x xs H2 Q
variable {o e:Expr}{es:List Expr}{to:TE}{t:TA}{name:Str}{apos cpos:Pos}{T id:String}{r:V->List V->Hp->VK->Prop}
theorem BS (pa:PlainAttrs T) (slot:Slot T name id) (hty:typeOf (.builtin id)=pure (.type "method_descriptor")) (hm:MtR X id r) (ho:PE X o to) (ha:PA X (e::es) t)
  (hbase:attributeBase o name X.env (eval o X.env)=eval o X.env:=by rfl)
  (hfew:((backTo cpos (starEach (e::es) X.env)).all (λx=>!x.1) && (backToKw cpos (keywordEach [] X.env)).all (λx=>x.1.isSome)
    && decide ((e::es).length+([]:List Keyword).length+(if ([]:List Keyword).isEmpty then 0 else 1) < 30))=true:=by rfl)
  (hline:(apos.endLine==cpos.line)=true:=by rfl) (hs:starEach (e::es) X.env=(false,eval e X.env)::starEach es X.env:=by rfl) (hplain:(backTo cpos (starEach es X.env)).any (·.1)=false:=by rfl) :
  PE X (.Call (.Attribute o name apos) (e::es) [] cpos) (tBM X.K T r to t):=by
 intro pins s σ H Q I h
 refine wpAny_Call_method_late hbase hfew hline rfl (thn (ho pins s σ H _ I h) λv s1 ⟨x,H1,I1,r1,ty,q1⟩=>?_)
 obtain⟨h1,h2⟩:=zu I1 r1 ty
 refine⟨T,id,pa,slot,hty,h1,h2,?_⟩
 have hA:=ha cpos pins s1 σ H1 _ I1 q1
 rw [hs] at hA ⊢
 refine Calls.callWith_builtin (by show (false || (backTo cpos (starEach es X.env)).any (·.1))=false;rw [hplain]<;>rfl) (Calls.evalArgs_plain ?_)
 exact thn hA λus s2 ⟨vs,H2,I2,r2,q2⟩=>hm pins s2 σ H2 x vs v us Q I2 r1 r2 q2
end
noncomputable def MtM (X:Cx) (id:String) (r:V->List V->Hp->VK->Prop):Prop:=
 ∀ (pins:List (Addr×Obj)) (s:Shared) (σ:St) (H:Hp) (x:V) (xs:List V) (v:Value) (us:List Value) (Q:VK),Inv X pins σ H s->bi x v->aN xs us->r x xs H Q->
  wpAny (model X.prog X.w) X.A (call (.builtin id) (v::us)) (EP X pins σ Q) X.xe s
theorem aN.one {x:V}{us:List Value} (h:aN [x] us):∃ u,us=[u]/\bi x u:=by
 cases h with
 | cons r t=>cases t;exact⟨_,rfl,r⟩
theorem aN.two {x y:V}{us:List Value} (h:aN [x,y] us):∃ u v,us=[u,v]/\bi x u/\bi y v:=by
 cases h with
 | cons r t=>cases t with
  | cons q t2=>cases t2;exact⟨_,_,rfl,r,q⟩
theorem aN.eraseIdx:∀ {xs:List V}{us:List Value} (i:Nat),aN xs us->aN (xs.eraseIdx i) (us.eraseIdx i)
 | _,_,_,.nil=>.nil
 | _,_,0,.cons _ t=>t
 | _,_,i+1,.cons r t=>.cons r (aN.eraseIdx i t)
theorem aN.rep {xs:List V}{us:List Value} (h:aN xs us):∀ k:Nat,aN (List.replicate k xs).flatten (List.replicate k us).flatten
 | 0=>.nil
 | k+1=>by
  rw [qaL,qaL,qcc,qcc]
  exact aN.append h (aN.rep h k)
theorem nq {α:Type}:∀ (l:List α) (i:Nat),(l.eraseIdx i).length<=l.length
 | [],_=>qaq _
 | _::_,0=>qcB _
 | _::r,i+1=>Nat.succ_le_succ (nq r i)
theorem jE (its:List Value):∀ (k:Nat) (acc:List Value),
  List.foldl (λx1 x2=>x1++x2) acc.toArray (List.replicate k its.toArray)=(acc++(List.replicate k its).flatten).toArray
 | 0,acc=>by simp
 | k+1,acc=>by
  have e:acc.toArray++its.toArray=(acc++its).toArray:=by simp
  have e2:(acc++its)++(List.replicate k its).flatten=acc++(List.replicate (k+1) its).flatten:=by
   rw [qaL,qcc,qbC]
  rw [<-e2,<-jE its k (acc++its),<-e,qaL,qbF]
section
variable {X:Cx}{pins:List (Addr×Obj)}{σ:St}{H:Hp}{s:Shared}{l b:Addr}{xs ys zs:List V}
theorem Inv.lset {its its':List Value}{n:Nat}{f:Array Value->Array Value}{t':Nat} (I:Inv X pins σ H s) (hH:H l=some (.lst xs))
  (e:s.heap.get? l=some { cls:=.type "list",data:=.seq its.toArray n }) (hf:f its.toArray=its'.toArray) (hv:aN ys its') (hz:ys.length<=sizeLine) :
  Inv X pins σ (upd H l (.lst ys)) { s with heap:=s.heap.update l (Obj.mapSeq f),toks:=t' }:=by
 have q:=qdM e f
 rw [hf] at q
 refine I.write (x:=l) (e:=l) (by rw [hH];exact trivial) (.inl rfl) (λb' u hb hu=>(qar s.heap (Obj.mapSeq f) (qbI hb)).trans hu) ⟨_,q⟩ ?_
 exact⟨hz,its',_,hv,q⟩
theorem Inv.lnew {its:List Value}{t':Nat} (I:Inv X pins σ H s) (hv:aN ys its) (hz:ys.length<=sizeLine) :
  Inv X pins σ (upd H s.heap.objs.size (.lst ys)) { s with heap:=s.heap.push { cls:=.type "list",data:=.seq its.toArray },toks:=t' }:=
 I.laid (λ_ _ q=>qae _ q) (qaq _) ⟨hz,its,0,hv,qav _ rfl⟩
theorem Inv.fresh (I:Inv X pins σ H s):H s.heap.objs.size=none:=I.hok.fresh (qaq _)
theorem Inv.lstM (I:Inv X pins σ H s) (hH:H l=some (.lst xs)):xs.length<=sizeLine/\∃ (its:List Value) (n:Nat),aN xs its/\xs.length=its.length/\s.heap.get? l=some { cls:=.type "list",data:=.seq its.toArray n }:=by
 obtain⟨z,its,n,r,e⟩:=I.hok l _ hH
 exact⟨z,its,n,r,r.length,e⟩
theorem wB {n:Nat} (h:n<=sizeLine):Builtin.List.listTooLong n=false:=by
 unfold Builtin.List.listTooLong
 exact decide_eq_false (by lia)
end
section
variable {X:Cx}
noncomputable def xB:V->List V->Hp->VK->Prop:=λx vs H Q=>∃ l xs y,x=.ref l/\vs=[y]/\H l=some (.lst xs)/\xs.length < sizeLine/\Q .non (upd H l (.lst (xs++[y])))
theorem tU:MtM X "list.append" xB:=by
 intro pins s σ H x vs v us Q I rx rv h
 obtain⟨l,xs,y,rfl,rfl,hH,hz,q⟩:=h
 cases rx
 obtain⟨u,rfl,ru⟩:=rv.one
 obtain⟨z,its,n,r,hl,e⟩:=I.lstM hH
 refine qcL qd3 ⟨_,e,rfl⟩ qdZ (qdO _ _) (qdW l its.toArray n u (by rw [qax];lia)) ⟨e,?_⟩
 refine⟨.non,_,I.lset (its':=its++[u]) hH e (by simp) (r.append (.cons ru .nil)) ?_,rfl,q⟩
 rw [qaV,qcW]
 lia
noncomputable def zH:V->List V->Hp->VK->Prop:=λx vs H Q=>∃ l xs i k y,x=.ref l/\vs=[.int i]/\H l=some (.lst xs)/\-(2 ^ 63)<=i/\i < 2 ^ 63/\seqIndex? i xs.length=some k/\xs[k]?=some y/\Q y (upd H l (.lst (xs.eraseIdx k)))
theorem vL:MtM X "list.pop" zH:=by
 intro pins s σ H x vs v us Q I rx rv h
 obtain⟨l,xs,i,k,y,rfl,rfl,hH,h1,h2,hk,hy,q⟩:=h
 cases rx
 obtain⟨u,rfl,ru⟩:=rv.one
 obtain⟨t,rfl⟩:=ru
 obtain⟨z,its,n,r,hl,e⟩:=I.lstM hH
 obtain⟨w,hw,rw'⟩:=r.get hy
 refine qcL F.slot_list_pop ⟨_,e,rfl⟩ F.entry_list_pop (F.args_list_pop_2 _ _)
  (MeetsSeq.list_pop_at l its.toArray n i t k w (qg6 h1 h2) (by rw [qax,<-hl];exact hk) (by rw [<-Array.getElem?_toList];exact hw) (by rw [qax];lia)) ⟨e,?_⟩
 refine⟨y,_,I.lset (its':=its.eraseIdx k) hH e ?_ (r.eraseIdx k) ?_,rw',q⟩
 ·show its.toArray.eraseIdxIfInBounds k=(its.eraseIdx k).toArray
  rw [List.eraseIdxIfInBounds_toArray]
 ·have:=nq xs k
  lia
theorem nA {α:Type} (xs:List α) (k:Nat):(List.replicate k xs).flatten.length=k*xs.length:=by
 induction k with
 | zero=>simp
 | succ k ih=>rw [qaL,qcc,qaV,ih,Nat.succ_mul,qcE]
end
section
variable {prog:Program}{w:World}{A:Around}{E:Value->Shared->Prop}{s:Shared}
end
section
variable {X:Cx}
end
end L2
namespace Att
open PySem PySem.W PySem.Calls PyProof.Rows
theorem kD {P:Params}{h:Heap}:∀ (ns:List Int) (vs:List Value),WellAll P h vs (ns.map WData.int)->IntsAre vs ns:=by
 intro ns
 induction ns with
 | nil=>
  intro vs w
  rw [qba] at w
  cases w
  exact .nil
 | cons n ns ih=>
  intro vs w
  rw [qal] at w
  cases w with
  | cons a b=>
   cases a
   exact .cons _ _ (ih _ b)
theorem tZ {l:OpenLaw}{n:Nat} (hn:l.most=some n) {P:Params}{h:Heap}{args:List WData}{vals:List Value}
  (hpre:l.row.toRowW.claim.pre args=true) (hwl:WellAll P h vals args) :
  ∃ a vs ns,vals=[Value.ref a]/\args=[WData.list (ns.map WData.int)]/\h.get? a=some { cls:=.type "list",data:=.seq vs.toArray }/\IntsAre vs ns/\ns.length<=n:=by
 have hsh:WShape.hasAll [] args [.list .int]=true:=(pre_splitW hpre).1
 have hc:l.pre.holds [] { args:=args }=true:=(pre_splitW hpre).2
 obtain⟨d,r,rfl,h1,h2⟩:=hasAllW_cons hsh
 obtain rfl:=hasAllW_nil h2
 obtain⟨xs,rfl,h3⟩:=hasW_list h1
 obtain⟨ns,rfl⟩:=items_int h3
 have hlen:ns.length<=n:=by
  unfold OpenLaw.pre at hc
  have h4:(WTm.not (.lt (.lit (.int (n:Int))) (.len (.arg 0)))).holds [] { args:=[.list (ns.map .int)] }=true:=by
   have h4:=(holds_andW hc).1
   rw [hn] at h4
   exact h4
  have h5:=condW_of h4 (w_not (w_lt w_lit (w_len_list (w_arg rfl))))
  rw [qaf] at h5
  refine Nat.le_of_not_lt λq=>?_
  have q':(n:Int) < ((ns.length:Nat):Int):=by lia
  first
   | (rw [decide_eq_true q'] at h5;exact absurd h5 (by decide))
   | (simp at h5;lia)
 cases hwl with
 | cons w1 w2=>
  cases w2
  cases w1 with
  | list ho hall=>exact⟨_,_,ns,rfl,rfl,ho,kD ns _ hall,hlen⟩
theorem tH (l:OpenLaw) (args:List WData):l.row.toRowW.claim.post args (.bool true) args=true:=
 postW_of (r:=l.row.toRowW) (X:=(true==true))
  (show WShape.has [] (.bool true) .bool=true by first | rfl | decide | simp [WShape.has,WShape.arms,WShape.armsAll])
  (show (WTm.eq .res (.lit (.bool true))).value [] { args:=args,res:=some (.bool true),after:=args }=some (.bool (true==true)) from w_eq_bool (w_res rfl) w_lit) rfl
theorem attach_call {l:OpenLaw}{n:Nat}{q:Program}{loose:List Str}{XP:(Str->Option Value)->Heap->Prop}{YP:World->Heap->Prop}{d:DefRec}
  (hn:l.most=some n) (hdf:d.params.defaults=[])
  (call:∀ (w:World) (s₀ s₁:Shared) (mg mb:Str->Option Value) (fa:Addr) (o:Obj) (pm cd doc:Value) (a:Addr) (vs:List Value) (ns:List Int),
    Ground q loose [] XP w s₀ mg mb s₁.heap->YP w s₁.heap->
    s₁.heap.get? fa=some o->o.data=.func (docDef d.name d.params d.body d.scope pm cd doc)->s₁.heap.CodeRec cd d.name->mg d.name=some (.ref fa)->
    s₁.heap.get? a=some { cls:=.type "list",data:=.seq vs.toArray }->IntsAre vs ns->ns.length<=n->s₁.gens=#[]->
    codeAny (model l.prog w) callerA (.call (.ref fa) ⟨[.ref a],[]⟩) (λr s'=>r=.ok (.ret (.bool true))/\OldK s₁.heap s'.heap/\s'.os=s₁.os/\AllBare s'.gens) s₁) :
  WalkO q loose XP YP l.row.toRowW d [] (λf vs=>PySem.call f vs):=by
 intro w s₀ s₁ mg mb G Y fa o pm cd doc dV kV ho hd hcd hD hmg hg args vals as hpre hlay hrd hwl hlo
 obtain rfl:dV=.none:=Dflts.none hD hdf
 obtain rfl:kV=.none:=Dflts.noKw hD
 obtain⟨a,vs,ns,rfl,rfl,hobj,hints,hlen⟩:=tZ hn hpre hwl
 refine enter_call (qfq (call w s₀ s₁ mg mb fa o pm cd doc a vs ns G Y ho (fd_plain hd) hcd hmg hobj hints hlen hg) λr s' hq=>?_)
 obtain⟨rfl,h2,h3,h4⟩:=hq
 exact⟨.inl ⟨.bool true,.bool true,[],rfl,λ_=>rfl,.bool true,tH l _,λ_=>⟨List.Pairwise.nil,λ_ hm=>(nomatch hm)⟩⟩,h2,h3,h4⟩
section
variable {prog:Program}{w:World}{A:Around}{E:Value->Shared->Prop}{s:Shared}{K:Frag}
end
end Att
namespace L2
open PySem PySem.Spec PyProof.Rows
theorem m9:∀ {vs:List Value}{ns:List Int},IntsAre vs ns->aN (ns.map V.int) vs
 | _,_,.nil=>.nil
 | _,_,.cons n t h=>.cons ⟨t,rfl⟩ (m9 h)
noncomputable def xV (H:Hp):Prop:=∀ b,H b=none\/∃ o xs,H b=some (.frz o (.lst xs))
theorem ve {P:Program}{w:World}{K:PySem.W.Frag}{mg mb:Str->Option Value}{CX:CXT}{k:Nat}{fa a:Addr}{fd:FuncData}{x:Str}{sp:Sp}{s₁:Shared}{vs:List Value}{ns:List Int}
  (KX:K.In s₁.heap) (hns:s₁.heap.Ns mainGlobals mg) (hb:s₁.heap.Ns builtinsNs mb) (hbb:∀ x:Str,x≠"__name__"->mb x=bootBuiltins x) (hlim:s₁.heap.NoLimit) (hg:s₁.gens=#[])
  (ha:s₁.heap.get? a=some { cls:=.type "list",data:=.seq vs.toArray }) (hi:IntsAre vs ns) (hl:ns.length<=sizeLine) (hr:bh k callerA)
  (F:∀ base:Heap,K.In base->base.Ns mainGlobals mg->aH P w K mg base CX k fa fd [x] sp) (hbind:∀ (s:Shared) (u:Value),BindsTo s fd ⟨[u],[]⟩ [(x,u)])
  (hsp:∀ H:Hp,xV H->SqL K H a (ns.map V.int)->sp [.ref a] H (λv _=>v=.bl true) λ_ _ _=>False)
  (hCX:∀ H e s',CX [] H s₁ (λ_ _ _=>False) e s'->False) :
  codeAny (model P w) callerA (.call (.ref fa) ⟨[.ref a],[]⟩) (λr s'=>r=.ok (.ret (.bool true))/\OldK s₁.heap s'.heap/\s'.os=s₁.os/\AllBare s'.gens) s₁:=by
 have rv:=m9 hi
 have lenV:=hi.length
 -- from an abstract heap in which nothing but the script may be tracked
 have core:∀ H:Hp,xV H->SqL K H a (ns.map V.int)->HOk P w H s₁.heap->(∀ b,H b≠none->b=a)->(H a≠none->K.lookup a=none)->
   codeAny (model P w) callerA (.call (.ref fa) ⟨[.ref a],[]⟩) (λr s'=>r=.ok (.ret (.bool true))/\OldK s₁.heap s'.heap/\s'.os=s₁.os/\AllBare s'.gens) s₁:=by
  intro H hO hS hok hA hK
  have base_of:∀ {b:Addr}{o:Obj},s₁.heap.get? b=some o->H b=none->(nH s₁.heap H).get? b=some o:=λe n=>wL e n
  have noA:∀ {b:Addr}{o:Obj}{es:Array DictEntry}{ep:Nat},s₁.heap.get? b=some o->o.data=.dict es ep->H b=none:=λ{b o es ep} e d=>by
   cases q:H b with
   | none=>rfl
   | some u=>
    have e':b=a:=hA b (by rw [q];simp)
    subst e'
    rw [ha] at e;cases e
    have d':Data.seq vs.toArray _=Data.dict es ep:=d
    cases d'
  have nsK:∀ {b:Addr}{m:Str->Option Value},s₁.heap.Ns b m->(nH s₁.heap H).Ns b m:=λ{b m} ⟨o,es,ep,e,d,r⟩=>⟨o,es,ep,base_of e (noA e d),d,r⟩
  have hKb:K.In (nH s₁.heap H):=λb o e=>base_of (KX b o e) (by
   cases q:H b with
   | none=>rfl
   | some u=>
    have e':b=a:=hA b (by rw [q];simp)
    subst e'
    rw [hK (by rw [q];simp)] at e;cases e)
  have hM:Mod K mg (nH s₁.heap H):=⟨hKb,nsK hns,⟨mb,nsK hb,hbb⟩,let ⟨mc,h1,h2⟩:=hlim;⟨mc,nsK h1,h2⟩⟩
  have e0:yK P w K mg (nH s₁.heap H) callerA [] s₁ H:=⟨rfl,hM,λb o e=>xg e,qc9 (t6 _ _),trivial,λb hb=>absurd (show b ∈ ([]:List Addr) from hb) (by simp),hok,.of_eq hg⟩
  refine qfq ((F _ hKb (nsK hns)).run callerA [] s₁ H ⟨[.ref a],[]⟩ [.ref a] [.ref a] _ _ hr e0 (hbind s₁ (.ref a)) (.cons rfl .nil) (hsp H hO hS)) λr s' h=>?_
  cases r with
  | error e=>exact (hCX H e s' h).elim
  | ok fl=>
   cases fl with
   | next=>exact False.elim h
   | brk=>exact False.elim h
   | cont=>exact False.elim h
   | ret u=>
    obtain⟨v,H',os,bare,un,hok',r',q⟩:=h
    have q':v=.bl true:=q
    subst q'
    obtain rfl:u=Value.bool true:=r'
    refine⟨rfl,OldK.of_keep λb o e=>?_,os,bare⟩
    cases q:H b with
    | none=>exact un.keep b o e q (by intro z;exact absurd (show b ∈ ([]:List Addr) from z) (by simp)) (by simp)
    | some u=>
     rcases hO b with z | ⟨ob,xs,z⟩
     ·rw [q] at z;cases z
     ·have z2:=un.frzs b ob _ z
      obtain⟨e1,_⟩:=hok b _ z
      obtain⟨e2,_⟩:=hok' b _ z2
      rw [e] at e1;cases e1
      exact e2
 cases hk:K.lookup a with
 | some o=>
  -- the script is one of the module's own objects
  have e:=KX a o hk
  rw [ha] at e
  cases e
  refine core (λ_=>none) (λ_=>.inl rfl) (.inr ⟨_,vs.toArray,_,hk,rfl,rfl,rfl,by rw [qax,lenV];exact hl,by simpa using rv⟩) (λb u z=>by have z':(none:Option HO)=some u:=z;cases z') (λb z=>absurd rfl z) λz=>absurd rfl z
 | none=>
  refine core (λb=>if b=a then some (.frz { cls:=.type "list",data:=.seq vs.toArray } (.lst (ns.map V.int))) else none) (λb=>?_) (.inl (.inr ⟨{ cls:=.type "list",data:=.seq vs.toArray },if_pos rfl⟩)) (λb u z=>?_) (λb z=>?_) λ_=>hk
  ·by_cases hb:b=a
   ·exact .inr ⟨_,_,if_pos hb⟩
   ·exact .inl (if_neg hb)
  ·by_cases hb:b=a
   ·have z':=(if_pos hb).symm.trans z
    cases z'
    subst hb
    exact⟨ha,by rw [qaf];exact hl,vs,_,rv,ha⟩
   ·have z':=(if_neg hb).symm.trans z
    cases z'
  ·by_cases hb:b=a
   ·exact hb
   ·exact absurd (if_neg hb) z
theorem walk_of {l:PySem.W.OpenLaw}{n k:Nat}{q:Program}{loose:List Str}{XP:(Str->Option Value)->Heap->Prop}{YP:World->Heap->Prop}{d:DefRec}{K:Params->PySem.W.Frag}{CX:World->CXT}{sp:World->Sp}{x:Str}
  (hn:l.most=some n) (hn2:n<=sizeLine) (hdf:d.params.defaults=[]) (hr:bh k callerA)
  (hY:∀ (w:World) (h:Heap),YP w h->(K w.params).In h)
  (F:∀ (w:World) (mg:Str->Option Value) (fa:Addr) (h:Heap),(K w.params).In h->h.Ns mainGlobals mg->mg d.name=some (.ref fa)->
    ∃ fd:FuncData,(∀ (s:Shared) (u:Value),BindsTo s fd ⟨[u],[]⟩ [(x,u)])/\
     ∀ base:Heap,(K w.params).In base->base.Ns mainGlobals mg->aH l.prog w (K w.params) mg base (CX w) k fa fd [x] (sp w))
  (hsp:∀ (w:World) (H:Hp) (a:Addr) (ns:List Int),ns.length<=n->xV H->SqL (K w.params) H a (ns.map V.int)->sp w [.ref a] H (λv _=>v=.bl true) λ_ _ _=>False)
  (hCX:∀ (w:World) (H:Hp) (s:Shared) (e:Value) (s':Shared),CX w [] H s (λ_ _ _=>False) e s'->False) :
  PySem.W.WalkO q loose XP YP l.row.toRowW d [] (λf vs=>PySem.call f vs):=by
 refine Att.attach_call hn hdf λw s₀ s₁ mg mb fa o pm cd doc a vs ns G Y ho hd hcd hmg hobj hints hlen hg=>?_
 have KX:=hY w _ Y
 obtain⟨fd,hb,hF⟩:=F w mg fa _ KX G.T.g hmg
 exact ve KX G.T.g G.T.b G.T.builtins G.T.nolimit hg hobj hints (qaX hlen hn2) hr hF hb (λH hO hS=>hsp w H a ns hlen hO hS) λH e s'=>hCX w H s₁ e s'
noncomputable def aC (s:Stmt):Arguments:=match s with
 | .FunctionDef _ a _ _ _ _ _ _ _ _=>a
 | _=>{ posonlyargs:=[],args:=[],vararg:=none,kwonlyargs:=[],kw_defaults:=[],kwarg:=none,defaults:=[] }
noncomputable def am (s:Stmt):List Stmt:=match s with
 | .FunctionDef _ _ b _ _ _ _ _ _ _=>b
 | _=>[]
noncomputable def ab (s:Stmt):Scope:=match s with
 | .FunctionDef _ _ _ _ _ _ sc _ _ _=>sc
 | _=>{ kind:=.function,names:=[],isGenerator:=false,isCoroutine:=false }
abbrev CX0:CXT:=λ_ _ _ _ _ _=>False
abbrev E0:XK:=λ_ _ _=>False
theorem BI {X:Cx}:rR CX0 X E0:=λ_ _ _ _ _ _ _ h=>h.elim
structure Fun (K:PySem.W.Frag) (x qual:Str) (st:Stmt) (f:Addr) (fd:FuncData):Prop where
 ex:∃ (oc:Value) (od:Option Addr) (kV doc pm:Value) (an:Option Addr) (cdv ct:Value) (osl:Array (Option Value)),
  fd=PySem.W.fnOf x qual (aC st) (am st) (ab st) .none kV doc pm an cdv ct/\K.lookup f=some ⟨oc,od,.func fd,osl⟩/\PySem.W.codeIn K cdv qual=true
 kp:PySem.W.keepIn K (.ref f)=true
section
variable {P:Program}{w:World}{K:PySem.W.Frag}{mg:Str->Option Value}{base:Heap}
theorem Fun.ok {x qual:Str}{st:Stmt}{f:Addr}{fd:FuncData}{N ps:List Str}{k:Nat}{sp:Sp} (F:Fun K x qual st f fd) (S:aB N ps (ab st)) (len:∀ vs H Q E,sp vs H Q E->vs.length=ps.length)
  (hbody:∀ (cdv:Value) (A:Around) (outer:List Env) (s:Shared) (H:Hp) (vs:List V) (Q:VK) (E:XK),bh k (A.deeper (envOfC qual (ab st) s.heap.objs.size f cdv))->sp vs H Q E->
    ∃ t,PSs (b9 CX0 P w K mg base N qual (ab st) f cdv A outer s H E).nox (am st) t/\t { nx:=λ_ H'=>Q .non H',rt:=Q } (start N vs) H):aH P w K mg base CX0 (k+1) f fd ps sp:=by
 obtain⟨oc,od,kV,doc,pm,an,cdv,ct,osl,rfl,lk,hcd⟩:=F.ex
 refine A9 lk hcd S len λA outer s H vs Q E hr hsp=>?_
 obtain⟨t,h,q⟩:=hbody cdv A outer s H vs Q E hr hsp
 exact⟨t,h.nox,q⟩
theorem Fun.binds {x qual:Str}{st:Stmt}{f:Addr}{fd:FuncData}{ps:List Str} (F:Fun K x qual st f fd)
  (h:∀ (kV doc pm:Value) (an:Option Addr) (cdv ct:Value) (us:List Value),us.length=ps.length->bindArgs (PySem.W.fnOf x qual (aC st) (am st) (ab st) .none kV doc pm an cdv ct) ⟨us,[]⟩=pure (ps.zip us)):bp K fd ps []:=by
 obtain⟨oc,od,kV,doc,pm,an,cdv,ct,osl,rfl,lk,hcd⟩:=F.ex
 exact .all (h kV doc pm an cdv ct)
theorem aV {x qual:Str}{st:Stmt}{f:Addr}{oc:Value}{od an:Option Addr}{osl:Array (Option Value)}{kV doc pm cdv ct:Value} (l:K.lookup f=some ⟨oc,od,.func (PySem.W.fnOf x qual (aC st) (am st) (ab st) .none kV doc pm an cdv ct),osl⟩)
  (c:PySem.W.codeIn K cdv qual=true) (k:PySem.W.keepIn K (.ref f)=true):Fun K x qual st f (PySem.W.fnOf x qual (aC st) (am st) (ab st) .none kV doc pm an cdv ct):=⟨⟨oc,od,kV,doc,pm,an,cdv,ct,osl,rfl,l,c⟩,k⟩
end
theorem tP {n:Nat} (h:n<=1000):n < sizeLine:=qfg h (by decide)
section
variable {X:Cx}
end
theorem tO {A B:Prop} (h:B):if false=true then A else B:=by
 rw [if_neg qaB]
 exact h
theorem tY {A B:Prop} (h:A):if true=true then A else B:=by
 rw [if_pos rfl]
 exact h
noncomputable def bx (H H':Hp):Prop:=∀ b o,H b=some o->H' b=some o
theorem bx.refl (H:Hp):bx H H:=λ_ _ h=>h
noncomputable def ca (cells:List (Str×Addr)):List (Str×NameKind)->List (Str×Addr)->List (Str×Addr)
 | [],acc=>acc
 | (n,k)::r,acc=>if k==.free then ca cells r ((n,(cells.lookup n).getD 0)::acc) else ca cells r acc
theorem i5 {env:Env} (f:Str×NameKind->List (Str×Addr)->Sem (ForInStep (List (Str×Addr))))
  (hf:∀ n k cs,f (n,k) cs=if k==.free then (do let c <-cellOf env n;pure (.yield ((n,c)::cs))) else pure (.yield cs)) :
  ∀ (names:List (Str×NameKind)) (acc:List (Str×Addr)),(∀ x ∈ names,x.2=.free->∃ c,env.cells.lookup x.1=some c)->
   forIn names acc f=pure (ca env.cells names acc)
 | [],acc,_=>by rw [qdE];rfl
 | (n,k)::r,acc,h=>by
  rw [qek,hf]
  unfold ca
  by_cases hk:(k==.free)=true
  ·obtain⟨c,hc⟩:=h (n,k) qai (beq_iff_eq.mp hk)
   have hc':env.cells.lookup n=some c:=hc
   rw [if_pos hk,if_pos hk]
   have:cellOf env n=pure c:=by unfold cellOf;rw [hc']
   rw [this,hc']
   simp only [pure_bind,Option.getD_some]
   exact i5 f hf r _ λx hx=>h x (qah _ hx)
  ·rw [if_neg hk,if_neg hk]
   simp only [pure_bind]
   exact i5 f hf r _ λx hx=>h x (qah _ hx)
theorem iH {scope:Scope}{env:Env} (h:∀ x ∈ scope.names,x.2=.free->∃ c,env.cells.lookup x.1=some c) :
  closureFor scope env=pure (ca env.cells scope.names []):=by
 simp only [closureFor]
 rw [i5 (env:=env) _ (λn k cs=>by cases hk:k==NameKind.free<;>simp [hk]) scope.names [] h]
 simp
theorem fQ {cells:List (Str×Addr)}:∀ (names:List (Str×NameKind)) (acc:List (Str×Addr)) {x:Str}{c:Addr},(ca cells names acc).lookup x=some c->
  acc.lookup x=some c\/((x,NameKind.free) ∈ names/\c=(cells.lookup x).getD 0)
 | [],_,_,_,h=>.inl h
 | (n,k)::r,acc,x,c,h=>by
  unfold ca at h
  by_cases hk:(k==.free)=true
  ·rw [if_pos hk] at h
   rcases fQ r _ h with q | ⟨q1,q2⟩
   ·rw [qbz] at q
    cases hx:x==n with
    | true=>
     rw [hx] at q
     have e:=beq_iff_eq.mp hx
     subst e
     exact .inr ⟨by rw [<-beq_iff_eq.mp hk];exact qai,(qaA q).symm⟩
    | false=>rw [hx] at q;exact .inl q
   ·exact .inr ⟨qah _ q1,q2⟩
  ·rw [if_neg hk] at h
   rcases fQ r _ h with q | ⟨q1,q2⟩
   ·exact .inl q
   ·exact .inr ⟨qah _ q1,q2⟩
theorem fG {cells:List (Str×Addr)}{x:Str}:∀ (names:List (Str×NameKind)) (acc:List (Str×Addr)),((x,NameKind.free) ∈ names\/(acc.lookup x).isSome=true)->((ca cells names acc).lookup x).isSome=true
 | [],_,h=>h.elim (λz=>nomatch z) id
 | (n,k)::r,acc,h=>by
  unfold ca
  by_cases hk:(k==.free)=true
  ·rw [if_pos hk]
   refine fG r _ ?_
   rcases h with h | h
   ·rcases qaF.mp h with e | h
    ·cases e
     exact .inr (by rw [qbz,beq_self_eq_true];rfl)
    ·exact .inl h
   ·refine .inr ?_
    rw [qbz]
    cases x==n
    ·exact h
    ·rfl
  ·rw [if_neg hk]
   refine fG r _ ?_
   rcases h with h | h
   ·rcases qaF.mp h with e | h
    ·cases e;exact absurd rfl hk
    ·exact .inl h
   ·exact .inr h
theorem dN:∀ (names:List (Str×NameKind)) (n:Nat) (acc:List (Str×Addr)) {x:Str}{c:Addr},(cellsFrom n names acc).lookup x=some c->acc.lookup x=some c\/((x,NameKind.cell) ∈ names/\n<=c)
 | [],_,_,_,_,h=>.inl h
 | (m,k)::r,n,acc,x,c,h=>by
  unfold cellsFrom at h
  by_cases hk:(k==.cell)=true
  ·rw [if_pos hk] at h
   rcases dN r _ _ h with q | ⟨q1,q2⟩
   ·rw [qbz] at q
    cases hx:x==m with
    | true=>
     rw [hx] at q
     have e:=beq_iff_eq.mp hx
     subst e
     exact .inr ⟨by rw [<-beq_iff_eq.mp hk];exact qai,by rw [qaA q];exact qaq _⟩
    | false=>rw [hx] at q;exact .inl q
   ·exact .inr ⟨qah _ q1,Nat.le_of_succ_le q2⟩
  ·rw [if_neg hk] at h
   rcases dN r _ _ h with q | ⟨q1,q2⟩
   ·exact .inl q
   ·exact .inr ⟨qah _ q1,q2⟩
theorem mJ:∀ (names:List (Str×NameKind)) (n:Nat) (acc:List (Str×Addr)),(∀ p ∈ acc,p.2 < n)->∀ {x y:Str}{c:Addr},(cellsFrom n names acc).lookup x=some c->(cellsFrom n names acc).lookup y=some c->n<=c->x=y:=by
 have key:∀ (names:List (Str×NameKind)) (n:Nat) (acc:List (Str×Addr)) (lo:Nat),lo<=n->(∀ p ∈ acc,p.2 < n)->(∀ p ∈ acc,∀ q ∈ acc,lo<=p.2->p.2=q.2->p.1=q.1)->
   ∀ p ∈ cellsFrom n names acc,∀ q ∈ cellsFrom n names acc,lo<=p.2->p.2=q.2->p.1=q.1:=by
  intro names
  induction names with
  | nil=>intro n acc lo _ _ h;exact h
  | cons z r ih=>
   intro n acc lo hlo hlt h
   obtain⟨m,k⟩:=z
   unfold cellsFrom
   by_cases hk:(k==.cell)=true
   ·rw [if_pos hk]
    refine ih _ _ lo (Nat.le_succ_of_le hlo) (λp hp=>?_) (λp hp q hq l e=>?_)
    ·rcases qaF.mp hp with e | hp
     ·rw [e];exact qb2 _
     ·exact qaO (hlt p hp)
    ·rcases qaF.mp hp with e1 | hp<;>rcases qaF.mp hq with e2 | hq
     ·rw [e1,e2]
     ·rw [e1] at e;exact absurd (hlt q hq) (by rw [<-e];exact qbA _)
     ·rw [e2] at e;exact absurd (hlt p hp) (by rw [e];exact qbA _)
     ·exact h p hp q hq l e
   ·rw [if_neg hk]
    exact ih _ _ lo hlo hlt h
 intro names n acc hlt x y c hx hy hc
 exact key names n acc n (qaq _) hlt (λp hp q hq l _=>absurd (hlt p hp) (Nat.not_lt.mpr l)) _ (qbi hx) _ (qbi hy) hc rfl
theorem el:∀ (names:List (Str×NameKind)) (h:Heap) (acc:List (Str×Addr)),(∀ p ∈ acc,∃ v,h.IsCell p.2 v)->∀ p ∈ cellsFrom h.objs.size names acc,∃ v,(pushCells h names).IsCell p.2 v
 | [],_,_,h=>h
 | (m,k)::r,h,acc,hc=>by
  unfold cellsFrom pushCells
  by_cases hk:(k==.cell)=true
  ·rw [if_pos hk,if_pos hk]
   have:=el r (h.push { cls:=.type "cell",data:=.cell none }) ((m,h.objs.size)::acc) (λp hp=>by
    rcases qaF.mp hp with e | hp
    ·rw [e];exact⟨none,_,qav _ rfl,rfl⟩
    ·obtain⟨v,z⟩:=hc p hp
     exact⟨v,z.keeps λb o e=>qae _ e⟩)
   rwa [qbc] at this
  ·rw [if_neg hk,if_neg hk]
   exact el r h acc hc
theorem eE {names:List (Str×NameKind)} (nd:(names.map (·.1)).Nodup):∀ {x:Str}{k:NameKind},(x,k) ∈ names->names.lookup x=some k:=by
 induction names with
 | nil=>intro x k h;cases h
 | cons z r ih=>
  intro x k h
  obtain⟨m,k'⟩:=z
  rw [qal,qcI] at nd
  rw [qbz]
  rcases qaF.mp h with e | h
  ·cases e;rw [beq_self_eq_true]
  ·have:(x==m)=false:=beq_eq_false_iff_ne.mpr λe=>nd.1 (e ▸ qaD.mpr ⟨(x,k),by assumption,rfl⟩)
   rw [this]
   exact ih nd.2 h
theorem dA {env:Env}:∀ {names:List (Str×NameKind)}{x:Str}{k:NameKind},
  (names.map λ(n,k)=>if (k==NameKind.free && env.scope.kind==.function && env.kindOf n==some .cell) then (n,NameKind.cell) else (n,k)).lookup x=some k->
  ∃ k0,names.lookup x=some k0/\(k=k0\/(k0=.free/\k=.cell))
 | [],_,_,h=>by cases h
 | (n,k0)::r,x,k,h=>by
  rw [qal] at h
  dsimp only at h
  rw [qbz]
  by_cases hc:(k0==NameKind.free && env.scope.kind==.function && env.kindOf n==some .cell)=true
  ·rw [if_pos hc,qbz] at h
   cases hx:x==n with
   | true=>
    rw [hx] at h
    refine⟨k0,rfl,.inr ⟨?_,(qaA h).symm⟩⟩
    simp only [qa0] at hc
    exact beq_iff_eq.mp hc.1.1
   | false=>rw [hx] at h;exact dA h
  ·rw [if_neg hc,qbz] at h
   cases hx:x==n with
   | true=>rw [hx] at h;exact⟨k0,rfl,.inl (qaA h).symm⟩
   | false=>rw [hx] at h;exact dA h
theorem gt {env:Env}:∀ {names:List (Str×NameKind)}{x:Str},names.lookup x=some .free->
  (names.map λ(n,k)=>if (k==NameKind.free && env.scope.kind==.function && env.kindOf n==some .cell) then (n,NameKind.cell) else (n,k)).lookup x=some .free\/
  (names.map λ(n,k)=>if (k==NameKind.free && env.scope.kind==.function && env.kindOf n==some .cell) then (n,NameKind.cell) else (n,k)).lookup x=some .cell
 | [],_,h=>by cases h
 | (n,k0)::r,x,h=>by
  rw [qal]
  dsimp only
  rw [qbz] at h
  by_cases hc:(k0==NameKind.free && env.scope.kind==.function && env.kindOf n==some .cell)=true
  ·rw [if_pos hc,qbz]
   cases hx:x==n with
   | true=>exact .inr rfl
   | false=>rw [hx] at h;exact gt h
  ·rw [if_neg hc,qbz]
   cases hx:x==n with
   | true=>rw [hx] at h;exact .inl h
   | false=>rw [hx] at h;exact gt h
theorem jp {M:Model}{A:Around}{E:Value->Shared->Prop}{s:Shared}{scope:Scope}{env:Env}{cl:List (Str×Addr)}{Q:Env->Shared->Prop}
  (hQ:Q (newEnv scope s.heap.objs.size env.globals (cellsFrom (s.heap.objs.size+1) scope.names cl) env.qual none .none (some env) builtinsNs)
    { s with heap:=pushCells (s.heap.push { cls:=.type "dict",data:=.dict #[] }) scope.names }) :
  wpAny M A (newFunctionEnv scope env.globals cl [] env.qual none .none (some env)) Q E s:=by
 simp only [newFunctionEnv,Option.isSome_some,if_true]
 refine qaa (wpAny_alloc ?_)
 refine qaa (wpAny_layCells _ (λname kind cells=>by cases hkc:kind==NameKind.cell<;>simp [hkc]) _ _ _ _ ?_)
 rw [show ({ s with heap:=s.heap.push { cls:=.type "dict",data:=.dict #[] } }:Shared).heap.objs.size=s.heap.objs.size+1 from qbc ..]
 refine qaa ?_
 rw [qdE]
 exact qag (qag hQ)
theorem d9 {prog:Program}{w:World}{A:Around}{R:Result->Shared->Prop}{s:Shared}{elt target iter:Expr}{ifs:List Expr}{scope:Scope}{pos:Pos}{it acc:Value}{env:Env} (I:Nat->Shared->Prop)
  (turn:∀ n s,I n s->wpAny (model prog w) A (pyNext it) (λr s₁=>match r with
    | none=>R (.ok .next) s₁
    | some v=>wpAny (model prog w) A (letOwnedTupleGo target it v) (λ_ s₁'=>wpAny (model prog w) A (assign target env v) (λ_ s₂=>
      wpAny (model prog w) A (forIn ifs true λc r=>if r=true then do let ok <-isTrue c env (eval c env);pure (ForInStep.yield ok) else pure (ForInStep.yield r)) (λok s₃=>
       if ok=true then wpAny (model prog w) A (eval elt env) (λx s₄=>
        wpAny (model prog w) A (call (.builtin "list.append") [acc,x]) (λ_ s₅=>∃ m,m < n/\I m s₅) (λ_ _=>False) s₄) (λ_ _=>False) s₃
       else ∃ m,m < n/\I m s₃) (λ_ _=>False) s₂) (λ_ _=>False) s₁') (λ_ _=>False) s₁) (λ_ _=>False) s)
  (n:Nat) (h:I n s) :
  codeAny (model prog w) A (.compLoop (.ListComp elt [⟨target,iter,ifs,0⟩] scope pos) 0 it acc env) R s:=by
 refine codeAny_loop rfl I (λn s hI=>?_) n h
 show wpAny _ A ((compTurn (.ListComp elt [⟨target,iter,ifs,0⟩] scope pos) 0 it acc env).onRaise (λx=>do noteFrame x env;theTreesLotGoes x)) _ _ s
 refine wpAny_noted ?_
 rw [compTurn_list]
 refine qaa (qdr (qaa (qcw (turn n s hI) (λr s₁ h₁=>?_) λ_ _ h'=>h'.elim)))
 cases r with
 | none=>exact qag h₁
 | some v=>
  refine qaa (qcw h₁ (λ_ s₁' h₁'=>?_) λ_ _ h'=>h'.elim)
  refine qaa (qcw h₁' (λ_ s₂ h₂=>qaa (qcw h₂ (λok s₃ h₃=>?_) λ_ _ h'=>h'.elim)) λ_ _ h'=>h'.elim)
  cases ok with
  | false=>exact qag ⟨rfl,h₃⟩
  | true=>
   exact qaa (qaa (qcw h₃ (λx s₄ h₄=>qaa (qcw h₄ (λ_ s₅ h₅=>qag (qag ⟨rfl,h₅⟩)) λ_ _ h'=>h'.elim)) λ_ _ h'=>h'.elim))
noncomputable def lcX (X:Cx) (scope:Scope) (cells:List (Str×Addr)) (Nc:List Str) (s:Shared) (H:Hp) (C:Addr) (fp:List Addr):Cx where
 prog:=X.prog
 w:=X.w
 K:=X.K
 mg:=X.mg
 base:=X.base
 A:=X.A
 N:=Nc
 s₀:=s
 H₀:=H
 env:=compEnvC scope cells C X.env
 outer:=X.stack
 stack:=X.stack
 ex:=fp
 fn:=λx=>scope.names.lookup x==some .cell
 calm:=X.calm
 pn:=[]
 xe:=λ_ _=>False
structure fD (X:Cx) (scope:Scope) (Nc:List Str) (emb:St->St):Prop where
 kind:scope.kind=.function
 nd:(scope.names.map (·.1)).Nodup
 nN:Nc.Nodup
 free:∀ x ∈ scope.names,x.2=.free->X.env.kindOf x.1=some .cell\/X.env.kindOf x.1=some .free
 len:∀ σ:St,σ.length=X.N.length->(emb σ).length=Nc.length
 emb:∀ σ:St,σ.length=X.N.length->∀ (i:Nat) (x:Str) (v:V),Nc[i]?=some x->(emb σ)[i]?=some (some v)->∃ j:Nat,X.N[j]?=some x/\σ[j]?=some (some v)/\scope.names.lookup x=some .free
section
variable {X:Cx}{pins:List (Addr×Obj)}{σ:St}{H:Hp}{s:Shared}{scope:Scope}{Nc:List Str}{emb:St->St}
theorem fD.clos (S:fD X scope Nc emb) (ok:X.Ok):∀ x ∈ scope.names,x.2=.free->∃ c,X.env.cells.lookup x.1=some c:=λx hx h=>ok.has x.1 (S.free x hx h)
theorem qu (S:fD X scope Nc emb) (I:Inv X pins σ H s) {fp:List Addr} (hf:∀ b ∈ fp,iB X pins H b) (hfo:∀ b ∈ fp,∃ o,s.heap.get? b=some o) {lo:Obj} (hlo:∀ v,lo.data≠.cell v) (hfr:lo.isFreed=false) :
  Inv (lcX X scope (cellsFrom (s.heap.objs.size+2) scope.names (ca X.env.cells scope.names [])) Nc s H (s.heap.objs.size+1) fp) [(s.heap.objs.size,lo)] (emb σ) H
   { s with heap:=pushCells ((s.heap.push lo).push { cls:=.type "dict",data:=.dict #[] }) scope.names }:=by
 have hsz2:((s.heap.push lo).push { cls:=.type "dict",data:=.dict #[] }).objs.size=s.heap.objs.size+2:=by rw [qbc,qbc]
 have hsz1:(s.heap.push lo).objs.size=s.heap.objs.size+1:=by rw [qbc]
 have hk:∀ b o,s.heap.get? b=some o->(pushCells ((s.heap.push lo).push { cls:=.type "dict",data:=.dict #[] }) scope.names).get? b=some o:=λb o e=>
  qcu _ _ b o (qae _ (qae _ e))
 have has:=S.clos I.ok
 have cl_old:∀ {x:Str}{c:Addr},(ca X.env.cells scope.names []).lookup x=some c->X.env.cells.lookup x=some c/\(x,NameKind.free) ∈ scope.names:=λ{x c} h=>by
  rcases fQ _ _ h with q | ⟨q1,q2⟩
  ·cases q
  ·obtain⟨c',hc'⟩:=has _ q1 rfl
   have hc'':X.env.cells.lookup x=some c':=hc'
   rw [hc''] at q2
   exact⟨by rw [hc'',q2];rfl,q1⟩
 have cells_cases:∀ {x:Str}{c:Addr},(cellsFrom (s.heap.objs.size+2) scope.names (ca X.env.cells scope.names [])).lookup x=some c->
   (X.env.cells.lookup x=some c/\(x,NameKind.free) ∈ scope.names)\/((x,NameKind.cell) ∈ scope.names/\s.heap.objs.size+2<=c):=λ{x c} h=>by
  rcases dN _ _ _ h with q | q
  ·exact .inl (cl_old q)
  ·exact .inr q
 have oldlt:∀ {x:Str}{c:Addr},X.env.cells.lookup x=some c->c < s.heap.objs.size:=λ{x c} h=>by
  obtain⟨v,z⟩:=I.cell x c h
  exact z.lt
 have fplt:∀ b ∈ fp,b < s.heap.objs.size:=λb hb=>by obtain⟨o,e⟩:=hfo b hb;exact qao e
 have accmem:∀ p ∈ ca X.env.cells scope.names [],∃ x,X.env.cells.lookup x=some p.2:=by
  have key:∀ (names:List (Str×NameKind)) (acc:List (Str×Addr)),(∀ x ∈ names,x.2=.free->∃ c,X.env.cells.lookup x.1=some c)->(∀ p ∈ acc,∃ x,X.env.cells.lookup x=some p.2)->∀ p ∈ ca X.env.cells names acc,∃ x,X.env.cells.lookup x=some p.2:=by
   intro names
   induction names with
   | nil=>intro acc _ h;exact h
   | cons z r ih=>
    intro acc hn h
    obtain⟨m,k⟩:=z
    unfold ca
    by_cases hk:(k==.free)=true
    ·rw [if_pos hk]
     refine ih _ (λx hx=>hn x (qah _ hx)) λp hp=>?_
     rcases qaF.mp hp with e | hp
     ·obtain⟨c,hc⟩:=hn _ qai (beq_iff_eq.mp hk)
      have hc':X.env.cells.lookup m=some c:=hc
      exact⟨m,by rw [e,hc'];rfl⟩
     ·exact h p hp
    ·rw [if_neg hk]
     exact ih _ (λx hx=>hn x (qah _ hx)) h
  exact key _ _ has λp hp=>nomatch hp
 refine⟨⟨I.ok.mod,S.kind,I.ok.glob,I.ok.blt,qcB _,λx y c h1 h2=>?_,λx hx=>?_,λx c hx h=>?_,I.ok.hd,I.ok.frames,.inl rfl,λb hb=>?_,I.bs,qaX I.ok.bsz I.sz,λb o e hb=>?_,λb hb=>?_,I.stack,I.stkFree⟩,
  rfl,I.bare,Un.kept hk,⟨_,(Heap.Ns.new (s.heap.push lo) (.type "dict")).keeps (qcu _ _) |> λq=>by rw [hsz1] at q;exact q,λi x v h1 h2 _=>?_⟩,λx c h=>?_,I.hok.fresh (qcB _),λx c h=>?_,λp hp=>?_,I.hok.kept hk,S.len σ I.len⟩
 ·-- inj
  have h1':(cellsFrom (s.heap.objs.size+2) scope.names (ca X.env.cells scope.names [])).lookup x=some c:=h1
  have h2':(cellsFrom (s.heap.objs.size+2) scope.names (ca X.env.cells scope.names [])).lookup y=some c:=h2
  rcases cells_cases h1' with⟨q1,_⟩ | ⟨_,q1⟩
  ·rcases cells_cases h2' with⟨q2,_⟩ | ⟨_,q2⟩
   ·exact I.ok.inj x y c q1 q2
   ·exact absurd (qaH (qaO (qaO (oldlt q1))) q2) (qbA _)
  ·refine mJ scope.names _ _ (λp hp=>?_) h1' h2' q1
   obtain⟨z,hz⟩:=accmem p hp
   exact qaO (qaO (oldlt hz))
 ·-- has
  have hx':(relabel scope X.env).names.lookup x=some .cell\/(relabel scope X.env).names.lookup x=some .free:=hx
  have:∃ k0,scope.names.lookup x=some k0/\(k0=.cell\/k0=.free):=by
   rcases hx' with q | q
   ·obtain⟨k0,h1,h2⟩:=dA q
    exact⟨k0,h1,h2.elim (λe=>.inl e.symm) λe=>.inr e.1⟩
   ·obtain⟨k0,h1,h2⟩:=dA q
    exact⟨k0,h1,h2.elim (λe=>.inr e.symm) λe=>by cases e.2⟩
  obtain⟨k0,h1,h2⟩:=this
  refine qcy.mp (qcH scope.names _ _ ?_)
  rcases h2 with rfl | rfl
  ·exact .inl h1
  ·exact .inr (fG _ _ (.inl (qbi h1)))
 ·-- cab
  have hx':scope.names.lookup x=some .cell:=beq_iff_eq.mp hx
  rcases cells_cases h with⟨_,q⟩ | ⟨_,q⟩
  ·have:=eE S.nd q
   rw [hx'] at this;cases this
  ·exact qaX (qcz _ 2) q
 ·-- exf
  refine⟨qaw (qaO (fplt b hb)),λx c h=>?_⟩
  rcases cells_cases h with⟨q,_⟩ | ⟨_,q⟩
  ·exact (hf b hb).2.2.2.2.1 x c q
  ·intro e
   exact absurd (qaH (qaO (qaO (fplt b hb))) (e ▸ q)) (qbA _)
 ·-- noex
  have hb':b ∈ fp:=hb
  rcases (hf b hb').2.2.2.1 with q | q
  ·exact I.ok.noex b o e q
  ·exact absurd (qaH (qao (I.ok.bs b o e).1) q) (qbA _)
 ·-- exfs
  intro hb2
  rcases qaF.mp (I.stkSub b hb2) with q | q
  ·exact (hf b hb).2.1 q
  ·exact (hf b hb).2.2.1 q
 ·-- loc
  obtain⟨j,e1,e2,e3⟩:=S.emb σ I.len i x v h1 h2
  have kx:=S.free (x,.free) (qbi e3) rfl
  have kx':X.env.kindOf x=some .cell\/X.env.kindOf x=some .free:=kx
  obtain⟨m,hn,hl⟩:=I.loc
  obtain⟨u,ru,lk⟩:=hl j x v e1 e2 (.inr kx')
  refine⟨u,ru,.inr ⟨?_,?_⟩⟩
  ·rcases gt (env:=X.env) e3 with q | q
   ·exact .inr q
   ·exact .inl q
  ·rcases lk with⟨z,_⟩ | ⟨_,c,hc,hcell⟩
   ·rcases kx' with q | q<;>(rw [z] at q;cases q)
   ·obtain⟨c',hc'⟩:=qcy.mp (qcH scope.names (s.heap.objs.size+2) (ca X.env.cells scope.names []) (x:=x) (.inr (fG _ _ (.inl (qbi e3)))))
    rcases cells_cases hc' with⟨q,_⟩ | ⟨q,_⟩
    ·rw [hc] at q
     cases q
     exact⟨c,hc',hcell.keeps hk⟩
    ·have:=eE S.nd q
     rw [e3] at this;cases this
 ·-- cell
  have h':(cellsFrom (s.heap.objs.size+2) scope.names (ca X.env.cells scope.names [])).lookup x=some c:=h
  have:=el scope.names ((s.heap.push lo).push { cls:=.type "dict",data:=.dict #[] }) (ca X.env.cells scope.names []) (λp hp=>by
   obtain⟨z,hz⟩:=accmem p hp
   obtain⟨v,q⟩:=I.cell z p.2 hz
   exact⟨v,q.keeps λb o e=>qae _ (qae _ e)⟩) (x,c) (by rw [hsz2];exact qbi h')
  exact this
 ·-- freeC
  rcases cells_cases h with⟨q,_⟩ | ⟨_,q⟩
  ·exact I.freeC x c q
  ·exact I.hok.fresh (qaX (qcz _ 2) q)
 ·-- pin
  have hp':p=(s.heap.objs.size,lo):=by
   have:p ∈ ([]:List (Addr×Obj))++[(s.heap.objs.size,lo)]:=hp
   simpa using this
  subst hp'
  refine⟨qcu _ _ _ _ (qae _ (qav _ hfr)),I.hok.fresh (qaq _),qaw (qb2 _),λhb=>?_,hlo⟩
  rcases qaF.mp (I.stkSub _ hb) with q | q
  ·exact absurd I.lt (by rw [<-q];exact qbA _)
  ·exact I.nofs (qaq _) q
end
noncomputable def PTs (X:Cx) (ifs:List Expr) (t:TT):Prop:=
 ∀ (pins:List (Addr×Obj)) (s:Shared) (σ:St) (H:Hp) (Q:Bool->Hp->Prop),Inv X pins σ H s->t σ H Q->
  wpAny (model X.prog X.w) X.A (forIn ifs true λc r=>if r=true then do let ok <-isTrue c X.env (eval c X.env);pure (ForInStep.yield ok) else pure (ForInStep.yield r)) (TP X pins σ Q) X.xe s
noncomputable def Ca:TT:=λ_ H Q=>Q true H
theorem yD {X:Cx}:PTs X [] Ca:=λ_ _ _ H _ I h=>wpAny_tests_nil ⟨H,I,h⟩
theorem xH {X:Cx}{c:Expr}{t:TT} (hc:PT X c t):PTs X [c] t:=λpins s σ H Q I h=>wpAny_tests_one (hc pins s σ H Q I h)
noncomputable def Sub (σ σ':St):Prop:=σ.length=σ'.length/\∀ (i:Nat) (v:V),σ[i]?=some (some v)->σ'[i]?=some (some v)
noncomputable def Be (J:It) (σe:St) (g:TG) (tt:TT) (te:TE) (H1:Hp) (Q:VK):Prop:=∃ W:Nat->Nat->List V->Hp->Prop,(∃ m,W 0 m [] H1)/\∀ i m ys H,W i m ys H->
 (J.stop i H/\∀ D,H D=none->Q (.ref D) (upd H D (.lst ys)))\/
 (J.go i H/\ys.length < sizeLine/\∃ N:List V->Hp->Prop,(∀ ys' H',N ys' H'->∃ m',m' < m/\W (i+1) m' ys' H')/\∀ x H',J.yld i H x H'->g x σe H' λσ2 H2=>Sub σe σ2/\tt σ2 H2 λb H3=>if b=true then te σ2 H3 λv H4=>N (ys++[v]) H4 else N ys H3)
noncomputable def tLc (emb:St->St) (wi:TI) (g:TG) (tt:TT) (te:TE):TE:=λσ H Q=>wi σ H λJ H1=>Be J (emb σ) g tt te H1 Q
section
variable {X:Cx}{scope:Scope}{Nc:List Str}{emb:St->St}{elt iter tg:Expr}{ifs:List Expr}{pos:Pos}{wi:TI}{g:TG}{tt:TT}{te:TE}
theorem BX (S:fD X scope Nc emb) (hc:X.calm=true) (hi:PI X tg iter wi)
  (hg:∀ cells s H C fp,PG (lcX X scope cells Nc s H C fp) tg g) (ht:∀ cells s H C fp,PTs (lcX X scope cells Nc s H C fp) ifs tt) (he:∀ cells s H C fp,PE (lcX X scope cells Nc s H C fp) elt te)
  (hs:∀ x,foldedSetIterable iter X.env x=pure x:=by intro _;rfl):PE X (.ListComp elt [⟨tg,iter,ifs,0⟩] scope pos) (tLc emb wi g tt te):=by
 intro pins s σ H Q I h
 rw [eval_ListComp]
 refine qeW (use:=none) rfl hs (iH (S.clos I.ok)) S.kind (λx hx hl=>eE S.nd (by rw [<-hl];exact hx)) ?_
 refine thn (hi pins s σ H _ I h) λv s1 h1=>thn h1 λitv s2 h2=>?_
 obtain⟨it,fp,tn,J,H2,e,I2,T,st2,f2,W,⟨m0,w0⟩,turn⟩:=h2
 subst e
 refine qbo (jp ?_)
 rw [show (s2.heap.push { cls:=.type "list",dict:=none,data:=.seq ([]:List Value).toArray }).objs.size=s2.heap.objs.size+1 from qbc ..]
 generalize hD:s2.heap.objs.size=D
 generalize hlo:({ cls:=.type "list",dict:=none,data:=.seq ([]:List Value).toArray }:Obj)=lo
 have fplt:∀ b ∈ fp,b < s2.heap.objs.size:=λb hb=>by obtain⟨o,e,_⟩:=T.obj _ _ st2 b hb;exact qao e
 have I3:=qu (lo:=lo) S I2 f2 (λb hb=>by obtain⟨o,e,_⟩:=T.obj _ _ st2 b hb;exact⟨o,e⟩) (by rw [<-hlo];intro v z;cases z) (by rw [<-hlo];rfl)
 rw [hD] at I3
 generalize hcells:cellsFrom (D+2) scope.names (ca X.env.cells scope.names [])=cells at I3
 generalize hX':lcX X scope cells Nc s2 H2 (D+1) fp=X' at I3
 have hfpX:∀ {H':Hp}{ps:List (Addr×Obj)},(∀ b ∈ fp,H' b=none)->(∀ p ∈ ps,p.1=D)->∀ b ∈ fp,iB X' ps H' b:=λ{H' ps} hn hps b hb=>by
  have ok:=I3.ok
  refine⟨hn b hb,?_,?_,.inl (by rw [<-hX'];exact hb),?_,λp hp=>?_⟩
  ·exact (ok.exf b (by rw [<-hX'];exact hb)).1
  ·exact ok.exfs b (by rw [<-hX'];exact hb)
  ·exact (ok.exf b (by rw [<-hX'];exact hb)).2
  ·have hp':p ∈ ([]:List (Addr×Obj))++ps:=by rw [<-hX'] at hp;exact hp
   have e:p.1=D:=hps p (by simpa using hp')
   rw [e,<-hD]
   exact qb4 (fplt b hb)
 have Dex:D ∈ X'.ex\/X'.s₀.heap.objs.size<=D:=.inr (by rw [<-hX',<-hD];exact qaq _)
 have Dloc:D≠X'.env.locals:=by rw [<-hX'];exact qaw (qb2 _)
 have pD:=I3.pin (D,lo) (by rw [<-hX'];exact qau _ qai)
 have Dfs:D ∉ X'.fs:=pD.2.2.2.1
 have Dcell:∀ x c,X'.env.cells.lookup x=some c->c≠D:=λx c hc' e=>by
  obtain⟨v,o,ho,hd⟩:=I3.cell x c hc'
  rw [e,pD.1] at ho
  cases ho
  exact pD.2.2.2.2 v hd
 -- the loop
 have loop:∀ s3:Shared,s3={ s2 with heap:=pushCells ((s2.heap.push lo).push { cls:=.type "dict",data:=.dict #[] }) scope.names }->
   codeAny (model X.prog X.w) X.A (.compLoop (.ListComp elt [⟨tg,iter,ifs,0⟩] scope pos) 0 (.ref it) (.ref D) (compEnvC scope cells (D+1) X.env))
    (compPost (model X.prog X.w) X.A X.xe none (EP X pins σ Q) (.ref D) (D+1)) s3:=by
  rintro s3 rfl
  refine d9 (λn s'=>∃ i ys its k H',Inv X' [(D,{ cls:=.type "list",data:=.seq its.toArray k })] (emb σ) H' s'/\aN ys its/\tn i s'.heap/\(∀ b ∈ fp,H' b=none)/\ys.length<=sizeLine/\W i n ys H') ?_ m0
   ⟨0,[],[],0,H2,?_,.nil,?_,λb hb=>(f2 b hb).1,qaZ _,w0⟩
  ·rintro n s4 ⟨i,ys,its,k,H4,I4,rv,st4,fr4,hlen,w4⟩
   have hps:∀ p ∈ [(D,({ cls:=.type "list",data:=.seq its.toArray k }:Obj))],p.1=D:=λp hp=>by
    have:=qaz.mp hp
    rw [this]
   rcases turn i n ys H4 w4 with⟨stop,qn⟩ | ⟨go,hlt,N,hN,step⟩
   ·-- the end
    have TD:=T.done X' (by rw [<-hX'];rfl) (by rw [<-hX'];rfl) (by rw [<-hX'];rfl) (by rw [<-hX'];exact hc) i _ s4 (emb σ) H4 (λ_ _=>False) I4 (hfpX fr4 hps) st4 stop
    rw [show X'.A=X.A by rw [<-hX'];rfl] at TD
    refine thn TD λr s5 ⟨hr,I5⟩=>?_
    subst hr
    obtain⟨m5,hn5,_⟩:=id I5.loc
    have eC:X'.env.locals=D+1:=by rw [<-hX'];rfl
    rw [eC] at hn5
    refine⟨m5,hn5,λh' hsb=>?_⟩
    have pD5:=I5.pin (D,{ cls:=.type "list",data:=.seq its.toArray k }) (by rw [<-hX'];exact qau _ qai)
    have neC:∀ b u,H4 b=some u->b≠D+1:=λb u e z=>by
     have:=I5.free
     rw [eC,<-z,e] at this
     cases this
    have hD4:H4 D=none:=pD5.2.1
    have un:=I5.base
    have un':Un (frs X.stack) fp H2 H4 s2.heap s5.heap:=by rw [<-hX'] at un;exact un
    have old_ne:∀ b o,s2.heap.get? b=some o->b≠D/\b≠D+1:=λb o e=>by
     have q:=qao e
     rw [hD] at q
     exact⟨qaw q,qaw (qaO q)⟩
    have h2D:H2 D=none:=by rw [<-hD];exact I2.fresh
    have hok':HOk X.prog X.w H4 h':=λb u e=>by
     have ob:cL X.prog X.w H4 s5.heap b u:=by have:=I5.hok b u e;rw [<-hX'] at this;exact this
     refine ob.stay (λc v hcv q=>(hsb.2 c ?_).trans q) (λ_ q=>q) λ_ _ q=>q
     rcases hcv with z | z
     ·rw [z];exact neC b u e
     ·exact neC c _ z
    have hokD:HOk X.prog X.w (upd H4 D (.lst ys)) h':=λb u e=>by
     by_cases hb:b=D
     ·subst hb
      rw [bm] at e
      cases e
      exact⟨hlen,its,k,rv,(hsb.2 b (qaw (qb2 _))).trans pD5.1⟩
     ·rw [aK hb] at e
      refine (hok' b u e).stay (λ_ _ _ q=>q) (λc q=>?_) λc z q=>?_
      all_goals first
       | (rw [aK (aL q hD4)];exact q)
       | (rw [aK (aL z hD4)];exact z)
    refine⟨.ref D,upd H4 D (.lst ys),?_,rfl,qn D hD4⟩
    refine I2.call' (s':={ s5 with heap:=h' }) (ch:=fp) ?_ ⟨λb o e nb hb hx=>?_,λb o e nb hb hx=>?_,λb o e nb hx=>?_,λb o e hx=>?_,λb xs e=>?_,λb o u e=>?_,λb ps e=>?_⟩ hokD I5.bare (λb hb=>?_)
    ·have:=I5.os
     rw [<-hX'] at this
     exact this
    ·exact (hsb.2 b (old_ne b o e).2).trans (un'.keep b o e nb hb hx)
    ·obtain⟨sl,q⟩:=un'.slot b o e nb hb hx
     exact⟨sl,(hsb.2 b (old_ne b o e).2).trans q⟩
    ·rw [aK (old_ne b o e).1]
     exact un'.free b o e nb hx
    ·obtain⟨o',q⟩:=un'.there b o e hx
     exact⟨o',(hsb.2 b (old_ne b o e).2).trans q⟩
    ·rw [aK (aL e h2D)]
     exact un'.tups b xs e
    ·rw [aK (aL e h2D)]
     exact un'.frzs b o u e
    ·obtain⟨m,q⟩:=un'.tbls b ps e
     exact⟨m,by rw [aK (aL e h2D)];exact q⟩
    ·obtain⟨q0,q1,q2,q3,q4,q5⟩:=f2 b hb
     exact⟨q3,q1,q4,q5⟩
   ·-- a turn
    have hA:X'.A=X.A:=by rw [<-hX'];rfl
    have hP:X'.prog=X.prog:=by rw [<-hX'];rfl
    have hw:X'.w=X.w:=by rw [<-hX'];rfl
    have hE:X'.env=compEnvC scope cells (D+1) X.env:=by rw [<-hX'];rfl
    have hxe:X'.xe=λ_ _=>False:=by rw [<-hX'];rfl
    have TI':=T.item X' hP hw (by rw [<-hX'];rfl) (by rw [<-hX'];exact hc) i _ s4 (emb σ) H4 (λ_ _=>False) I4 (hfpX fr4 hps) st4 go
    rw [hA] at TI'
    refine thn TI' λr s5 ⟨u,hr,h5⟩=>?_
    subst hr
    refine thn h5 λ_ s6 ⟨x,H6,I6,r6,y6,st6,fr6⟩=>?_
    have I6':=I6.pinned (hfpX fr6 hps) (T.obj _ _ st6)
    have G:=hg cells s2 H2 (D+1) fp
    have TT':=ht cells s2 H2 (D+1) fp
    have EE:=he cells s2 H2 (D+1) fp
    rw [hX'] at G TT' EE
    have G':=G _ s6 (emb σ) H6 x u _ I6' r6 (step x H6 y6)
    rw [hA,hP,hw,hE,hxe] at G'
    refine thn G' λ_ s7 ⟨σ7,H7,I7,sb7,q7⟩=>?_
    have T':=TT' _ s7 σ7 H7 _ I7 q7
    rw [hA,hP,hw,hE,hxe] at T'
    refine thn T' λok s8 ⟨H8,I8,q8⟩=>?_
    -- what is pinned
    have pin_fp:∀ {σ9:St}{H9:Hp}{s9:Shared},Inv X' ([(D,({ cls:=.type "list",data:=.seq its.toArray k }:Obj))]++jT fp s6.heap) σ9 H9 s9->tn (i+1) s9.heap/\∀ b ∈ fp,H9 b=none:=λ{σ9 H9 s9} I9=>
     ⟨T.keep _ _ _ st6 λb hb o e=>(I9.pin (b,o) (qau _ (qau _ (dj hb e)))).1,λb hb=>by
      obtain⟨o,e,_⟩:=T.obj _ _ st6 b hb
      exact (I9.pin (b,o) (qau _ (qau _ (dj hb e)))).2.1⟩
    cases ok with
    | false=>
     rw [if_neg (by decide)] at q8
     rw [if_neg (by decide)]
     obtain⟨m',hm,w8⟩:=hN _ _ q8
     exact⟨m',hm,i+1,ys,its,k,H8,I8.unpinned.weak sb7.1 sb7.2,rv,(pin_fp I8).1,(pin_fp I8).2,hlen,w8⟩
    | true=>
     rw [if_pos rfl] at q8
     rw [if_pos rfl]
     have E':=EE _ s8 σ7 H8 _ I8 q8
     rw [hA,hP,hw,hE,hxe] at E'
     refine thn E' λy s9 ⟨v9,H9,I9,r9,n9⟩=>?_
     obtain⟨m',hm,w9⟩:=hN _ _ n9
     have pD9:=I9.pin (D,{ cls:=.type "list",data:=.seq its.toArray k }) (qau _ (qbH _ qai))
     have hl:=rv.length
     have I9n:Inv X' [] σ7 H9 s9:=I9.pins_of λp hp=>nomatch hp
     refine qcL qd3 ⟨_,pD9.1,rfl⟩ qdZ (qdO _ _) (qdW D its.toArray k y (by rw [qax];lia)) ⟨pD9.1,?_⟩
     have up:∃ k':Nat,(s9.heap.update D (Obj.mapSeq λxs=>xs.push y)).get? D=some { cls:=.type "list",data:=.seq (its++[y]).toArray k' }:=by
      have q:=qdM pD9.1 (λxs:Array Value=>xs.push y)
      simp only [qfh] at q
      exact⟨_,q⟩
     obtain⟨k',up⟩:=up
     have hoth:∀ b o,b≠D->s9.heap.get? b=some o->(s9.heap.update D (Obj.mapSeq λxs=>xs.push y)).get? b=some o:=λb o hb e=>(qar s9.heap _ (qbI hb)).trans e
     have I10:=I9n.turned (t':=s9.toks) hoth pD9.2.1 Dloc Dex Dcell (λp hp=>absurd (show p ∈ ([]:List (Addr×Obj)) by rw [<-hX'] at hp;exact hp) (by simp))
     refine⟨m',hm,i+1,ys++[v9],its++[y],k',H9,(I10.weak sb7.1 sb7.2).pins_of (λp hp=>?_),rv.append (.cons r9 .nil),T.keep _ _ _ (pin_fp I9).1 (λb hb o e=>hoth b o (by rw [<-hD];exact qaw (fplt b hb)) e),(pin_fp I9).2,?_,w9⟩
     ·have:=qaz.mp hp
      subst this
      exact⟨up,pD9.2.1,Dloc,Dfs,λv z=>by cases z⟩
     ·rw [qaV,qcW]
      lia
  ·have q:lo={ cls:=.type "list",data:=.seq ([]:List Value).toArray 0 }:=hlo.symm
   rw [<-q]
   exact I3
  ·exact T.keep _ _ _ st2 λb hb o e=>qcu _ _ b o (qae _ (qae _ e))
 refine qfd ?_ ?_
 ·exact loop _ rfl
 ·refine T.self X.A 0 _ _ _ (T.keep _ _ _ st2 λb hb o e=>qcu _ _ b o (qae _ (qae _ e))) ?_
  exact loop _ rfl
end
end L2
namespace L2
open PySem PySem.Spec PyProof.Rows
open PySem.AutoSeq1 (wpAny_loadPart')
section
variable {prog:Program}{w:World}{A:Around}{E:Value->Shared->Prop}{s:Shared}
theorem fE {it l:Addr}{i:Nat}{items}{x:Value}{Q:Value->Shared->Prop} (hit:s.heap.IsTupleIter it l i)
  (hl:s.heap.IsTuple l items) (hx:items[i]?=some x)
  (hQ:∀ h',h'.IsTupleIter it l (i+1)->Heap.SameBut it s.heap h'->Q x { s with heap:=h' }) :
  wpAny (model prog w) A (Builtin.SmallTypes.nextOf (.ref it)) Q E s:=by
 obtain⟨o,ho,hc,hd⟩:=id hit
 obtain⟨ol,hol,_,nl,hdl⟩:=hl
 unfold Builtin.SmallTypes.nextOf
 refine qaa (qbX (name:=Str.ofString "__next__") hit.typeIs qcv
  (qcm qcv hit.typeIs qeF ?_ (qex _)))
 show wpAny _ _ (field (.ref it) 0 >>= _) _ _ s
 refine qaa (qbO ho hd (x:=.ref l) rfl ?_)
 show wpAny _ _ (if (Value.ref l==Value.none)=true then _ else _) _ _ s
 rw [if_neg (show ¬ ((Value.ref l==Value.none)=true) from qaB)]
 show wpAny _ _ (field (.ref it) 1 >>= _) _ _ s
 refine qaa (qbO ho hd (x:=.int i 0) rfl ?_)
 show wpAny _ _ (seqItems? (.ref l) >>= _) _ _ s
 refine qaa (qbd hol hdl ?_)
 simp only [qat,hx]
 refine qaa (qg1 ho hd (by simp) (qag ⟨x,rfl,qag (hQ _ ?_ (qel ..))⟩))
 exact⟨_,qbD _ ho (Obj.isFreed_of_fields (qff hd _)),(Obj.cls_mapFields ..).trans hc,by
  rw [qff hd];simp [rawInt]⟩
theorem gg {it l:Addr}{i:Nat}{items}{Q:Value->Shared->Prop} (hh:A.handled=none)
  (hit:s.heap.IsTupleIter it l i) (hl:s.heap.IsTuple l items) (hx:items[i]?=none)
  (hE:∀ h' e,Heap.ExtBut it s.heap h'->(∃ o,h'.get? e=some o/\o.cls=.type "StopIteration")->E (.ref e) { s with heap:=h' }) :
  wpAny (model prog w) A (Builtin.SmallTypes.nextOf (.ref it)) Q E s:=by
 obtain⟨o,ho,hc,hd⟩:=id hit
 obtain⟨ol,hol,_,nl,hdl⟩:=hl
 unfold Builtin.SmallTypes.nextOf
 refine qaa (qbX (name:=Str.ofString "__next__") hit.typeIs qcv
  (qcm qcv hit.typeIs qeF ?_ (qex _)))
 show wpAny _ _ (field (.ref it) 0 >>= _) _ _ s
 refine qaa (qbO ho hd (x:=.ref l) rfl ?_)
 show wpAny _ _ (if (Value.ref l==Value.none)=true then _ else _) _ _ s
 rw [if_neg (show ¬ ((Value.ref l==Value.none)=true) from qaB)]
 show wpAny _ _ (field (.ref it) 1 >>= _) _ _ s
 refine qaa (qbO ho hd (x:=.int i 0) rfl ?_)
 show wpAny _ _ (seqItems? (.ref l) >>= _) _ _ s
 refine qaa (qbd hol hdl ?_)
 simp only [qat,hx]
 refine qaa (qb8 (qaa (qg1 ho hd (by simp) ?_)))
 show wpAny _ _ (newExc (.type "StopIteration") [] >>= _) _ _ _
 refine qaa ?_
 simp only [newExc,newTuple]
 refine qaa (qbo ?_ (by size_fits))
 refine qaa (m:=firstArgMember _ _) (qdt (a:=Value.none) (by first | rfl | (simp only [firstArgMember];rfl)) ?_)
 refine qbo ?_ (by size_fits)
 simp only [raiseNew]
 refine qaa (wpAny_handled ?_)
 first | rw [show A.in1.handled=none from hh] | rw [hh]
 refine qaa (qag (wpAny_throw ?_))
 exact hE _ _ (((qel ..).extBut.push _).push _) ⟨_,qav _ rfl,rfl⟩
theorem ik (hh:A.handled=none) (it l:Addr) (hne:l≠it) (items:Array Value) :
  Draws prog w A it [it,l] items.size (λi v=>items[i]?=some v) (λi h=>h.IsTupleIter it l i/\h.IsTuple l items) where
 live:=λ_ _ st=>let ⟨o,ho,_⟩:=st.1;⟨o,ho⟩
 frame:=λ_ _ _ st hk=>⟨st.1.at λo e=>hk it (by simp) o e,by
  obtain⟨o,e,r⟩:=st.2
  exact⟨o,hk l (by simp) o e,r⟩⟩
 item:=λi s Q E hi st hQ=>by
  refine fE st.1 st.2 (x:=items[i]) (by simp [hi]) λh' hit' hs'=>?_
  refine hQ _ h' s.toks (by simp [hi]) ⟨hit',?_⟩ hs'
  obtain⟨o,e,r⟩:=st.2
  exact⟨o,(hs'.2 l hne).trans e,r⟩
 done:=λs Q E st hE=>gg hh st.1 st.2 (by simp) hE
end
theorem hU (l:Addr) (items:Array Value) (n:Nat) (dct:Option Addr) (sl:Array (Option Value)) :
  Meets (Builtin.«enumerate.__new__» ⟨[.type "enumerate",.ref l],[]⟩) (λ_ R s=>s.heap.get? l=some { cls:=.type "tuple",dict:=dct,data:=.seq items n,slots:=sl }/\
   R (.ok (.ret (.ref (s.heap.push { cls:=.type "tuple_iterator",data:=.fields #[.ref l,.int 0 0] }).objs.size)))
    { s with heap:=(s.heap.push { cls:=.type "tuple_iterator",data:=.fields #[.ref l,.int 0 0] }).push { cls:=.type "enumerate",data:=.fields #[.none,.bool false,.ref s.heap.objs.size,rawInt 0,.none,.none] } }):=
 .of_wp λprog w A R s h=>by
  obtain⟨hp,g,d,tk,os⟩:=s;obtain⟨hl,h⟩:=h
  have hsub:=sub_enumerate
  have hL:Heap.IsTuple (Shared.heap ⟨hp,g,d,tk,os⟩) l items:=⟨_,hl,rfl,n,rfl⟩
  wp_walk using wpAny_loadPart' hl
  refine wpAny_stack_any λst=>qag ?_
  split
  ·rename_i c _ _ _ _ _
   cases (c==Value.type "enumerate")
   ·wp_walk using wpAny_loadPart' hl,qca hL
    exact⟨_,rfl,h⟩
   ·wp_walk using wpAny_loadPart' hl,qca hL
    exact⟨_,rfl,h⟩
  ·wp_walk using wpAny_loadPart' hl,qca hL
   exact⟨_,rfl,h⟩
theorem g6 {prog:Program}{w:World}{A:Around}{E:Value->Shared->Prop}{s:Shared}{l:Addr}{items:Array Value}{Q:Value->Shared->Prop} (hL:s.heap.IsTuple l items)
  (h:∀ h',IsEnum h' (s.heap.objs.size+1) s.heap.objs.size 0 .none->h'.IsTupleIter s.heap.objs.size l 0->h'.objs.size=s.heap.objs.size+2->
    (∀ b o,s.heap.get? b=some o->h'.get? b=some o)->Q (.ref (s.heap.objs.size+1)) { s with heap:=h' }) :
  wpAny (model prog w) A (call (.type "enumerate") [.ref l]) Q E s:=by
 obtain⟨⟨c,dct,dt,sl⟩,hl,hc,n,hd⟩:=hL
 replace hc:c=.type "tuple":=hc
 replace hd:dt=.seq items n:=hd
 subst hc hd
 refine callType_new F.called_enumerate (by decide) (F.typeCall_enumerate_1 _) (F.newCall_enumerate_1 _) (λobj=>F.args_object_init_2 obj _) F.entry_enumerate_new
  (hU l items n dct sl) ⟨hl,?_⟩
 have hz:(s.heap.push { cls:=.type "tuple_iterator",data:=.fields #[.ref l,.int 0 0] }).objs.size=s.heap.objs.size+1:=qbc ..
 show _/\_
 rw [hz]
 have he:IsEnum ((s.heap.push { cls:=.type "tuple_iterator",data:=.fields #[.ref l,.int 0 0] }).push
   { cls:=.type "enumerate",data:=.fields #[.none,.bool false,.ref s.heap.objs.size,rawInt 0,.none,.none] }) (s.heap.objs.size+1) s.heap.objs.size 0 .none:=by
  have:=qav (s.heap.push { cls:=.type "tuple_iterator",data:=.fields #[.ref l,.int 0 0] })
   (o:={ cls:=.type "enumerate",data:=.fields #[.none,.bool false,.ref s.heap.objs.size,rawInt 0,.none,.none] }) rfl
  rw [hz] at this;exact this
 refine⟨⟨_,he,rfl⟩,h _ he ⟨_,qae _ (qav _ rfl),rfl,rfl⟩ (by rw [qbc,hz]) λb o x=>qae _ (qae _ x)⟩
section
variable {X:Cx}{pins:List (Addr×Obj)}{σ:St}{H:Hp}{s:Shared}{h':Heap}{fp:List Addr}
theorem iB.ch (hf:∀ b ∈ fp,iB X pins H b):∀ b ∈ fp,(b ∈ X.ex\/X.s₀.heap.objs.size<=b)/\b≠X.env.locals/\(∀ x c,X.env.cells.lookup x=some c->c≠b)/\∀ p ∈ X.pn++pins,p.1≠b:=λb hb=>
 let ⟨_,f1,_,f3,f4,f5⟩:=hf b hb
 ⟨f3,f1,f4,f5⟩
theorem Inv.turns {t':Nat} (I:Inv X pins σ H s) (hf:∀ b ∈ fp,iB X pins H b) (k:∀ b o,b ∉ fp->s.heap.get? b=some o->h'.get? b=some o):Inv X pins σ H { s with heap:=h',toks:=t' }:=by
 have nit:∀ b u,H b=some u->b ∉ fp:=λb u e z=>by have:=(hf b z).1;rw [e] at this;cases this
 refine I.step (g':=s.gens) (d':=s.drawn) (ch:=fp) (iB.ch hf) (λb o _ _ hc e _=>k b o hc e) (λb o _ _ hc e _=>⟨o.slots,k b o hc e⟩) (λ_ _ _ _ n=>n)
  (λb o hc e=>⟨o,k b o hc e⟩) (λ_ _ e=>e) (λ_ _ _ e=>e) (λb ps e=>⟨#[],by rw [e];simp⟩) (λm hm=>?_) (λb u e=>?_) I.bare
 ·obtain⟨o,es,ep,ho,r⟩:=hm
  exact⟨o,es,ep,k _ o (λz=>(hf _ z).2.1 rfl) ho,r⟩
 ·refine (I.hok b u e).stay (λc v hc q=>k c v ?_ q) (λ_ q=>q) λ_ _ q=>q
  rcases hc with z | z
  ·rw [z];exact nit b u e
  ·exact nit c _ z
theorem Inv.turnsT {t':Nat}{T:Addr}{xs:List V}{its:Array Value} (I:Inv X pins σ H s) (hf:∀ b ∈ fp,iB X pins H b) (k:∀ b o,b ∉ fp->s.heap.get? b=some o->h'.get? b=some o)
  (hT:s.heap.objs.size<=T) (ht:dq h' T its) (rv:aN xs its.toList) (hz:xs.length<=sizeLine):Inv X pins σ (upd H T (.tup xs)) { s with heap:=h',toks:=t' }:=by
 have nit:∀ b u,H b=some u->b ∉ fp:=λb u e z=>by have:=(hf b z).1;rw [e] at this;cases this
 have hTn:H T=none:=I.hok.fresh hT
 have lt:∀ b o,s.heap.get? b=some o->b≠T:=λb o e=>qaw (qaH (qao e) hT)
 refine I.step (g':=s.gens) (d':=s.drawn) (ch:=fp) (iB.ch hf) (λb o _ _ hc e _=>k b o hc e) (λb o _ _ hc e _=>⟨o.slots,k b o hc e⟩) (λb o _ e n=>by rw [aK (lt b o e)];exact n)
  (λb o hc e=>⟨o,k b o hc e⟩) (λb _ e=>by rw [aK (aL e hTn)];exact e) (λb _ _ e=>by rw [aK (aL e hTn)];exact e) (λb ps e=>⟨#[],by rw [aK (aL e hTn),e];simp⟩) (λm hm=>?_) (λb u e=>?_) I.bare
 ·obtain⟨o,es,ep,ho,r⟩:=hm
  exact⟨o,es,ep,k _ o (λz=>(hf _ z).2.1 rfl) ho,r⟩
 ·by_cases hb:b=T
  ·subst hb
   rw [bm] at e
   cases e
   refine⟨hz,its.toList,rv,?_⟩
   show dq h' b its.toList.toArray
   simpa using ht
  ·rw [aK hb] at e
   refine (I.hok b u e).stay (λc v hc q=>k c v ?_ q) (λc q=>?_) λc z q=>?_
   ·rcases hc with z | z
    ·rw [z];exact nit b u e
    ·exact nit c _ z
   all_goals first
    | (rw [aK (aL q hTn)];exact q)
    | (rw [aK (aL z hTn)];exact z)
end
noncomputable def Ite (S:Hp->List V->Prop):It:=
 ⟨λi H=>∃ xs x,S H xs/\xs[i]?=some x,λi H x H'=>∃ T v,(∀ xs,S H xs->xs[i]?=some v)/\H T=none/\x=.ref T/\H'=upd H T (.tup [.int i,v]),λi H=>∃ xs,S H xs/\xs.length=i⟩
theorem rF {P:Program}{w:World}{K:PySem.W.Frag}{elts:List Expr}{k:Nat}{pos:Pos} (a it e:Addr) (hei:e≠it) (hae:a≠e) (hai:a≠it) :
  qJ P w K (.Tuple elts k pos) (Ite λH xs=>SqL K H a xs) [e,it] e (λi h=>(∃ old,IsEnum h e it i old)/\h.IsListIter it a i) where
 mem:=by simp
 obj:=λi h st b hb=>by
  rcases qaF.mp hb with rfl | hb
  ·obtain⟨⟨old,q⟩,_⟩:=st
   exact⟨_,q,λv z=>by cases z⟩
  ·rw [qaz.mp hb]
   obtain⟨_,o,e,c,d⟩:=st
   exact⟨o,e,λv z=>by rw [d] at z;cases z⟩
 keep:=λi h h' st kk=>⟨let ⟨old,q⟩:=st.1;⟨old,kk e (by simp) _ q⟩,st.2.at λo q=>kk it (by simp) o q⟩
 item:=by
  intro X hP hw hK hc i pins s σ H E I hf st hg
  subst hP hw hK
  obtain⟨xs,x,hq,hx⟩:=hg
  obtain⟨its,rv,p,hz⟩:=I.list hq
  obtain⟨u,hu,ru⟩:=rv.get hx
  have W:=qdQ (qgV (prog:=X.prog) (w:=X.w) (A:=X.A.in1) (I.ok.hd hc) it a hai its.toArray) e hei (by simp [hei,qbI hae]) (by simp)
  have hi:i < its.toArray.size:=by
   have:=(qan.mp hu).1
   simpa using this
  obtain⟨⟨ol,he0⟩,hit0⟩:=st
  refine qe0 (qgV (prog:=X.prog) (w:=X.w) (A:=X.A.in1) (I.ok.hd hc) it a hai its.toArray) he0 ⟨hit0,p.isList⟩ hi hei (by simp [hei,qbI hae]) λy h1 t hy ho hs' ht hsz hk=>⟨_,rfl,?_⟩
  have hm:(λ(i:Nat) (T:Addr) (h:Heap)=>(∃ x,IsEnumOut h e it ((i:Int)+1) x T)/\_/\T≠e/\T≠it) i s.heap.objs.size h1:=⟨⟨_,ho⟩,hs',qb4 (qao he0),qb4 (let ⟨_,q,_⟩:=hit0;qao q)⟩
  have kk:∀ b o,b ∉ [e,it]->s.heap.get? b=some o->h1.get? b=some o:=λb o hb q=>hk b o (λz=>hb (by simp [z])) (λz=>hb (by simp [z])) q
  generalize eT:s.heap.objs.size=T at ht ho hm ⊢
  have hT:s.heap.objs.size<=T:=qc9 eT
  have etk:∃ tk,tk=t+1:=⟨_,rfl⟩
  obtain⟨tk,etk⟩:=etk
  rw [<-etk]
  have ey:y=u:=by
   have hy':its[i]?=some y:=by simpa using hy
   rw [hu] at hy'
   exact (qaA hy').symm
  subst ey
  refine W.go elts k pos i T _ _ _ hm λh2 hst kk2=>?_
  have nT:T ∉ [e,it]:=W.apart i T _ hm
  refine⟨.ref T,upd H T (.tup [.int i,x]),?_,rfl,⟨T,x,λys hy=>by rw [I.list_inj hy hq];exact hx,I.hok.fresh hT,rfl,rfl⟩,⟨hst.1,hst.2.1⟩,λb hb=>?_⟩
  ·have ht2:dq h2 T #[.int i t,y]:=⟨_,kk2 T _ nT ht,rfl,⟨_,rfl⟩,rfl⟩
   have I2:Inv X pins σ (upd H T (.tup [.int i,x])) { s with heap:=h2,toks:=tk }:=
    I.turnsT (fp:=[e,it]) (h':=h2) (t':=tk) (its:=#[.int i t,y]) hf (λb o hb q=>kk2 b o hb (kk b o hb q)) hT ht2 (.cons ⟨t,rfl⟩ (.cons ru .nil)) (by show 2<=sizeLine;decide)
   exact I2
  ·rw [aK (show b≠T from λz=>nT (z ▸ hb))]
   exact (hf b hb).1
 done:=by
  intro X hP hw hK hc i pins s σ H E I hf st hg
  subst hP hw hK
  obtain⟨xs,hq,hx⟩:=hg
  obtain⟨its,rv,p,hz⟩:=I.list hq
  have hl:=rv.length
  have hx':its.toArray[i]?=none:=by simp;lia
  obtain⟨⟨old,he⟩,hit⟩:=st
  -- the end at place i
  obtain⟨f0,f1,f2,f3,f4,f5⟩:=hf e (by simp)
  refine wpAny_pyNext_enum_end (I.ok.hd hc) he hit p.isList hx' λh' eb=>⟨rfl,?_⟩
  exact I.turns (t':=s.toks) (fp:=[e,it]) hf λb o hb q=>eb b o (by simp at hb;exact hb.2) q
 self:=λ_ _ _ _ _ st h=>let ⟨⟨_,he⟩,_⟩:=st;qdm he h
theorem qF {P:Program}{w:World}{K:PySem.W.Frag}{elts:List Expr}{k:Nat}{pos:Pos} (a it e:Addr) (hei:e≠it) (hae:a≠e) (hai:a≠it) :
  qJ P w K (.Tuple elts k pos) (Ite λH xs=>SqT K H a xs) [e,it] e (λi h=>(∃ old,IsEnum h e it i old)/\h.IsTupleIter it a i) where
 mem:=by simp
 obj:=λi h st b hb=>by
  rcases qaF.mp hb with rfl | hb
  ·obtain⟨⟨old,q⟩,_⟩:=st
   exact⟨_,q,λv z=>by cases z⟩
  ·rw [qaz.mp hb]
   obtain⟨_,o,e,c,d⟩:=st
   exact⟨o,e,λv z=>by rw [d] at z;cases z⟩
 keep:=λi h h' st kk=>⟨let ⟨old,q⟩:=st.1;⟨old,kk e (by simp) _ q⟩,st.2.at λo q=>kk it (by simp) o q⟩
 item:=by
  intro X hP hw hK hc i pins s σ H E I hf st hg
  subst hP hw hK
  obtain⟨xs,x,hq,hx⟩:=hg
  obtain⟨its,rv,p,hz⟩:=I.tuple hq
  obtain⟨u,hu,ru⟩:=rv.get hx
  have W:=qdQ (ik (prog:=X.prog) (w:=X.w) (A:=X.A.in1) (I.ok.hd hc) it a hai its.toArray) e hei (by simp [hei,qbI hae]) (by simp)
  have hi:i < its.toArray.size:=by
   have:=(qan.mp hu).1
   simpa using this
  obtain⟨⟨ol,he0⟩,hit0⟩:=st
  refine qe0 (ik (prog:=X.prog) (w:=X.w) (A:=X.A.in1) (I.ok.hd hc) it a hai its.toArray) he0 ⟨hit0,p⟩ hi hei (by simp [hei,qbI hae]) λy h1 t hy ho hs' ht hsz hk=>⟨_,rfl,?_⟩
  have hm:(λ(i:Nat) (T:Addr) (h:Heap)=>(∃ x,IsEnumOut h e it ((i:Int)+1) x T)/\_/\T≠e/\T≠it) i s.heap.objs.size h1:=⟨⟨_,ho⟩,hs',qb4 (qao he0),qb4 (let ⟨_,q,_⟩:=hit0;qao q)⟩
  have kk:∀ b o,b ∉ [e,it]->s.heap.get? b=some o->h1.get? b=some o:=λb o hb q=>hk b o (λz=>hb (by simp [z])) (λz=>hb (by simp [z])) q
  generalize eT:s.heap.objs.size=T at ht ho hm ⊢
  have hT:s.heap.objs.size<=T:=qc9 eT
  have etk:∃ tk,tk=t+1:=⟨_,rfl⟩
  obtain⟨tk,etk⟩:=etk
  rw [<-etk]
  have ey:y=u:=by
   have hy':its[i]?=some y:=by simpa using hy
   rw [hu] at hy'
   exact (qaA hy').symm
  subst ey
  refine W.go elts k pos i T _ _ _ hm λh2 hst kk2=>?_
  have nT:T ∉ [e,it]:=W.apart i T _ hm
  refine⟨.ref T,upd H T (.tup [.int i,x]),?_,rfl,⟨T,x,λys hy=>by rw [I.tuple_inj hy hq];exact hx,I.hok.fresh hT,rfl,rfl⟩,⟨hst.1,hst.2.1⟩,λb hb=>?_⟩
  ·have ht2:dq h2 T #[.int i t,y]:=⟨_,kk2 T _ nT ht,rfl,⟨_,rfl⟩,rfl⟩
   have I2:Inv X pins σ (upd H T (.tup [.int i,x])) { s with heap:=h2,toks:=tk }:=
    I.turnsT (fp:=[e,it]) (h':=h2) (t':=tk) (its:=#[.int i t,y]) hf (λb o hb q=>kk2 b o hb (kk b o hb q)) hT ht2 (.cons ⟨t,rfl⟩ (.cons ru .nil)) (by show 2<=sizeLine;decide)
   exact I2
  ·rw [aK (show b≠T from λz=>nT (z ▸ hb))]
   exact (hf b hb).1
 done:=by
  intro X hP hw hK hc i pins s σ H E I hf st hg
  subst hP hw hK
  obtain⟨xs,hq,hx⟩:=hg
  obtain⟨its,rv,p,hz⟩:=I.tuple hq
  have hl:=rv.length
  have W:=qdQ (ik (prog:=X.prog) (w:=X.w) (A:=X.A.in1) (I.ok.hd hc) it a hai its.toArray) e hei (by simp [hei,qbI hae]) (by simp)
  have hi:i=its.toArray.size:=by simp;lia
  subst hi
  refine W.done s _ _ ⟨st.1,st.2,p⟩ λh' tk kk=>⟨rfl,I.turns (fp:=[e,it]) hf kk⟩
 self:=λ_ _ _ _ _ st h=>let ⟨⟨_,he⟩,_⟩:=st;qdm he h
end L2
namespace L2
open PySem PySem.Spec PyProof.Rows
section
variable {X:Cx}
noncomputable def Aw (K:PySem.W.Frag) (ta:TA):TI:=λσ H R=>ta σ H λvs H1=>∃ a,vs=[.ref a]/\(∃ xs,SqL K H1 a xs)/\R (Ite λH xs=>SqL K H a xs) H1
theorem wg {elts:List Expr}{k:Nat}{tpos:Pos}{a:Expr}{ta:TA}{p pos:Pos} (hg:Gl X "enumerate") (hm:X.mg "enumerate" = none) (ha:PA X [a] ta) (hs:starEach [a] X.env=[(false,eval a X.env)]:=by rfl) :
  PI X (.Tuple elts k tpos) (.Call (.Name "enumerate" p) [a] [] pos) (Aw X.K ta):=by
 intro pins s σ H R I h
 refine Call_ (iU I hg hm qg7 (qbQ (thn (ha pos pins s σ H _ I h) λus s1 ⟨vs,H1,I1,r1,q1⟩=>?_) hs rfl))
 obtain⟨l,e,⟨xs,hq⟩,q⟩:=q1
 subst e
 cases r1 with
 | cons r rr=>
  cases rr
  cases r
  obtain⟨its,rv,p',hz⟩:=I1.list hq
  refine call_enumerate_list p'.isList λh' he hit hsz hk=>qdm he ?_
  have hlt:l < s1.heap.objs.size:=by obtain⟨_,_,e,_⟩:=p';exact qao e
  refine⟨_,[s1.heap.objs.size+1,s1.heap.objs.size],_,_,H1,rfl,I1.kept (t':=s1.toks) hk,rF l s1.heap.objs.size (s1.heap.objs.size+1) (qc1 _) (qaw (qaO hlt)) (qaw hlt),⟨⟨_,he⟩,hit⟩,λb hb=>?_,q⟩
  have hb':s1.heap.objs.size<=b:=by
   rcases qaF.mp hb with e | hb
   ·rw [e];exact qcB _
   ·rw [qaz.mp hb];exact qaq _
  exact I1.fpOk hb' (I1.hok.fresh hb')
noncomputable def zr (K:PySem.W.Frag) (ta:TA):TI:=λσ H R=>ta σ H λvs H1=>∃ a,vs=[.ref a]/\(∃ xs,SqT K H1 a xs)/\R (Ite λH xs=>SqT K H a xs) H1
theorem vp {elts:List Expr}{k:Nat}{tpos:Pos}{a:Expr}{ta:TA}{p pos:Pos} (hg:Gl X "enumerate") (hm:X.mg "enumerate" = none) (ha:PA X [a] ta) (hs:starEach [a] X.env=[(false,eval a X.env)]:=by rfl) :
  PI X (.Tuple elts k tpos) (.Call (.Name "enumerate" p) [a] [] pos) (zr X.K ta):=by
 intro pins s σ H R I h
 refine Call_ (iU I hg hm qg7 (qbQ (thn (ha pos pins s σ H _ I h) λus s1 ⟨vs,H1,I1,r1,q1⟩=>?_) hs rfl))
 obtain⟨l,e,⟨xs,hq⟩,q⟩:=q1
 subst e
 cases r1 with
 | cons r rr=>
  cases rr
  cases r
  obtain⟨its,rv,p',hz⟩:=I1.tuple hq
  refine g6 p' λh' he hit hsz hk=>qdm he ?_
  have hlt:l < s1.heap.objs.size:=by obtain⟨_,e,_⟩:=p';exact qao e
  refine⟨_,[s1.heap.objs.size+1,s1.heap.objs.size],_,_,H1,rfl,I1.kept (t':=s1.toks) hk,qF l s1.heap.objs.size (s1.heap.objs.size+1) (qc1 _) (qaw (qaO hlt)) (qaw hlt),⟨⟨_,he⟩,hit⟩,λb hb=>?_,q⟩
  have hb':s1.heap.objs.size<=b:=by
   rcases qaF.mp hb with e | hb
   ·rw [e];exact qcB _
   ·rw [qaz.mp hb];exact qaq _
  exact I1.fpOk hb' (I1.hok.fresh hb')
theorem rm {ns:List Int}:∀ {us:List Value},aN (ns.map V.int) us->∃ xs:Array (Int×Tok),us.toArray=intItems xs/\xs.toList.map (·.1)=ns:=by
 induction ns with
 | nil=>intro us r;cases r;exact⟨#[],by simp [intItems],rfl⟩
 | cons n ns ih=>
  intro us r
  rw [qal] at r
  cases r with
  | cons r rr=>
   obtain⟨t,rfl⟩:=r
   obtain⟨xs,e,e2⟩:=ih rr
   refine⟨#[(n,t)]++xs,?_,by simp [e2]⟩
   apply qbt.mp
   have e':=congrArg Array.toList e
   simp [intItems] at e' ⊢
   exact e'
theorem u8:bS X (.builtin "sum") (λxs H Q=>X.calm=true/\∃ (a:Addr) (ns:List Int),xs=[.ref a]/\SqL X.K H a (ns.map V.int)/\Q (.int ns.sum) H):=by
 intro pins s σ H xs us Q I rv h
 obtain⟨hc,a,ns,rfl,hq,q⟩:=h
 cases rv with
 | cons r rr=>
  cases rr
  cases r
  obtain⟨its,rv,p,hz⟩:=I.list hq
  obtain⟨ps,e1,e2⟩:=rm rv
  have hl:=p.isList
  rw [e1] at hl
  refine sum_intListG (I.ok.hd hc) hl λh' tk t' hk=>?_
  refine⟨.int ns.sum,H,I.kept (t':=tk) hk,⟨t',?_⟩,q⟩
  rw [preSum_eq,qcP (by simp),e2]
theorem vA:bS X (.builtin "all") (λxs H Q=>X.calm=true/\∃ (a:Addr) (bs:List Bool),xs=[.ref a]/\SqL X.K H a (bs.map V.bl)/\Q (.bl (bs.all id)) H):=by
 intro pins s σ H xs us Q I rv h
 obtain⟨hc,a,bs,rfl,hq,q⟩:=h
 cases rv with
 | cons r rr=>
  cases rr
  cases r
  obtain⟨its,rv,p,hz⟩:=I.list hq
  have hlt:a < s.heap.objs.size:=by obtain⟨_,_,e,_⟩:=p;exact qao e
  have hlen:its.length=bs.length:=by have:=rv.length;simpa using this.symm
  refine call_all_walk (qc0 p.isList ?_)
  refine⟨s.heap.objs.size,_,_,_,_,_,λi=>(bs[i]?).getD true,rfl,Walks.list (A:=X.A.in1) (I.ok.hd hc) s.heap.objs.size a (qaw hlt) its.toArray,⟨⟨_,qav _ rfl,rfl,rfl⟩,p.isList.push _⟩,?_,λh' tk hk=>?_⟩
  ·intro i v s' Q' E' hv hQ'
   have hv':its[i]?=some v:=by simpa using hv
   have hi:i < its.length:=(qan.mp hv').1
   obtain⟨b,hb⟩:∃ b,bs[i]?=some b:=⟨bs[i]'(by lia),by simp [show i < bs.length by lia]⟩
   have:(bs.map V.bl)[i]?=some (.bl b):=by rw [qaI,hb];rfl
   obtain⟨u,hu,ru⟩:=rv.get this
   rw [hv'] at hu
   cases hu
   cases ru
   have hQ2:Q' ((bs[i]?).getD true) s':=hQ'
   rw [hb] at hQ2
   exact qbM hQ2
  ·refine⟨.bl (bs.all id),H,I.kept (t':=tk) (λb o e=>hk b o (λz=>absurd (qao e) (by rw [qaz.mp z];exact qbA _)) (qae _ e)),?_,q⟩
   show Value.bool _=Value.bool _
   congr 1
   have:∀ n,n=bs.length->((List.range n).all λi=>(bs[i]?).getD true)=bs.all id:=by
    intro n hn
    rw [qcd,qaJ,qaJ]
    constructor
    ·intro h b hb
     obtain⟨i,hi,e⟩:=qcb.mp hb
     have:=h i (qa7.mpr (by lia))
     simp [hi,e] at this
     exact this
    ·intro h i hi
     have hi':=qa7.mp hi
     have hlt':i < bs.length:=by lia
     simp [hlt']
     exact h _ (qa8 _)
   exact this _ (by simpa using hlen)
noncomputable def en:V->PyData
 | .non=>.none
 | .bl b=>.bool b
 | .int i=>.int i
 | .str x=>.str x
 | _=>.none
noncomputable def oE (ys:List V):Str:=(PyData.tuple (ys.map en)).shown
noncomputable def fq (y:V):Prop:=y=.non\/∃ i:Int,y=.int i/\0<=i/\i < 1024
theorem qU:bS X (.builtin "repr") (λxs H Q=>∃ i:Int,xs=[.int i]/\i.natAbs.log2 < 1920/\Q (.str (toString i)) H):=by
 intro pins s σ H xs us Q I rv h
 obtain⟨i,rfl,hi,q⟩:=h
 cases rv with
 | cons r rr=>
  cases rr
  obtain⟨t,rfl⟩:=r
  exact call_repr_gives (qdP s i t) F.slot_int_repr F.entry_int_repr (F.args_int_repr_1 _) (gives_int_repr i t hi) ⟨.str _,H,I.tok _,⟨_,rfl⟩,q⟩ (hx:=int_text_fits hi)
theorem gZ {h:Heap}:∀ {ys:List V}{us:List Value},aN ys us->(∀ y ∈ ys,fq y)->ReadsAll h us (ys.map en) []
 | _,_,.nil,_=>.nil
 | _,_,.cons (a:=y) r rr,hp=>by
  have hr:=gZ (h:=h) rr λz hz=>hp z (qah _ hz)
  rcases hp y qai with e | ⟨i,e,_⟩
  ·subst e;cases r;exact .cons (as:=[]) (bs:=[]) .none hr
  ·subst e;obtain⟨t,rfl⟩:=r;exact .cons (as:=[]) (bs:=[]) (.int i t) hr
theorem ui {i:Int} (h0:0<=i) (h1:i < 1024):((toString i:String):Str).length<=10:=by
 obtain⟨n,rfl⟩:=qbU h0
 have hn:n < 2 ^ 10:=by have:(1024:Int)=((2 ^ 10:Nat):Int):=by decide
                        lia
 have e:(toString (n:Int))=Nat.repr n:=rfl
 have:=nat_repr_length_le (k:=10) (by decide) hn
 rw [e,qeK]
 exact this
theorem kf:∀ {ys:List V},(∀ y ∈ ys,fq y)->piled (PyData.shownAll (ys.map en))<=12*ys.length
 | [],_=>by simp [PyData.shownAll,piled]
 | y::ys,hp=>by
  have ih:=kf (ys:=ys) λz hz=>hp z (qah _ hz)
  rw [qal,PyData.shownAll,qf1,qaj]
  have:(en y).shown.length<=10:=by
   rcases hp y qai with e | ⟨i,e,h0,h1⟩
   ·subst e;decide
   ·subst e;exact ui h0 h1
  lia
theorem hV:∀ {ys:List V},(∀ y ∈ ys,fq y)->PyData.showableAll (ys.map en)=true
 | [],_=>rfl
 | y::ys,hp=>by
  have ih:=hV (ys:=ys) λz hz=>hp z (qah _ hz)
  rw [qal,PyData.showableAll,ih,qfW]
  rcases hp y qai with e | ⟨i,e,h0,h1⟩
  ·subst e;rfl
  ·subst e
   show decide (i.natAbs.log2 < 1920)=true
   refine decide_eq_true ?_
   have hn0:i.natAbs < 1024:=by lia
   have hn:i.natAbs < 2 ^ 1920:=qaH (show i.natAbs < 2 ^ 10 from hn0) (qbx (by decide) (by decide))
   by_cases hz:i.natAbs=0
   ·rw [hz];decide
   ·exact (qe5 hz).mpr hn
theorem i8:∀ {ys:List V},(∀ y ∈ ys,fq y)->PyData.hasDictAll (ys.map en)=false
 | [],_=>rfl
 | y::ys,hp=>by
  have ih:=i8 (ys:=ys) λz hz=>hp z (qah _ hz)
  rw [qal,PyData.hasDictAll,ih,qfU]
  rcases hp y qai with e | ⟨i,e,_⟩<;>subst e<;>rfl
theorem pZ:∀ {ys:List V},(∀ y ∈ ys,fq y)->(PyData.tuple (ys.map en)).depth<=2:=by
 intro ys hp
 have:∀ {ys:List V},(∀ y ∈ ys,fq y)->PyData.depthAll (ys.map en)<=1:=by
  intro ys
  induction ys with
  | nil=>intro _;simp [PyData.depthAll]
  | cons y ys ih=>
   intro hp
   have:=ih λz hz=>hp z (qah _ hz)
   rw [qal,PyData.depthAll]
   have:(en y).depth<=1:=by
    rcases hp y qai with e | ⟨i,e,_⟩<;>subst e<;>simp [en,PyData.depth]
   lia
 have:=this hp
 simp only [PyData.depth]
 lia
theorem qK (hg:X.A.guards=some []) (hu:X.A.units+64 < cLine):bS X (.builtin "repr") (λxs H Q=>∃ a ys,xs=[.ref a]/\SqT X.K H a ys/\(∀ y ∈ ys,fq y)/\ys.length<=1000/\Q (.str (oE ys)) H):=by
 intro pins s σ H xs us Q I rv h
 obtain⟨a,ys,rfl,hq,hp,hl,q⟩:=h
 cases rv with
 | cons r rr=>
  cases rr
  cases r
  obtain⟨its,rv,p,hz⟩:=I.tuple hq
  obtain⟨o,ho,hc,n,hd⟩:=p
  have rd:Reads s.heap (.ref a) (.tuple (ys.map en)) []:=.tuple ho hc hd (by simpa using gZ rv hp)
  refine qg5 rd (hV hp) (qeX (i8 hp)) hg (by have:=pZ hp;lia) (λ_ _ e=>e) (λh' u tk hk=>⟨.str _,H,I.kept (t':=tk) hk,⟨u,rfl⟩,q⟩) ?_
  show (tupleText (PyData.shownAll (ys.map en))).length<=sizeLine
  have hs:=kf hp
  have hz2:(Str.join ", " (PyData.shownAll (ys.map en))).length<=12*ys.length:=by
   cases e:PyData.shownAll (ys.map en) with
   | nil=>exact qaZ _
   | cons x r=>
    have:=qgX (PyData.shownAll (ys.map en)) (by rw [e];simp)
    rw [e] at this
    rw [e] at hs
    lia
  unfold tupleText
  rw [qcU,qcU]
  have h2:((if (PyData.shownAll (ys.map en)).length==1 then ",)" else ")" : String):Str).length<=2:=by split<;>decide
  have h1:((("(" : String):Str)).length=1:=rfl
  have hsz:sizeLine=16777216:=rfl
  have h1':(("(" : Str)).length=1:=rfl
  lia
end
noncomputable def gG (k:Nat) (js:List Nat) (σ:St):St:=List.replicate k none++js.map λj=>(σ[j]?).getD none
noncomputable def Bi (scope:Scope) (ns:List (Str×NameKind)) (N Nc:List Str) (k:Nat) (js:List Nat):Bool:=
 decide ((scope.names.map (·.1)).Nodup) && decide Nc.Nodup && decide (Nc.length=k+js.length) &&
 (scope.names.all λx=>x.2 != .free || ns.lookup x.1==some .cell || ns.lookup x.1==some .free) &&
 ((List.range js.length).all λi=>match Nc[k+i]?,js[i]? with | some x,some j=>N[j]?==some x && scope.names.lookup x==some .free | _,_=>false)
theorem cw {X:Cx}{scope:Scope} (ns:List (Str×NameKind)) (N Nc:List Str) (k:Nat) (js:List Nat) (hns:X.env.scope.names=ns) (hN:X.N=N) (hk:scope.kind=.function) (h:Bi scope ns N Nc k js=true):fD X scope Nc (gG k js):=by
 unfold Bi at h
 simp only [qa0,decide_eq_true_eq] at h
 obtain⟨⟨⟨⟨h1,h2⟩,h3⟩,h4⟩,h5⟩:=h
 refine⟨hk,h1,h2,λx hx hf=>?_,λσ _=>?_,λσ _ i x v e1 e2=>?_⟩
 ·have:=qaJ.mp h4 x hx
  rw [hf] at this
  simp only [qen,beq_iff_eq,bne_self_eq_false,qaM,false_or] at this
  unfold Env.kindOf
  rw [hns]
  exact this
 ·unfold gG
  rw [qaV,qbJ,qaf,h3]
 ·unfold gG at e2
  by_cases hi:i < k
  ·rw [qaT (by simpa using hi),qcJ,if_pos hi] at e2
   cases e2
  ·rw [qbj (by simpa using hi),qbJ,qaI] at e2
   cases ej:js[i - k]? with
   | none=>rw [ej] at e2;cases e2
   | some j=>
    rw [ej] at e2
    have hlt:=(qan.mp ej).1
    have:=qaJ.mp h5 (i - k) (qa7.mpr hlt)
    rw [show k+(i - k)=i by lia,e1,ej] at this
    simp only [qa0,beq_iff_eq] at this
    refine⟨j,by rw [hN];exact this.1,?_,this.2⟩
    have e3:(σ[j]?).getD none=some v:=qaA e2
    cases eq:σ[j]? with
    | none=>rw [eq] at e3;cases e3
    | some o=>rw [eq] at e3;rw [show o=some v from e3]
noncomputable def BM (names ns:List (Str×NameKind)):List (Str×NameKind):=names.map λx=>if (x.2==NameKind.free && ns.lookup x.1==some .cell) then (x.1,.cell) else x
theorem xT {X:Cx}{scope:Scope}{cells:List (Str×Addr)}{Nc:List Str}{s:Shared}{H:Hp}{C:Addr}{fp:List Addr}{ns:List (Str×NameKind)} (hk:X.env.scope.kind=.function) (hns:X.env.scope.names=ns) :
  (lcX X scope cells Nc s H C fp).env.scope.names=BM scope.names ns:=by
 show (scope.names.map _)=_
 unfold BM
 congr 1
 funext x
 obtain⟨n,k⟩:=x
 show (if (k==.free && X.env.scope.kind==.function && X.env.kindOf n==some .cell)=true then (n,NameKind.cell) else (n,k))=(if (k==.free && ns.lookup n==some .cell)=true then (n,NameKind.cell) else (n,k))
 unfold Env.kindOf
 rw [hk,hns,show (ScopeKind.function==ScopeKind.function)=true from rfl,qfW]
section
variable {σe tl:St}{tt:TT}{te:TE}{H:Hp}{Q:VK}
end
section
variable {X:Cx}
theorem xY:OpR X (binaryOp .Mult) (rI IntMulOk λi j=>.int (i*j)):=opI λ_ _ _ _ _ _ _ hc q=>mul_int q hc
end
theorem bx.new {H:Hp}{p:Addr} (h:H p=none) (o:HO):bx H (upd H p o):=λb u q=>by rw [aK (aL q h)];exact q
theorem ue {X:Cx} (hg:X.A.guards=some []) (hu:X.A.units+64 < cLine):bS X (.builtin "repr") (λxs H Q=>(∃ i:Int,xs=[.int i]/\i.natAbs.log2 < 1920/\Q (.str (toString i)) H)\/
  (∃ a ys,xs=[.ref a]/\SqT X.K H a ys/\(∀ y ∈ ys,fq y)/\ys.length<=1000/\Q (.str (oE ys)) H)):=bS.or qU (qK hg hu)
theorem kP {n:Nat} (h:n<=1000):n<=sizeLine:=qd6 (tP h)
theorem p18:oW 10 18:=⟨by decide,by decide,by decide⟩
end L2
namespace L2
open PySem PySem.Spec PyProof.Rows
open PySem.AutoSeq1 (wpAny_loadPart')
theorem vn (l:Addr) (items:Array Value) (n:Nat) (dct:Option Addr) (sl:Array (Option Value)) (u:Tok) :
  Meets (Builtin.«tuple.__mul__» ⟨[.ref l,.int 1 u],[]⟩) (λ_ R s=>s.heap.get? l=some { cls:=.type "tuple",dict:=dct,data:=.seq items n,slots:=sl }/\R (.ok (.ret (.ref l))) s):=
 .of_wp λprog w A R s h=>by
  obtain⟨hp,g,d,tk,os⟩:=s;obtain⟨hl,h⟩:=h
  wp_walk using wpAny_loadPart' hl
  exact⟨_,rfl,h⟩
theorem uo (l:Addr) (items:Array Value) (n:Nat) (dct:Option Addr) (sl:Array (Option Value)) (x:Int) (u:Tok) (h2:2<=x) (h3:x < 1000) (he:items.isEmpty=false) (hz:items.size<=1000)
  (hsz:((List.replicate x.toNat items).foldl (λx1 x2=>x1++x2) #[]).size<=sizeLine) :
  Meets (Builtin.«tuple.__mul__» ⟨[.ref l,.int x u],[]⟩) (λ_ R s=>s.heap.get? l=some { cls:=.type "tuple",dict:=dct,data:=.seq items n,slots:=sl }/\
   R (.ok (.ret (.ref s.heap.objs.size))) { s with heap:=s.heap.push { cls:=.type "tuple",data:=.seq ((List.replicate x.toNat items).foldl (λx1 x2=>x1++x2) #[]) } }):=
 .of_wp λprog w A R s h=>by
  obtain⟨hp,g,d,tk,os⟩:=s;obtain⟨hl,h⟩:=h
  have c1:(x < -(2 ^ 63) || x>=2 ^ 63)=false:=by simp;lia
  have c2:(items.isEmpty || x==1)=false:=by rw [he];simp;lia
  have c3:(x<=0 || items.isEmpty)=false:=by rw [he];simp;lia
  have hpr:(items.size:Int)*x<=1000000:=by
   have a1:(items.size:Int)*x<=1000*x:=Int.mul_le_mul_of_nonneg_right (by lia) (by lia)
   lia
  have c4:¬ ((items.size:Int)*x > (2 ^ 63 - 1) / 8):=by lia
  have c5:Builtin.Tuple.tupleTooMany ((items.size:Int)*x)=false:=by
   unfold Builtin.Tuple.tupleTooMany
   exact decide_eq_false (by have:(sizeLine:Nat)=16777216:=rfl
                             lia)
  wp_walk using wpAny_loadPart' hl
  refine qdK (decide_eq_false (by rw [c1];exact qaB)) ?_
  wp_walk using wpAny_loadPart' hl
  refine qdK (decide_eq_false (by rw [c2];exact qaB)) ?_
  wp_walk using wpAny_loadPart' hl
  refine qdK (decide_eq_false (by rw [c3];exact qaB)) ?_
  wp_walk using wpAny_loadPart' hl
  refine qdK (decide_eq_false c4) ?_
  wp_walk using wpAny_loadPart' hl
  exact⟨_,rfl,h⟩
theorem jU:fillsNumberSlot (.type "tuple") "mul" = pure false:=
 PySem.fillsNumberSlot_seq (id:="tuple.__mul__") (r:=some (.builtin "tuple.__rmul__")) qdq.lookup (by decide +kernel) qfJ.lookup (by decide +kernel)
theorem oq:seqRepeat? (.type "tuple")=pure (some (.builtin "tuple.__mul__")):=by
 unfold seqRepeat?
 rw [qfe (T:="tuple") (name:="__mul__") (id:="tuple.__mul__") qdq.lookup (by decide +kernel),qfe (T:="tuple") (name:="__rmul__") (id:="tuple.__rmul__") qfJ.lookup (by decide +kernel)]
 rfl
theorem mq (a:Int) (t:Tok) (l:Addr) (items:Array Value) (n:Nat) (dct:Option Addr) (sl:Array (Option Value)) :
  Meets (Builtin.«int.__rmul__» ⟨[.int a t,.ref l],[]⟩) (λ_ R s=>s.heap.get? l=some { cls:=.type "tuple",dict:=dct,data:=.seq items n,slots:=sl }/\R (.ok (.ret Value.notImplemented)) s):=
 .of_wp λprog w A R s h=>by obtain⟨hp,g,d,tk,os⟩:=s;obtain⟨hl,h⟩:=h;wp_walk using wpAny_loadPart' hl;exact⟨_,rfl,h⟩
section
variable {X:Cx}
noncomputable def BT (K:PySem.W.Frag):R2:=λx y H Q=>∃ l k xs,x=.ref l/\y=.int k/\SqT K H l xs/\xs≠[]/\xs.length<=1000/\1<=k/\k < 1000/\(k=1->Q (.ref l) H)/\
 (k≠1->∀ p,H p=none->Q (.ref p) (upd H p (.tup (List.replicate k.toNat xs).flatten)))
theorem xL:OpR X (binaryOp .Mult) (BT X.K):=by
 intro pins s σ H x y v u Q I rx ry h
 obtain⟨l,k,xs,rfl,rfl,hq,hne,hl1,h1,h2,q1,q2⟩:=h
 cases rx
 obtain⟨t,rfl⟩:=ry
 obtain⟨its,rv,p,hz⟩:=I.tuple hq
 obtain⟨⟨c,dct,dt,sl⟩,e,hc,n,hd⟩:=p
 replace hc:c=.type "tuple":=hc
 replace hd:dt=.seq its.toArray n:=hd
 subst hc hd
 have hlen:=rv.length
 refine qeS (T:="tuple") (U:="int") (by decide) ⟨_,e,rfl⟩ (λs'=>qdP s' k t) jU qf5 qdG oq qfR.lookup
  (qcL qdG (qdP s k t) qfT (qfM _ _) (mq k t l its.toArray n dct sl) ⟨e,rfl,⟨_,e,rfl⟩,?_⟩)
 by_cases hk:k=1
 ·subst hk
  exact qcL qdq ⟨_,e,rfl⟩ qfK (qfA _ _) (vn l its.toArray n dct sl t) ⟨e,.ref l,H,I,rfl,q1 rfl⟩
 ·have f0:List.foldl (λx1 x2=>x1++x2) #[] (List.replicate k.toNat its.toArray)=(List.replicate k.toNat its).flatten.toArray:=by
   have:=jE its k.toNat []
   rw [qaW] at this
   exact this
  have hsz:(List.replicate k.toNat xs).flatten.length<=sizeLine:=by
   rw [nA]
   have:k.toNat*xs.length<=1000*1000:=qdH (by lia) hl1
   have hs:sizeLine=16777216:=rfl
   lia
  have hsz2:(List.replicate k.toNat its).flatten.length<=sizeLine:=by
   rw [nA] at hsz ⊢
   rw [<-hlen];exact hsz
  refine qcL qdq ⟨_,e,rfl⟩ qfK (qfA _ _) (uo l its.toArray n dct sl k t (by lia) h2 ?_ (by rw [qax];lia) (by rw [f0,qax];exact hsz2)) ⟨e,?_⟩
  ·cases its with
   | nil=>cases xs with
    | nil=>exact absurd rfl hne
    | cons _ _=>cases hlen
   | cons _ _=>rfl
  ·rw [f0]
   refine⟨.ref _,_,I.laid (t':=s.toks) (o:=.tup (List.replicate k.toNat xs).flatten) (λ_ _ q=>qae _ q) (qaq _) ⟨hsz,(List.replicate k.toNat its).flatten,rv.rep k.toNat,⟨_,qav _ rfl,rfl,⟨0,rfl⟩,rfl⟩⟩,rfl,q2 hk _ I.fresh⟩
end
end L2
namespace L2
open PySem PySem.Spec PyProof.Rows
section
variable {X:Cx}{K:PySem.W.Frag}
theorem Bb (hc:X.calm=true:=by rfl) (hK:X.K=K:=by rfl):bS X (.builtin "sum") (λxs H Q=>∃ (a:Addr) (ns:List Int),xs=[.ref a]/\SqL K H a (ns.map V.int)/\Q (.int ns.sum) H):=by
 subst hK
 intro pins s σ H xs us Q I rv h
 exact u8 pins s σ H xs us Q I rv ⟨hc,h⟩
theorem BN (hc:X.calm=true:=by rfl) (hK:X.K=K:=by rfl):bS X (.builtin "all") (λxs H Q=>∃ (a:Addr) (bs:List Bool),xs=[.ref a]/\SqL K H a (bs.map V.bl)/\Q (.bl (bs.all id)) H):=by
 subst hK
 intro pins s σ H xs us Q I rv h
 exact vA pins s σ H xs us Q I rv ⟨hc,h⟩
theorem vV {k:Nat} (hr:bh k X.A) (hK:X.K=K:=by rfl):bS X (.builtin "repr") (λxs H Q=>(∃ i:Int,xs=[.int i]/\i.natAbs.log2 < 1920/\Q (.str (toString i)) H)\/
  (∃ a ys,xs=[.ref a]/\SqT K H a ys/\(∀ y ∈ ys,fq y)/\ys.length<=1000/\Q (.str (oE ys)) H)):=by subst hK;exact ue hr.gd hr.units
end
section
variable {X:Cx}
end
theorem og {n j:Nat} (h:j < n):ixN n (j:Int)=some j:=by
 unfold ixN
 rw [if_pos (by lia),if_pos (by lia),qat]
section
variable {X:Cx}{e:Expr}{ty:TE}{p1 p2 p3 p4 dpos apos cpos:Pos}{j1 j2 j3 j4:Nat}
end
end L2
namespace L2
open PySem PySem.Spec PyProof.Rows
open PySem.AutoSeq1 (wpAny_loadPart')
section
variable {prog:Program}{w:World}{A:Around}{E:Value->Shared->Prop}{s:Shared}
end
section
variable {X:Cx}
end
section
variable {prog:Program}{w:World}{A:Around}{E:Value->Shared->Prop}{s:Shared}
end
section
variable {X:Cx}{e:Expr}{te:TE}{p1 p2 p3 pos:Pos}{j:Nat}
end
end L2
namespace L2
open PySem PySem.Spec PyProof.Rows
theorem aN.at {xs:List V}{us:List Value} (r:aN xs us):∀ (j:Nat) (h:j < us.length) ,∃ h':j < xs.length,bi xs[j] us[j]:=by
 induction r with
 | nil=>intro j h;exact absurd h (qdv j)
 | cons a t ih=>
  intro j h
  cases j with
  | zero=>exact⟨Nat.zero_lt_succ _,a⟩
  | succ j=>
   obtain⟨h1,r1⟩:=ih j (qeO h)
   exact⟨Nat.succ_lt_succ h1,r1⟩
theorem mC (e:Nat->Bool) (n:Nat):(List.range (n+1)).all e=(e 0 && (List.range n).all λj=>e (j+1)):=by
 rw [List.range_succ_eq_map,qb3,qd2];rfl
section
variable {X:Cx}{K:PySem.W.Frag}{pins:List (Addr×Obj)}{σ:St}{H:Hp}{s:Shared}{A:Around}{a b:Addr}{xs ys:List V}
end
section
variable {X:Cx}{pos p1 p2:Pos}{j1 j2:Nat}
end
section
variable {K:PySem.W.Frag}{H:Hp}
end
section
variable {X:Cx}{K:PySem.W.Frag}
end
end L2
namespace HT
open PySem PySem.Spec PyProof.Rows L2
section
variable {prog:Program}{w:World}{A:Around}{E:Value->Shared->Prop}{s:Shared}
theorem getItem_tuple_all {t sl:Addr}{items:Array Value}{vl vu:Value}{lo hi:Option Int}{Q:Value->Shared->Prop} (ht:IsTup s.heap t items) (hs:s.heap.IsSliceOf sl vl vu .none) (pl:IsPart vl lo) (pu:IsPart vu hi)
  (hw:sIx items.size 0 lo=0/\sIx items.size items.size hi=items.size) (h:Q (.ref t) s):wpAny (model prog w) A (getItem (.ref t) (.ref sl)) Q E s:=by
 obtain⟨os,hos,hcs,hds⟩:=id hs
 have hTs:s.TypeIs (.ref sl) "slice":=⟨os,hos,hcs⟩
 unfold getItem
 try with_reducible refine qbE ?_
 first | refine qaa (qag ?_) | skip
 refine qaa (qfX ht.typeIs (by decide) ?_)
 refine qaa (qbX (name:=Str.ofString "__getitem__") ht.typeIs qbr
  (qcm qbr ht.typeIs qfF ?_ (qfN _ _)))
 show wpAny _ _ (Builtin.Tuple.tupleItemsOf (.ref t) >>= _) _ _ s
 refine qaa (tupleItemsOf_ ht ?_)
 refine qaa (qfn hTs ?_)
 rw [if_pos (by decide)]
 refine qaa (gf hs pl pu ?_)
 have hyes:(((sIx items.size 0 lo:Nat):Int)==0 && (1:Int)==1 && (sIx items.size items.size hi - sIx items.size 0 lo)==items.size)=true:=by
  rw [hw.1,hw.2]
  simp
 show wpAny _ _ (if (((sIx items.size 0 lo:Nat):Int)==0 && (1:Int)==1 && (sIx items.size items.size hi - sIx items.size 0 lo)==items.size)=true then _ else _) _ _ s
 rw [if_pos hyes]
 unfold Builtin.Tuple.tupleIsExact
 refine qaa (qaa (qfn ht.typeIs (qag ?_)))
 show wpAny _ _ (if ((Value.type "tuple")==(Value.type "tuple"))=true then _ else _) _ _ s
 rw [if_pos (beq_self_eq_true _)]
 first
  | exact qaa (qb8 (qag ⟨_,rfl,qag h⟩))
  | exact qaa (qaa (qb8 (qag (qag ⟨_,rfl,qag h⟩))))
  | exact qaa (qb8 (qaa (qag (qag ⟨_,rfl,qag h⟩))))
  | exact qaa (qb8 (qaa (qag ⟨_,rfl,qag h⟩)))
end
end HT
namespace L2
open PySem PySem.Spec PyProof.Rows
noncomputable def BZ (K:PySem.W.Frag):V->Option Int->Option Int->Hp->VK->Prop:=λx lo hi H Q=>∃ a xs,x=.ref a/\SqT K H a xs/\
 ((¬ (HT.sIx xs.length 0 lo=0/\HT.sIx xs.length xs.length hi=xs.length)/\∀ p,H p=none->Q (.ref p) (upd H p (.tup (nM xs lo hi))))\/
   ((HT.sIx xs.length 0 lo=0/\HT.sIx xs.length xs.length hi=xs.length)/\Q (.ref a) H))
theorem Ac {X:Cx}{K:PySem.W.Frag} (hK:X.K=K:=by rfl):SlR X (BZ K):=by
 subst hK
 intro pins s σ H x v vl vu lo hi sl Q I rx hs pl pu h
 obtain⟨a,xs,rfl,hx,h⟩:=h
 rcases h with⟨hw,q⟩ | ⟨hw,q⟩
 ·exact Ap pins s σ H _ v vl vu lo hi sl Q I rx hs pl pu ⟨a,xs,rfl,hx,hw,q⟩
 ·cases rx
  obtain⟨its,r,ht,hz⟩:=I.tuple hx
  have hlen:its.toArray.size=xs.length:=by rw [qax];exact r.length.symm
  refine⟨"tuple",_,qbr.lookup,ht.typeIs,?_⟩
  exact HT.getItem_tuple_all ht hs pl pu (by rw [hlen];exact hw) ⟨.ref a,H,I,rfl,q⟩
section
variable {X:Cx}{scope:Scope}{Nc:List Str}{emb:St->St}{elt iter tg:Expr}{ifs:List Expr}{pos:Pos}{wi:TI}{g:TG}{tt:TT}{te:TE}
theorem Bp {i0:Nat}{x0:Str}{py spos:Pos} (hN0:X.N.Nodup) (hi0:X.N[i0]?=some x0) (hx0:Loc X.env.scope x0) (S:fD X scope Nc emb) (hc:X.calm=true) (hi:PI X tg iter wi)
  (hg:∀ cells s H C fp,PG (lcX X scope cells Nc s H C fp) tg g) (ht:∀ cells s H C fp,PTs (lcX X scope cells Nc s H C fp) ifs tt) (he:∀ cells s H C fp,PE (lcX X scope cells Nc s H C fp) elt te)
  (hsw:swapsWith (.ListComp elt [⟨tg,iter,ifs,0⟩] scope pos) (some (.Name x0 py)) spos.line X.env=pure true:=by rfl)
  (hf0:X.fn x0=true\/X.env.scope.names.lookup x0=some .local:=by first | exact .inl rfl | exact .inr rfl | assumption)
  (hs:∀ x,foldedSetIterable iter X.env x=pure x:=by intro _;rfl):PS X (.Assign [.Name x0 py] (.ListComp elt [⟨tg,iter,ifs,0⟩] scope pos) spos) (AC (tLc emb wi g tt te) (pY i0)):=by
 intro pins s σ H DD I h
 rw [exec_Assign_Name_used _ _ _ _ hsw]
 refine qaa (qdr (qaa ?_))
 show wpAny _ X.A (do let _ <-comprehension (.ListComp elt [⟨tg,iter,ifs,0⟩] scope pos) scope X.env _ (newList []) false (eval iter X.env) (some (assign (.Name x0 py) X.env))) _ _ s
 refine qaa (qcw (qeW (use:=some (assign (.Name x0 py) X.env)) (Q:=λ_ s'=>SP X pins DD .next s') rfl hs (iH (S.clos I.ok)) S.kind (λx hx hl=>eE S.nd (by rw [<-hl];exact hx)) ?_) (λ_ s' hq=>qag (qag hq)) λ_ _ e=>e)
 refine thn (hi pins s σ H _ I h) λv s1 h1=>thn h1 λitv s2 h2=>?_
 obtain⟨it,fp,tn,J,H2,e,I2,T,st2,f2,W,⟨m0,w0⟩,turn⟩:=h2
 subst e
 refine qbo (jp ?_)
 rw [show (s2.heap.push { cls:=.type "list",dict:=none,data:=.seq ([]:List Value).toArray }).objs.size=s2.heap.objs.size+1 from qbc ..]
 generalize hD:s2.heap.objs.size=D
 generalize hlo:({ cls:=.type "list",dict:=none,data:=.seq ([]:List Value).toArray }:Obj)=lo
 have fplt:∀ b ∈ fp,b < s2.heap.objs.size:=λb hb=>by obtain⟨o,e,_⟩:=T.obj _ _ st2 b hb;exact qao e
 have I3:=qu (lo:=lo) S I2 f2 (λb hb=>by obtain⟨o,e,_⟩:=T.obj _ _ st2 b hb;exact⟨o,e⟩) (by rw [<-hlo];intro v z;cases z) (by rw [<-hlo];rfl)
 rw [hD] at I3
 generalize hcells:cellsFrom (D+2) scope.names (ca X.env.cells scope.names [])=cells at I3
 generalize hX':lcX X scope cells Nc s2 H2 (D+1) fp=X' at I3
 have hfpX:∀ {H':Hp}{ps:List (Addr×Obj)},(∀ b ∈ fp,H' b=none)->(∀ p ∈ ps,p.1=D)->∀ b ∈ fp,iB X' ps H' b:=λ{H' ps} hn hps b hb=>by
  have ok:=I3.ok
  refine⟨hn b hb,?_,?_,.inl (by rw [<-hX'];exact hb),?_,λp hp=>?_⟩
  ·exact (ok.exf b (by rw [<-hX'];exact hb)).1
  ·exact ok.exfs b (by rw [<-hX'];exact hb)
  ·exact (ok.exf b (by rw [<-hX'];exact hb)).2
  ·have hp':p ∈ ([]:List (Addr×Obj))++ps:=by rw [<-hX'] at hp;exact hp
   have e:p.1=D:=hps p (by simpa using hp')
   rw [e,<-hD]
   exact qb4 (fplt b hb)
 have Dex:D ∈ X'.ex\/X'.s₀.heap.objs.size<=D:=.inr (by rw [<-hX',<-hD];exact qaq _)
 have Dloc:D≠X'.env.locals:=by rw [<-hX'];exact qaw (qb2 _)
 have pD:=I3.pin (D,lo) (by rw [<-hX'];exact qau _ qai)
 have Dfs:D ∉ X'.fs:=pD.2.2.2.1
 have Dcell:∀ x c,X'.env.cells.lookup x=some c->c≠D:=λx c hc' e=>by
  obtain⟨v,o,ho,hd⟩:=I3.cell x c hc'
  rw [e,pD.1] at ho
  cases ho
  exact pD.2.2.2.2 v hd
 -- the loop
 have loop:∀ s3:Shared,s3={ s2 with heap:=pushCells ((s2.heap.push lo).push { cls:=.type "dict",data:=.dict #[] }) scope.names }->
   codeAny (model X.prog X.w) X.A (.compLoop (.ListComp elt [⟨tg,iter,ifs,0⟩] scope pos) 0 (.ref it) (.ref D) (compEnvC scope cells (D+1) X.env))
    (compPost (model X.prog X.w) X.A X.xe (some (assign (.Name x0 py) X.env)) (λ_ s'=>SP X pins DD .next s') (.ref D) (D+1)) s3:=by
  rintro s3 rfl
  refine d9 (λn s'=>∃ i ys its k H',Inv X' [(D,{ cls:=.type "list",data:=.seq its.toArray k })] (emb σ) H' s'/\aN ys its/\tn i s'.heap/\(∀ b ∈ fp,H' b=none)/\ys.length<=sizeLine/\W i n ys H') ?_ m0
   ⟨0,[],[],0,H2,?_,.nil,?_,λb hb=>(f2 b hb).1,qaZ _,w0⟩
  ·rintro n s4 ⟨i,ys,its,k,H4,I4,rv,st4,fr4,hlen,w4⟩
   have hps:∀ p ∈ [(D,({ cls:=.type "list",data:=.seq its.toArray k }:Obj))],p.1=D:=λp hp=>by
    have:=qaz.mp hp
    rw [this]
   rcases turn i n ys H4 w4 with⟨stop,qn⟩ | ⟨go,hlt,N,hN,step⟩
   ·-- the end
    have TD:=T.done X' (by rw [<-hX'];rfl) (by rw [<-hX'];rfl) (by rw [<-hX'];rfl) (by rw [<-hX'];exact hc) i _ s4 (emb σ) H4 (λ_ _=>False) I4 (hfpX fr4 hps) st4 stop
    rw [show X'.A=X.A by rw [<-hX'];rfl] at TD
    refine thn TD λr s5 ⟨hr,I5⟩=>?_
    subst hr
    obtain⟨m5,hn5,_⟩:=id I5.loc
    have eC:X'.env.locals=D+1:=by rw [<-hX'];rfl
    rw [eC] at hn5
    suffices inv5:∀ h',Heap.SameBut (D+1) s5.heap h'->Inv X pins σ (upd H4 D (.lst ys)) { s5 with heap:=h' } by
     have I5X:Inv X pins σ (upd H4 D (.lst ys)) s5:=inv5 s5.heap ⟨rfl,λ_ _=>rfl⟩
     have hD4':H4 D=none:=(I5.pin (D,{ cls:=.type "list",data:=.seq its.toArray k }) (by rw [<-hX'];exact qau _ qai)).2.1
     have hC4:upd H4 D (.lst ys) (D+1)=none:=by
      have:=I5.free
      rw [eC] at this
      rw [aK (qb4 (qb2 D))]
      exact this
     have fpC:∀ b ∈ [D+1],iB X pins (upd H4 D (.lst ys)) b:=λb hb=>by
      have e:=qaz.mp hb
      subst e
      exact I2.fpOk (by rw [hD];exact qcB D) hC4
     obtain⟨oC,esC,epC,getC,datC,relC⟩:=id hn5
     have I5p:=I5X.pinned fpC λb hb=>by
      have e:=qaz.mp hb
      subst e
      exact⟨oC,getC,λv z=>by rw [datC] at z;cases z⟩
     refine qfY (gP I5p hN0 hi0 hx0 (v:=.ref D) rfl (λs6 I6=>?_) hf0)
     have pC:=(I6.pin (D+1,oC) (qau _ (qau _ (dj qai getC)))).1
     refine⟨m5,⟨oC,esC,epC,pC,datC,relC⟩,λh' hsb=>?_⟩
     have I6u:=I6.unpinned
     exact⟨_,_,I6u.turns (t':=s6.toks) fpC (λb o hb e=>(hsb.2 b (λz=>hb (by rw [z];exact qai))).trans e),qn D hD4'⟩
    intro h' hsb
    have pD5:=I5.pin (D,{ cls:=.type "list",data:=.seq its.toArray k }) (by rw [<-hX'];exact qau _ qai)
    have neC:∀ b u,H4 b=some u->b≠D+1:=λb u e z=>by
     have:=I5.free
     rw [eC,<-z,e] at this
     cases this
    have hD4:H4 D=none:=pD5.2.1
    have un:=I5.base
    have un':Un (frs X.stack) fp H2 H4 s2.heap s5.heap:=by rw [<-hX'] at un;exact un
    have old_ne:∀ b o,s2.heap.get? b=some o->b≠D/\b≠D+1:=λb o e=>by
     have q:=qao e
     rw [hD] at q
     exact⟨qaw q,qaw (qaO q)⟩
    have h2D:H2 D=none:=by rw [<-hD];exact I2.fresh
    have hok':HOk X.prog X.w H4 h':=λb u e=>by
     have ob:cL X.prog X.w H4 s5.heap b u:=by have:=I5.hok b u e;rw [<-hX'] at this;exact this
     refine ob.stay (λc v hcv q=>(hsb.2 c ?_).trans q) (λ_ q=>q) λ_ _ q=>q
     rcases hcv with z | z
     ·rw [z];exact neC b u e
     ·exact neC c _ z
    have hokD:HOk X.prog X.w (upd H4 D (.lst ys)) h':=λb u e=>by
     by_cases hb:b=D
     ·subst hb
      rw [bm] at e
      cases e
      exact⟨hlen,its,k,rv,(hsb.2 b (qaw (qb2 _))).trans pD5.1⟩
     ·rw [aK hb] at e
      refine (hok' b u e).stay (λ_ _ _ q=>q) (λc q=>?_) λc z q=>?_
      all_goals first
       | (rw [aK (aL q hD4)];exact q)
       | (rw [aK (aL z hD4)];exact z)
    refine I2.call' (s':={ s5 with heap:=h' }) (ch:=fp) ?_ ⟨λb o e nb hb hx=>?_,λb o e nb hb hx=>?_,λb o e nb hx=>?_,λb o e hx=>?_,λb xs e=>?_,λb o u e=>?_,λb ps e=>?_⟩ hokD I5.bare (λb hb=>?_)
    ·have:=I5.os
     rw [<-hX'] at this
     exact this
    ·exact (hsb.2 b (old_ne b o e).2).trans (un'.keep b o e nb hb hx)
    ·obtain⟨sl,q⟩:=un'.slot b o e nb hb hx
     exact⟨sl,(hsb.2 b (old_ne b o e).2).trans q⟩
    ·rw [aK (old_ne b o e).1]
     exact un'.free b o e nb hx
    ·obtain⟨o',q⟩:=un'.there b o e hx
     exact⟨o',(hsb.2 b (old_ne b o e).2).trans q⟩
    ·rw [aK (aL e h2D)]
     exact un'.tups b xs e
    ·rw [aK (aL e h2D)]
     exact un'.frzs b o u e
    ·obtain⟨m,q⟩:=un'.tbls b ps e
     exact⟨m,by rw [aK (aL e h2D)];exact q⟩
    ·obtain⟨q0,q1,q2,q3,q4,q5⟩:=f2 b hb
     exact⟨q3,q1,q4,q5⟩
   ·-- a turn
    have hA:X'.A=X.A:=by rw [<-hX'];rfl
    have hP:X'.prog=X.prog:=by rw [<-hX'];rfl
    have hw:X'.w=X.w:=by rw [<-hX'];rfl
    have hE:X'.env=compEnvC scope cells (D+1) X.env:=by rw [<-hX'];rfl
    have hxe:X'.xe=λ_ _=>False:=by rw [<-hX'];rfl
    have TI':=T.item X' hP hw (by rw [<-hX'];rfl) (by rw [<-hX'];exact hc) i _ s4 (emb σ) H4 (λ_ _=>False) I4 (hfpX fr4 hps) st4 go
    rw [hA] at TI'
    refine thn TI' λr s5 ⟨u,hr,h5⟩=>?_
    subst hr
    refine thn h5 λ_ s6 ⟨x,H6,I6,r6,y6,st6,fr6⟩=>?_
    have I6':=I6.pinned (hfpX fr6 hps) (T.obj _ _ st6)
    have G:=hg cells s2 H2 (D+1) fp
    have TT':=ht cells s2 H2 (D+1) fp
    have EE:=he cells s2 H2 (D+1) fp
    rw [hX'] at G TT' EE
    have G':=G _ s6 (emb σ) H6 x u _ I6' r6 (step x H6 y6)
    rw [hA,hP,hw,hE,hxe] at G'
    refine thn G' λ_ s7 ⟨σ7,H7,I7,sb7,q7⟩=>?_
    have T':=TT' _ s7 σ7 H7 _ I7 q7
    rw [hA,hP,hw,hE,hxe] at T'
    refine thn T' λok s8 ⟨H8,I8,q8⟩=>?_
    -- what is pinned
    have pin_fp:∀ {σ9:St}{H9:Hp}{s9:Shared},Inv X' ([(D,({ cls:=.type "list",data:=.seq its.toArray k }:Obj))]++jT fp s6.heap) σ9 H9 s9->tn (i+1) s9.heap/\∀ b ∈ fp,H9 b=none:=λ{σ9 H9 s9} I9=>
     ⟨T.keep _ _ _ st6 λb hb o e=>(I9.pin (b,o) (qau _ (qau _ (dj hb e)))).1,λb hb=>by
      obtain⟨o,e,_⟩:=T.obj _ _ st6 b hb
      exact (I9.pin (b,o) (qau _ (qau _ (dj hb e)))).2.1⟩
    cases ok with
    | false=>
     rw [if_neg (by decide)] at q8
     rw [if_neg (by decide)]
     obtain⟨m',hm,w8⟩:=hN _ _ q8
     exact⟨m',hm,i+1,ys,its,k,H8,I8.unpinned.weak sb7.1 sb7.2,rv,(pin_fp I8).1,(pin_fp I8).2,hlen,w8⟩
    | true=>
     rw [if_pos rfl] at q8
     rw [if_pos rfl]
     have E':=EE _ s8 σ7 H8 _ I8 q8
     rw [hA,hP,hw,hE,hxe] at E'
     refine thn E' λy s9 ⟨v9,H9,I9,r9,n9⟩=>?_
     obtain⟨m',hm,w9⟩:=hN _ _ n9
     have pD9:=I9.pin (D,{ cls:=.type "list",data:=.seq its.toArray k }) (qau _ (qbH _ qai))
     have hl:=rv.length
     have I9n:Inv X' [] σ7 H9 s9:=I9.pins_of λp hp=>nomatch hp
     refine qcL qd3 ⟨_,pD9.1,rfl⟩ qdZ (qdO _ _) (qdW D its.toArray k y (by rw [qax];lia)) ⟨pD9.1,?_⟩
     have up:∃ k':Nat,(s9.heap.update D (Obj.mapSeq λxs=>xs.push y)).get? D=some { cls:=.type "list",data:=.seq (its++[y]).toArray k' }:=by
      have q:=qdM pD9.1 (λxs:Array Value=>xs.push y)
      simp only [qfh] at q
      exact⟨_,q⟩
     obtain⟨k',up⟩:=up
     have hoth:∀ b o,b≠D->s9.heap.get? b=some o->(s9.heap.update D (Obj.mapSeq λxs=>xs.push y)).get? b=some o:=λb o hb e=>(qar s9.heap _ (qbI hb)).trans e
     have I10:=I9n.turned (t':=s9.toks) hoth pD9.2.1 Dloc Dex Dcell (λp hp=>absurd (show p ∈ ([]:List (Addr×Obj)) by rw [<-hX'] at hp;exact hp) (by simp))
     refine⟨m',hm,i+1,ys++[v9],its++[y],k',H9,(I10.weak sb7.1 sb7.2).pins_of (λp hp=>?_),rv.append (.cons r9 .nil),T.keep _ _ _ (pin_fp I9).1 (λb hb o e=>hoth b o (by rw [<-hD];exact qaw (fplt b hb)) e),(pin_fp I9).2,?_,w9⟩
     ·have:=qaz.mp hp
      subst this
      exact⟨up,pD9.2.1,Dloc,Dfs,λv z=>by cases z⟩
     ·rw [qaV,qcW]
      lia
  ·have q:lo={ cls:=.type "list",data:=.seq ([]:List Value).toArray 0 }:=hlo.symm
   rw [<-q]
   exact I3
  ·exact T.keep _ _ _ st2 λb hb o e=>qcu _ _ b o (qae _ (qae _ e))
 refine qfd ?_ ?_
 ·exact loop _ rfl
 ·refine T.self X.A 0 _ _ _ (T.keep _ _ _ st2 λb hb o e=>qcu _ _ b o (qae _ (qae _ e))) ?_
  exact loop _ rfl
end
noncomputable def aS:Expr->Bool
 | .Starred _ _=>false
 | _=>true
theorem cT {e:Expr}{es:List Expr}{env:Env} (h:aS e=true):starEach (e::es) env=(false,eval e env)::starEach es env:=by
 cases e<;>first | (cases h;done) | rfl
theorem eN {pos:Pos}{env:Env}:∀ {es:List Expr},es.all aS=true->(backTo pos (starEach es env)).any (·.1)=false
 | [],_=>by simp [starEach,backTo]
 | e::es,h=>by
  rw [qb3,qa0] at h
  rw [cT h.1]
  have:=eN (pos:=pos) (env:=env) h.2
  unfold backTo at this ⊢
  rw [qal,List.any_cons,this]
  rfl
theorem vg {pos:Pos}{env:Env}{es:List Expr} (h:es.all aS=true) (hl:es.length < 30):((backTo pos (starEach es env)).all (λx=>!x.1) && (backToKw pos (keywordEach [] env)).all (λx=>x.1.isSome)
   && decide (es.length+([]:List Keyword).length+(if ([]:List Keyword).isEmpty then 0 else 1) < 30))=true:=by
 have h1:(backTo pos (starEach es env)).all (λx=>!x.1)=true:=by
  have:=eN (pos:=pos) (env:=env) h
  rw [qaJ]
  intro x hx
  rw [qfj] at this
  simpa using this x hx
 have h2:(backToKw pos (keywordEach [] env)).all (λx=>x.1.isSome)=true:=by simp [keywordEach,backToKw]
 rw [h1,h2]
 simpa using hl
theorem h8 {e:Expr}{env:Env} (h:aS e=true):starEach [e] env=[(false,eval e env)]:=by rw [cT h];rfl
theorem vG {e e2:Expr}{env:Env} (h:aS e=true) (h2:aS e2=true):starEach [e,e2] env=[(false,eval e env),(false,eval e2 env)]:=by rw [cT h,h8 h2]
noncomputable def vj:Expr->Bool
 | .UnaryOp .Not _ _=>false
 | .BoolOp _ _ _=>false
 | .IfExp _ _ _ _=>false
 | .Compare _ _ _ _=>false
 | _=>true
theorem tD {a:Expr}{env:Env} (h:vj a=true):∀ whole,PySem.isTrue a env whole=(do let v <-whole;standAt a.pos;holding [v] (truthy v)):=by
 intro whole
 cases a with
 | UnaryOp op x p=>cases op<;>first | (cases h;done) | rfl
 | BoolOp _ _ _=>cases h
 | IfExp _ _ _ _=>cases h
 | Compare _ _ _ _=>cases h
 | _=>rfl
theorem la {t:Expr}{ts:List Expr}{env:Env} (h:aS t=true):assignEach (t::ts) env=(false,assign t env)::assignEach ts env:=by
 cases t<;>first | (cases h;done) | rfl
theorem nE {env:Env}:∀ {ts:List Expr},ts.all aS=true->(assignEach ts env).length=ts.length
 | [],_=>by simp [assignEach]
 | t::ts,h=>by
  rw [qb3,qa0] at h
  rw [la h.1,qaj,nE h.2,qaj]
theorem lW {env:Env}:∀ {ts:List Expr},ts.all aS=true->(assignEach ts env).findIdx? (·.1)=none
 | [],_=>by simp [assignEach]
 | t::ts,h=>by
  rw [qb3,qa0] at h
  rw [la h.1,List.findIdx?_cons,lW h.2]
  rfl
theorem sF {t:Expr}{ts:List Expr}{env:Env} (h:aS t=true):(assignEach (t::ts) env).map (·.2)=assign t env::(assignEach ts env).map (·.2):=by rw [la h];rfl
theorem oH {t:Expr}{env:Env} (h:aS t=true):(assignEach [t] env).map (·.2)=[assign t env]:=by rw [sF h];simp [assignEach]
noncomputable def jD:Expr->Bool
 | .Slice _ _ _ _=>false
 | _=>true
theorem sL {o i:Expr}{pos:Pos}{env:Env} (h:jD i=true) (v:Value):assign (.Subscript o i pos) env v=(do
   let ov <-holding [v] (eval o env)
   let iv <-holding [v,ov] (eval i env)
   standAt pos
   holding [v,ov,iv] (setItem ov iv v)
   release [v,ov,iv] []):=by
 cases i<;>first | (cases h;done) | rfl
theorem qB {i:Expr} (h:jD i=true):sE i:=by
 intro o j
 cases i<;>first | (cases h;done) | rfl
inductive D where
 | non | bl (b:Bool) | int (i:Int) | str (x:Str) | ty (n:String) | dct | scr (ns:List Int) | tup (ds:List D) | lst (ds:List D)
 deriving Inhabited
inductive W where
 | d (x:D) | h (n:Nat)
 deriving Inhabited
inductive C where
 | l (ds:List D) | n (ws:List W) | m (kvs:List (List Int×D)) | k (kvs:List (Int×D))
 deriving Inhabited
abbrev Sto:=List C
noncomputable def lg (st:Sto) (n:Nat):Option (List D):=match st[n]? with
 | some (.l ds)=>some ds
 | _=>none
noncomputable def Cs (l:List Int):List Key:=l.map Sum.inl
abbrev Ev:=List (Option W)
noncomputable def KLs (K:PySem.W.Frag) (a:Addr) (xs:List V):Prop:=
 ∃ (o:Obj) (its:Array Value) (n:Nat),K.lookup a=some o/\o.cls=.type "list"/\o.dict=none/\o.data=.seq its n/\its.size<=sizeLine/\aN xs its.toList
section
variable (K:PySem.W.Frag) (H:Hp) (φ:List Addr)
mutual
noncomputable def Rl:D->V->Prop
 | .non,v=>v=.non
 | .bl b,v=>v=.bl b
 | .int i,v=>v=.int i
 | .str x,v=>v=.str x
 | .ty n,v=>v=.ty n
 | .dct,v=>∃ a,v=.ref a/\a ∉ φ/\((∃ d,H a=some (.dK d))\/∃ d,H a=some (.dT d))
 | .scr ns,v=>∃ a,v=.ref a/\((∃ o,H a=some (.frz o (.lst (ns.map V.int))))\/KLs K a (ns.map V.int))
 | .tup ds,v=>∃ a vs,v=.ref a/\H a=some (.tup vs)/\Rls ds vs
 | .lst ds,v=>∃ a vs,v=.ref a/\a ∉ φ/\Rd H a (.lst vs)/\Rls ds vs
noncomputable def Rls:List D->List V->Prop
 | [],vs=>vs=[]
 | d::ds,vs=>∃ v r,vs=v::r/\Rl d v/\Rls ds r
end
noncomputable def Rw:W->V->Prop
 | .d x,v=>Rl K H φ x v
 | .h n,v=>∃ a,φ[n]?=some a/\v=.ref a
noncomputable def Rws:List W->List V->Prop
 | [],vs=>vs=[]
 | d::ds,vs=>∃ v r,vs=v::r/\Rw K H φ d v/\Rws ds r
noncomputable def Rkv:List (List Int×D)->List (List Key×V)->Prop
 | [],vs=>vs=[]
 | (k,d)::ds,vs=>∃ v r,vs=(Cs k,v)::r/\Rl K H φ d v/\Rkv ds r
noncomputable def Rkk:List (Int×D)->List (Key×V)->Prop
 | [],vs=>vs=[]
 | (k,d)::ds,vs=>∃ v r,vs=(Sum.inl k,v)::r/\Rl K H φ d v/\Rkk ds r
noncomputable def Rc (k:Nat) (a:Addr):C->Prop
 | .l ds=>∃ vs,H a=some (.lst vs)/\Rls K H φ ds vs
 | .n ws=>∃ vs,H a=some (.lst vs)/\Rws K H φ ws vs/\∀ m,W.h m ∈ ws->m < k
 | .m kvs=>∃ vs,H a=some (.dT vs)/\Rkv K H φ kvs vs
 | .k kvs=>∃ vs,H a=some (.dK vs)/\Rkk K H φ kvs vs
structure Sr (st:Sto):Prop where
 nd:φ.Nodup
 len:φ.length=st.length
 at_:∀ (n:Nat) a c,φ[n]?=some a->st[n]?=some c->Rc K H φ n a c
structure Er (env:Ev) (σ:St):Prop where
 len:env.length=σ.length
 at_:∀ (i:Nat) w,env[i]?=some (some w)->∃ v,σ[i]?=some (some v)/\Rw K H φ w v
end
structure Fw (φ φ':List Addr) (H H':Hp):Prop where
 ext:∃ ψ,φ'=φ++ψ/\∀ a ∈ ψ,H a=none
 keep:∀ b o,b ∉ φ->H b=some o->H' b=some o
 there:∀ b o,H b=some o->∃ o',H' b=some o'
section
variable {K:PySem.W.Frag}{H H1 H2 H':Hp}{φ φ1 φ2 φ':List Addr}{st st':Sto}
theorem Fw.refl (φ:List Addr) (H:Hp):Fw φ φ H H:=⟨⟨[],by simp,by simp⟩,λ_ _ _ h=>h,λ_ o h=>⟨o,h⟩⟩
theorem Fw.trans (a:Fw φ φ1 H H1) (b:Fw φ1 φ2 H1 H2):Fw φ φ2 H H2:=by
 obtain⟨ψ,rfl,e1⟩:=a.ext
 obtain⟨ψ2,rfl,e2⟩:=b.ext
 refine⟨⟨ψ++ψ2,by rw [qbC],λc hc=>?_⟩,λc o hc h=>?_,λc o h=>?_⟩
 ·rcases qbg.mp hc with z | z
  ·exact e1 c z
  ·cases q:H c with
   | none=>rfl
   | some o=>
    obtain⟨o',q'⟩:=a.there c o q
    rw [e2 c z] at q';cases q'
 ·refine b.keep c o (λz=>?_) (a.keep c o hc h)
  rcases qbg.mp z with z | z
  ·exact hc z
  ·rw [e1 c z] at h;cases h
 ·obtain⟨o',q⟩:=a.there c o h
  exact b.there c o' q
theorem Fw.same (s:bx H H'):Fw φ φ H H':=⟨⟨[],by simp,by simp⟩,λb o _ h=>s b o h,λb o h=>⟨o,s b o h⟩⟩
theorem Fw.new {p:Addr}{o:HO} (hp:H p=none):Fw φ φ H (upd H p o):=.same (bx.new hp o)
theorem Fw.get (f:Fw φ φ' H H') {n:Nat}{a:Addr} (h:φ[n]?=some a):φ'[n]?=some a:=by
 obtain⟨ψ,rfl,_⟩:=f.ext
 rw [qaT (qan.mp h).1];exact h
theorem Fw.nin (f:Fw φ φ' H H') {a:Addr}{o:HO} (h:a ∉ φ) (q:H a=some o):a ∉ φ':=by
 obtain⟨ψ,rfl,e⟩:=f.ext
 intro z
 rcases qbg.mp z with z | z
 ·exact h z
 ·rw [e a z] at q;cases q
noncomputable def BP:HO->Bool
 | .lst _=>true
 | .dT _=>true
 | .dK _=>true
 | _=>false
theorem Rc.ob {k:Nat}{a:Addr}{c:C} (h:Rc K H φ k a c):∃ o,H a=some o/\BP o=true:=by
 cases c with
 | l ds=>obtain⟨vs,q,_⟩:=h;exact⟨_,q,rfl⟩
 | n ds=>obtain⟨vs,q,_⟩:=h;exact⟨_,q,rfl⟩
 | m ds=>obtain⟨vs,q,_⟩:=h;exact⟨_,q,rfl⟩
 | k ds=>obtain⟨vs,q,_⟩:=h;exact⟨_,q,rfl⟩
theorem Sr.lst (S:Sr K H φ st) {a:Addr} (h:a ∈ φ):∃ o,H a=some o/\BP o=true:=by
 obtain⟨n,hn,e⟩:=qcb.mp h
 have hs:n < st.length:=by rw [<-S.len];exact hn
 exact (S.at_ n a st[n] (by rw [qaG hn,e]) (by rw [qaG hs])).ob
theorem xj {st:Sto}{n:Nat}{ds:List D} (h:lg st n=some ds):st[n]?=some (.l ds):=by
 unfold lg at h
 split at h
 ·rename_i q;cases h;exact q
 ·cases h
theorem Sr.atl (S:Sr K H φ st) (n:Nat) (a:Addr) (ds:List D) (e1:φ[n]?=some a) (e2:lg st n=some ds):∃ vs,H a=some (.lst vs)/\Rls K H φ ds vs:=S.at_ n a _ e1 (xj e2)
theorem Sr.nin (S:Sr K H φ st) {a:Addr} (h:H a=none):a ∉ φ:=λz=>by
 obtain⟨vs,q,_⟩:=S.lst z
 rw [q] at h;cases h
theorem Rd.nin (S:Sr K H φ st) {a:Addr}{vs:List V} (h:Rd H a (.tup vs)):a ∉ φ:=λz=>by
 obtain⟨ws,q,qm⟩:=S.lst z
 rcases h with h | ⟨o,h⟩<;>(rw [q] at h;cases h;cases qm)
theorem Rd.fw (f:Fw φ φ' H H') {a:Addr}{u:HO} (hn:a ∉ φ) (h:Rd H a u):Rd H' a u:=by
 rcases h with h | ⟨o,h⟩
 ·exact .inl (f.keep _ _ hn h)
 ·exact .inr ⟨o,f.keep _ _ hn h⟩
theorem SqT.fw (S:Sr K H φ st) (f:Fw φ φ' H H') {a:Addr}{vs:List V} (h:SqT K H a vs):SqT K H' a vs:=by
 rcases h with h | h
 ·exact .inl (f.keep _ _ (Rd.nin S (.inl h)) h)
 ·exact .inr h
theorem Rd.some {a:Addr}{u:HO} (h:Rd H a u):∃ o,H a=some o:=by
 rcases h with h | ⟨o,h⟩
 ·exact⟨_,h⟩
 ·exact⟨_,h⟩
mutual
theorem Rl.fw (S:Sr K H φ st) (f:Fw φ φ' H H'):∀ {d:D}{v:V},Rl K H φ d v->Rl K H' φ' d v
 | .non,_,h=>h
 | .bl _,_,h=>h
 | .int _,_,h=>h
 | .str _,_,h=>h
 | .ty _,_,h=>h
 | .dct,_,h=>by
  obtain⟨a,rfl,hn,h⟩:=h
  rcases h with⟨d,h⟩ | ⟨d,h⟩
  ·exact⟨a,rfl,f.nin hn h,.inl ⟨d,f.keep _ _ hn h⟩⟩
  ·exact⟨a,rfl,f.nin hn h,.inr ⟨d,f.keep _ _ hn h⟩⟩
 | .scr ns,_,h=>by
  obtain⟨a,rfl,h⟩:=h
  refine⟨a,rfl,?_⟩
  rcases h with⟨o,h⟩ | h
  ·refine .inl ⟨o,f.keep _ _ (λz=>?_) h⟩
   obtain⟨ws,q,qm⟩:=S.lst z
   rw [q] at h;cases h;cases qm
  ·exact .inr h
 | .tup ds,_,h=>by
  obtain⟨a,vs,rfl,h1,h2⟩:=h
  exact⟨a,vs,rfl,f.keep _ _ (Rd.nin S (.inl h1)) h1,Rls.fw S f h2⟩
 | .lst ds,_,h=>by
  obtain⟨a,vs,rfl,h0,h1,h2⟩:=h
  obtain⟨o,e⟩:=h1.some
  exact⟨a,vs,rfl,f.nin h0 e,h1.fw f h0,Rls.fw S f h2⟩
theorem Rls.fw (S:Sr K H φ st) (f:Fw φ φ' H H'):∀ {ds:List D}{vs:List V},Rls K H φ ds vs->Rls K H' φ' ds vs
 | [],_,h=>h
 | d::ds,_,h=>by
  obtain⟨v,r,rfl,h1,h2⟩:=h
  exact⟨v,r,rfl,Rl.fw S f h1,Rls.fw S f h2⟩
end
theorem Rw.fw (S:Sr K H φ st) (f:Fw φ φ' H H') {w:W}{v:V} (h:Rw K H φ w v):Rw K H' φ' w v:=by
 cases w with
 | d x=>exact Rl.fw S f h
 | h n=>obtain⟨a,e,rfl⟩:=h;exact⟨a,f.get e,rfl⟩
theorem Rws.fw (S:Sr K H φ st) (f:Fw φ φ' H H'):∀ {ws:List W}{vs:List V},Rws K H φ ws vs->Rws K H' φ' ws vs
 | [],_,h=>h
 | d::ds,_,h=>by
  obtain⟨v,r,rfl,h1,h2⟩:=h
  exact⟨v,r,rfl,h1.fw S f,Rws.fw S f h2⟩
theorem Er.fw (S:Sr K H φ st) (f:Fw φ φ' H H') {env:Ev}{σ:St} (h:Er K H φ env σ):Er K H' φ' env σ:=
 ⟨h.len,λi w e=>let ⟨v,e1,r⟩:=h.at_ i w e;⟨v,e1,r.fw S f⟩⟩
theorem Rkv.fw (S:Sr K H φ st) (f:Fw φ φ' H H'):∀ {ds:List (List Int×D)}{vs:List (List Key×V)},Rkv K H φ ds vs->Rkv K H' φ' ds vs
 | [],_,h=>h
 | (k,d)::ds,_,h=>by
  obtain⟨v,r,rfl,h1,h2⟩:=h
  exact⟨v,r,rfl,Rl.fw S f h1,Rkv.fw S f h2⟩
theorem Rkk.fw (S:Sr K H φ st) (f:Fw φ φ' H H'):∀ {ds:List (Int×D)}{vs:List (Key×V)},Rkk K H φ ds vs->Rkk K H' φ' ds vs
 | [],_,h=>h
 | (k,d)::ds,_,h=>by
  obtain⟨v,r,rfl,h1,h2⟩:=h
  exact⟨v,r,rfl,Rl.fw S f h1,Rkk.fw S f h2⟩
theorem Rc.fw (S:Sr K H φ st) (f:Fw φ φ' H H') {k:Nat}{a:Addr}{c:C} (e:∀ o,H a=some o->H' a=some o) (h:Rc K H φ k a c):Rc K H' φ' k a c:=by
 cases c with
 | l ds=>obtain⟨vs,q,r⟩:=h;exact⟨vs,e _ q,r.fw S f⟩
 | n ds=>obtain⟨vs,q,r,b⟩:=h;exact⟨vs,e _ q,r.fw S f,b⟩
 | m ds=>obtain⟨vs,q,r⟩:=h;exact⟨vs,e _ q,r.fw S f⟩
 | k ds=>obtain⟨vs,q,r⟩:=h;exact⟨vs,e _ q,r.fw S f⟩
theorem Sr.same (S:Sr K H φ st) (s:bx H H'):Sr K H' φ st:=
 ⟨S.nd,S.len,λn a c e1 e2=>(S.at_ n a c e1 e2).fw S (Fw.same s) λo h=>s _ _ h⟩
theorem Sr.new (S:Sr K H φ st) {p:Addr}{o:HO} (hp:H p=none):Sr K (upd H p o) φ st:=S.same (bx.new hp o)
theorem Rls.length:∀ {ds:List D}{vs:List V},Rls K H φ ds vs->ds.length=vs.length
 | [],_,h=>by cases h;rfl
 | d::ds,_,h=>by
  obtain⟨v,r,rfl,h1,h2⟩:=h
  rw [qaj,qaj,Rls.length h2]
theorem Rws.length:∀ {ds:List W}{vs:List V},Rws K H φ ds vs->ds.length=vs.length
 | [],_,h=>by cases h;rfl
 | d::ds,_,h=>by
  obtain⟨v,r,rfl,h1,h2⟩:=h
  rw [qaj,qaj,Rws.length h2]
theorem Rls.append:∀ {ds es:List D}{vs us:List V},Rls K H φ ds vs->Rls K H φ es us->Rls K H φ (ds++es) (vs++us)
 | [],_,_,_,h,h'=>by cases h;exact h'
 | d::ds,_,_,_,h,h'=>by
  obtain⟨v,r,rfl,h1,h2⟩:=h
  exact⟨v,r++_,rfl,h1,Rls.append h2 h'⟩
theorem Rls.get:∀ {ds:List D}{vs:List V},Rls K H φ ds vs->∀ {i:Nat}{d:D},ds[i]?=some d->∃ v,vs[i]?=some v/\Rl K H φ d v
 | [],_,h,i,d,e=>by simp at e
 | d::ds,_,h,i,e,q=>by
  obtain⟨v,r,rfl,h1,h2⟩:=h
  cases i with
  | zero=>simp at q;subst q;exact⟨v,rfl,h1⟩
  | succ i=>simpa using Rls.get h2 (i:=i) (d:=e) (by simpa using q)
theorem Rls.take:∀ {ds:List D}{vs:List V} (n:Nat),Rls K H φ ds vs->Rls K H φ (ds.take n) (vs.take n)
 | _,_,0,_=>by rw [qdD,qdD];exact rfl
 | [],_,n+1,h=>by cases h;exact rfl
 | d::ds,_,n+1,h=>by
  obtain⟨v,r,rfl,h1,h2⟩:=h
  exact⟨v,_,rfl,h1,Rls.take n h2⟩
theorem Rls.drop:∀ {ds:List D}{vs:List V} (n:Nat),Rls K H φ ds vs->Rls K H φ (ds.drop n) (vs.drop n)
 | _,_,0,h=>h
 | [],_,n+1,h=>by cases h;exact rfl
 | d::ds,_,n+1,h=>by
  obtain⟨v,r,rfl,h1,h2⟩:=h
  exact Rls.drop n h2
theorem Rls.set:∀ {ds:List D}{vs:List V} (n:Nat) {d:D}{v:V},Rls K H φ ds vs->Rl K H φ d v->Rls K H φ (ds.set n d) (vs.set n v)
 | [],_,_,_,_,h,_=>by cases h;exact rfl
 | e::ds,_,0,d,v,h,hd=>by
  obtain⟨u,r,rfl,h1,h2⟩:=h
  exact⟨v,r,rfl,hd,h2⟩
 | e::ds,_,n+1,d,v,h,hd=>by
  obtain⟨u,r,rfl,h1,h2⟩:=h
  exact⟨u,_,rfl,h1,Rls.set n h2 hd⟩
theorem Rls.rep {ds:List D}{vs:List V} (h:Rls K H φ ds vs):∀ k:Nat,Rls K H φ (List.replicate k ds).flatten (List.replicate k vs).flatten
 | 0=>rfl
 | k+1=>by rw [qaL,qaL,qcc,qcc];exact h.append (Rls.rep h k)
theorem Rls.ints:∀ {ns:List Int}{vs:List V},Rls K H φ (ns.map D.int) vs->vs=ns.map V.int
 | [],_,h=>h
 | n::ns,_,h=>by
  obtain⟨v,r,rfl,h1,h2⟩:=h
  rw [show v=.int n from h1,Rls.ints h2];rfl
theorem Rls.bools:∀ {ns:List Bool}{vs:List V},Rls K H φ (ns.map D.bl) vs->vs=ns.map V.bl
 | [],_,h=>h
 | n::ns,_,h=>by
  obtain⟨v,r,rfl,h1,h2⟩:=h
  rw [show v=.bl n from h1,Rls.bools h2];rfl
theorem Rls.of_ints:∀ (ns:List Int),Rls K H φ (ns.map D.int) (ns.map V.int)
 | []=>rfl
 | n::ns=>⟨_,_,rfl,rfl,Rls.of_ints ns⟩
theorem Rl.less {ψ:List Addr}:∀ {d:D}{v:V},Rl K H (φ++ψ) d v->Rl K H φ d v:=by
 intro d v
 refine (?_:∀ v,Rl K H (φ++ψ) d v->Rl K H φ d v) v
 refine D.rec (motive_1:=λd=>∀ v,Rl K H (φ++ψ) d v->Rl K H φ d v) (motive_2:=λds=>∀ vs,Rls K H (φ++ψ) ds vs->Rls K H φ ds vs) ?_ ?_ ?_ ?_ ?_ ?_ ?_ ?_ ?_ ?_ ?_ d
 ·exact λv h=>h
 ·exact λb v h=>h
 ·exact λb v h=>h
 ·exact λb v h=>h
 ·exact λb v h=>h
 ·rintro v ⟨a,e,hn,h⟩;exact⟨a,e,λz=>hn (qbH _ z),h⟩
 ·exact λns v h=>h
 ·rintro ds ih v ⟨a,vs,rfl,h1,h2⟩;exact⟨a,vs,rfl,h1,ih vs h2⟩
 ·rintro ds ih v ⟨a,vs,rfl,h0,h1,h2⟩;exact⟨a,vs,rfl,λz=>h0 (qbH _ z),h1,ih vs h2⟩
 ·exact λvs h=>h
 ·rintro d ds ih1 ih2 vs ⟨v,r,rfl,h1,h2⟩;exact⟨v,r,rfl,ih1 v h1,ih2 r h2⟩
theorem Rls.less {ψ:List Addr}:∀ {ds:List D}{vs:List V},Rls K H (φ++ψ) ds vs->Rls K H φ ds vs
 | [],_,h=>h
 | d::ds,_,h=>by
  obtain⟨v,r,rfl,h1,h2⟩:=h
  exact⟨v,r,rfl,Rl.less h1,Rls.less h2⟩
theorem Rkv.less {ψ:List Addr}:∀ {ds:List (List Int×D)}{vs:List (List Key×V)},Rkv K H (φ++ψ) ds vs->Rkv K H φ ds vs
 | [],_,h=>h
 | (k,d)::ds,_,h=>by
  obtain⟨v,r,rfl,h1,h2⟩:=h
  exact⟨v,r,rfl,Rl.less h1,Rkv.less h2⟩
theorem Rkk.less {ψ:List Addr}:∀ {ds:List (Int×D)}{vs:List (Key×V)},Rkk K H (φ++ψ) ds vs->Rkk K H φ ds vs
 | [],_,h=>h
 | (k,d)::ds,_,h=>by
  obtain⟨v,r,rfl,h1,h2⟩:=h
  exact⟨v,r,rfl,Rl.less h1,Rkk.less h2⟩
theorem Rws.less {ψ:List Addr}:∀ {ds:List W}{vs:List V},(∀ m,W.h m ∈ ds->m < φ.length)->Rws K H (φ++ψ) ds vs->Rws K H φ ds vs
 | [],_,_,h=>h
 | d::ds,_,hm,h=>by
  obtain⟨v,r,rfl,h1,h2⟩:=h
  refine⟨v,r,rfl,?_,Rws.less (λm z=>hm m (qah _ z)) h2⟩
  cases d with
  | d x=>exact Rl.less h1
  | h m=>
   obtain⟨a,e,rfl⟩:=h1
   rw [qaT (hm m qai)] at e
   exact⟨a,e,rfl⟩
theorem Rc.less {ψ:List Addr}{k:Nat}{a:Addr}{c:C} (hk:k < φ.length) (h:Rc K H (φ++ψ) k a c):Rc K H φ k a c:=by
 cases c with
 | l ds=>obtain⟨vs,q,r⟩:=h;exact⟨vs,q,r.less⟩
 | n ds=>obtain⟨vs,q,r,b⟩:=h;exact⟨vs,q,r.less λm z=>qgQ (b m z) hk,b⟩
 | m ds=>obtain⟨vs,q,r⟩:=h;exact⟨vs,q,r.less⟩
 | k ds=>obtain⟨vs,q,r⟩:=h;exact⟨vs,q,r.less⟩
theorem Sr.less {ψ:List Addr} (S:Sr K H (φ++ψ) st):Sr K H φ (st.take φ.length):=by
 have hl:=S.len
 rw [qaV] at hl
 refine⟨(qfi.mp S.nd).1,by rw [qcY];lia,λn a ds e1 e2=>?_⟩
 have hn:=(qan.mp e1).1
 rw [qeD hn] at e2
 exact (S.at_ n a ds (by rw [qaT hn];exact e1) e2).less hn
end
end L2
namespace L2
open PySem PySem.Spec PyProof.Rows
abbrev Ef:=Ev->Sto->Option (W×Sto)
abbrev Af:=Ev->Sto->Option (List W×Sto)
abbrev Tf:=Ev->Sto->Option (Bool×Sto)
abbrev Lf:=Ev->Sto->Option (List D×Sto)
abbrev Fn:=List W->Sto->Option (W×Sto)
section
variable (K:PySem.W.Frag)
noncomputable def tI (env:Ev) (st:Sto) (r:W×Sto):TE:=λσ H Q=>∃ φ,Er K H φ env σ/\Sr K H φ st/\∀ v H' φ',Fw φ φ' H H'->Sr K H' φ' r.2->Rw K H' φ' r.1 v->Q v H'
noncomputable def tIA (env:Ev) (st:Sto) (r:List W×Sto):TA:=λσ H Q=>∃ φ,Er K H φ env σ/\Sr K H φ st/\∀ vs H' φ',Fw φ φ' H H'->Sr K H' φ' r.2->Rws K H' φ' r.1 vs->Q vs H'
noncomputable def tIT (env:Ev) (st:Sto) (r:Bool×Sto):TT:=λσ H Q=>∃ φ,Er K H φ env σ/\Sr K H φ st/\∀ H' φ',Fw φ φ' H H'->Sr K H' φ' r.2->Q r.1 H'
noncomputable def tIL (env:Ev) (st:Sto) (r:List D×Sto):TE:=λσ H Q=>∃ φ,Er K H φ env σ/\Sr K H φ st/\∀ a vs H1 φ',Fw φ φ' H H1->Sr K H1 φ' r.2->H1 a=none->Rls K H1 φ' r.1 vs->Q (.ref a) (upd H1 a (.lst vs))
structure IE (X:Cx) (e:Expr) (f:Ef):Prop where
 run:∀ env st r,f env st=some r->PE X e (tI K env st r)
structure IA (X:Cx) (es:List Expr) (f:Af):Prop where
 run:∀ env st r,f env st=some r->PA X es (tIA K env st r)
structure IT (X:Cx) (e:Expr) (f:Tf):Prop where
 run:∀ env st r,f env st=some r->PT X e (tIT K env st r)
structure ITW (X:Cx) (e:Expr) (f:Tf):Prop where
 run:∀ env st r,f env st=some r->PW X e (tIT K env st r)
structure IL (X:Cx) (e:Expr) (f:Lf):Prop where
 run:∀ env st r,f env st=some r->PE X e (tIL K env st r)
noncomputable def rD (st:Sto) (x y:W) (d:D):R2:=λvx vy H Q=>∃ φ,Sr K H φ st/\Rw K H φ x vx/\Rw K H φ y vy/\∀ v H',bx H H'->Rl K H' φ d v->Q v H'
structure OpD (X:Cx) (f:Value->Value->Sem Value) (g:Sto->W->W->Option D):Prop where
 run:∀ st x y d,g st x y=some d->OpR X f (rD K st x y d)
noncomputable def rCD (st:Sto) (ws:List W) (d:D):List V->Hp->VK->Prop:=λvs H Q=>∃ φ,Sr K H φ st/\Rws K H φ ws vs/\∀ v H',bx H H'->Rl K H' φ d v->Q v H'
structure et (X:Cx) (f:Value) (g:Sto->List W->Option D):Prop where
 run:∀ st ws d,g st ws=some d->bS X f (rCD K st ws d)
noncomputable def rCL (st:Sto) (ws:List W) (ds:List D):List V->Hp->VK->Prop:=λvs H Q=>∃ φ,Sr K H φ st/\Rws K H φ ws vs/\∀ a us H1,bx H H1->H1 a=none->Rls K H1 φ ds us->Q (.ref a) (upd H1 a (.lst us))
structure zi (X:Cx) (f:Value) (g:Sto->List W->Option (List D)):Prop where
 run:∀ st ws d,g st ws=some d->bS X f (rCL K st ws d)
end
noncomputable def iV (i:Nat):Ef
 | env,st=>(env.getD i none).map λw=>(w,st)
noncomputable def iC (d:D):Ef
 | _,st=>some (.d d,st)
noncomputable def iOp (g:Sto->W->W->Option D) (a b:Ef):Ef
 | env,st=>(a env st).bind λx=>(b env x.2).bind λy=>(g y.2 x.1 y.1).map λd=>(.d d,y.2)
noncomputable def ii:D->Option Bool
 | .bl b=>some b
 | _=>none
noncomputable def blW:W->Option Bool
 | .d (.bl b)=>some b
 | _=>none
noncomputable def bg (g:Sto->W->W->Option D) (a b:Ef):Tf
 | env,st=>(a env st).bind λx=>(b env x.2).bind λy=>(g y.2 x.1 y.1).bind λd=>(ii d).map λk=>(k,y.2)
noncomputable def iUn (g:W->Option D) (a:Ef):Ef
 | env,st=>(a env st).bind λx=>(g x.1).map λd=>(.d d,x.2)
noncomputable def sr (a:Ef):Ef
 | env,st=>(a env st).bind λx=>(blW x.1).map λk=>(.d (.bl (!k)),x.2)
noncomputable def j6 (a b:Ef):Ef
 | env,st=>(a env st).bind λx=>(blW x.1).bind λk=>if k=true then b env x.2 else some (.d (.bl false),x.2)
noncomputable def kv (c:Tf) (a b:Ef):Ef
 | env,st=>(c env st).bind λr=>if r.1=true then a env r.2 else b env r.2
noncomputable def mX (c:Tf):Tf
 | env,st=>(c env st).map λr=>(!r.1,r.2)
noncomputable def jg (a b:Tf):Tf
 | env,st=>(a env st).bind λr=>if r.1=true then b env r.2 else some (false,r.2)
noncomputable def nR (a b:Tf):Tf
 | env,st=>(a env st).bind λr=>if r.1=true then some (true,r.2) else b env r.2
noncomputable def t7 (g:Sto->W->Option Bool) (a:Ef):Tf
 | env,st=>(a env st).bind λx=>(g x.2 x.1).map λk=>(k,x.2)
noncomputable def ai:Af
 | _,st=>some ([],st)
noncomputable def ae (a:Ef) (r:Af):Af
 | env,st=>(a env st).bind λx=>(r env x.2).map λy=>(x.1::y.1,y.2)
noncomputable def iCB (g:Sto->List W->Option D) (a:Af):Ef
 | env,st=>(a env st).bind λr=>(g r.2 r.1).map λd=>(.d d,r.2)
noncomputable def iCL (g:Sto->List W->Option (List D)) (a:Af):Lf
 | env,st=>(a env st).bind λr=>(g r.2 r.1).map λd=>(d,r.2)
noncomputable def av (m:Fn) (a:Af):Ef
 | env,st=>(a env st).bind λr=>m r.1 r.2
noncomputable def kG:List W->Option (List D)
 | []=>some []
 | .d x::ws=>(kG ws).map λr=>x::r
 | .h _::_=>none
noncomputable def kg (a:Af):Ef
 | env,st=>(a env st).bind λr=>(kG r.1).bind λds=>if ds.length<=1000 then some (.d (.tup ds),r.2) else none
noncomputable def dF (a:Af):Lf
 | env,st=>(a env st).bind λr=>(kG r.1).bind λds=>if ds.length<=1000 then some (ds,r.2) else none
noncomputable def aD (a:Lf):Ef
 | env,st=>(a env st).map λr=>(.d (.lst r.1),r.2)
noncomputable def lP (a:Lf):Ef
 | env,st=>(a env st).map λr=>(.h r.2.length,r.2++[.l r.1])
section
variable {K:PySem.W.Frag}{X:Cx}{e a b c:Expr}{es:List Expr}{pos:Pos}{f fa fb fc:Ef}
theorem PE.imp {t t':TE} (h:PE X e t) (m:∀ σ H Q,t' σ H Q->t σ H Q):PE X e t':=λpins s σ H Q I q=>h pins s σ H Q I (m σ H Q q)
theorem PT.imp {t t':TT} (h:PT X e t) (m:∀ σ H Q,t' σ H Q->t σ H Q):PT X e t':=λpins s σ H Q I q=>h pins s σ H Q I (m σ H Q q)
theorem PW.imp {t t':TT} (h:PW X e t) (m:∀ σ H Q,t' σ H Q->t σ H Q):PW X e t':=λwh pins s σ H Q I q=>h wh pins s σ H Q I (m σ H Q q)
theorem PA.imp {t t':TA} (h:PA X es t) (m:∀ σ H Q,t' σ H Q->t σ H Q):PA X es t':=λpos pins s σ H Q I q=>h pos pins s σ H Q I (m σ H Q q)
theorem OpR.imp {g:Value->Value->Sem Value}{r r':R2} (h:OpR X g r) (m:∀ x y H Q,r' x y H Q->r x y H Q):OpR X g r':=λpins s σ H x y v u Q I rx ry q=>h pins s σ H x y v u Q I rx ry (m _ _ _ _ q)
theorem bS.imp {g:Value}{r r':List V->Hp->VK->Prop} (h:bS X g r) (m:∀ xs H Q,r' xs H Q->r xs H Q):bS X g r':=λpins s σ H xs us Q I rx q=>h pins s σ H xs us Q I rx (m _ _ _ q)
theorem mw:PE X e (λ_ _ _=>False):=λ_ _ _ _ _ _ q=>q.elim
theorem pe:PW X e (λ_ _ _=>False):=λ_ _ _ _ _ _ _ q=>q.elim
theorem AX {i:Nat}{x:Str}{t:TE} (h:PE X (.Name x pos) (zM i)):IE K X (.Name x pos) (iV i):=by
 refine⟨λenv st r hr=>?_⟩
 unfold iV at hr
 obtain⟨w,hw,rfl⟩:=qac.mp hr
 refine h.imp ?_
 rintro σ H Q ⟨φ,hE,hS,q⟩
 have hi:env[i]?=some (some w):=by
  rw [List.getD] at hw
  cases q:env[i]? with
  | none=>rw [q] at hw;cases hw
  | some o=>rw [q] at hw;rw [show o=some w from hw]
 obtain⟨v,e1,r⟩:=hE.at_ i w hi
 exact⟨v,e1,q v H φ (Fw.refl φ H) hS r⟩
theorem iv (i:Nat) {x:Str} (hN:X.N[i]?=some x:=by rfl) (hv:Vis X.env.scope x:=by first | exact Or.inl rfl | exact Or.inr (Or.inl rfl) | exact Or.inr (Or.inr rfl)) (hd:(x==("__debug__" : Str))=false:=by decide)
  (hcd:(x==("__classdict__" : Str))=false:=by decide):IE K X (.Name x pos) (iV i):=AX (t:=zM i) (AT hN hv hd hcd)
theorem wE {d:D}{v:V} (h:PE X e (tC v)) (r:∀ H φ,Rl K H φ d v):IE K X e (iC d):=by
 refine⟨λenv st r hr=>?_⟩
 cases hr
 refine h.imp ?_
 rintro σ H Q ⟨φ,hE,hS,q⟩
 exact q v H φ (Fw.refl φ H) hS (r H φ)
theorem aj {i j}:IE K X (.Constant (.int i) j pos) (iC (.int i)):=wE zq λ_ _=>rfl
theorem ki {i j}:IE K X (.Constant (.bool i) j pos) (iC (.bl i)):=wE Bt λ_ _=>rfl
theorem gT {j}:IE K X (.Constant .none j pos) (iC .non):=wE zy λ_ _=>rfl
theorem lS {x j}:IE K X (.Constant (.str x) j pos) (iC (.str x)):=wE A4 λ_ _=>rfl
theorem nU {env:Ev}{st:Sto}{x y:W×Sto}{d:D}{σ:St}{H:Hp}{Q:VK} (h:tI K env st (.d d,y.2) σ H Q):tOp (rD K y.2 x.1 y.1 d) (tI K env st x) (tI K env x.2 y) σ H Q:=by
 obtain⟨φ,hE,hS,q⟩:=h
 refine⟨φ,hE,hS,λv H1 φ1 f1 s1 w1=>⟨φ1,hE.fw hS f1,s1,λu H2 φ2 f2 s2 w2=>⟨φ2,s2,w1.fw s1 f2,w2,λv3 H3 f3 w3=>?_⟩⟩⟩
 exact q v3 H3 φ2 ((f1.trans f2).trans (Fw.same f3)) (s2.same f3) w3
theorem ay {op:Operator}{g:Sto->W->W->Option D} (ho:OpD K X (binaryOp op) g) (ha:IE K X a fa) (hb:IE K X b fb):IE K X (.BinOp a op b pos) (iOp g fa fb):=by
 refine⟨λenv st r hr=>?_⟩
 simp only [iOp,qab,qac] at hr
 obtain⟨x,hx,y,hy,d,hd,rfl⟩:=hr
 exact (yU (ho.run _ _ _ _ hd) (ha.run _ _ _ hx) (hb.run _ _ _ hy)).imp λσ H Q h=>nU h
theorem jX {op:CmpOp}{g:Sto->W->W->Option D} (ho:OpD K X (compareOp op) g) (ha:IE K X a fa) (hb:IE K X b fb) (hm:behindInMarks op b=false):IE K X (.Compare a [op] [b] pos) (iOp g fa fb):=by
 refine⟨λenv st r hr=>?_⟩
 simp only [iOp,qab,qac] at hr
 obtain⟨x,hx,y,hy,d,hd,rfl⟩:=hr
 exact (xu (ho.run _ _ _ _ hd) (ha.run _ _ _ hx) (hb.run _ _ _ hy) hm).imp λσ H Q h=>nU h
theorem tL {d:D}{k:Bool} (h:ii d=some k):d=.bl k:=by
 cases d<;>first | (cases h;done) | (injection h with h;subst h;rfl)
theorem pR {d:W}{k:Bool} (h:blW d=some k):d=.d (.bl k):=by
 cases d with
 | h n=>cases h
 | d x=>cases x<;>first | (cases h;done) | (injection h with h;subst h;rfl)
theorem aW {op:CmpOp}{g:Sto->W->W->Option D} (ho:OpD K X (compareOp op) g) (ha:IE K X a fa) (hb:IE K X b fb) (hm:behindInMarks op b=false):IT K X (.Compare a [op] [b] pos) (bg g fa fb):=by
 refine⟨λenv st r hr=>?_⟩
 simp only [bg,qab,qac] at hr
 obtain⟨x,hx,y,hy,d,hd,k,hk,rfl⟩:=hr
 cases tL hk
 refine (yt (ho.run _ _ _ _ hd) (ha.run _ _ _ hx) (hb.run _ _ _ hy) hm).imp λσ H Q h=>?_
 obtain⟨φ,hE,hS,q⟩:=h
 refine nU ⟨φ,hE,hS,λv H1 φ1 f1 s1 w1=>⟨k,w1,q H1 φ1 f1 s1⟩⟩
noncomputable def rX:W->Option D
 | .d (.int i)=>some (.int (-i))
 | _=>none
theorem vo (ha:IE K X a fa):IE K X (.UnaryOp .USub a pos) (iUn rX fa):=by
 refine⟨λenv st r hr=>?_⟩
 simp only [iUn,qab,qac] at hr
 obtain⟨⟨x,s1⟩,hx,d,hd,rfl⟩:=hr
 cases x with
 | h n=>cases hd
 | d x=>
  cases x with
  | int i=>
   cases hd
   refine (BU AW (ha.run _ _ _ hx)).imp ?_
   rintro σ H Q ⟨φ,hE,hS,q⟩
   exact⟨φ,hE,hS,λv H1 φ1 f1 s1 w1=>⟨i,w1,q _ H1 φ1 f1 s1 rfl⟩⟩
  | _=>cases hd
theorem Aj (ha:IE K X a fa):IE K X (.UnaryOp .Not a pos) (sr fa):=by
 refine⟨λenv st r hr=>?_⟩
 simp only [sr,qab,qac] at hr
 obtain⟨x,hx,k,hk,rfl⟩:=hr
 have e:=pR hk
 refine (AA (ha.run _ _ _ hx)).imp ?_
 rintro σ H Q ⟨φ,hE,hS,q⟩
 exact⟨φ,hE,hS,λv H1 φ1 f1 s1 w1=>⟨k,by rw [e] at w1;exact w1,q _ H1 φ1 f1 s1 rfl⟩⟩
theorem nB {op} (h:IE K X a fa):IE K X (.BoolOp op [a] pos) fa:=⟨λenv st r hr=>AN (h.run env st r hr)⟩
theorem li {rest:List Expr} (ha:IE K X a fa) (hb:IE K X (.BoolOp .And (b::rest) pos) fb):IE K X (.BoolOp .And (a::b::rest) pos) (j6 fa fb):=by
 refine⟨λenv st r hr=>?_⟩
 simp only [j6,qab] at hr
 obtain⟨x,hx,k,hk,hr⟩:=hr
 have e:=pR hk
 cases k with
 | false=>
  rw [if_neg qaB] at hr
  cases hr
  refine (vt (ha.run _ _ _ hx) mw).imp ?_
  rintro σ H Q ⟨φ,hE,hS,q⟩
  refine⟨φ,hE,hS,λv H1 φ1 f1 s1 w1=>⟨false,by rw [e] at w1;exact w1,?_⟩⟩
  rw [if_neg qaB]
  exact q _ H1 φ1 f1 s1 rfl
 | true=>
  rw [if_pos rfl] at hr
  refine (vt (ha.run _ _ _ hx) (hb.run _ _ _ hr)).imp ?_
  rintro σ H Q ⟨φ,hE,hS,q⟩
  refine⟨φ,hE,hS,λv H1 φ1 f1 s1 w1=>⟨true,by rw [e] at w1;exact w1,?_⟩⟩
  rw [if_pos rfl]
  exact⟨φ1,hE.fw hS f1,s1,λu H2 φ2 f2 s2 w2=>q u H2 φ2 (f1.trans f2) s2 w2⟩
variable {ta tb:Tf}
theorem rZ (ha:IT K X a ta):IT K X (.UnaryOp .Not a pos) (mX ta):=by
 refine⟨λenv st r hr=>?_⟩
 simp only [mX,qac] at hr
 obtain⟨x,hx,rfl⟩:=hr
 refine (zT (ha.run _ _ _ hx)).imp ?_
 rintro σ H Q ⟨φ,hE,hS,q⟩
 exact⟨φ,hE,hS,λH1 φ1 f1 s1=>q H1 φ1 f1 s1⟩
theorem jH (h:ITW K X a ta):IT K X a ta:=⟨λenv st r hr=>(h.run env st r hr).pt⟩
theorem pv (h:IT K X a ta):ITW K X (.BoolOp .And [a] pos) ta:=⟨λenv st r hr=>yn (h.run env st r hr)⟩
theorem kS (h:IT K X a ta):ITW K X (.BoolOp .Or [a] pos) ta:=⟨λenv st r hr=>AQ (h.run env st r hr)⟩
theorem sJ {rest:List Expr} (ha:IT K X a ta) (hb:ITW K X (.BoolOp .And (b::rest) pos) tb):ITW K X (.BoolOp .And (a::b::rest) pos) (jg ta tb):=by
 refine⟨λenv st r hr=>?_⟩
 simp only [jg,qab] at hr
 obtain⟨⟨k,s1⟩,hx,hr⟩:=hr
 cases k with
 | false=>
  rw [if_neg qaB] at hr
  cases hr
  refine (vP (ha.run _ _ _ hx) pe).imp ?_
  rintro σ H Q ⟨φ,hE,hS,q⟩
  refine⟨φ,hE,hS,λH1 φ1 f1 s1=>?_⟩
  refine tO ?_
  exact q H1 φ1 f1 s1
 | true=>
  rw [if_pos rfl] at hr
  refine (vP (ha.run _ _ _ hx) (hb.run _ _ _ hr)).imp ?_
  rintro σ H Q ⟨φ,hE,hS,q⟩
  refine⟨φ,hE,hS,λH1 φ1 f1 s1=>?_⟩
  refine tY ?_
  exact⟨φ1,hE.fw hS f1,s1,λH2 φ2 f2 s2=>q H2 φ2 (f1.trans f2) s2⟩
theorem nV {rest:List Expr} (ha:IT K X a ta) (hb:ITW K X (.BoolOp .Or (b::rest) pos) tb):ITW K X (.BoolOp .Or (a::b::rest) pos) (nR ta tb):=by
 refine⟨λenv st r hr=>?_⟩
 simp only [nR,qab] at hr
 obtain⟨⟨k,s1⟩,hx,hr⟩:=hr
 cases k with
 | true=>
  rw [if_pos rfl] at hr
  cases hr
  refine (yN (ha.run _ _ _ hx) pe).imp ?_
  rintro σ H Q ⟨φ,hE,hS,q⟩
  refine⟨φ,hE,hS,λH1 φ1 f1 s1=>?_⟩
  refine tY ?_
  exact q H1 φ1 f1 s1
 | false=>
  rw [if_neg qaB] at hr
  refine (yN (ha.run _ _ _ hx) (hb.run _ _ _ hr)).imp ?_
  rintro σ H Q ⟨φ,hE,hS,q⟩
  refine⟨φ,hE,hS,λH1 φ1 f1 s1=>?_⟩
  refine tO ?_
  exact⟨φ1,hE.fw hS f1,s1,λH2 φ2 f2 s2=>q H2 φ2 (f1.trans f2) s2⟩
theorem nu {tc:Tf} (hc:IT K X c tc) (ha:IE K X a fa) (hb:IE K X b fb):IE K X (.IfExp c a b pos) (kv tc fa fb):=by
 refine⟨λenv st r hr=>?_⟩
 simp only [kv,qab] at hr
 obtain⟨⟨k,s1⟩,hx,hr⟩:=hr
 cases k with
 | true=>
  rw [if_pos rfl] at hr
  refine (p9 (hc.run _ _ _ hx) (ha.run _ _ _ hr) mw).imp ?_
  rintro σ H Q ⟨φ,hE,hS,q⟩
  refine⟨φ,hE,hS,λH1 φ1 f1 s1=>?_⟩
  refine tY ?_
  exact⟨φ1,hE.fw hS f1,s1,λu H2 φ2 f2 s2 w2=>q u H2 φ2 (f1.trans f2) s2 w2⟩
 | false=>
  rw [if_neg qaB] at hr
  refine (p9 (hc.run _ _ _ hx) mw (hb.run _ _ _ hr)).imp ?_
  rintro σ H Q ⟨φ,hE,hS,q⟩
  refine⟨φ,hE,hS,λH1 φ1 f1 s1=>?_⟩
  refine tO ?_
  exact⟨φ1,hE.fw hS f1,s1,λu H2 φ2 f2 s2 w2=>q u H2 φ2 (f1.trans f2) s2 w2⟩
noncomputable def eX (st:Sto):W->Option (List D)
 | .d (.tup ds)=>some ds
 | .d (.lst ds)=>some ds
 | .d (.scr ns)=>some (ns.map D.int)
 | .h n=>lg st n
 | _=>none
theorem pd {st:Sto}{H:Hp}{φ:List Addr}{w:W}{v:V}{ds:List D} (S:Sr K H φ st) (r:Rw K H φ w v) (e:eX st w=some ds):∃ a vs,v=.ref a/\(SqL K H a vs\/H a=some (.tup vs))/\Rls K H φ ds vs:=by
 cases w with
 | h n=>
  obtain⟨a,ea,rfl⟩:=r
  obtain⟨vs,q,rl⟩:=S.atl n a ds ea e
  exact⟨a,vs,rfl,.inl (SqL.of q),rl⟩
 | d x=>
  cases x with
  | tup es=>cases e;obtain⟨a,vs,rfl,h1,h2⟩:=r;exact⟨a,vs,rfl,.inr h1,h2⟩
  | lst es=>cases e;obtain⟨a,vs,rfl,h0,h1,h2⟩:=r;exact⟨a,vs,rfl,.inl (.inl h1),h2⟩
  | scr ns=>
   cases e
   obtain⟨a,rfl,h⟩:=r
   refine⟨a,_,rfl,.inl ?_,Rls.of_ints ns⟩
   rcases h with⟨o,h⟩ | h
   ·exact .inl (.inr ⟨o,h⟩)
   ·exact .inr h
  | _=>cases e
theorem oM {st:Sto}{H:Hp}{φ:List Addr}{w:W}{v:V}{ds:List D} (S:Sr K H φ st) (r:Rw K H φ w v) (e:eX st w=some ds):∃ a vs,v=.ref a/\(SqL K H a vs\/SqT K H a vs)/\Rls K H φ ds vs:=by
 obtain⟨a,vs,h0,h1,h2⟩:=pd S r e
 exact⟨a,vs,h0,h1.imp id SqT.of,h2⟩
noncomputable def rJ (st:Sto):W->Option Bool
 | .d .non=>some false
 | .d (.bl b)=>some b
 | .d (.int i)=>some (i != 0)
 | w=>(eX st w).map λds=>!ds.isEmpty
theorem xi {st:Sto}{H:Hp}{φ:List Addr}{w:W}{v:V}{k:Bool} (S:Sr K H φ st) (r:Rw K H φ w v) (e:rJ st w=some k):yu K v H k:=by
 have seq:∀ ds,eX st w=some ds->k=!ds.isEmpty->yu K v H k:=λds h hk=>by
  obtain⟨a,vs,rfl,h1,h2⟩:=oM S r h
  have hl:=h2.length
  have e':k=!vs.isEmpty:=by
   rw [hk]
   cases ds<;>cases vs<;>first | rfl | cases hl
  rcases h1 with h1 | h1
  ·exact .inl ⟨vs,h1,e'⟩
  ·exact .inr (.inl ⟨vs,h1,e'⟩)
 cases w with
 | h n=>
  obtain⟨ds,h1,h2⟩:=qac.mp e
  exact seq ds h1 h2.symm
 | d x=>
  cases x with
  | non=>have r':v=.non:=r;subst r';cases e;exact rfl
  | bl b=>have r':v=.bl b:=r;subst r';cases e;exact rfl
  | int i=>have r':v=.int i:=r;subst r';cases e;exact rfl
  | tup ds=>exact seq ds rfl (qaA e).symm
  | lst ds=>exact seq ds rfl (qaA e).symm
  | scr ds=>exact seq _ rfl (qaA e).symm
  | _=>cases e
theorem re (ha:IE K X a fa) (he:vj a=true:=by rfl) (hK:X.K=K:=by rfl):IT K X a (t7 rJ fa):=by
 subst hK
 refine⟨λenv st r hr=>?_⟩
 simp only [t7,qab,qac] at hr
 obtain⟨x,hx,k,hk,rfl⟩:=hr
 refine (wK (ha.run _ _ _ hx) (tD he)).imp ?_
 rintro σ H Q ⟨φ,hE,hS,q⟩
 exact⟨φ,hE,hS,λv H1 φ1 f1 s1 w1=>⟨k,xi s1 w1 hk,q H1 φ1 f1 s1⟩⟩
variable {af:Af}
theorem ah:IA K X [] ai:=by
 refine⟨λenv st r hr=>?_⟩
 cases hr
 refine zY.imp ?_
 rintro σ H Q ⟨φ,hE,hS,q⟩
 exact q [] H φ (Fw.refl φ H) hS rfl
theorem aa (ha:IE K X e fa) (hr:IA K X es af) (hs:aS e=true:=by rfl):IA K X (e::es) (ae fa af):=by
 refine⟨λenv st r h=>?_⟩
 simp only [ae,qab,qac] at h
 obtain⟨x,hx,y,hy,rfl⟩:=h
 refine (yo (ha.run _ _ _ hx) (hr.run _ _ _ hy) (cT hs)).imp ?_
 rintro σ H Q ⟨φ,hE,hS,q⟩
 refine⟨φ,hE,hS,λv H1 φ1 f1 s1 w1=>⟨φ1,hE.fw hS f1,s1,λu H2 φ2 f2 s2 w2=>?_⟩⟩
 exact q _ H2 φ2 (f1.trans f2) s2 ⟨v,u,rfl,w1.fw s1 f2,w2⟩
theorem aU {x:Str}{id:String}{p:Pos}{g:Sto->List W->Option D} (hc:et K X (.builtin id) g) (hg:Gl X x) (hm:X.mg x=none) (hv:bootBuiltins x=some (.builtin id)) (ha:IA K X (e::es) af)
  (hn:x≠"__name__":=by decide) (hdb:(x==("__debug__" : Str))=false:=by decide) (hs:aS e=true:=by rfl) (hp:es.all aS=true:=by rfl) :
  IE K X (.Call (.Name x p) (e::es) [] pos) (iCB g af):=by
 refine⟨λenv st r hr=>?_⟩
 simp only [iCB,qab,qac] at hr
 obtain⟨y,hy,d,hd,rfl⟩:=hr
 refine (pQ (hc.run _ _ _ hd) hg hm hv (ha.run _ _ _ hy) hn hdb (cT hs) (eN hp)).imp ?_
 rintro σ H Q ⟨φ,hE,hS,q⟩
 exact⟨φ,hE,hS,λv H1 φ1 f1 s1 w1=>⟨φ1,s1,w1,λu H2 f2 w2=>q u H2 φ1 (f1.trans (Fw.same f2)) (s1.same f2) w2⟩⟩
theorem fB {x:Str}{T:String}{p:Pos}{g:Sto->List W->Option D} (hc:et K X (.type T) g) (hg:Gl X x) (hm:X.mg x=none) (hv:bootBuiltins x=some (.type T)) (ha:IA K X (e::es) af)
  (hn:x≠"__name__":=by decide) (hdb:(x==("__debug__" : Str))=false:=by decide) (hs:aS e=true:=by rfl) (hp:es.all aS=true:=by rfl) :
  IE K X (.Call (.Name x p) (e::es) [] pos) (iCB g af):=by
 refine⟨λenv st r hr=>?_⟩
 simp only [iCB,qab,qac] at hr
 obtain⟨y,hy,d,hd,rfl⟩:=hr
 refine (tE (hc.run _ _ _ hd) hg hm hv (ha.run _ _ _ hy) hn hdb (cT hs) (eN hp)).imp ?_
 rintro σ H Q ⟨φ,hE,hS,q⟩
 exact⟨φ,hE,hS,λv H1 φ1 f1 s1 w1=>⟨φ1,s1,w1,λu H2 f2 w2=>q u H2 φ1 (f1.trans (Fw.same f2)) (s1.same f2) w2⟩⟩
theorem yT {x:Str}{id:String}{p:Pos}{g:Sto->List W->Option (List D)} (hc:zi K X (.builtin id) g) (hg:Gl X x) (hm:X.mg x=none) (hv:bootBuiltins x=some (.builtin id)) (ha:IA K X (e::es) af)
  (hn:x≠"__name__":=by decide) (hdb:(x==("__debug__" : Str))=false:=by decide) (hs:aS e=true:=by rfl) (hp:es.all aS=true:=by rfl) :
  IL K X (.Call (.Name x p) (e::es) [] pos) (iCL g af):=by
 refine⟨λenv st r hr=>?_⟩
 simp only [iCL,qab,qac] at hr
 obtain⟨y,hy,d,hd,rfl⟩:=hr
 refine (pQ (hc.run _ _ _ hd) hg hm hv (ha.run _ _ _ hy) hn hdb (cT hs) (eN hp)).imp ?_
 rintro σ H Q ⟨φ,hE,hS,q⟩
 exact⟨φ,hE,hS,λv H1 φ1 f1 s1 w1=>⟨φ1,s1,w1,λa us H2 f2 n2 w2=>q a us H2 φ1 (f1.trans (Fw.same f2)) (s1.same f2) n2 w2⟩⟩
theorem lX {H:Hp}{φ:List Addr}:∀ {ws:List W}{vs:List V}{ds:List D},kG ws=some ds->Rws K H φ ws vs->Rls K H φ ds vs
 | [],_,_,e,h=>by cases e;exact h
 | .d x::ws,_,_,e,h=>by
  obtain⟨v,r,rfl,h1,h2⟩:=h
  obtain⟨es,e1,rfl⟩:=qac.mp e
  exact⟨v,r,rfl,h1,lX e1 h2⟩
 | .h n::ws,_,_,e,h=>by cases e
theorem rP {x1} (h:IA K X es af):IE K X (.Tuple es x1 pos) (kg af):=by
 refine⟨λenv st r hr=>?_⟩
 simp only [kg,qab] at hr
 obtain⟨y,hy,ds,hd,hr⟩:=hr
 split at hr
 ·cases hr
  rename_i hl
  refine (AG (h.run _ _ _ hy)).imp ?_
  rintro σ H Q ⟨φ,hE,hS,q⟩
  refine⟨φ,hE,hS,λvs H1 φ1 f1 s1 w1=>?_⟩
  have w:=lX hd w1
  refine⟨by rw [<-w.length];exact kP hl,λp hp=>?_⟩
  exact q _ _ φ1 (f1.trans (Fw.new hp)) (s1.new hp) ⟨p,vs,rfl,bm,w.fw s1 (Fw.new hp)⟩
 ·cases hr
theorem fu (h:IA K X es af):IL K X (.List es pos) (dF af):=by
 refine⟨λenv st r hr=>?_⟩
 simp only [dF,qab] at hr
 obtain⟨y,hy,ds,hd,hr⟩:=hr
 split at hr
 ·cases hr
  rename_i hl
  refine (wR (h.run _ _ _ hy)).imp ?_
  rintro σ H Q ⟨φ,hE,hS,q⟩
  refine⟨φ,hE,hS,λvs H1 φ1 f1 s1 w1=>?_⟩
  have w:=lX hd w1
  exact⟨by rw [<-w.length];exact kP hl,λp hp=>q p vs H1 φ1 f1 s1 hp w⟩
 ·cases hr
theorem aP {lf:Lf} (h:IL K X e lf):IE K X e (aD lf):=by
 refine⟨λenv st r hr=>?_⟩
 simp only [aD,qac] at hr
 obtain⟨y,hy,rfl⟩:=hr
 refine (h.run _ _ _ hy).imp ?_
 rintro σ H Q ⟨φ,hE,hS,q⟩
 refine⟨φ,hE,hS,λa vs H1 φ1 f1 s1 n1 w1=>?_⟩
 exact q _ _ φ1 (f1.trans (Fw.new n1)) (s1.new n1) ⟨a,vs,rfl,s1.nin n1,.inl bm,w1.fw s1 (Fw.new n1)⟩
theorem Sr.moreC {H:Hp}{φ:List Addr}{st:Sto}{a:Addr}{o:HO}{c:C} (S:Sr K H φ st) (n:H a=none) (w:Rc K (upd H a o) (φ++[a]) φ.length a c):Sr K (upd H a o) (φ++[a]) (st++[c]):=by
 have f:Fw φ (φ++[a]) H (upd H a o):=⟨⟨[a],rfl,λb hb=>by rw [qaz.mp hb];exact n⟩,λb o _ h=>bx.new n _ b o h,λb o h=>⟨o,bx.new n _ b o h⟩⟩
 refine⟨?_,by rw [qaV,qaV,S.len];rfl,λi b es e1 e2=>?_⟩
 ·rw [qfi]
  refine⟨S.nd,by simp,λx hx y hy e=>?_⟩
  rw [qaz.mp hy] at e
  rw [e] at hx
  exact S.nin n hx
 ·by_cases hi:i < φ.length
  ·rw [qaT hi] at e1
   rw [qaT (by rw [<-S.len];exact hi)] at e2
   exact (S.at_ i b es e1 e2).fw S f λo h=>bx.new n _ _ _ h
  ·have e:i=φ.length:=by
    have:=(qan.mp e1).1
    rw [qaV] at this
    simp at this
    lia
   subst e
   rw [qbj (qaq _)] at e1
   rw [S.len,qbj (qaq _)] at e2
   simp at e1 e2
   subst e1 e2
   exact w
theorem Fw.moreO {H:Hp}{φ:List Addr}{a:Addr}{o:HO} (n:H a=none):Fw φ (φ++[a]) H (upd H a o):=
 ⟨⟨[a],rfl,λb hb=>by rw [qaz.mp hb];exact n⟩,λb o _ h=>bx.new n _ b o h,λb o h=>⟨o,bx.new n _ b o h⟩⟩
theorem Fw.more {H:Hp}{φ:List Addr}{a:Addr}{vs:List V} (n:H a=none):Fw φ (φ++[a]) H (upd H a (.lst vs)):=Fw.moreO n
theorem Sr.more {H:Hp}{φ:List Addr}{st:Sto}{a:Addr}{vs:List V}{ds:List D} (S:Sr K H φ st) (n:H a=none) (w:Rls K H φ ds vs):Sr K (upd H a (.lst vs)) (φ++[a]) (st++[.l ds]):=
 S.moreC n ⟨vs,bm,w.fw S (Fw.moreO n)⟩
theorem qQ {lf:Lf} (h:IL K X e lf):IE K X e (lP lf):=by
 refine⟨λenv st r hr=>?_⟩
 simp only [lP,qac] at hr
 obtain⟨y,hy,rfl⟩:=hr
 refine (h.run _ _ _ hy).imp ?_
 rintro σ H Q ⟨φ,hE,hS,q⟩
 refine⟨φ,hE,hS,λa vs H1 φ1 f1 s1 n1 w1=>?_⟩
 exact q _ _ (φ1++[a]) (f1.trans (Fw.more n1)) (s1.more n1 w1) ⟨a,by rw [<-s1.len];simp,rfl⟩
noncomputable def spI (K:PySem.W.Frag) (m:Fn):Sp:=λvs H Q _=>∃ φ st ws r,m ws st=some r/\Rws K H φ ws vs/\Sr K H φ st/\∀ v H' φ',Fw φ φ' H H'->Sr K H' φ' r.2->Rw K H' φ' r.1 v->Q v H'
theorem ar {x:Str}{k j:Nat}{ff:Addr}{fd:FuncData}{ps:List Str}{m:Fn}{p:Pos} (F:aH X.prog X.w X.K X.mg X.base CX0 j ff fd ps (spI K m)) (hjk:j<=k) (hr:bh k X.A) (hg:Gl X x) (hm:X.mg x=some (.ref ff)) (hk:PySem.W.keepIn X.K (.ref ff)=true) (hb:bp X.K fd ps [])
  (ha:IA K X (e::es) af) (hdb:(x==("__debug__" : Str))=false:=by decide) (hs:aS e=true:=by rfl) (hp:es.all aS=true:=by rfl) :
  IE K X (.Call (.Name x p) (e::es) [] pos) (av m af):=by
 refine⟨λenv st r h=>?_⟩
 simp only [av,qab] at h
 obtain⟨y,hy,h⟩:=h
 refine (yI (F.mono hjk) hr hg hm hk hb .nil BI (ha.run _ _ _ hy) hdb (cT hs) (eN hp)).imp ?_
 rintro σ H Q ⟨φ,hE,hS,q⟩
 refine⟨φ,hE,hS,λvs H1 φ1 f1 s1 w1=>?_⟩
 show spI K m (vs++[]) H1 Q E0
 rw [qbG]
 exact⟨φ1,y.2,y.1,r,h,w1,s1,λv H2 φ2 f2 s2 w2=>q v H2 φ2 (f1.trans f2) s2 w2⟩
end
inductive Fl where
 | nx (env:Ev) (st:Sto) | rt (w:W) (st:Sto) | bk (env:Ev) (st:Sto) | ct (env:Ev) (st:Sto)
abbrev Sf:=Ev->Sto->Option Fl
noncomputable def vJ (K:PySem.W.Frag) (φ:List Addr) (H:Hp) (D:pj):Fl->Prop
 | .nx e s=>∀ σ' H' φ',Fw φ φ' H H'->Er K H' φ' e σ'->Sr K H' φ' s->D.nx σ' H'
 | .rt w s=>∀ v H' φ',Fw φ φ' H H'->Sr K H' φ' s->Rw K H' φ' w v->D.rt v H'
 | .bk e s=>∀ σ' H' φ',Fw φ φ' H H'->Er K H' φ' e σ'->Sr K H' φ' s->D.bk σ' H'
 | .ct e s=>∀ σ' H' φ',Fw φ φ' H H'->Er K H' φ' e σ'->Sr K H' φ' s->D.ct σ' H'
theorem vJ.fw {K:PySem.W.Frag}{φ φ1:List Addr}{H H1:Hp}{D:pj}{r:Fl} (h:vJ K φ H D r) (f:Fw φ φ1 H H1):vJ K φ1 H1 D r:=by
 cases r with
 | nx e s=>exact λσ' H' φ' f'=>h σ' H' φ' (f.trans f')
 | rt w s=>exact λv H' φ' f'=>h v H' φ' (f.trans f')
 | bk e s=>exact λσ' H' φ' f'=>h σ' H' φ' (f.trans f')
 | ct e s=>exact λσ' H' φ' f'=>h σ' H' φ' (f.trans f')
noncomputable def tS (K:PySem.W.Frag) (env:Ev) (st:Sto) (r:Fl):TS:=λD σ H=>∃ φ,Er K H φ env σ/\Sr K H φ st/\vJ K φ H D r
structure IS (K:PySem.W.Frag) (X:Cx) (s:Stmt) (g:Sf):Prop where
 run:∀ env st r,g env st=some r->PS X s (tS K env st r)
structure ISs (K:PySem.W.Frag) (X:Cx) (s:List Stmt) (g:Sf):Prop where
 run:∀ env st r,g env st=some r->PSs X s (tS K env st r)
inductive Tg where
 | nm (i:Nat) | tp (is:List Nat)
noncomputable def xk:Tg->List Nat
 | .nm i=>[i]
 | .tp is=>is
noncomputable def ka:List Nat->List D->Ev->Ev
 | i::is,d::ds,env=>ka is ds (env.set i (some (.d d)))
 | _,_,env=>env
noncomputable def d7:Tg->W->Ev->Option Ev
 | .nm i,w,env=>some (env.set i (some w))
 | .tp is,.d (.tup ds),env=>if is.length=ds.length then some (ka is ds env) else none
 | .tp is,.d (.lst ds),env=>if is.length=ds.length then some (ka is ds env) else none
 | _,_,_=>none
noncomputable def xK (is:List Nat) (σ σ':St):Prop:=σ'.length=σ.length/\∀ j,j ∉ is->σ'[j]?=σ[j]?
noncomputable def tG (K:PySem.W.Frag) (g:Tg):TG:=λv σ H Q=>∃ φ st env w env',Er K H φ env σ/\Sr K H φ st/\Rw K H φ w v/\d7 g w env=some env'/\∀ σ',Er K H φ env' σ'->xK (xk g) σ σ'->Q σ' H
noncomputable def tGs (K:PySem.W.Frag) (is:List Nat):TGs:=λvs σ H Q=>∃ φ st env ds,Er K H φ env σ/\Sr K H φ st/\Rls K H φ ds vs/\is.length=ds.length/\∀ σ',Er K H φ (ka is ds env) σ'->xK is σ σ'->Q σ' H
noncomputable def du:Sf
 | env,st=>some (.nx env st)
noncomputable def aw (a b:Sf):Sf
 | env,st=>(a env st).bind λr=>match r with
 | .nx e s=>b e s
 | r=>some r
noncomputable def aG (g:Tg) (f:Ef):Sf
 | env,st=>(f env st).bind λr=>(d7 g r.1 env).map λe=>.nx e r.2
noncomputable def uS (i j:Nat) (a:Af):Sf
 | env,st=>(a env st).bind λr=>match r.1 with
 | [x,y]=>some (.nx ((env.set i (some x)).set j (some y)) r.2)
 | _=>none
noncomputable def lp (st:Sto) (o i v:W):Option Sto:=match o,i,v with
 | .h n,.d (.int k),.d x=>(lg st n).bind λds=>(ixN ds.length k).map λj=>st.set n (.l (ds.set j x))
 | _,_,_=>none
noncomputable def gW (o i v:Ef):Sf
 | env,st=>(v env st).bind λrv=>(o env rv.2).bind λro=>(i env ro.2).bind λri=>(lp ri.2 ro.1 ri.1 rv.1).map λs=>.nx env s
noncomputable def bn (f:Ef):Sf
 | env,st=>(f env st).map λr=>.rt r.1 r.2
noncomputable def mo (f:Ef):Sf
 | env,st=>(f env st).map λr=>.nx env r.2
noncomputable def eF (c:Tf) (a b:Sf):Sf
 | env,st=>(c env st).bind λr=>if r.1=true then a env r.2 else b env r.2
noncomputable def kB (g:Tg) (body:Sf):List D->Ev->Sto->Option Fl
 | [],env,st=>some (.nx env st)
 | d::ds,env,st=>(d7 g (.d d) env).bind λe=>(body e st).bind λr=>match r with
  | .nx e s=>kB g body ds e s
  | .ct e s=>kB g body ds e s
  | .bk e s=>some (.nx e s)
  | .rt w s=>some (.rt w s)
noncomputable def gN (fi:Lf) (g:Tg) (body:Sf):Sf
 | env,st=>(fi env st).bind λr=>kB g body r.1 env r.2
noncomputable def cv (c:Tf) (body:Sf):Nat->Ev->Sto->Option Fl
 | 0,_,_=>none
 | n+1,env,st=>(c env st).bind λk=>if k.1=true then (body env k.2).bind λr=>match r with
   | .nx e s=>cv c body n e s
   | .ct e s=>cv c body n e s
   | .bk e s=>some (.nx e s)
   | .rt w s=>some (.rt w s)
  else some (.nx env k.2)
noncomputable def lcI (g:Tg) (tt:Tf) (te:Ef) (env:Ev):List D->Sto->Option (List D×Sto)
 | [],st=>some ([],st)
 | d::ds,st=>(d7 g (.d d) env).bind λe=>(tt e st).bind λb=>if b.1=true then (te e b.2).bind λx=>(kG [x.1]).bind λys=>(lcI g tt te env ds x.2).map λr=>(ys++r.1,r.2)
   else lcI g tt te env ds b.2
noncomputable def gS (k:Nat) (js:List Nat) (env:Ev):Ev:=List.replicate k none++js.map λj=>env.getD j none
noncomputable def iLc (k:Nat) (js:List Nat) (fi:Lf) (g:Tg) (tt:Tf) (te:Ef):Lf
 | env,st=>(fi env st).bind λr=>if r.1.length<=1000000 then lcI g tt te (gS k js env) r.1 r.2 else none
noncomputable def cC:Tf
 | _,st=>some (true,st)
noncomputable def br (f:Ef):Lf
 | env,st=>(f env st).bind λr=>match r.1 with
 | .d (.tup ds)=>some (ds,r.2)
 | .d (.lst ds)=>some (ds,r.2)
 | _=>none
noncomputable def bF (lo:Int) (n:Nat):List D:=(List.range n).map λk:Nat=>D.int (lo+k)
noncomputable def bw (a:Af):Lf
 | env,st=>(a env st).bind λr=>match r.1 with
 | [.d (.int j)]=>if -(2 ^ 62)<=j/\j < 2 ^ 62 then some (bF 0 j.toNat,r.2) else none
 | _=>none
noncomputable def b8:Nat->List D->List D
 | _,[]=>[]
 | k,d::ds=>.tup [.int k,d]::b8 (k+1) ds
noncomputable def io (a:Af):Lf
 | env,st=>(a env st).bind λr=>match r.1 with
 | [.d (.tup ds)]=>some (b8 0 ds,r.2)
 | [.d (.lst ds)]=>some (b8 0 ds,r.2)
 | _=>none
section
variable {K:PySem.W.Frag}{X:Cx}{pos:Pos}
theorem PS.imp {s:Stmt}{t t':TS} (h:PS X s t) (m:∀ D σ H,t' D σ H->t D σ H):PS X s t':=λpins s σ H D I q=>h pins s σ H D I (m D σ H q)
theorem PSs.imp {s:List Stmt}{t t':TS} (h:PSs X s t) (m:∀ D σ H,t' D σ H->t D σ H):PSs X s t':=λpins s σ H D I q=>h pins s σ H D I (m D σ H q)
theorem Er.set {H:Hp}{φ:List Addr}{env:Ev}{σ:St} (h:Er K H φ env σ) (i:Nat) {w:W}{v:V} (r:Rw K H φ w v):Er K H φ (env.set i (some w)) (σ.set i (some v)):=by
 refine⟨by rw [qbW,qbW,h.len],λj w' e=>?_⟩
 by_cases hj:i=j
 ·subst hj
  have hi:i < env.length:=by
   have:=(qan.mp e).1
   rwa [qbW] at this
  rw [qch hi] at e
  cases e
  exact⟨v,by rw [qch (by rw [<-h.len];exact hi)],r⟩
 ·rw [qbR hj] at e
  obtain⟨v',e1,r1⟩:=h.at_ j w' e
  exact⟨v',by rw [qbR hj];exact e1,r1⟩
theorem wU (i:Nat) (σ:St) (v:Option V):xK [i] σ (σ.set i v):=⟨by rw [qbW],λj hj=>by rw [qbR (by rintro rfl;simp at hj)]⟩
theorem aZ {i:Nat}{x:Str} (h:PG X (.Name x pos) (pY i)):PG X (.Name x pos) (tG K (.nm i)):=by
 intro pins s σ H v u Q I rv q
 obtain⟨φ,st,env,w,env',hE,hS,r,e,q⟩:=q
 cases e
 exact h pins s σ H v u Q I rv (q _ (hE.set i r) (wU i σ _))
theorem fJ:PGs X [] (tGs K []):=by
 intro pins s σ H vs us Q I rv q
 obtain⟨φ,st,env,ds,hE,hS,r,e,q⟩:=q
 cases ds with
 | nil=>cases r;exact yH pins s σ H [] us Q I rv ⟨rfl,q σ hE ⟨rfl,λ_ _=>rfl⟩⟩
 | cons _ _=>cases e
theorem bR {i:Nat}{is:List Nat}{x:Str}{es:List Expr} (h1:PG X (.Name x pos) (pY i)) (h2:PGs X es (tGs K is)):PGs X (.Name x pos::es) (tGs K (i::is)):=by
 intro pins s σ H vs us Q I rv q
 obtain⟨φ,st,env,ds,hE,hS,r,e,q⟩:=q
 cases ds with
 | nil=>cases e
 | cons d ds=>
  obtain⟨v,vr,rfl,r1,r2⟩:=r
  refine uV h1 h2 (sF rfl) pins s σ H _ us Q I rv ⟨v,vr,rfl,φ,st,_,ds,hE.set i (w:=.d d) r1,hS,r2,by simpa using e,λσ' e' s'=>q σ' e' ?_⟩
  refine⟨by rw [s'.1,qbW],λj hj=>?_⟩
  rw [s'.2 j (λz=>hj (qah _ z)),qbR (by rintro rfl;exact hj qai)]
noncomputable def Cz (K:PySem.W.Frag) (n:Nat) (t:TGs):TG:=λv σ H Q=>∃ a xs,v=.ref a/\SqL K H a xs/\xs.length=n/\t xs σ H Q
theorem AL {es:List Expr}{k:Nat}{t:TGs}{n:Nat} (hc:X.calm=true) (h:PGs X es t) (hn:(assignEach es X.env).length=n) (hst:(assignEach es X.env).findIdx? (·.1)=none):PG X (.Tuple es k pos) (Cz X.K n t):=by
 intro pins s σ H v u Q I r hw
 obtain⟨a,xs,e1,hq,hl,hw⟩:=hw
 subst e1
 cases r
 obtain⟨its,rv,p,hz⟩:=I.list hq
 rw [assign_Tuple]
 refine qaa (qdr ?_)
 unfold unpack
 rw [show (assignEach es X.env).length=its.toArray.size by simp [hn,<-hl,rv.length],hst]
 refine qaa (qbE (PySem.W.kun_itemsOf (I.ok.hd hc) p.isList λh' hx=>?_))
 have I1:Inv X pins σ H { s with heap:=h' }:=I.kept (t':=s.toks) λb o e=>hx b o (qaw (qao e)) e
 exact h pins _ σ H xs _ Q I1 (by simpa using rv) hw
theorem h7 {es:List Expr}{k n:Nat}{is:List Nat} (h:PGs X es (tGs K is)) (hes:es.all aS=true:=by rfl) (hn:es.length=n:=by rfl) (hi:is.length=n:=by rfl) (hc:X.calm=true:=by rfl) (hK:X.K=K:=by rfl):PG X (.Tuple es k pos) (tG K (.tp is)):=by
 subst hK
 intro pins s σ H v u Q I rv q
 obtain⟨φ,st,env,w,env',hE,hS,r,e,q⟩:=q
 cases w with
 | h n=>cases e
 | d x=>
  cases x with
  | tup ds=>
   have e':(if is.length=ds.length then some (ka is ds env) else none)=some env':=e
   by_cases hl:is.length=ds.length
   ·rw [if_pos hl] at e'
    cases e'
    obtain⟨a,vs,rfl,hq,hr⟩:=r
    exact AF hc h ((nE hes).trans hn) (lW hes) pins s σ H _ u Q I rv ⟨a,vs,rfl,(SqT.of hq),by rw [<-hr.length,<-hl,hi],φ,st,env,ds,hE,hS,hr,hl,q⟩
   ·rw [if_neg hl] at e'
    cases e'
  | lst ds=>
   have e':(if is.length=ds.length then some (ka is ds env) else none)=some env':=e
   by_cases hl:is.length=ds.length
   ·rw [if_pos hl] at e'
    cases e'
    obtain⟨a,vs,rfl,_,hq,hr⟩:=r
    exact AL hc h ((nE hes).trans hn) (lW hes) pins s σ H _ u Q I rv ⟨a,vs,rfl,.inl hq,by rw [<-hr.length,<-hl,hi],φ,st,env,ds,hE,hS,hr,hl,q⟩
   ·rw [if_neg hl] at e'
    cases e'
  | _=>cases e
variable {s:Stmt}{ss rest:List Stmt}{e a b c:Expr}{ga gb:Sf}{f fa fb fc:Ef}
theorem cR:ISs K X [] du:=by
 refine⟨λenv st r hr=>?_⟩
 cases hr
 exact xD.imp λD σ H ⟨φ,hE,hS,q⟩=>q σ H φ (Fw.refl φ H) hE hS
theorem ap (h:IS K X s ga):ISs K X [s] ga:=⟨λenv st r hr=>xo (h.run env st r hr)⟩
theorem ak (h1:IS K X s ga) (h2:ISs K X rest gb):ISs K X (s::rest) (aw ga gb):=by
 refine⟨λenv st r hr=>?_⟩
 simp only [aw,qab] at hr
 obtain⟨r1,e1,hr⟩:=hr
 cases r1 with
 | nx e s1=>
  refine (jr (h1.run _ _ _ e1) (h2.run _ _ _ hr)).imp ?_
  rintro D σ H ⟨φ,hE,hS,q⟩
  exact⟨φ,hE,hS,λσ' H' φ' f' e' s'=>⟨φ',e',s',q.fw f'⟩⟩
 | rt w s1=>
  cases hr
  exact (jr (h1.run _ _ _ e1) fY).imp λD σ H ⟨φ,hE,hS,q⟩=>⟨φ,hE,hS,q⟩
 | bk w s1=>
  cases hr
  exact (jr (h1.run _ _ _ e1) fY).imp λD σ H ⟨φ,hE,hS,q⟩=>⟨φ,hE,hS,q⟩
 | ct w s1=>
  cases hr
  exact (jr (h1.run _ _ _ e1) fY).imp λD σ H ⟨φ,hE,hS,q⟩=>⟨φ,hE,hS,q⟩
theorem aF {i:Nat}{x:Str}{pos':Pos} (hN:X.N.Nodup) (hi:X.N[i]?=some x) (hx:Loc X.env.scope x) (he:IE K X e f) (hs:swapsWith e (some (.Name x pos')) pos.line X.env=pure false:=by rfl) (hf:X.fn x=true\/X.env.scope.names.lookup x=some .local:=by first | exact .inl rfl | exact .inr rfl | assumption) :
  IS K X (.Assign [.Name x pos'] e pos) (aG (.nm i) f):=by
 refine⟨λenv st r hr=>?_⟩
 simp only [aG,d7,qab,qac] at hr
 obtain⟨y,hy,e',ee,rfl⟩:=hr
 cases ee
 refine (zo hN hi hx (he.run _ _ _ hy) hs hf).imp ?_
 rintro D σ H ⟨φ,hE,hS,q⟩
 exact⟨φ,hE,hS,λv H1 φ1 f1 s1 w1=>q _ H1 φ1 f1 ((hE.fw hS f1).set i w1) s1⟩
theorem qS {tg:Expr}{g:Tg} (he:IE K X e f) (hg:PG X tg (tG K g)) (hs:swapsWithSole [tg] e pos.line X.env=pure false:=by rfl) (hw:swappedStores [tg] e X.env=pure none:=by rfl)
  (h1:aS tg=true:=by rfl):IS K X (.Assign [tg] e pos) (aG g f):=by
 refine⟨λenv st r hr=>?_⟩
 simp only [aG,qab,qac] at hr
 obtain⟨y,hy,e',ee,rfl⟩:=hr
 refine (rC (he.run _ _ _ hy) hg hs hw (oH h1)).imp ?_
 rintro D σ H ⟨φ,hE,hS,q⟩
 exact⟨φ,hE,hS,λv H1 φ1 f1 s1 w1=>⟨φ1,y.2,env,y.1,e',hE.fw hS f1,s1,w1,ee,λσ' e'' _=>q σ' H1 φ1 f1 e'' s1⟩⟩
theorem Sr.putC {H:Hp}{φ:List Addr}{st:Sto}{n:Nat}{a:Addr}{o:HO}{c:C} (S:Sr K H φ st) (hn:φ[n]?=some a) (w:Fw φ φ H (upd H a o)->Rc K (upd H a o) φ n a c) :
  Fw φ φ H (upd H a o)/\Sr K (upd H a o) φ (st.set n c):=by
 have ha:a ∈ φ:=qbf hn
 have f:Fw φ φ H (upd H a o):=⟨⟨[],by simp,by simp⟩,λb o hb h=>by rw [aK (λz=>hb (by rw [z];exact ha))];exact h,λb o h=>by
  by_cases z:b=a
  ·subst z;exact⟨_,bm⟩
  ·exact⟨o,by rw [aK z];exact h⟩⟩
 refine⟨f,S.nd,by rw [qbW];exact S.len,λm b es e1 e2=>?_⟩
 by_cases hm:n=m
 ·subst hm
  rw [e1] at hn;cases hn
  have hl:n < st.length:=by rw [<-S.len];exact (qan.mp e1).1
  rw [qch hl] at e2
  cases e2
  exact w f
 ·rw [qbR hm] at e2
  have q:=S.at_ m b es e1 e2
  have hne:b≠a:=by
   rintro rfl
   obtain⟨h1,h1'⟩:=qan.mp hn
   obtain⟨h2,h2'⟩:=qan.mp e1
   exact hm ((qd8 S.nd).mp (h1'.trans h2'.symm))
  exact q.fw S f λo h=>by rw [aK hne];exact h
theorem Sr.put {H:Hp}{φ:List Addr}{st:Sto}{n:Nat}{a:Addr}{vs:List V}{ds:List D} (S:Sr K H φ st) (hn:φ[n]?=some a) (w:Rls K H φ ds vs) :
  Fw φ φ H (upd H a (.lst vs))/\Sr K (upd H a (.lst vs)) φ (st.set n (.l ds)):=S.putC hn λf=>⟨vs,bm,w.fw S f⟩
theorem rj {st s':Sto}{o i v:W} (h:lp st o i v=some s'):∃ n k x ds j,o=.h n/\i=.d (.int k)/\v=.d x/\lg st n=some ds/\ixN ds.length k=some j/\s'=st.set n (.l (ds.set j x)):=by
 unfold lp at h
 split at h
 ·obtain⟨ds,e1,h⟩:=qab.mp h
  obtain⟨j,e2,h⟩:=qac.mp h
  exact⟨_,_,_,ds,j,rfl,rfl,rfl,e1,e2,h.symm⟩
 ·cases h
theorem qk {tpos:Pos} (ho:IE K X a fa) (hi:IE K X b fb) (hv:IE K X e f) (hb:jD b=true:=by rfl) (hs:swapsWithSole [.Subscript a b tpos] e pos.line X.env=pure false:=by rfl) (hw:swappedStores [.Subscript a b tpos] e X.env=pure none:=by rfl) :
  IS K X (.Assign [.Subscript a b tpos] e pos) (gW fa fb f):=by
 refine⟨λenv st r hr=>?_⟩
 simp only [gW,qab,qac] at hr
 obtain⟨rv,ev,ro,eo,ri,ei,s',es,rfl⟩:=hr
 refine (rC (hv.run _ _ _ ev) (uJ (ho.run _ _ _ eo) (hi.run _ _ _ ei) pK (sL hb)) hs hw (oH rfl)).imp ?_
 rintro D σ H ⟨φ,hE,hS,q⟩
 refine⟨φ,hE,hS,λv H1 φ1 f1 s1 w1=>⟨φ1,hE.fw hS f1,s1,λo H2 φ2 f2 s2 w2=>⟨φ2,(hE.fw hS f1).fw s1 f2,s2,λi H3 φ3 f3 s3 w3=>?_⟩⟩⟩
 have e3:=((hE.fw hS f1).fw s1 f2).fw s2 f3
 have w1':=(w1.fw s1 f2).fw s2 f3
 have w2':=w2.fw s2 f3
 obtain⟨ro1,ro2⟩:=ro
 obtain⟨rv1,rv2⟩:=rv
 obtain⟨ri1,ri2⟩:=ri
 obtain⟨n,k,x,ds,j,rfl,rfl,rfl,eds,ej,rfl⟩:=rj es
 obtain⟨p,ep,rfl⟩:=w2'
 obtain⟨vs,hp,rl⟩:=s3.atl n p ds ep eds
 have w3':i=.int k:=w3
 subst w3'
 obtain⟨f4,s4⟩:=s3.put ep (Rls.set j rl w1')
 refine⟨p,vs,k,j,rfl,rfl,hp,by rw [<-rl.length];exact ej,?_⟩
 exact q _ _ φ3 (((f1.trans f2).trans f3).trans f4) (e3.fw s3 f4) s4
theorem aE (h:IE K X e f):IS K X (.Return (some e) pos) (bn f):=by
 refine⟨λenv st r hr=>?_⟩
 simp only [bn,qac] at hr
 obtain⟨y,hy,rfl⟩:=hr
 exact (zz (h.run _ _ _ hy)).imp λD σ H ⟨φ,hE,hS,q⟩=>⟨φ,hE,hS,q⟩
theorem si (h:IE K X e f) (hs:swapsWith e none pos.line X.env=pure false:=by rfl):IS K X (.Expr e pos) (mo f):=by
 refine⟨λenv st r hr=>?_⟩
 simp only [mo,qac] at hr
 obtain⟨y,hy,rfl⟩:=hr
 exact (yA (h.run _ _ _ hy) hs).imp λD σ H ⟨φ,hE,hS,q⟩=>⟨φ,hE,hS,λv H1 φ1 f1 s1 w1=>q σ H1 φ1 f1 (hE.fw hS f1) s1⟩
theorem ge {tc:Tf}{sa sb:List Stmt} (hc:IT K X c tc) (ha:ISs K X sa ga) (hb:ISs K X sb gb):IS K X (.If c sa sb pos) (eF tc ga gb):=by
 refine⟨λenv st r hr=>?_⟩
 simp only [eF,qab] at hr
 obtain⟨⟨k,s1⟩,hx,hr⟩:=hr
 cases k with
 | true=>
  rw [if_pos rfl] at hr
  refine (yO (hc.run _ _ _ hx) (ha.run _ _ _ hr) fY).imp ?_
  rintro D σ H ⟨φ,hE,hS,q⟩
  refine⟨φ,hE,hS,λH1 φ1 f1 s1=>tY ?_⟩
  exact⟨φ1,hE.fw hS f1,s1,q.fw f1⟩
 | false=>
  rw [if_neg qaB] at hr
  refine (yO (hc.run _ _ _ hx) fY (hb.run _ _ _ hr)).imp ?_
  rintro D σ H ⟨φ,hE,hS,q⟩
  refine⟨φ,hE,hS,λH1 φ1 f1 s1=>tO ?_⟩
  exact⟨φ1,hE.fw hS f1,s1,q.fw f1⟩
noncomputable def BQ (K:PySem.W.Frag) (g:Sf):TS:=λD σ H=>∃ env st r,g env st=some r/\tS K env st r D σ H
noncomputable def yS (K:PySem.W.Frag) (f:Ef):TE:=λσ H Q=>∃ env st r,f env st=some r/\tI K env st r σ H Q
noncomputable def vI (K:PySem.W.Frag) (f:Tf):TT:=λσ H Q=>∃ env st r,f env st=some r/\tIT K env st r σ H Q
theorem ISs.any (h:ISs K X ss ga):PSs X ss (BQ K ga):=λpins s σ H D I ⟨env,st,r,e,q⟩=>h.run env st r e pins s σ H D I q
theorem IE.any (h:IE K X e f):PE X e (yS K f):=λpins s σ H D I ⟨env,st,r,e,q⟩=>h.run env st r e pins s σ H D I q
theorem IT.any {tf:Tf} (h:IT K X e tf):PT X e (vI K tf):=λpins s σ H D I ⟨env,st,r,e,q⟩=>h.run env st r e pins s σ H D I q
noncomputable def Yl (K:PySem.W.Frag) (φ0:List Addr) (H0:Hp) (J:It) (ds:List D):Prop:=∀ (H:Hp) (φ:List Addr) (st:Sto) (i:Nat),Fw φ0 φ H0 H->Sr K H φ st->
 (∀ d,ds[i]?=some d->J.go i H/\∀ x H',J.yld i H x H'->bx H H'/\Rl K H' φ d x)/\(ds.length=i->J.stop i H)
noncomputable def tII (K:PySem.W.Frag) (env:Ev) (st:Sto) (r:List D×Sto):TI:=λσ H R=>∃ φ,Er K H φ env σ/\Sr K H φ st/\∀ J H' φ',Fw φ φ' H H'->Sr K H' φ' r.2->Yl K φ' H' J r.1->R J H'
structure II (K:PySem.W.Frag) (X:Cx) (tg iter:Expr) (f:Lf):Prop where
 run:∀ env st r,f env st=some r->PI X tg iter (tII K env st r)
theorem PI.imp {tg iter:Expr}{t t':TI} (h:PI X tg iter t) (m:∀ σ H R,t' σ H R->t σ H R):PI X tg iter t':=λpins s σ H R I q=>h pins s σ H R I (m σ H R q)
variable {tg:Expr}
end
section
variable {K:PySem.W.Frag}{X:Cx}{pos:Pos}{tg e a b:Expr}{f:Ef}{af:Af}
theorem cO (h:IE K X e f) (hK:X.K=K:=by rfl):II K X tg e (br f):=by
 subst hK
 refine⟨λenv st r hr=>?_⟩
 simp only [br,qab] at hr
 obtain⟨⟨w,s1⟩,hy,hr⟩:=hr
 dsimp only at hr
 split at hr
 next ds=>
  cases hr
  refine (zm (h.run _ _ _ hy)).imp ?_
  rintro σ H R ⟨φ,hE,hS,q⟩
  refine⟨φ,hE,hS,λv H1 φ1 f1 s1 w1=>?_⟩
  obtain⟨a,vs,rfl,hq,hr⟩:=w1
  refine⟨a,rfl,⟨vs,(SqT.of hq)⟩,q _ H1 φ1 f1 s1 λH2 φ2 st2 i f2 s2=>?_⟩
  have hq2:=(SqT.of hq).fw s1 f2
  have hr2:=hr.fw s1 f2
  refine⟨λd hd=>?_,λhi=>⟨vs,hq2,by rw [<-hr2.length];exact qc9 hi⟩⟩
  obtain⟨v,ev,rv⟩:=hr2.get hd
  refine⟨⟨vs,v,hq2,ev⟩,λx H' y=>?_⟩
  obtain⟨rfl,y⟩:=y
  have:=y vs hq2
  rw [ev] at this
  cases this
  exact⟨bx.refl _,rv⟩
 next ds=>
  cases hr
  refine (xU (h.run _ _ _ hy)).imp ?_
  rintro σ H R ⟨φ,hE,hS,q⟩
  refine⟨φ,hE,hS,λv H1 φ1 f1 s1 w1=>?_⟩
  obtain⟨a,vs,rfl,h0,hq,hr⟩:=w1
  refine⟨a,rfl,⟨vs,.inl hq⟩,q _ H1 φ1 f1 s1 λH2 φ2 st2 i f2 s2=>?_⟩
  have hq2:SqL X.K H2 a vs:=.inl (hq.fw f2 h0)
  have hr2:=hr.fw s1 f2
  refine⟨λd hd=>?_,λhi=>⟨vs,hq2,by rw [<-hr2.length];exact qc9 hi⟩⟩
  obtain⟨v,ev,rv⟩:=hr2.get hd
  refine⟨⟨vs,v,hq2,ev⟩,λx H' y=>?_⟩
  obtain⟨rfl,y⟩:=y
  have:=y vs hq2
  rw [ev] at this
  cases this
  exact⟨bx.refl _,rv⟩
 next=>cases hr
theorem pL (lo:Int) (n i:Nat):(bF lo n)[i]?=if i < n then some (.int (lo+i)) else none:=by
 unfold bF
 rw [qaI]
 by_cases h:i < n
 ·rw [qdJ h,if_pos h];rfl
 ·rw [qdo (by simpa using h),if_neg h];rfl
theorem cc (lo:Int) (n:Nat):(bF lo n).length=n:=by unfold bF;rw [qaf,qbB]
theorem As (lo:Int) (n:Nat) {φ:List Addr}{H:Hp}:Yl K φ H (Itr lo n) (bF lo n):=by
 intro H2 φ2 st2 i f2 s2
 refine⟨λd hd=>?_,λhi=>by rw [cc] at hi;exact qc9 hi⟩
 rw [pL] at hd
 by_cases h:i < n
 ·rw [if_pos h] at hd
  cases hd
  refine⟨h,λx H' y=>?_⟩
  obtain⟨rfl,rfl⟩:=y
  exact⟨bx.refl _,rfl⟩
 ·rw [if_neg h] at hd;cases hd
theorem cQ {p:Pos} (hg:Gl X "range") (hm:X.mg "range" = none) (ha:IA K X [a] af) (hs:aS a=true:=by rfl):II K X tg (.Call (.Name "range" p) [a] [] pos) (bw af):=by
 refine⟨λenv st r hr=>?_⟩
 simp only [bw,qab] at hr
 obtain⟨⟨ws,s1⟩,hy,hr⟩:=hr
 dsimp only at hr
 split at hr
 next j=>
  have hr':(if -(2 ^ 62)<=j/\j < 2 ^ 62 then some (bF 0 j.toNat,s1) else none)=some r:=hr
  by_cases hj:-(2 ^ 62)<=j/\j < 2 ^ 62
  ·rw [if_pos hj] at hr'
   cases hr'
   refine (tT hg hm (ha.run _ _ _ hy) (h8 hs)).imp ?_
   rintro σ H R ⟨φ,hE,hS,q⟩
   refine⟨φ,hE,hS,λvs H1 φ1 f1 s1 w1=>?_⟩
   obtain⟨v,r,rfl,r1,rfl⟩:=w1
   exact⟨j,by rw [show v=.int j from r1],hj.1,hj.2,q _ H1 φ1 f1 s1 (As 0 _)⟩
  ·rw [if_neg hj] at hr';cases hr'
 next=>cases hr
theorem eL:∀ (ds:List D) (k i:Nat),(b8 k ds)[i]?=(ds[i]?).map λd=>D.tup [.int ((k+i:Nat):Int),d]
 | [],k,i=>by simp [b8]
 | d::ds,k,0=>by simp [b8]
 | d::ds,k,i+1=>by
  have:=eL ds (k+1) i
  rw [show k+1+i=k+(i+1) by lia] at this
  simpa [b8] using this
theorem eK:∀ (ds:List D) (k:Nat),(b8 k ds).length=ds.length
 | [],_=>rfl
 | d::ds,k=>by rw [b8,qaj,qaj,eK ds]
theorem sg {S:Hp->List V->Prop}{ds:List D}{vs:List V}{φ:List Addr}{H:Hp} (hS:∀ H' φ',Fw φ φ' H H'->S H' vs) (hr:∀ H' φ',Fw φ φ' H H'->Rls K H' φ' ds vs):Yl K φ H (Ite S) (b8 0 ds):=by
 intro H2 φ2 st2 i f2 s2
 have q2:=hS H2 φ2 f2
 have r2:=hr H2 φ2 f2
 refine⟨λd hd=>?_,λhi=>⟨vs,q2,by rw [<-r2.length,<-eK ds 0];exact hi⟩⟩
 rw [eL,qac] at hd
 obtain⟨d',hd',rfl⟩:=hd
 obtain⟨v,ev,rv⟩:=r2.get hd'
 refine⟨⟨vs,v,q2,ev⟩,λx H' y=>?_⟩
 obtain⟨T,v',y1,hT,rfl,rfl⟩:=y
 have:=y1 vs q2
 rw [ev] at this
 cases this
 refine⟨bx.new hT _,T,_,rfl,bm,_,_,rfl,?_,_,_,rfl,rv.fw s2 (Fw.new hT),rfl⟩
 show V.int (i:Int)=V.int ((0+i:Nat):Int)
 rw [qaQ]
theorem om {elts:List Expr}{k:Nat}{tpos p:Pos} (hg:Gl X "enumerate") (hm:X.mg "enumerate" = none) (ha:IA K X [a] af) (hs:aS a=true:=by rfl) (hK:X.K=K:=by rfl) :
  II K X (.Tuple elts k tpos) (.Call (.Name "enumerate" p) [a] [] pos) (io af):=by
 subst hK
 refine⟨λenv st r hr=>?_⟩
 simp only [io,qab] at hr
 obtain⟨⟨ws,s1⟩,hy,hr⟩:=hr
 dsimp only at hr
 split at hr
 next ds=>
  cases hr
  refine (vp hg hm (ha.run _ _ _ hy) (h8 hs)).imp ?_
  rintro σ H R ⟨φ,hE,hS,q⟩
  refine⟨φ,hE,hS,λvs H1 φ1 f1 s1 w1=>?_⟩
  obtain⟨v,r,rfl,⟨a,us,rfl,hq,hr⟩,rfl⟩:=w1
  exact⟨a,rfl,⟨us,(SqT.of hq)⟩,q _ H1 φ1 f1 s1 (sg (λH' φ' f=>(SqT.of hq).fw s1 f) λH' φ' f=>hr.fw s1 f)⟩
 next ds=>
  cases hr
  refine (wg hg hm (ha.run _ _ _ hy) (h8 hs)).imp ?_
  rintro σ H R ⟨φ,hE,hS,q⟩
  refine⟨φ,hE,hS,λvs H1 φ1 f1 s1 w1=>?_⟩
  obtain⟨v,r,rfl,⟨a,us,rfl,h0,hq,hr⟩,rfl⟩:=w1
  exact⟨a,rfl,⟨us,.inl hq⟩,q _ H1 φ1 f1 s1 (sg (λH' φ' f=>.inl (hq.fw f h0)) λH' φ' f=>hr.fw s1 f)⟩
 next=>cases hr
theorem gx {iter:Expr}{body:List Stmt}{fi:Lf}{g:Tg}{gb:Sf} (hi:II K X tg iter fi) (hg:PG X tg (tG K g)) (hb:ISs K X body gb) (hp:PassesOwn (model X.prog X.w) X.A X.env X.xe) (hc:X.calm=true:=by rfl)
  (hs:∀ x,foldedSetIterable iter X.env x=pure x:=by intro _;rfl):IS K X (.For tg iter body [] pos) (gN fi g gb):=by
 refine⟨λenv st r hr=>?_⟩
 simp only [gN,qab] at hr
 obtain⟨⟨ds,s1⟩,hy,hr⟩:=hr
 refine (AH hp hc (hi.run _ _ _ hy) hg hb.any hs).imp ?_
 rintro D σ H ⟨φ,hE,hS,q⟩
 refine⟨φ,hE,hS,λJ H1 φ1 f1 S1 yl=>?_⟩
 refine⟨λi m σ H=>m=ds.length - i/\i<=ds.length/\∃ env st φ2,Fw φ1 φ2 H1 H/\Er K H φ2 env σ/\Sr K H φ2 st/\kB g gb (ds.drop i) env st=some r,⟨ds.length,by simp,qaZ _,env,s1,φ1,Fw.refl _ _,hE.fw hS f1,S1,hr⟩,?_⟩
 rintro i m σ H2 ⟨rfl,hi,env2,st2,φ2,f2,e2,S2,h2⟩
 obtain⟨y1,y2⟩:=yl H2 φ2 st2 i f2 S2
 by_cases hlt:i < ds.length
 ·obtain⟨go,yld⟩:=y1 ds[i] (qaG hlt)
  rw [qb6 hlt] at h2
  simp only [kB,qab] at h2
  obtain⟨e3,he3,r3,hr3,h3⟩:=h2
  refine .inr ⟨go,λσ' H'=>i+1<=ds.length/\∃ env st φ2,Fw φ1 φ2 H1 H'/\Er K H' φ2 env σ'/\Sr K H' φ2 st/\kB g gb (ds.drop (i+1)) env st=some r,λσ' H' ⟨hn,p'⟩=>⟨ds.length - (i+1),by lia,rfl,hn,p'⟩,λx H' y=>?_⟩
  obtain⟨sm,rx⟩:=yld x H' y
  have S3:=S2.same sm
  have f3:=f2.trans (Fw.same (φ:=φ2) sm)
  refine⟨φ2,st2,env2,.d ds[i],e3,e2.fw S2 (Fw.same sm),S3,rx,he3,λσ' e' _=>?_⟩
  refine⟨e3,st2,r3,hr3,φ2,e',S3,?_⟩
  cases r3 with
  | nx e4 s4=>exact λσ4 H4 φ4 f4 e4' s4'=>⟨hlt,e4,s4,φ4,f3.trans f4,e4',s4',h3⟩
  | ct e4 s4=>exact λσ4 H4 φ4 f4 e4' s4'=>⟨hlt,e4,s4,φ4,f3.trans f4,e4',s4',h3⟩
  | bk e4 s4=>
   cases h3
   exact λσ4 H4 φ4 f4 e4' s4'=>q σ4 H4 φ4 (f1.trans (f3.trans f4)) e4' s4'
  | rt w s4=>
   cases h3
   exact λv H4 φ4 f4 s4' w4=>q v H4 φ4 (f1.trans (f3.trans f4)) s4' w4
 ·have hi':i=ds.length:=by lia
  subst hi'
  rw [qft] at h2
  cases h2
  exact .inl ⟨y2 rfl,q σ H2 φ2 (f1.trans f2) e2 S2⟩
noncomputable def il (n:Nat) (c:Tf) (b:Sf):Sf
 | env,st=>cv c b n env st
theorem i7 {c:Expr}{body:List Stmt}{tc:Tf}{gb:Sf} (n:Nat) (hc:IT K X c tc) (hb:ISs K X body gb) (hp:PassesOwn (model X.prog X.w) X.A X.env X.xe):IS K X (.While c body [] pos) (il n tc gb):=by
 refine⟨λenv st r hr=>?_⟩
 refine (vW hp hc.any hb.any).imp ?_
 rintro D σ H ⟨φ,hE,hS,q⟩
 refine⟨λm σ H'=>∃ env st φ2,Fw φ φ2 H H'/\Er K H' φ2 env σ/\Sr K H' φ2 st/\cv tc gb m env st=some r,⟨n,env,st,φ,Fw.refl _ _,hE,hS,hr⟩,?_⟩
 rintro m σ H2 ⟨env2,st2,φ2,f2,e2,S2,h2⟩
 cases m with
 | zero=>cases h2
 | succ m=>
  simp only [cv,qab] at h2
  obtain⟨⟨k,s3⟩,hk,h2⟩:=h2
  refine⟨env2,st2,_,hk,φ2,e2,S2,λH3 φ3 f3 S3=>?_⟩
  cases k with
  | false=>
   rw [if_neg qaB] at h2
   cases h2
   exact tO (q σ H3 φ3 (f2.trans f3) (e2.fw S2 f3) S3)
  | true=>
   simp only [if_true,qab] at h2
   obtain⟨r3,hr3,h3⟩:=h2
   refine tY ⟨λσ' H'=>∃ env st φ2,Fw φ φ2 H H'/\Er K H' φ2 env σ'/\Sr K H' φ2 st/\cv tc gb m env st=some r,λσ' H' p'=>⟨m,qb2 _,p'⟩,?_⟩
   refine⟨env2,s3,r3,hr3,φ3,e2.fw S2 f3,S3,?_⟩
   have f3':=f2.trans f3
   cases r3 with
   | nx e4 s4=>exact λσ4 H4 φ4 f4 e4' s4'=>⟨e4,s4,φ4,f3'.trans f4,e4',s4',h3⟩
   | ct e4 s4=>exact λσ4 H4 φ4 f4 e4' s4'=>⟨e4,s4,φ4,f3'.trans f4,e4',s4',h3⟩
   | bk e4 s4=>
    cases h3
    exact λσ4 H4 φ4 f4 e4' s4'=>q σ4 H4 φ4 (f3'.trans f4) e4' s4'
   | rt w s4=>
    cases h3
    exact λv H4 φ4 f4 s4' w4=>q v H4 φ4 (f3'.trans f4) s4' w4
structure ITs (K:PySem.W.Frag) (X:Cx) (ifs:List Expr) (t:Tf):Prop where
 run:PTs X ifs (vI K t)
theorem cG:ITs K X [] cC:=by
 refine⟨λpins s σ H Q I ⟨env,st,r,e,φ,hE,hS,q⟩=>?_⟩
 cases e
 exact yD pins s σ H Q I (q H φ (Fw.refl φ H) hS)
theorem dh {c:Expr}{t:Tf} (h:IT K X c t):ITs K X [c] t:=⟨xH h.any⟩
theorem Er.emb {H:Hp}{φ:List Addr}{env:Ev}{σ:St} (h:Er K H φ env σ) (k:Nat) (js:List Nat):Er K H φ (gS k js env) (gG k js σ):=by
 refine⟨by unfold gS gG;simp,λi w e=>?_⟩
 unfold gS at e
 unfold gG
 by_cases hi:i < k
 ·rw [qaT (by simpa using hi),qcJ,if_pos hi] at e
  cases e
 ·rw [qbj (by simpa using hi),qbJ,qaI,qac] at e
  obtain⟨j,ej,e⟩:=e
  have ej2:env[j]?=some (some w):=by
   rw [List.getD] at e
   cases q:env[j]? with
   | none=>rw [q] at e;cases e
   | some o=>rw [q] at e;rw [show o=some w from e]
  obtain⟨v,ev,rv⟩:=h.at_ j w ej2
  refine⟨v,?_,rv⟩
  rw [qbj (by simpa using hi),qbJ,qaI,ej]
  show some ((σ[j]?).getD none)=_
  rw [ev];rfl
theorem Sub.stay {k:Nat}{js is:List Nat}{σ σ':St} (h:xK is (gG k js σ) σ') (hi:∀ j ∈ is,j < k):Sub (gG k js σ) σ':=by
 refine⟨h.1.symm,λj v e=>?_⟩
 by_cases hj:j ∈ is
 ·have:=hi j hj
  unfold gG at e
  rw [qaT (by simpa using this),qcJ,if_pos this] at e
  cases e
 ·rw [h.2 j hj];exact e
theorem we {k:Nat}{js:List Nat}{g:Tg}{tt:Tf}{te:Ef}{env:Ev}{st s1:Sto}{ds:List D}{r:List D×Sto} (hgi:∀ j ∈ xk g,j < k) (hdl:ds.length<=1000000) (hr':lcI g tt te (gS k js env) ds s1=some r) :
  ∀ σ H Q,tIL K env st r σ H Q->tLc (gG k js) (tII K env st (ds,s1)) (tG K g) (vI K tt) (yS K te) σ H Q:=by
 rintro σ H Q ⟨φ,hE,hS,q⟩
 refine⟨φ,hE,hS,λJ H1 φ1 f1 S1 yl=>?_⟩
 have hE1:=(hE.fw hS f1).emb k js
 refine⟨λi m ys H2=>m=ds.length - i/\i<=ds.length/\∃ st φ2 es r2,Fw φ1 φ2 H1 H2/\Sr K H2 φ2 st/\Rls K H2 φ2 es ys/\es.length<=i/\lcI g tt te (gS k js env) (ds.drop i) st=some r2/\r=(es++r2.1,r2.2),⟨ds.length,by simp,qaZ _,s1,φ1,[],r,Fw.refl _ _,S1,rfl,qaq _,hr',rfl⟩,?_⟩
 rintro i m ys H2 ⟨rfl,hi,st2,φ2,es,r2,f2,S2,rl2,hle,h2,rfl⟩
 obtain⟨y1,y2⟩:=yl H2 φ2 st2 i f2 S2
 by_cases hlt:i < ds.length
 ·obtain⟨go,yld⟩:=y1 ds[i] (qaG hlt)
  rw [qb6 hlt] at h2
  simp only [lcI,qab] at h2
  obtain⟨e3,he3,⟨kb,s3⟩,hb3,h3⟩:=h2
  have hz:ys.length < sizeLine:=by
   rw [<-rl2.length]
   have:sizeLine=16777216:=qci
   lia
  refine .inr ⟨go,hz,λys' H'=>i+1<=ds.length/\∃ st φ2 es' r2',Fw φ1 φ2 H1 H'/\Sr K H' φ2 st/\Rls K H' φ2 es' ys'/\es'.length<=i+1/\lcI g tt te (gS k js env) (ds.drop (i+1)) st=some r2'/\(es++r2.1,r2.2)=(es'++r2'.1,r2'.2),λys' H' ⟨hn,p'⟩=>⟨ds.length - (i+1),by lia,rfl,hn,p'⟩,λx H' y=>?_⟩
  obtain⟨sm,rx⟩:=yld x H' y
  have S3:=S2.same sm
  have f3:=f2.trans (Fw.same (φ:=φ2) sm)
  refine⟨φ2,st2,gS k js env,.d ds[i],e3,hE1.fw S1 f3,S3,rx,he3,λσ' e' stay=>⟨Sub.stay stay hgi,?_⟩⟩
  refine⟨e3,st2,_,hb3,φ2,e',S3,λH4 φ4 f4 S4=>?_⟩
  cases kb with
  | false=>
   rw [if_neg qaB] at h3
   exact tO ⟨hlt,s3,φ4,es,r2,f3.trans f4,S4,(rl2.fw S2 (Fw.same sm)).fw S3 f4,by lia,h3,rfl⟩
  | true=>
   simp only [if_true,qab,qac] at h3
   obtain⟨x5,hx5,zs,hzs,r5,hr5,rfl⟩:=h3
   refine tY ⟨e3,s3,x5,hx5,φ4,e'.fw S3 f4,S4,λv H5 φ5 f5 S5 w5=>?_⟩
   obtain⟨x5,s5⟩:=x5
   cases x5 with
   | h n=>cases hzs
   | d z=>
    cases hzs
    refine⟨hlt,s5,φ5,es++[z],r5,(f3.trans f4).trans f5,S5,(((rl2.fw S2 (Fw.same sm)).fw S3 f4).fw S4 f5).append ⟨v,[],rfl,w5,rfl⟩,by rw [qaV];simp;lia,hr5,?_⟩
    simp
 ·have hi':i=ds.length:=by lia
  subst hi'
  rw [qft] at h2
  cases h2
  refine .inl ⟨y2 rfl,λDn hD=>?_⟩
  have:=q Dn ys H2 φ2 (f1.trans f2) S2 hD
  exact this (by simpa using rl2)
theorem cX {scope:Scope}{Nc:List Str}{k:Nat}{js:List Nat}{elt iter:Expr}{ifs:List Expr}{fi:Lf}{g:Tg}{tt:Tf}{te:Ef}
  (S:fD X scope Nc (gG k js)) (hc:X.calm=true) (hgi:∀ j ∈ xk g,j < k) (hi:II K X tg iter fi)
  (hg:∀ cells s H C fp,PG (lcX X scope cells Nc s H C fp) tg (tG K g)) (ht:∀ cells s H C fp,ITs K (lcX X scope cells Nc s H C fp) ifs tt) (he:∀ cells s H C fp,IE K (lcX X scope cells Nc s H C fp) elt te)
  (hs:∀ x,foldedSetIterable iter X.env x=pure x:=by intro _;rfl):IL K X (.ListComp elt [⟨tg,iter,ifs,0⟩] scope pos) (iLc k js fi g tt te):=by
 refine⟨λenv st r hr=>?_⟩
 simp only [iLc,qab] at hr
 obtain⟨⟨ds,s1⟩,hy,hr⟩:=hr
 have hr':(if ds.length<=1000000 then lcI g tt te (gS k js env) ds s1 else none)=some r:=hr
 by_cases hdn:¬ ds.length<=1000000
 ·rw [if_neg hdn] at hr';cases hr'
 have hdl:ds.length<=1000000:=by lia
 rw [if_pos hdl] at hr'
 refine (BX S hc (hi.run _ _ _ hy) hg (λcells s H C fp=>(ht cells s H C fp).run) (λcells s H C fp=>(he cells s H C fp).any) hs).imp (we hgi hdl hr')
theorem sk {scope:Scope}{Nc:List Str}{k:Nat}{js:List Nat}{elt iter:Expr}{ifs:List Expr}{fi:Lf}{g:Tg}{tt:Tf}{te:Ef}{i0:Nat}{x0:Str}{py spos:Pos}
  (hN0:X.N.Nodup) (hi0:X.N[i0]?=some x0) (hx0:Loc X.env.scope x0) (S:fD X scope Nc (gG k js)) (hc:X.calm=true) (hgi:∀ j ∈ xk g,j < k) (hi:II K X tg iter fi)
  (hg:∀ cells s H C fp,PG (lcX X scope cells Nc s H C fp) tg (tG K g)) (ht:∀ cells s H C fp,ITs K (lcX X scope cells Nc s H C fp) ifs tt) (he:∀ cells s H C fp,IE K (lcX X scope cells Nc s H C fp) elt te)
  (hsw:swapsWith (.ListComp elt [⟨tg,iter,ifs,0⟩] scope pos) (some (.Name x0 py)) spos.line X.env=pure true:=by rfl)
  (hf0:X.fn x0=true\/X.env.scope.names.lookup x0=some .local:=by first | exact .inl rfl | exact .inr rfl | assumption)
  (hs:∀ x,foldedSetIterable iter X.env x=pure x:=by intro _;rfl):IS K X (.Assign [.Name x0 py] (.ListComp elt [⟨tg,iter,ifs,0⟩] scope pos) spos) (aG (.nm i0) (aD (iLc k js fi g tt te)))/\
   IS K X (.Assign [.Name x0 py] (.ListComp elt [⟨tg,iter,ifs,0⟩] scope pos) spos) (aG (.nm i0) (lP (iLc k js fi g tt te))):=by
 have key:∀ env st r0 r,iLc k js fi g tt te env st=some r->(∀ σ φ H (D:pj),Er K H φ env σ->Sr K H φ st->vJ K φ H D r0->∀ a vs H1 φ',Fw φ φ' H H1->Sr K H1 φ' r.2->H1 a=none->Rls K H1 φ' r.1 vs->D.nx (σ.set i0 (some (.ref a))) (upd H1 a (.lst vs)))->
   PS X (.Assign [.Name x0 py] (.ListComp elt [⟨tg,iter,ifs,0⟩] scope pos) spos) (tS K env st r0):=by
  intro env st r0 r hr h
  simp only [iLc,qab] at hr
  obtain⟨⟨ds,s1⟩,hy,hr⟩:=hr
  have hr':(if ds.length<=1000000 then lcI g tt te (gS k js env) ds s1 else none)=some r:=hr
  by_cases hdn:¬ ds.length<=1000000
  ·rw [if_neg hdn] at hr';cases hr'
  have hdl:ds.length<=1000000:=by lia
  rw [if_pos hdl] at hr'
  refine (Bp hN0 hi0 hx0 S hc (hi.run _ _ _ hy) hg (λcells s H C fp=>(ht cells s H C fp).run) (λcells s H C fp=>(he cells s H C fp).any) hsw hf0 hs).imp ?_
  rintro D σ H ⟨φ,hE,hS,q⟩
  exact we hgi hdl hr' σ H _ ⟨φ,hE,hS,h σ φ H D hE hS q⟩
 constructor
 ·refine⟨λenv st r hr=>?_⟩
  simp only [aG,aD,d7,qab,qac] at hr
  obtain⟨y,⟨r2,hy,rfl⟩,e',ee,rfl⟩:=hr
  cases ee
  refine key _ _ _ _ hy λσ φ H D hE hS q a vs H1 φ1 f1 s1 n1 w1=>?_
  exact q _ _ φ1 (f1.trans (Fw.new n1)) ((((hE.fw hS f1).fw s1 (Fw.new n1))).set i0 (w:=.d (.lst r2.1)) ⟨a,vs,rfl,s1.nin n1,.inl bm,w1.fw s1 (Fw.new n1)⟩) (s1.new n1)
 ·refine⟨λenv st r hr=>?_⟩
  simp only [aG,lP,d7,qab,qac] at hr
  obtain⟨y,⟨r2,hy,rfl⟩,e',ee,rfl⟩:=hr
  cases ee
  refine key _ _ _ _ hy λσ φ H D hE hS q a vs H1 φ1 f1 s1 n1 w1=>?_
  exact q _ _ (φ1++[a]) (f1.trans (Fw.more n1)) (((hE.fw hS f1).fw s1 (Fw.more n1)).set i0 (w:=.h r2.2.length) ⟨a,by rw [<-s1.len];simp,rfl⟩) (s1.more n1 w1)
end
noncomputable def aJ (n k:Nat) (b:Sf):Fn
 | ws,st=>if ws.length=k then (b (ws.map some++List.replicate (n - k) none) st).bind λr=>match r with
 | .nx _ s=>some (.d .non,s)
 | .rt w s=>some (w,s)
 | _=>none
 else none
noncomputable def xM (n:Nat) (w:W) (s:Sto):Option (W×Sto):=match w with
 | .d x=>some (.d x,s.take n)
 | .h m=>if m < n then some (.h m,s.take n) else (lg s m).map λds=>(.d (.lst ds),s.take n)
noncomputable def lI (n k:Nat) (b:Sf):Fn
 | ws,st=>if ws.length=k then (b (ws.map some++List.replicate (n - k) none) st).bind λr=>match r with
 | .nx _ s=>some (.d .non,s.take st.length)
 | .rt w s=>xM st.length w s
 | _=>none
 else none
section
variable {P:Program}{w:World}{K:PySem.W.Frag}{mg:Str->Option Value}{base:Heap}
theorem p7 {H:Hp}{φ:List Addr}{N:List Str}{k:Nat}:∀ {ws:List W}{vs:List V},Rws K H φ ws vs->ws.length=k->Er K H φ (ws.map some++List.replicate (N.length - k) none) (start N vs):=by
 intro ws vs r hk
 have hl:=r.length
 refine⟨by unfold start;simp;lia,λi x e=>?_⟩
 unfold start
 by_cases hi:i < ws.length
 ·rw [qaT (by simpa using hi),qaI,qac] at e
  obtain⟨y,ey,e⟩:=e
  have:∃ v,vs[i]?=some v/\Rw K H φ y v:=by
   clear hk hl hi e
   induction ws generalizing vs i with
   | nil=>simp at ey
   | cons w ws ih=>
    obtain⟨v,r',rfl,r1,r2⟩:=r
    cases i with
    | zero=>simp at ey;subst ey;exact⟨v,rfl,r1⟩
    | succ i=>simpa using ih r2 i (by simpa using ey)
  obtain⟨v,ev,rv⟩:=this
  cases e
  refine⟨v,?_,rv⟩
  rw [qaT (by rw [qaf,<-hl];exact hi),qaI,ev];rfl
 ·rw [qbj (by simpa using hi)] at e
  have:=qbf e
  have:=(List.mem_replicate.mp this).2
  cases this
theorem cJ {x qual:Str}{st:Stmt}{f:Addr}{fd:FuncData}{N ps:List Str}{k:Nat}{b:Sf} (F:Fun K x qual st f fd) (S:aB N ps (ab st))
  (hb:∀ (cdv:Value) (A:Around) (outer:List Env) (s:Shared) (H:Hp) (E:XK),bh k (A.deeper (envOfC qual (ab st) s.heap.objs.size f cdv))->ISs K (b9 CX0 P w K mg base N qual (ab st) f cdv A outer s H E).nox (am st) b) :
  aH P w K mg base CX0 (k+1) f fd ps (spI K (aJ N.length ps.length b)):=by
 refine F.ok S (λvs H Q E h=>?_) λcdv A outer s H vs Q E hr h=>?_
 ·obtain⟨φ,st,ws,r,e,rw,_⟩:=h
  rw [aJ] at e
  by_cases hl:ws.length=ps.length
  ·rw [<-rw.length,hl]
  ·rw [if_neg hl] at e;cases e
 ·obtain⟨φ,st',ws,r,e,rw,S',q⟩:=h
  rw [aJ] at e
  by_cases hl:ws.length=ps.length
  ·rw [if_pos hl] at e
   obtain⟨fl,e1,e2⟩:=qab.mp e
   refine⟨_,(hb cdv A outer s H E hr).run _ _ _ e1,φ,p7 rw hl,S',?_⟩
   cases fl with
   | nx e s=>cases e2;exact λσ' H' φ' f' e' s'=>q .non H' φ' f' s' rfl
   | rt w s=>cases e2;exact λv H' φ' f' s' w'=>q v H' φ' f' s' w'
   | bk e s=>cases e2
   | ct e s=>cases e2
  ·rw [if_neg hl] at e;cases e
theorem Fw.less {φ φ':List Addr}{H H':Hp} (f:Fw φ φ' H H'):Fw φ φ H H':=⟨⟨[],by simp,by simp⟩,f.keep,f.there⟩
theorem zJ {x qual:Str}{st:Stmt}{f:Addr}{fd:FuncData}{N ps:List Str}{k:Nat}{b:Sf} (F:Fun K x qual st f fd) (S:aB N ps (ab st))
  (hb:∀ (cdv:Value) (A:Around) (outer:List Env) (s:Shared) (H:Hp) (E:XK),bh k (A.deeper (envOfC qual (ab st) s.heap.objs.size f cdv))->ISs K (b9 CX0 P w K mg base N qual (ab st) f cdv A outer s H E).nox (am st) b) :
  aH P w K mg base CX0 (k+1) f fd ps (spI K (lI N.length ps.length b)):=by
 refine F.ok S (λvs H Q E h=>?_) λcdv A outer s H vs Q E hr h=>?_
 ·obtain⟨φ,st,ws,r,e,rw,_⟩:=h
  rw [lI] at e
  by_cases hl:ws.length=ps.length
  ·rw [<-rw.length,hl]
  ·rw [if_neg hl] at e;cases e
 ·obtain⟨φ,st',ws,r,e,rw,S',q⟩:=h
  rw [lI] at e
  by_cases hl:ws.length=ps.length
  ·rw [if_pos hl] at e
   obtain⟨fl,e1,e2⟩:=qab.mp e
   refine⟨_,(hb cdv A outer s H E hr).run _ _ _ e1,φ,p7 rw hl,S',?_⟩
   have less:∀ {H':Hp}{φ':List Addr}{s':Sto},Fw φ φ' H H'->Sr K H' φ' s'->Sr K H' φ (s'.take st'.length):=λ{H' φ' s'} f' S2=>by
    obtain⟨ψ,rfl,_⟩:=f'.ext
    rw [<-S'.len]
    exact S2.less
   cases fl with
   | nx e s=>cases e2;exact λσ' H' φ' f' e' s'=>q .non H' φ f'.less (less f' s') rfl
   | rt w s=>
    intro v H' φ' f' s' w'
    have e3:xM st'.length w s=some r:=e2
    obtain⟨ψ,eψ,_⟩:=f'.ext
    cases w with
    | d x=>
     cases e3
     subst eψ
     exact q v H' φ f'.less (less f' s') (Rl.less w')
    | h m=>
     obtain⟨a,ea,rfl⟩:=w'
     unfold xM at e3
     by_cases hm:m < st'.length
     ·have e4:some (W.h m,s.take st'.length)=some r:=by
       have:=e3
       simp only [hm,if_true] at this
       exact this
      cases e4
      subst eψ
      rw [qaT (by rw [S'.len];exact hm)] at ea
      exact q _ H' φ f'.less (less f' s') ⟨a,ea,rfl⟩
     ·simp only [hm,if_false] at e3
      obtain⟨ds,eds,rfl⟩:=qac.mp e3
      obtain⟨vs,hv,rl⟩:=s'.atl m a ds ea eds
      have hn:a ∉ φ:=λz=>by
       obtain⟨i,hi,ei⟩:=qcb.mp z
       have h1:φ'[i]?=some a:=by subst eψ;rw [qaT hi,qaG hi,ei]
       obtain⟨h2,h2'⟩:=qan.mp h1
       obtain⟨h3,h3'⟩:=qan.mp ea
       have:=(qd8 s'.nd).mp (h2'.trans h3'.symm)
       rw [S'.len] at hi
       lia
      subst eψ
      exact q _ H' φ f'.less (less f' s') ⟨a,vs,rfl,hn,.inl hv,rl.less⟩
   | bk e s=>cases e2
   | ct e s=>cases e2
  ·rw [if_neg hl] at e;cases e
end
noncomputable def eY:D->Bool
 | .non=>true
 | .bl _=>true
 | .int _=>true
 | .str _=>true
 | _=>false
noncomputable def vOf:D->V
 | .bl b=>.bl b
 | .int i=>.int i
 | .str x=>.str x
 | _=>.non
mutual
noncomputable def eqD:D->D->Bool
 | .non,.non=>true
 | .bl a,.bl b=>a==b
 | .bl a,.int b=>(if a then 1 else 0)==b
 | .int a,.bl b=>a==(if b then 1 else 0)
 | .int a,.int b=>a==b
 | .str a,.str b=>a==b
 | .tup as,.tup bs=>fM as bs
 | .lst as,.lst bs=>fM as bs
 | _,_=>false
noncomputable def fM:List D->List D->Bool
 | [],[]=>true
 | a::as,b::bs=>eqD a b && fM as bs
 | _,_=>false
end
noncomputable def okD:Nat->D->Bool
 | _,.non=>true
 | _,.bl _=>true
 | _,.int _=>true
 | _,.str _=>true
 | n+1,.tup ds=>ds.all (okD n)
 | n+1,.lst ds=>ds.all (okD n)
 | _,_=>false
noncomputable def lsD (st:Sto):W->Option (List D)
 | .d (.lst ds)=>some ds
 | .h n=>lg st n
 | _=>none
noncomputable def dm (st:Sto) (x y:W):Option D:=match x,y with
 | .d (.int i),.d (.int j)=>some (.int (i+j))
 | .d (.tup a),.d (.tup b)=>if a.length+b.length<=1000000 then some (.tup (a++b)) else none
 | .d (.str a),.d (.str b)=>if a.length+b.length<=1000000 then some (.str (a++b)) else none
 | x,y=>(lsD st x).bind λa=>(lsD st y).bind λb=>if a.length+b.length<=1000000 then some (.lst (a++b)) else none
noncomputable def gL (_:Sto):W->W->Option D
 | .d (.int i),.d (.int j)=>some (.int (i - j))
 | _,_=>none
instance (a b:Int):Decidable (IntMulOk a b):=by unfold IntMulOk;infer_instance
noncomputable def cA (_:Sto):W->W->Option D
 | .d (.int i),.d (.int j)=>if IntMulOk i j then some (.int (i*j)) else none
 | .d (.tup a),.d (.int k)=>if a≠[]/\a.length<=1000/\1<=k/\k < 1000 then some (.tup (List.replicate k.toNat a).flatten) else none
 | .d (.lst a),.d (.int k)=>if a.length<=1000/\-1000<=k/\k < 1000 then some (.lst (List.replicate k.toNat a).flatten) else none
 | _,_=>none
noncomputable def fk (_:Sto):W->W->Option D
 | .d (.int i),.d (.int j)=>if 0 < j/\j < 1073741824 then some (.int (i / j)) else none
 | _,_=>none
noncomputable def eV (_:Sto):W->W->Option D
 | .d (.int i),.d (.int j)=>if 0 < j then some (.int (i % j)) else none
 | _,_=>none
instance (i j:Int):Decidable (oW i j):=by unfold oW;infer_instance
noncomputable def tV (_:Sto):W->W->Option D
 | .d (.int i),.d (.int j)=>if oW i j then some (.int (i ^ j.toNat)) else none
 | _,_=>none
noncomputable def vd (_:Sto):W->W->Option D
 | .d (.int i),.d (.int j)=>if oW i j then some (.int (i*2 ^ j.toNat)) else none
 | _,_=>none
noncomputable def xn (_:Sto):W->W->Option D
 | .d (.int i),.d (.int j)=>if 0<=j then some (.int (i / 2 ^ j.toNat)) else none
 | _,_=>none
noncomputable def dLt (_:Sto):W->W->Option D
 | .d (.int i),.d (.int j)=>some (.bl (decide (i < j)))
 | _,_=>none
noncomputable def dLe (_:Sto):W->W->Option D
 | .d (.int i),.d (.int j)=>some (.bl (decide (i<=j)))
 | _,_=>none
noncomputable def dGt (_:Sto):W->W->Option D
 | .d (.int i),.d (.int j)=>some (.bl (decide (j < i)))
 | _,_=>none
noncomputable def dGe (_:Sto):W->W->Option D
 | .d (.int i),.d (.int j)=>some (.bl (decide (j<=i)))
 | _,_=>none
noncomputable def qD:D->Bool
 | .non=>true
 | _=>false
noncomputable def ml (_:Sto):W->W->Option D
 | .d x,.d .non=>some (.bl (qD x))
 | _,_=>none
noncomputable def sT (_:Sto):W->W->Option D
 | .d x,.d .non=>some (.bl (!qD x))
 | _,_=>none
section
variable {K:PySem.W.Frag}{X:Cx}
theorem fC {H:Hp}{φ:List Addr}{d:D}{v:V} (h:eY d=true) (r:Rl K H φ d v):v=vOf d/\j0 v=true:=by
 cases d with
 | non=>cases (show v=.non from r);exact⟨rfl,rfl⟩
 | bl b=>cases (show v=.bl b from r);exact⟨rfl,rfl⟩
 | int b=>cases (show v=.int b from r);exact⟨rfl,rfl⟩
 | str b=>cases (show v=.str b from r);exact⟨rfl,rfl⟩
 | _=>cases h
theorem nJ {a b:D} (ha:eY a=true) (hb:eY b=true):eqV (vOf a) (vOf b)=eqD a b:=by
 cases a<;>cases b<;>first | rfl | (cases ha;done) | (cases hb;done) | (simp [eqV,vOf,eqD];done)
theorem u5 {f:Value->Value->Sem Value}{g:Sto->W->W->Option D} (h:∀ st x y d,g st x y=some d->∃ i j,x=.d (.int i)/\y=.d (.int j)/\OpR X f (λvx vy H Q=>vx=.int i/\vy=.int j/\Q (vOf d) H)/\eY d=true):OpD K X f g:=by
 refine⟨λst x y d hd=>?_⟩
 obtain⟨i,j,rfl,rfl,ho,hf⟩:=h st x y d hd
 refine ho.imp ?_
 rintro vx vy H Q ⟨φ,S,r1,r2,q⟩
 refine⟨r1,r2,q _ H (bx.refl H) ?_⟩
 cases d<;>first | rfl | cases hf
noncomputable def i2 (f:Int->Int->Option D):W->W->Option D
 | .d (.int i),.d (.int j)=>f i j
 | _,_=>none
theorem yR {f:Int->Int->Option D}{x y:W}{d:D} (h:i2 f x y=some d):∃ i j,x=.d (.int i)/\y=.d (.int j)/\f i j=some d:=by
 unfold i2 at h
 split at h
 ·exact⟨_,_,rfl,rfl,h⟩
 ·cases h
theorem mU {f:Value->Value->Sem Value}{g:Sto->W->W->Option D}{r:Int->Int->D} (hg:∀ st,g st=i2 λi j=>some (r i j)) (hf:∀ i j,eY (r i j)=true) (h:∀ i j,OpR X f (λvx vy H Q=>vx=.int i/\vy=.int j/\Q (vOf (r i j)) H)):OpD K X f g:=u5 λst x y d e=>by
 rw [hg] at e
 obtain⟨i,j,e1,e2,e3⟩:=yR e
 cases e3
 exact⟨i,j,e1,e2,h i j,hf i j⟩
theorem jS {f:Value->Value->Sem Value}{g:Sto->W->W->Option D}{r:Int->Int->D}{c:Int->Int->Prop} [∀ i j,Decidable (c i j)] (hg:∀ st,g st=i2 λi j=>if c i j then some (r i j) else none) (hf:∀ i j,eY (r i j)=true) (h:∀ i j,c i j->OpR X f (λvx vy H Q=>vx=.int i/\vy=.int j/\Q (vOf (r i j)) H)):OpD K X f g:=u5 λst x y d e=>by
 rw [hg] at e
 obtain⟨i,j,e1,e2,e3⟩:=yR e
 split at e3
 next hc=>
  cases e3
  exact⟨i,j,e1,e2,h i j hc,hf i j⟩
 next=>cases e3
theorem gh:OpD K X (binaryOp .Sub) gL:=mU (λ_=>rfl) (λ_ _=>rfl) λi j=>Ai.imp λvx vy H Q h=>⟨i,j,h.1,h.2.1,h.2.2⟩
theorem wm:OpD K X (compareOp .Lt) dLt:=mU (λ_=>rfl) (λ_ _=>rfl) λi j=>B0.imp λvx vy H Q h=>⟨i,j,h.1,h.2.1,h.2.2⟩
theorem A7:OpD K X (compareOp .LtE) dLe:=mU (λ_=>rfl) (λ_ _=>rfl) λi j=>Bj.imp λvx vy H Q h=>⟨i,j,h.1,h.2.1,h.2.2⟩
theorem yZ:OpD K X (compareOp .Gt) dGt:=mU (λ_=>rfl) (λ_ _=>rfl) λi j=>A8.imp λvx vy H Q h=>⟨i,j,h.1,h.2.1,h.2.2⟩
theorem yY:OpD K X (compareOp .GtE) dGe:=mU (λ_=>rfl) (λ_ _=>rfl) λi j=>Bu.imp λvx vy H Q h=>⟨i,j,h.1,h.2.1,h.2.2⟩
theorem dZ:OpD K X (binaryOp .FloorDiv) fk:=jS (λ_=>rfl) (λ_ _=>rfl) λi j hc=>xy.imp λvx vy H Q h=>⟨i,j,h.1,h.2.1,hc,h.2.2⟩
theorem dQ:OpD K X (binaryOp .Mod) eV:=jS (λ_=>rfl) (λ_ _=>rfl) λi j hc=>AR.imp λvx vy H Q h=>⟨i,j,h.1,h.2.1,hc,h.2.2⟩
theorem wF:OpD K X (binaryOp .Pow) tV:=jS (λ_=>rfl) (λ_ _=>rfl) λi j hc=>zD.imp λvx vy H Q h=>⟨i,j,h.1,h.2.1,hc,h.2.2⟩
theorem uR:OpD K X (binaryOp .LShift) vd:=jS (λ_=>rfl) (λ_ _=>rfl) λi j hc=>Ao.imp λvx vy H Q h=>⟨i,j,h.1,h.2.1,hc,h.2.2⟩
theorem vQ:OpD K X (binaryOp .RShift) xn:=jS (λ_=>rfl) (λ_ _=>rfl) λi j hc=>zZ.imp λvx vy H Q h=>⟨i,j,h.1,h.2.1,hc,h.2.2⟩
theorem vc {H:Hp}{φ:List Addr}{d:D}{v:V} (r:Rl K H φ d v):decide (v=.non)=qD d:=by
 cases d with
 | non=>cases (show v=.non from r);rfl
 | bl b=>cases (show v=.bl b from r);rfl
 | int b=>cases (show v=.int b from r);rfl
 | str b=>cases (show v=.str b from r);rfl
 | ty b=>cases (show v=.ty b from r);rfl
 | dct=>obtain⟨a,rfl,_⟩:=r;rfl
 | scr ns=>obtain⟨a,rfl,_⟩:=r;rfl
 | tup ds=>obtain⟨a,vs,rfl,_⟩:=r;rfl
 | lst ds=>obtain⟨a,vs,rfl,_⟩:=r;rfl
theorem lz:OpD K X (compareOp .Is) ml:=by
 refine⟨λst x y d h=>?_⟩
 unfold ml at h
 split at h
 next x=>
  cases h
  refine Aq.imp ?_
  rintro vx vy H Q ⟨φ,S,r1,r2,q⟩
  refine⟨r2,q _ H (bx.refl H) ?_⟩
  rw [vc r1];rfl
 next=>cases h
theorem wZ:OpD K X (compareOp .IsNot) sT:=by
 refine⟨λst x y d h=>?_⟩
 unfold sT at h
 split at h
 next x=>
  cases h
  refine yr.imp ?_
  rintro vx vy H Q ⟨φ,S,r1,r2,q⟩
  refine⟨r2,q _ H (bx.refl H) ?_⟩
  rw [vc r1];rfl
 next=>cases h
end
end L2
namespace L2
open PySem PySem.Spec PyProof.Rows
section
variable {K:PySem.W.Frag}{X:Cx}
theorem xA:OpR X (binaryOp .Add) (λx y H Q=>∃ l b xs zs,x=.ref l/\y=.ref b/\Rd H l (.lst xs)/\Rd H b (.lst zs)/\xs.length+zs.length<=sizeLine/\∀ p,H p=none->Q (.ref p) (upd H p (.lst (xs++zs)))):=by
 intro pins s σ H x y v u Q I rx ry h
 obtain⟨l,b,xs,zs,rfl,rfl,hH,hB,hz,q⟩:=h
 cases rx
 cases ry
 obtain⟨z,its,n,r,e⟩:=hH.ok I.hok
 obtain⟨z2,its2,n2,r2,e2⟩:=hB.ok I.hok
 have hl:=r.length
 have hl2:=r2.length
 refine PySem.P.add_list e e2 ?_ (by rw [qax,qax];lia)
 have ea:its.toArray++its2.toArray=(its++its2).toArray:=by simp
 rw [ea]
 exact⟨.ref _,_,I.lnew (t':=s.toks) (r.append r2) (by rw [qaV];lia),rfl,q _ I.fresh⟩
theorem uN:OpR X (binaryOp .Add) (λx y H Q=>∃ a b xs ys,x=.ref a/\y=.ref b/\SqT X.K H a xs/\SqT X.K H b ys/\xs.length+ys.length<=sizeLine/\
  (xs=[]->Q (.ref b) H)/\(ys=[]->Q (.ref a) H)/\∀ p,H p=none->Q (.ref p) (upd H p (.tup (xs++ys)))):=by
 intro pins s σ H x y v u Q I rx ry h
 obtain⟨a,b,xs,ys,rfl,rfl,ha,hb,hz,q0,q1,q2⟩:=h
 by_cases hx:xs=[]
 ·cases rx
  cases ry
  obtain⟨its,r1,p1,_⟩:=I.tuple ha
  obtain⟨its2,r2,p2,_⟩:=I.tuple hb
  obtain⟨⟨cls,dd,data,sl⟩,ho,hc,n,hd⟩:=id p1
  obtain⟨⟨cls2,dd2,data2,sl2⟩,ho2,hc2,n2,hd2⟩:=id p2
  simp only at hc hd hc2 hd2
  subst hc hd hc2 hd2
  exact qfp ⟨_,ho,rfl⟩ ⟨_,ho2,rfl⟩ qez qe2 qdh qdd (qc6 _ _)
   (tuple_addW0 a b its.toArray its2.toArray n n2 dd dd2 sl sl2 (by simp [r1.nil_iff.mpr hx])) ⟨ho,ho2,.ref b,H,I,rfl,q0 hx⟩
 ·exact wY pins s σ H _ _ v u Q I rx ry ⟨a,b,xs,ys,rfl,rfl,ha,hb,hx,hz,q1,λ_ p hp=>q2 p hp⟩
theorem oK {st:Sto}{H:Hp}{φ:List Addr}{w:W}{v:V}{ds:List D} (S:Sr K H φ st) (r:Rw K H φ w v) (e:lsD st w=some ds):∃ a vs,v=.ref a/\Rd H a (.lst vs)/\Rls K H φ ds vs:=by
 cases w with
 | h n=>
  obtain⟨a,ea,rfl⟩:=r
  obtain⟨vs,q,rl⟩:=S.atl n a ds ea e
  exact⟨a,vs,rfl,.inl q,rl⟩
 | d x=>
  cases x with
  | lst es=>cases e;obtain⟨a,vs,rfl,h0,h1,h2⟩:=r;exact⟨a,vs,rfl,h1,h2⟩
  | _=>cases e
theorem mil:(1000000:Nat)<=sizeLine:=by rw [qci];decide
theorem cY (hK:X.K=K:=by rfl):OpD K X (binaryOp .Add) dm:=by
 subst hK
 refine⟨λst x y d h=>?_⟩
 have lists:(lsD st x).bind (λa=>(lsD st y).bind λb=>if a.length+b.length<=1000000 then some (.lst (a++b)) else none)=some d->OpR X (binaryOp .Add) (rD X.K st x y d):=λh=>by
  simp only [qab] at h
  obtain⟨as,ha,bs,hb,h⟩:=h
  split at h
  ·rename_i hl
   cases h
   refine xA.imp ?_
   rintro vx vy H Q ⟨φ,S,r1,r2,q⟩
   obtain⟨a,us,rfl,h1,h2⟩:=oK S r1 ha
   obtain⟨b,vs,rfl,h3,h4⟩:=oK S r2 hb
   refine⟨a,b,us,vs,rfl,rfl,h1,h3,by rw [<-h2.length,<-h4.length];exact qaX hl mil,λp hp=>q _ _ (bx.new hp _) ?_⟩
   exact⟨p,_,rfl,S.nin hp,.inl bm,(h2.append h4).fw S (Fw.new hp)⟩
  ·cases h
 unfold dm at h
 split at h
 next i j=>
  cases h
  refine An.imp ?_
  rintro vx vy H Q ⟨φ,S,r1,r2,q⟩
  exact⟨i,j,r1,r2,q _ H (bx.refl H) rfl⟩
 next as bs=>
  split at h
  ·rename_i hl
   cases h
   refine uN.imp ?_
   rintro vx vy H Q ⟨φ,S,⟨a,us,rfl,h1,h2⟩,⟨b,vs,rfl,h3,h4⟩,q⟩
   refine⟨a,b,us,vs,rfl,rfl,(SqT.of h1),(SqT.of h3),by rw [<-h2.length,<-h4.length];exact qaX hl mil,λe=>?_,λe=>?_,λp hp=>?_⟩
   ·subst e
    have:as=[]:=by cases as with | nil=>rfl | cons _ _=>cases h2.length
    subst this
    exact q _ H (bx.refl H) ⟨b,vs,rfl,h3,h4⟩
   ·subst e
    have:bs=[]:=by cases bs with | nil=>rfl | cons _ _=>cases h4.length
    subst this
    exact q _ H (bx.refl H) ⟨a,us,rfl,h1,by rw [qbG];exact h2⟩
   ·exact q _ _ (bx.new hp _) ⟨p,_,rfl,bm,(h2.append h4).fw S (Fw.new hp)⟩
  ·cases h
 next as bs=>
  split at h
  ·rename_i hl
   cases h
   refine qR.imp ?_
   rintro vx vy H Q ⟨φ,S,r1,r2,q⟩
   exact⟨as,bs,r1,r2,qaX hl mil,q _ H (bx.refl H) rfl⟩
  ·cases h
 next=>exact lists h
theorem sw:OpR X (binaryOp .Mult) (λx y H Q=>∃ l k xs,x=.ref l/\y=.int k/\Rd H l (.lst xs)/\-(2 ^ 63)<=k/\k < 2 ^ 63/\xs.length*k.toNat<=sizeLine/\
 ∀ p,H p=none->Q (.ref p) (upd H p (.lst (List.replicate k.toNat xs).flatten))):=by
 intro pins s σ H x y v u Q I rx ry h
 obtain⟨l,k,xs,rfl,rfl,hH,h1,h2,hz,q⟩:=h
 cases rx
 obtain⟨t,rfl⟩:=ry
 obtain⟨z,its,n,r,e⟩:=hH.ok I.hok
 have hl:=r.length
 have hlen:its.toArray.size*k.toNat<=sizeLine:=by rw [qax,<-hl];exact hz
 have hcap:¬ its.toArray.size*k.toNat > (2 ^ 63 - 1) / 8:=by
  have:(sizeLine:Nat)<=(2 ^ 63 - 1) / 8:=by decide
  lia
 have hfit:¬ (!Builtin.List.listFitsIndex k)=true:=by
  rw [qg6 h1 h2]
  exact qaB
 have hlong:¬ Builtin.List.listTooLong (its.toArray.size*k.toNat)=true:=by
  rw [wB hlen]
  exact qaB
 have hnew:List.foldl (λx1 x2=>x1++x2) #[] (List.replicate (if its.toArray.isEmpty=true then 0 else k.toNat) its.toArray)=(List.replicate k.toNat its).flatten.toArray:=by
  have f0:∀ m:Nat,List.foldl (λx1 x2=>x1++x2) #[] (List.replicate m its.toArray)=(List.replicate m its).flatten.toArray:=λm=>by
   have:=jE its m []
   rw [qaW] at this
   exact this
  rw [f0]
  cases its with
  | nil=>simp
  | cons a r'=>rw [if_neg (by simp)]
 refine qeS (T:="list") (U:="int") (by decide) ⟨_,e,rfl⟩ (λs'=>qdP s' k t) noFill_list_mul qf5 qdG repeat_list qfR.lookup
  (qcL qdG (qdP s k t) qfT (qfM _ _) (int___rmul___int_list k t l its.toArray n)
    ⟨e,rfl,⟨_,e,rfl⟩,qcL F.slot_list_mul ⟨_,e,rfl⟩ F.entry_list_mul (F.args_list_mul_2 _ _) (AutoListH.list___mul___list_int_3 l its.toArray n k t hfit hcap hlong) ⟨e,?_⟩⟩)
 rw [hnew]
 exact⟨.ref _,_,I.lnew (t':=s.toks) (r.rep k.toNat) (by rw [nA,Nat.mul_comm];exact hz),rfl,q _ I.fresh⟩
theorem cq (hK:X.K=K:=by rfl):OpD K X (binaryOp .Mult) cA:=by
 subst hK
 refine⟨λst x y d h=>?_⟩
 unfold cA at h
 split at h
 next i j=>
  split at h
  ·rename_i hl
   cases h
   refine xY.imp ?_
   rintro vx vy H Q ⟨φ,S,r1,r2,q⟩
   exact⟨i,j,r1,r2,hl,q _ H (bx.refl H) rfl⟩
  ·cases h
 next as k=>
  split at h
  ·rename_i hl
   cases h
   refine xL.imp ?_
   rintro vx vy H Q ⟨φ,S,⟨a,us,rfl,h1,h2⟩,r2,q⟩
   have hne:us≠[]:=by rintro rfl;cases as with | nil=>exact hl.1 rfl | cons _ _=>cases h2.length
   refine⟨a,k,us,rfl,r2,(SqT.of h1),hne,by rw [<-h2.length];exact hl.2.1,hl.2.2.1,hl.2.2.2,λe=>?_,λ_ p hp=>?_⟩
   ·subst e
    exact q _ H (bx.refl H) ⟨a,us,rfl,h1,by simpa using h2⟩
   ·exact q _ _ (bx.new hp _) ⟨p,_,rfl,bm,(h2.rep _).fw S (Fw.new hp)⟩
  ·cases h
 next as k=>
  split at h
  ·rename_i hl
   cases h
   refine sw.imp ?_
   rintro vx vy H Q ⟨φ,S,⟨a,us,rfl,h0,h1,h2⟩,r2,q⟩
   refine⟨a,k,us,rfl,r2,h1,by lia,by lia,?_,λp hp=>?_⟩
   ·rw [<-h2.length]
    have:as.length*k.toNat<=1000*1000:=qdH hl.1 (by lia)
    exact qaX this mil
   ·exact q _ _ (bx.new hp _) ⟨p,_,rfl,S.nin hp,.inl bm,(h2.rep _).fw S (Fw.new hp)⟩
  ·cases h
 next=>cases h
noncomputable def dIx (st:Sto) (x y:W):Option D:=match x,y with
 | .d (.str z),.d (.int i)=>if z.length<=1000000 then (atI z.cps.toList i).map λc=>.str ⟨#[c]⟩ else none
 | x,.d (.int i)=>(eX st x).bind λds=>atI ds i
 | _,_=>none
theorem Am {H:Hp}{φ:List Addr}{ds:List D}{vs:List V}{i:Int}{d:D} (r:Rls K H φ ds vs) (e:atI ds i=some d):∃ v,atI vs i=some v/\Rl K H φ d v:=by
 unfold atI at e ⊢
 rw [<-r.length]
 obtain⟨j,e1,e2⟩:=qab.mp e
 obtain⟨v,ev,rv⟩:=r.get e2
 exact⟨v,by rw [e1];exact ev,rv⟩
theorem IxR.imp {r r':R2} (h:IxR X r) (m:∀ x y H Q,r' x y H Q->r x y H Q):IxR X r':=λvalue slice pins s σ H x y v u Q I rx ry q hs=>h value slice pins s σ H x y v u Q I rx ry (m _ _ _ _ q) hs
theorem Br (st:Sto) (x y:W) (d:D) (h:dIx st x y=some d) (hK:X.K=K):IxR X (rD K st x y d):=by
 subst hK
 unfold dIx at h
 split at h
 next z i=>
  split at h
  next hl=>
   obtain⟨c,e1,rfl⟩:=qac.mp h
   refine rn.imp ?_
   rintro vx vy H Q ⟨φ,S,r1,r2,q⟩
   exact .inr (.inr ⟨z,i,c,r1,r2,qaX hl mil,e1,q _ H (bx.refl H) rfl⟩)
  next=>cases h
 next x i _=>
  obtain⟨ds,e1,e2⟩:=qab.mp h
  refine rn.imp ?_
  rintro vx vy H Q ⟨φ,S,r1,r2,q⟩
  obtain⟨a,vs,rfl,h1,h2⟩:=oM S r1 e1
  obtain⟨v,ev,rv⟩:=Am h2 e2
  rcases h1 with h1 | h1
  ·exact .inl ⟨a,vs,i,v,rfl,r2,h1,ev,q _ H (bx.refl H) rv⟩
  ·exact .inr (.inl ⟨a,vs,i,v,rfl,r2,h1,ev,q _ H (bx.refl H) rv⟩)
 next=>cases h
variable {e a b:Expr}{pos p2:Pos}{f fa fb:Ef}
theorem dn (ha:IE K X a fa) (hb:IE K X b fb) (hs:jD b=true:=by rfl) (hK:X.K=K:=by rfl):IE K X (.Subscript a b pos) (iOp dIx fa fb):=by
 refine⟨λenv st r hr=>?_⟩
 simp only [iOp,qab,qac] at hr
 obtain⟨x,hx,y,hy,d,hd,rfl⟩:=hr
 exact (za (Br _ _ _ _ hd hK) (ha.run _ _ _ hx) (hb.run _ _ _ hy) (qB hs)).imp λσ H Q h=>nU h
abbrev Pf:=Ev->Sto->Option (Option Int×Sto)
noncomputable def iPn:Pf
 | _,st=>some (none,st)
noncomputable def zx:W->Option Int
 | .d (.int i)=>some i
 | _=>none
theorem tm {w:W}{i:Int} (h:zx w=some i):w=.d (.int i):=by
 cases w with
 | h n=>cases h
 | d x=>cases x<;>first | (cases h;done) | (injection h with h;subst h;rfl)
noncomputable def iPs (f:Ef):Pf
 | env,st=>(f env st).bind λr=>(zx r.1).map λi=>(some i,r.2)
noncomputable def tIO (K:PySem.W.Frag) (env:Ev) (st:Sto) (r:Option Int×Sto):TO:=λσ H Q=>∃ φ,Er K H φ env σ/\Sr K H φ st/\∀ H' φ',Fw φ φ' H H'->Sr K H' φ' r.2->Q r.1 H'
structure IO (K:PySem.W.Frag) (X:Cx) (e:Option Expr) (f:Pf):Prop where
 run:∀ env st r,f env st=some r->PO X e (tIO K env st r)
theorem PO.imp {e:Option Expr}{t t':TO} (h:PO X e t) (m:∀ σ H Q,t' σ H Q->t σ H Q):PO X e t':=λpins s σ H Q I q=>h pins s σ H Q I (m σ H Q q)
theorem sR:IO K X none iPn:=by
 refine⟨λenv st r hr=>?_⟩
 cases hr
 exact xF.imp λσ H Q ⟨φ,hE,hS,q⟩=>q H φ (Fw.refl φ H) hS
theorem sH (h:IE K X e f):IO K X (some e) (iPs f):=by
 refine⟨λenv st r hr=>?_⟩
 simp only [iPs,qab,qac] at hr
 obtain⟨⟨x,s1⟩,hx,i,hi,rfl⟩:=hr
 cases tm hi
 refine (yE (h.run _ _ _ hx)).imp ?_
 rintro σ H Q ⟨φ,hE,hS,q⟩
 exact⟨φ,hE,hS,λv H1 φ1 f1 s1 w1=>⟨i,w1,q H1 φ1 f1 s1⟩⟩
noncomputable def mB (xs:List D) (lo hi:Option Int):List D:=(xs.drop (HT.sIx xs.length 0 lo)).take (HT.sIx xs.length xs.length hi - HT.sIx xs.length 0 lo)
theorem sI {H:Hp}{φ:List Addr}{ds:List D}{vs:List V} (r:Rls K H φ ds vs) (lo hi:Option Int):Rls K H φ (mB ds lo hi) (nM vs lo hi):=by
 unfold mB nM
 rw [r.length]
 exact (r.drop _).take _
noncomputable def dSl (st:Sto) (x:W) (lo hi:Option Int):Option D:=match x with
 | .d (.tup ds)=>some (.tup (mB ds lo hi))
 | .d (.lst ds)=>some (.lst (mB ds lo hi))
 | .h n=>(lg st n).map λds=>.lst (mB ds lo hi)
 | .d (.scr ns)=>some (.lst (mB (ns.map D.int) lo hi))
 | _=>none
noncomputable def iSl (f:Ef) (lo hi:Pf):Ef
 | env,st=>(f env st).bind λx=>(lo env x.2).bind λl=>(hi env l.2).bind λu=>(dSl u.2 x.1 l.1 u.1).map λd=>(.d d,u.2)
theorem yP {lo hi:Option Expr}{fl fh:Pf} (h:IE K X e f) (hl:IO K X lo fl) (hh:IO K X hi fh) (hK:X.K=K:=by rfl):IE K X (.Subscript e (.Slice lo hi none p2) pos) (iSl f fl fh):=by
 subst hK
 refine⟨λenv st r hr=>?_⟩
 simp only [iSl,qab,qac] at hr
 obtain⟨⟨x,s1⟩,hx,l,hl',u,hu',d,hd,rfl⟩:=hr
 have list:(∀ {H:Hp}{φ:List Addr}{v:V},Sr X.K H φ u.2->Rw X.K H φ x v->∃ a vs ds,v=.ref a/\SqL X.K H a vs/\Rls X.K H φ ds vs/\d=.lst (mB ds l.1 u.1))->PE X (.Subscript e (.Slice lo hi none p2) pos) (tI X.K env st (.d d,u.2)):=λhq=>by
  refine (pN yb (h.run _ _ _ hx) (hl.run _ _ _ hl') (hh.run _ _ _ hu')).imp ?_
  rintro σ H Q ⟨φ,hE,hS,q⟩
  refine⟨φ,hE,hS,λv H1 φ1 f1 s1 w1=>⟨φ1,hE.fw hS f1,s1,λH2 φ2 f2 s2=>⟨φ2,(hE.fw hS f1).fw s1 f2,s2,λH3 φ3 f3 s3=>?_⟩⟩⟩
  obtain⟨a,vs,ds,rfl,h1,h2,rfl⟩:=hq s3 ((w1.fw s1 f2).fw s2 f3)
  refine⟨a,vs,rfl,h1,λp hp=>q _ _ φ3 (((f1.trans f2).trans f3).trans (Fw.new hp)) (s3.new hp) ?_⟩
  exact⟨p,_,rfl,s3.nin hp,.inl bm,(sI h2 _ _).fw s3 (Fw.new hp)⟩
 dsimp only at hd
 unfold dSl at hd
 split at hd
 next ds=>
  cases hd
  refine (pN (Ac (K:=X.K) rfl) (h.run _ _ _ hx) (hl.run _ _ _ hl') (hh.run _ _ _ hu')).imp ?_
  rintro σ H Q ⟨φ,hE,hS,q⟩
  refine⟨φ,hE,hS,λv H1 φ1 f1 s1 w1=>⟨φ1,hE.fw hS f1,s1,λH2 φ2 f2 s2=>⟨φ2,(hE.fw hS f1).fw s1 f2,s2,λH3 φ3 f3 s3=>?_⟩⟩⟩
  obtain⟨a,vs,rfl,h1,h2⟩:=(w1.fw s1 f2).fw s2 f3
  refine⟨a,vs,rfl,(SqT.of h1),?_⟩
  by_cases hc:HT.sIx vs.length 0 l.1=0/\HT.sIx vs.length vs.length u.1=vs.length
  ·refine .inr ⟨hc,q _ _ φ3 ((f1.trans f2).trans f3) s3 ⟨a,vs,rfl,h1,?_⟩⟩
   have e:mB ds l.1 u.1=ds:=by
    unfold mB
    rw [h2.length,hc.1,hc.2,qew,qgN,<-h2.length,qcg]
   rw [e]
   exact h2
  ·exact .inl ⟨hc,λp hp=>q _ _ φ3 (((f1.trans f2).trans f3).trans (Fw.new hp)) (s3.new hp) ⟨p,_,rfl,bm,(sI h2 _ _).fw s3 (Fw.new hp)⟩⟩
 next ds=>
  cases hd
  refine list λ{H φ v} S w=>?_
  obtain⟨a,vs,rfl,h0,h1,h2⟩:=w
  exact⟨a,vs,ds,rfl,.inl h1,h2,rfl⟩
 next n=>
  obtain⟨ds,e1,rfl⟩:=qac.mp hd
  refine list λ{H φ v} S w=>?_
  obtain⟨a,ea,rfl⟩:=w
  obtain⟨vs,q,rl⟩:=S.atl n a ds ea e1
  exact⟨a,vs,ds,rfl,SqL.of q,rl,rfl⟩
 next ns=>
  cases hd
  refine list λ{H φ v} S w=>?_
  obtain⟨a,rfl,h⟩:=w
  refine⟨a,_,_,rfl,?_,Rls.of_ints ns,rfl⟩
  rcases h with⟨o,h⟩ | h
  ·exact .inl (.inr ⟨o,h⟩)
  ·exact .inr h
 next=>cases hd
end
section
variable {K:PySem.W.Frag}{X:Cx}{pins:List (Addr×Obj)}{σ:St}{H:Hp}{s:Shared}{φ:List Addr}{st:Sto}
theorem eS:∀ (xs ys:List D),((List.range (min xs.length ys.length)).all (λj=>eqD (xs.getD j .non) (ys.getD j .non)) && xs.length==ys.length)=fM xs ys
 | [],[]=>rfl
 | [],y::ys=>by simp [fM]
 | x::xs,[]=>by simp [fM]
 | x::xs,y::ys=>by
  show ((List.range (min (xs.length+1) (ys.length+1))).all (λj=>eqD ((x::xs).getD j .non) ((y::ys).getD j .non)) && (xs.length+1==ys.length+1))=(eqD x y && fM xs ys)
  rw [show min (xs.length+1) (ys.length+1)=min xs.length ys.length+1 by lia,mC,<-eS xs ys]
  have e:(xs.length+1==ys.length+1)=(xs.length==ys.length):=by rw [qcd];simp
  rw [e,Bool.and_assoc]
  rfl
theorem iI {xs ys:List D} (h:xs.length=ys.length):(List.range xs.length).all (λj=>eqD (xs.getD j .non) (ys.getD j .non))=fM xs ys:=by
 rw [<-eS xs ys,<-h,qgP];simp
theorem qv:∀ {xs ys:List D},xs.length≠ys.length->fM xs ys=false
 | [],[],h=>absurd rfl h
 | [],_::_,_=>rfl
 | _::_,[],_=>rfl
 | x::xs,y::ys,h=>by
  show (eqD x y && fM xs ys)=false
  rw [qv (by intro e;apply h;rw [qaj,qaj,e]),Bool.and_false]
theorem xm (I:Inv X pins σ H s) {a:Addr}{vs ws:List V} (h:Rd H a (.lst vs)) (h':Rd H a (.lst ws)):vs=ws:=I.list_inj (.inl h) (.inl h')
theorem Ab {x:V} (h:j0 x=true):eqV x x=true:=by
 cases x<;>first | (cases h;done) | (simp [eqV];done)
theorem uT {d e:D}{v:V} (f1:eY d=true) (f2:eY e=true) (r1:Rl K H φ d v) (r2:Rl K H φ e v):eqD d e=true:=by
 obtain⟨e1,g1⟩:=fC f1 r1
 obtain⟨e2,_⟩:=fC f2 r2
 rw [<-nJ f1 f2,<-e1,<-e2]
 exact Ab g1
theorem lx {n:Nat}{d e:D}{v:V} (f:eY d=true) (r1:Rl K H φ d v) (r2:Rl K H φ e v) (o2:okD n e=true):eqD d e=true:=by
 have g1:=(fC f r1).2
 cases e with
 | tup es=>obtain⟨b,us,q,_⟩:=r2;rw [q] at g1;cases g1
 | lst es=>obtain⟨b,us,q,_⟩:=r2;rw [q] at g1;cases g1
 | _=>first | exact uT f rfl r1 r2 | (cases n<;>cases o2;done)
theorem sn (I:Inv X pins σ H s):∀ (n:Nat) {d e:D}{v:V},Rl X.K H φ d v->Rl X.K H φ e v->okD n d=true->okD n e=true->eqD d e=true:=by
 intro n
 induction n with
 | zero=>
  intro d e v r1 r2 o1 o2
  refine lx ?_ r1 r2 o2
  cases d<;>first | rfl | (cases o1;done)
 | succ n ih=>
  have lists:∀ {ds es:List D}{vs:List V},Rls X.K H φ ds vs->Rls X.K H φ es vs->(∀ d ∈ ds,okD n d=true)->(∀ d ∈ es,okD n d=true)->fM ds es=true:=by
   intro ds
   induction ds with
   | nil=>
    intro es vs r1 r2 _ _
    cases r1
    cases es with
    | nil=>rfl
    | cons e es=>obtain⟨_,_,q,_⟩:=r2;cases q
   | cons d ds ihd=>
    intro es vs r1 r2 o1 o2
    obtain⟨v,r,rfl,a1,a2⟩:=r1
    cases es with
    | nil=>cases r2
    | cons e es=>
     obtain⟨v',r',q,b1,b2⟩:=r2
     cases q
     show (eqD d e && fM ds es)=true
     rw [ih a1 b1 (o1 d qai) (o2 e qai),ihd a2 b2 (λx hx=>o1 x (qah _ hx)) (λx hx=>o2 x (qah _ hx))]
     rfl
  intro d e v r1 r2 o1 o2
  cases d with
  | tup ds=>
   obtain⟨a,vs,rfl,h1,h2⟩:=r1
   cases e with
   | tup es=>
    obtain⟨b,us,q,h3,h4⟩:=r2
    cases q
    rw [I.tuple_inj (SqT.of h3) (SqT.of h1)] at h4
    exact lists h2 h4 (qaJ.mp o1) (qaJ.mp o2)
   | lst es=>
    obtain⟨b,us,q,_,h3,h4⟩:=r2
    cases q
    obtain⟨_,_,p1,_⟩:=I.tuple (SqT.of h1)
    obtain⟨_,_,p2,_⟩:=I.list (.inl h3)
    exact absurd rfl (qeH p2.isList p1)
   | _=>first | (cases o2;done) | (cases r2;done)
  | lst ds=>
   obtain⟨a,vs,rfl,h0,h1,h2⟩:=r1
   cases e with
   | lst es=>
    obtain⟨b,us,q,_,h3,h4⟩:=r2
    cases q
    rw [xm I h3 h1] at h4
    exact lists h2 h4 (qaJ.mp o1) (qaJ.mp o2)
   | tup es=>
    obtain⟨b,us,q,h3,h4⟩:=r2
    cases q
    obtain⟨_,_,p1,_⟩:=I.tuple (SqT.of h3)
    obtain⟨_,_,p2,_⟩:=I.list (.inl h1)
    exact absurd rfl (qeH p2.isList p1)
   | _=>first | (cases o2;done) | (cases r2;done)
  | non=>exact lx rfl r1 r2 o2
  | bl b=>exact lx rfl r1 r2 o2
  | int b=>exact lx rfl r1 r2 o2
  | str b=>exact lx rfl r1 r2 o2
  | ty b=>cases o1
  | scr b=>cases o1
  | dct=>cases o1
theorem eI {ds:List D}{vs:List V}{us:List Value} (r:Rls K H φ ds vs) (rv:aN vs us):∀ (j:Nat) (h:j < us.length),∃ v,Rl K H φ (ds.getD j .non) v/\bi v us[j]/\ds.getD j .non ∈ ds:=by
 intro j h
 obtain⟨h',q⟩:=rv.at j h
 have hd:j < ds.length:=by rw [r.length];exact h'
 have e:ds[j]?=some ds[j]:=qaG hd
 obtain⟨v,ev,rl⟩:=r.get e
 rw [qaG h'] at ev
 cases ev
 refine⟨_,?_,q,?_⟩
 ·rw [List.getD,e];exact rl
 ·rw [List.getD,e];exact qa8 hd
theorem zR (I:Inv X pins σ H s):∀ (n:Nat) {A:Around}{d e:D}{v u:V}{vv uu:Value},Rl X.K H φ d v->Rl X.K H φ e u->bi v vv->bi u uu->okD n d=true->okD n e=true->A.units+n < cLine->SeqAt.EqAt A s vv uu (eqD d e):=by
 have flat:∀ {A:Around}{d e:D}{v u:V}{vv uu:Value},eY d=true->eY e=true->Rl X.K H φ d v->Rl X.K H φ e u->bi v vv->bi u uu->SeqAt.EqAt A s vv uu (eqD d e):=by
  intro A d e v u vv uu f1 f2 r1 r2 q1 q2
  obtain⟨e1,g1⟩:=fC f1 r1
  obtain⟨e2,g2⟩:=fC f2 r2
  rw [<-nJ f1 f2,<-e1,<-e2]
  exact u4 q1 q2 g1 g2
 intro n
 induction n with
 | zero=>
  intro A d e v u vv uu r1 r2 q1 q2 o1 o2 hu
  refine flat ?_ ?_ r1 r2 q1 q2
  ·cases d<;>first | rfl | cases o1
  ·cases e<;>first | rfl | cases o2
 | succ n ih=>
  intro A d e v u vv uu r1 r2 q1 q2 o1 o2 hu
  have hu0:A.units < cLine:=by lia
  have hu1:A.in1.units+n < cLine:=by show A.units+1+n < cLine;lia
  cases d with
  | tup ds=>
   obtain⟨a,vs,rfl,h1,h2⟩:=r1
   cases q1
   obtain⟨its,rv,p1,_⟩:=I.tuple (SqT.of h1)
   cases e with
   | tup es=>
    obtain⟨b,us,rfl,h3,h4⟩:=id r2
    cases q2
    by_cases hab:a=b
    ·subst hab
     rw [sn I (n+1) (d:=.tup ds) ⟨a,vs,rfl,h1,h2⟩ r2 o1 o2]
     exact qdR _
    ·obtain⟨its2,rv2,p2,_⟩:=I.tuple (SqT.of h3)
     have z:=qdA (A:=A) (e:=λj=>eqD (ds.getD j .non) (es.getD j .non)) p1 p2 hu0 λj g1 g2=>by
      obtain⟨v1,k1,k2,k3⟩:=eI h2 rv j (by simpa using g1)
      obtain⟨v2,k4,k5,k6⟩:=eI h4 rv2 j (by simpa using g2)
      exact ih k1 k4 (by simpa using k2) (by simpa using k5) (qaJ.mp o1 _ k3) (qaJ.mp o2 _ k6) hu1
     have e1:its.toArray.size=ds.length:=by simp [<-rv.length,h2.length]
     have e2:its2.toArray.size=es.length:=by simp [<-rv2.length,h4.length]
     rw [e1,e2,eS] at z
     exact qdn hab z
   | lst es=>
    obtain⟨b,us,rfl,_,h3,h4⟩:=id r2
    cases q2
    obtain⟨its2,rv2,p2,_⟩:=I.list (.inl h3)
    exact qhI p1 p2.isList hu0
   | non=>cases r2;cases q2;exact qhH p1 hu0
   | bl x=>cases r2;cases q2;exact qhK x p1 hu0
   | int x=>cases r2;obtain⟨t,rfl⟩:=q2;exact qhJ x t p1 hu0
   | str x=>cases r2;obtain⟨t,rfl⟩:=q2;exact qhG x t p1 hu0
   | ty _=>cases o2
   | scr _=>cases o2
   | dct=>cases o2
  | lst ds=>
   obtain⟨a,vs,rfl,h0,h1,h2⟩:=r1
   cases q1
   obtain⟨its,rv,p1,_⟩:=I.list (.inl h1)
   cases e with
   | lst es=>
    obtain⟨b,us,rfl,_,h3,h4⟩:=id r2
    cases q2
    by_cases hab:a=b
    ·subst hab
     rw [sn I (n+1) (d:=.lst ds) ⟨a,vs,rfl,h0,h1,h2⟩ r2 o1 o2]
     exact qdR _
    ·obtain⟨its2,rv2,p2,_⟩:=I.list (.inl h3)
     have e1:its.toArray.size=ds.length:=by simp [<-rv.length,h2.length]
     have e2:its2.toArray.size=es.length:=by simp [<-rv2.length,h4.length]
     by_cases hl:ds.length=es.length
     ·have z:=qeJ (A:=A) (e:=λj=>eqD (ds.getD j .non) (es.getD j .non)) p1.isList p2.isList (by rw [e1,e2,hl]) hu0 λj g1 g2=>by
       obtain⟨v1,k1,k2,k3⟩:=eI h2 rv j (by simpa using g1)
       obtain⟨v2,k4,k5,k6⟩:=eI h4 rv2 j (by simpa using g2)
       exact ih k1 k4 (by simpa using k2) (by simpa using k5) (qaJ.mp o1 _ k3) (qaJ.mp o2 _ k6) hu1
      rw [e1,iI hl] at z
      exact qdn hab z
     ·have z:=qd1 (A:=A) p1.isList p2.isList (by rw [e1,e2];simpa using hl) hu0
      show SeqAt.EqAt A s _ _ (fM ds es)
      rw [qv hl]
      exact qdn hab z
   | tup es=>
    obtain⟨b,us,rfl,h3,h4⟩:=id r2
    cases q2
    obtain⟨its2,rv2,p2,_⟩:=I.tuple (SqT.of h3)
    exact qhV p1.isList p2 hu0
   | non=>cases r2;cases q2;exact qhX p1.isList hu0
   | bl x=>cases r2;cases q2;exact qhZ x p1.isList hu0
   | int x=>cases r2;obtain⟨t,rfl⟩:=q2;exact qhY x t p1.isList hu0
   | str x=>cases r2;obtain⟨t,rfl⟩:=q2;exact qhW x t p1.isList hu0
   | ty _=>cases o2
   | scr _=>cases o2
   | dct=>cases o2
  | non=>
   cases r1;cases q1
   cases e with
   | tup es=>obtain⟨b,us,rfl,h3,h4⟩:=r2;cases q2;obtain⟨_,_,p2,_⟩:=I.tuple (SqT.of h3);exact qhQ p2 hu0
   | lst es=>obtain⟨b,us,rfl,_,h3,h4⟩:=r2;cases q2;obtain⟨_,_,p2,_⟩:=I.list (.inl h3);exact qhS p2.isList hu0
   | _=>first | (cases o2;done) | exact flat rfl rfl (d:=.non) rfl r2 (v:=.non) rfl q2
  | bl x=>
   cases r1;cases q1
   cases e with
   | tup es=>obtain⟨b,us,rfl,h3,h4⟩:=r2;cases q2;obtain⟨_,_,p2,_⟩:=I.tuple (SqT.of h3);exact qh5 x p2 hu0
   | lst es=>obtain⟨b,us,rfl,_,h3,h4⟩:=r2;cases q2;obtain⟨_,_,p2,_⟩:=I.list (.inl h3);exact qh8 x p2.isList hu0
   | _=>first | (cases o2;done) | exact flat rfl rfl (d:=.bl x) rfl r2 (v:=.bl x) rfl q2
  | int x=>
   cases r1;obtain⟨t1,rfl⟩:=q1
   cases e with
   | tup es=>obtain⟨b,us,rfl,h3,h4⟩:=r2;cases q2;obtain⟨_,_,p2,_⟩:=I.tuple (SqT.of h3);exact qh0 x t1 p2 hu0
   | lst es=>obtain⟨b,us,rfl,_,h3,h4⟩:=r2;cases q2;obtain⟨_,_,p2,_⟩:=I.list (.inl h3);exact qh2 x t1 p2.isList hu0
   | _=>first | (cases o2;done) | exact flat rfl rfl (d:=.int x) rfl r2 (v:=.int x) ⟨t1,rfl⟩ q2
  | str x=>
   cases r1;obtain⟨t1,rfl⟩:=q1
   cases e with
   | tup es=>obtain⟨b,us,rfl,h3,h4⟩:=r2;cases q2;obtain⟨_,_,p2,_⟩:=I.tuple (SqT.of h3);exact qhL x t1 p2 hu0
   | lst es=>obtain⟨b,us,rfl,_,h3,h4⟩:=r2;cases q2;obtain⟨_,_,p2,_⟩:=I.list (.inl h3);exact qhO x t1 p2.isList hu0
   | _=>first | (cases o2;done) | exact flat rfl rfl (d:=.str x) rfl r2 (v:=.str x) ⟨t1,rfl⟩ q2
  | ty _=>cases o1
  | scr _=>cases o1
  | dct=>cases o1
theorem AJ {A:Around}{y x:V}{u v:Value} (ry:bi y u) (rx:bi x v) (fy:j0 y=true) (fx:j0 x=true):SeqAt.RcAt A s u v (eqV y x):=by
 cases y with
 | non=>
  cases ry
  cases x with
  | non=>cases rx;exact qhl
  | bl b=>cases rx;exact qho b
  | int b=>obtain⟨t,rfl⟩:=rx;exact qhn b t
  | str b=>obtain⟨t,rfl⟩:=rx;exact qhk b t
  | _=>cases fx
 | bl a=>
  cases ry
  cases x with
  | non=>cases rx;exact qhC a
  | bl b=>cases rx;exact qhF a b
  | int b=>obtain⟨t,rfl⟩:=rx;exact qhE a b t
  | str b=>obtain⟨t,rfl⟩:=rx;exact qhB a b t
  | _=>cases fx
 | int a=>
  obtain⟨t',rfl⟩:=ry
  cases x with
  | non=>cases rx;exact qhw a t'
  | bl b=>cases rx;exact qhz a t' b
  | int b=>obtain⟨t,rfl⟩:=rx;exact qhy a t' b t
  | str b=>obtain⟨t,rfl⟩:=rx;exact qhv a t' b t
  | _=>cases fx
 | str a=>
  obtain⟨t',rfl⟩:=ry
  cases x with
  | non=>cases rx;exact qhf a t'
  | bl b=>cases rx;exact qhi a t' b
  | int b=>obtain⟨t,rfl⟩:=rx;exact qhh a t' b t
  | str b=>obtain⟨t,rfl⟩:=rx;exact qhe a t' b t
  | _=>cases fx
 | _=>cases fy
theorem vS {A:Around}{y x:V}{u v:Value} (ry:bi y u) (rx:bi x v) (fy:j0 y=true) (fx:j0 x=true):SeqAt.RcNeAt A s u v (!eqV y x):=by
 cases y with
 | non=>
  cases ry
  cases x with
  | non=>cases rx;exact qgl
  | bl b=>cases rx;exact qgo b
  | int b=>obtain⟨t,rfl⟩:=rx;exact qgn b t
  | str b=>obtain⟨t,rfl⟩:=rx;exact qgk b t
  | _=>cases fx
 | bl a=>
  cases ry
  cases x with
  | non=>cases rx;exact qgE a
  | bl b=>cases rx;exact qgH a b
  | int b=>obtain⟨t,rfl⟩:=rx;exact qgG a b t
  | str b=>obtain⟨t,rfl⟩:=rx;exact qgD a b t
  | _=>cases fx
 | int a=>
  obtain⟨t',rfl⟩:=ry
  cases x with
  | non=>cases rx;exact qgy a t'
  | bl b=>cases rx;exact qgB a t' b
  | int b=>obtain⟨t,rfl⟩:=rx;exact qgA a t' b t
  | str b=>obtain⟨t,rfl⟩:=rx;exact qgx a t' b t
  | _=>cases fx
 | str a=>
  obtain⟨t',rfl⟩:=ry
  cases x with
  | non=>cases rx;exact qgf a t'
  | bl b=>cases rx;exact qgi a t' b
  | int b=>obtain⟨t,rfl⟩:=rx;exact qgh a t' b t
  | str b=>obtain⟨t,rfl⟩:=rx;exact qge a t' b t
  | _=>cases fx
 | _=>cases fy
inductive Kin where
 | fl (d:D) | tp (ds:List D) | ls (ds:List D)
noncomputable def dL (st:Sto):W->Option Kin
 | .d (.tup ds)=>some (.tp ds)
 | .d (.lst ds)=>some (.ls ds)
 | .h n=>(lg st n).map .ls
 | .d .non=>some (.fl .non)
 | .d (.bl b)=>some (.fl (.bl b))
 | .d (.int i)=>some (.fl (.int i))
 | .d (.str x)=>some (.fl (.str x))
 | _=>none
noncomputable def eqK:Kin->Kin->Option Bool
 | .fl a,.fl b=>some (eqD a b)
 | .tp as,.tp bs=>if (as.isEmpty || bs.isEmpty)=true then some (as.isEmpty && bs.isEmpty) else if as.all (okD 60)=true/\bs.all (okD 60)=true then some (fM as bs) else none
 | .ls as,.ls bs=>if as.length=bs.length then (if as.all (okD 60)=true/\bs.all (okD 60)=true then some (fM as bs) else none) else some false
 | .fl _,.tp _=>some false
 | .tp _,.fl _=>some false
 | .fl _,.ls _=>some false
 | .ls _,.fl _=>some false
 | .tp _,.ls _=>some false
 | .ls _,.tp _=>some false
noncomputable def dEq (st:Sto) (x y:W):Option D:=(dL st x).bind λa=>(dL st y).bind λb=>(eqK a b).map λk=>.bl k
noncomputable def dNe (st:Sto) (x y:W):Option D:=(dL st x).bind λa=>(dL st y).bind λb=>(eqK a b).map λk=>.bl (!k)
noncomputable def AU (K:PySem.W.Frag) (H:Hp) (φ:List Addr):Kin->V->Prop
 | .fl d,v=>eY d=true/\Rl K H φ d v
 | .tp ds,v=>∃ a vs,v=.ref a/\SqT K H a vs/\Rls K H φ ds vs
 | .ls ds,v=>∃ a vs,v=.ref a/\Rd H a (.lst vs)/\Rls K H φ ds vs
theorem kN {w:W}{v:V}{k:Kin} (S:Sr K H φ st) (r:Rw K H φ w v) (e:dL st w=some k):AU K H φ k v:=by
 cases w with
 | h n=>
  obtain⟨a,ea,rfl⟩:=r
  obtain⟨ds,e1,rfl⟩:=qac.mp e
  obtain⟨vs,q,rl⟩:=S.atl n a ds ea e1
  exact⟨a,vs,rfl,.inl q,rl⟩
 | d x=>
  cases x with
  | tup es=>cases e;obtain⟨a,vs,rfl,h1,h2⟩:=r;exact⟨a,vs,rfl,SqT.of h1,h2⟩
  | lst es=>cases e;obtain⟨a,vs,rfl,h0,h1,h2⟩:=r;exact⟨a,vs,rfl,h1,h2⟩
  | non=>cases e;exact⟨rfl,r⟩
  | bl b=>cases e;exact⟨rfl,r⟩
  | int b=>cases e;exact⟨rfl,r⟩
  | str b=>cases e;exact⟨rfl,r⟩
  | _=>cases e
theorem z8 {A:Around}{k:Nat} (hr:bh k A):A.in1.units+60 < cLine:=by
 have:=hr.un
 show A.units+1+60 < cLine
 lia
theorem va {k:Nat} (hr:bh k X.A) (I:Inv X pins σ H s) {a b:Kin}{v u:V}{vv uu:Value}{r:Bool} (ra:AU X.K H φ a v) (rb:AU X.K H φ b u) (qa:bi v vv) (qb:bi u uu) (e:eqK a b=some r) :
  SeqAt.RcAt X.A s vv uu r/\SeqAt.RcNeAt X.A s vv uu (!r):=by
 have hu0:=hr.units0
 have items:∀ {ds es:List D}{vs us:List V}{its its2:List Value},Rls X.K H φ ds vs->Rls X.K H φ es us->aN vs its->aN us its2->ds.all (okD 60)=true->es.all (okD 60)=true->
   ∀ j (g1:j < its.toArray.size) (g2:j < its2.toArray.size),SeqAt.EqAt X.A.in1 s its.toArray[j] its2.toArray[j] (eqD (ds.getD j .non) (es.getD j .non)):=by
  intro ds es vs us its its2 h2 h4 rv rv2 o1 o2 j g1 g2
  obtain⟨v1,k1,k2,k3⟩:=eI h2 rv j (by simpa using g1)
  obtain⟨v2,k4,k5,k6⟩:=eI h4 rv2 j (by simpa using g2)
  exact zR I 60 k1 k4 (by simpa using k2) (by simpa using k5) (qaJ.mp o1 _ k3) (qaJ.mp o2 _ k6) (z8 hr)
 match a,b,e with
 | .fl d,.fl d',e=>
  cases e
  obtain⟨f1,r1⟩:=ra
  obtain⟨f2,r2⟩:=rb
  obtain⟨e1,g1⟩:=fC f1 r1
  obtain⟨e2,g2⟩:=fC f2 r2
  rw [<-nJ f1 f2,<-e1,<-e2]
  exact⟨AJ qa qb g1 g2,vS qa qb g1 g2⟩
 | .tp ds,.tp es,e=>
  simp only [eqK] at e
  obtain⟨a,vs,rfl,h1,h2⟩:=ra
  obtain⟨b,us,rfl,h3,h4⟩:=rb
  cases qa;cases qb
  obtain⟨its,rv,p1,_⟩:=I.tuple h1
  obtain⟨its2,rv2,p2,_⟩:=I.tuple h3
  have e1:its.toArray.size=ds.length:=by simp [<-rv.length,h2.length]
  have e2:its2.toArray.size=es.length:=by simp [<-rv2.length,h4.length]
  split at e
  ·rename_i hc
   cases e
   have hv:∀ j (g1:j < its.toArray.size) (g2:j < its2.toArray.size),SeqAt.EqAt X.A.in1 s its.toArray[j] its2.toArray[j] (eqD (ds.getD j .non) (es.getD j .non)):=λj g1 g2=>by
    rw [e1] at g1
    rw [e2] at g2
    rw [qen] at hc
    rcases hc with hc | hc
    ·rw [qfs.mp hc] at g1;exact absurd g1 (qdv _)
    ·rw [qfs.mp hc] at g2;exact absurd g2 (qdv _)
   have z:=qdA (A:=X.A) p1 p2 hu0 hv
   have z':=qeh (A:=X.A) p1 p2 hu0 hv
   rw [e1,e2,eS] at z z'
   have e3:fM ds es=(ds.isEmpty && es.isEmpty):=by
    cases ds with
    | nil=>cases es<;>rfl
    | cons _ _=>cases es with
     | nil=>rfl
     | cons _ _=>cases hc
   rw [e3] at z z'
   exact⟨z,z'⟩
  ·split at e
   ·rename_i hc
    cases e
    have z:=qdA (A:=X.A) p1 p2 hu0 (items h2 h4 rv rv2 hc.1 hc.2)
    have z':=qeh (A:=X.A) p1 p2 hu0 (items h2 h4 rv rv2 hc.1 hc.2)
    rw [e1,e2,eS] at z z'
    exact⟨z,z'⟩
   ·cases e
 | .ls ds,.ls es,e=>
  simp only [eqK] at e
  obtain⟨a,vs,rfl,h1,h2⟩:=ra
  obtain⟨b,us,rfl,h3,h4⟩:=rb
  cases qa;cases qb
  obtain⟨its,rv,p1,_⟩:=I.list (.inl h1)
  obtain⟨its2,rv2,p2,_⟩:=I.list (.inl h3)
  have e1:its.toArray.size=ds.length:=by simp [<-rv.length,h2.length]
  have e2:its2.toArray.size=es.length:=by simp [<-rv2.length,h4.length]
  split at e
  ·rename_i hl
   split at e
   ·rename_i hc
    cases e
    have z:=qeJ (A:=X.A) p1.isList p2.isList (by rw [e1,e2,hl]) hu0 (items h2 h4 rv rv2 hc.1 hc.2)
    have z':=qgq (A:=X.A) p1.isList p2.isList (by rw [e1,e2,hl]) hu0 (items h2 h4 rv rv2 hc.1 hc.2)
    rw [e1,iI hl] at z z'
    exact⟨z,z'⟩
   ·cases e
  ·rename_i hl
   cases e
   have z:=qd1 (A:=X.A) p1.isList p2.isList (by rw [e1,e2];simpa using hl) hu0
   have z':=qgp (A:=X.A) p1.isList p2.isList (by rw [e1,e2];simpa using hl) hu0
   exact⟨z,z'⟩
 | .fl d,.tp es,e=>
  cases e
  obtain⟨f1,r1⟩:=ra
  obtain⟨b,us,rfl,h3,h4⟩:=rb
  cases qb
  obtain⟨its2,rv2,p2,_⟩:=I.tuple h3
  cases d with
  | non=>cases r1;cases qa;exact⟨qhj p2 hu0,qgj p2 hu0⟩
  | bl x=>cases r1;cases qa;exact⟨qhA x p2 hu0,qgC x p2 hu0⟩
  | int x=>cases r1;obtain⟨t,rfl⟩:=qa;exact⟨qhu x t p2 hu0,qgw x t p2 hu0⟩
  | str x=>cases r1;obtain⟨t,rfl⟩:=qa;exact⟨qhd x t p2 hu0,qgd x t p2 hu0⟩
  | _=>cases f1
 | .tp es,.fl d,e=>
  cases e
  obtain⟨f1,r1⟩:=rb
  obtain⟨b,us,rfl,h3,h4⟩:=ra
  cases qa
  obtain⟨its2,rv2,p2,_⟩:=I.tuple h3
  cases d with
  | non=>cases r1;cases qb;exact⟨qg9 p2 hu0,qf9 p2 hu0⟩
  | bl x=>cases r1;cases qb;exact⟨qhc x p2 hu0,qgc x p2 hu0⟩
  | int x=>cases r1;obtain⟨t,rfl⟩:=qb;exact⟨qhb x t p2 hu0,qgb x t p2 hu0⟩
  | str x=>cases r1;obtain⟨t,rfl⟩:=qb;exact⟨qg8 x t p2 hu0,qf8 x t p2 hu0⟩
  | _=>cases f1
 | .fl d,.ls es,e=>
  cases e
  obtain⟨f1,r1⟩:=ra
  obtain⟨b,us,rfl,h3,h4⟩:=rb
  cases qb
  obtain⟨its2,rv2,p2,_⟩:=I.list (.inl h3)
  replace p2:=p2.isList
  cases d with
  | non=>cases r1;cases qa;exact⟨qhm p2 hu0,qgm p2 hu0⟩
  | bl x=>cases r1;cases qa;exact⟨qhD x p2 hu0,qgF x p2 hu0⟩
  | int x=>cases r1;obtain⟨t,rfl⟩:=qa;exact⟨qhx x t p2 hu0,qgz x t p2 hu0⟩
  | str x=>cases r1;obtain⟨t,rfl⟩:=qa;exact⟨qhg x t p2 hu0,qgg x t p2 hu0⟩
  | _=>cases f1
 | .ls es,.fl d,e=>
  cases e
  obtain⟨f1,r1⟩:=rb
  obtain⟨b,us,rfl,h3,h4⟩:=ra
  cases qa
  obtain⟨its2,rv2,p2,_⟩:=I.list (.inl h3)
  replace p2:=p2.isList
  cases d with
  | non=>cases r1;cases qb;exact⟨qhr p2 hu0,qgt p2 hu0⟩
  | bl x=>cases r1;cases qb;exact⟨qht x p2 hu0,qgv x p2 hu0⟩
  | int x=>cases r1;obtain⟨t,rfl⟩:=qb;exact⟨qhs x t p2 hu0,qgu x t p2 hu0⟩
  | str x=>cases r1;obtain⟨t,rfl⟩:=qb;exact⟨qhq x t p2 hu0,qgs x t p2 hu0⟩
  | _=>cases f1
 | .tp ds,.ls es,e=>
  cases e
  obtain⟨a,vs,rfl,h1,h2⟩:=ra
  obtain⟨b,us,rfl,h3,h4⟩:=rb
  cases qa;cases qb
  obtain⟨its,rv,p1,_⟩:=I.tuple h1
  obtain⟨its2,rv2,p2,_⟩:=I.list (.inl h3)
  exact⟨qha p1 p2.isList hu0,qga p1 p2.isList hu0⟩
 | .ls ds,.tp es,e=>
  cases e
  obtain⟨a,vs,rfl,h1,h2⟩:=ra
  obtain⟨b,us,rfl,h3,h4⟩:=rb
  cases qa;cases qb
  obtain⟨its,rv,p1,_⟩:=I.list (.inl h1)
  obtain⟨its2,rv2,p2,_⟩:=I.tuple h3
  exact⟨qhp p1.isList p2 hu0,qgr p1.isList p2 hu0⟩
theorem er {k:Nat} (hr:bh k X.A) (hK:X.K=K:=by rfl):OpD K X (compareOp .Eq) dEq:=by
 subst hK
 refine⟨λst x y d h=>?_⟩
 simp only [dEq,qab,qac] at h
 obtain⟨a,ha,b,hb,r,e,rfl⟩:=h
 intro pins s σ H vx vy v u Q I rx ry q
 obtain⟨φ,S,r1,r2,q⟩:=q
 exact (va hr I (kN S r1 ha) (kN S r2 hb) rx ry e).1 _ _ _ _ ⟨.bl r,H,I,rfl,q _ H (bx.refl H) rfl⟩
theorem gI {k:Nat} (hr:bh k X.A) (hK:X.K=K:=by rfl):OpD K X (compareOp .NotEq) dNe:=by
 subst hK
 refine⟨λst x y d h=>?_⟩
 simp only [dNe,qab,qac] at h
 obtain⟨a,ha,b,hb,r,e,rfl⟩:=h
 intro pins s σ H vx vy v u Q I rx ry q
 obtain⟨φ,S,r1,r2,q⟩:=q
 exact (va hr I (kN S r1 ha) (kN S r2 hb) rx ry e).2 _ _ _ _ ⟨.bl (!r),H,I,rfl,q _ H (bx.refl H) rfl⟩
end
section
variable {K:PySem.W.Frag}{X:Cx}
noncomputable def bQ:List D->Option (List Int)
 | []=>some []
 | .int i::ds=>(bQ ds).map λr=>i::r
 | _=>none
theorem cM:∀ {ds:List D}{ns:List Int},bQ ds=some ns->ds=ns.map D.int
 | [],_,h=>by cases h;rfl
 | .int i::ds,_,h=>by
  obtain⟨r,e,rfl⟩:=qac.mp h
  rw [cM e];rfl
 | .non::_,_,h=>by cases h
 | .bl _::_,_,h=>by cases h
 | .str _::_,_,h=>by cases h
 | .ty _::_,_,h=>by cases h
 | .dct::_,_,h=>by cases h
 | .scr _::_,_,h=>by cases h
 | .tup _::_,_,h=>by cases h
 | .lst _::_,_,h=>by cases h
theorem ci:∀ (ns:List Int),bQ (ns.map D.int)=some ns
 | []=>rfl
 | n::ns=>by rw [qal,bQ,ci ns];rfl
noncomputable def iS:List D->Option (List Bool)
 | []=>some []
 | .bl i::ds=>(iS ds).map λr=>i::r
 | _=>none
theorem j5:∀ {ds:List D}{ns:List Bool},iS ds=some ns->ds=ns.map D.bl
 | [],_,h=>by cases h;rfl
 | .bl i::ds,_,h=>by
  obtain⟨r,e,rfl⟩:=qac.mp h
  rw [j5 e];rfl
 | .non::_,_,h=>by cases h
 | .int _::_,_,h=>by cases h
 | .str _::_,_,h=>by cases h
 | .ty _::_,_,h=>by cases h
 | .dct::_,_,h=>by cases h
 | .scr _::_,_,h=>by cases h
 | .tup _::_,_,h=>by cases h
 | .lst _::_,_,h=>by cases h
theorem iX:∀ (ns:List Bool),iS (ns.map D.bl)=some ns
 | []=>rfl
 | n::ns=>by rw [qal,iS,iX ns];rfl
noncomputable def bI (st:Sto):List W->Option D
 | [.d (.str x)]=>if x.length<=1000000 then some (.int x.length) else none
 | [w]=>(eX st w).map λds=>.int ds.length
 | _=>none
noncomputable def ph (_:Sto):List W->Option D
 | [.d (.int i)]=>some (.int (if i < 0 then -i else i))
 | _=>none
noncomputable def yG (_:Sto):List W->Option D
 | [.d (.int i)]=>some (.int i)
 | [.d (.bl k)]=>some (.int (if k then 1 else 0))
 | _=>none
noncomputable def jA (_:Sto):List W->Option D
 | [.d (.lst ds)]=>(bQ ds).map λns=>.int ns.sum
 | _=>none
noncomputable def rA (_:Sto):List W->Option D
 | [.d (.lst ds)]=>(iS ds).map λns=>.bl (ns.all id)
 | _=>none
noncomputable def eH (st:Sto):List W->Option D
 | [w]=>(eX st w).map λds=>.tup ds
 | _=>none
noncomputable def qX:D->Bool
 | .non=>true
 | .int i=>decide (0<=i) && decide (i < 1024)
 | _=>false
noncomputable def sS (_:Sto):List W->Option D
 | [.d (.int i)]=>if i.natAbs.log2 < 1920 then some (.str (toString i)) else none
 | [.d (.tup ds)]=>if ds.all qX=true/\ds.length<=1000 then some (.str (oE (ds.map vOf))) else none
 | _=>none
noncomputable def zV (st:Sto):W->Option String
 | .d .non=>some "NoneType"
 | .d (.bl _)=>some "bool"
 | .d (.int _)=>some "int"
 | .d (.str _)=>some "str"
 | .d (.tup _)=>some "tuple"
 | .d (.lst _)=>some "list"
 | .d .dct=>some "dict"
 | .h n=>(lg st n).map λ_=>"list"
 | _=>none
noncomputable def Ar (t c:String):Option Bool:=
 if c = "int" then some (t=="int" || t=="bool")
 else if c = "bool"\/c = "str"\/c = "tuple"\/c = "list" then some (t==c)
 else none
noncomputable def wO (st:Sto):List W->Option D
 | [w,.d (.ty c)]=>(zV st w).bind λt=>(Ar t c).map λb=>.bl b
 | _=>none
theorem bG (hK:X.K=K:=by rfl):et K X (.builtin "len") bI:=by
 subst hK
 refine⟨λst ws d h=>?_⟩
 have seq:∀ w,(eX st w).map (λds=>D.int ds.length)=some d->bS X (.builtin "len") (rCD X.K st [w] d):=λw h=>by
  obtain⟨ds,e,rfl⟩:=qac.mp h
  refine oi.imp ?_
  rintro vs H Q ⟨φ,S,⟨v,r,rfl,r1,rfl⟩,q⟩
  obtain⟨a,us,rfl,h1,h2⟩:=oM S r1 e
  exact⟨a,us,rfl,h1,q _ H (bx.refl H) (by rw [<-h2.length];rfl)⟩
 cases ws with
 | nil=>cases h
 | cons w tl=>
  cases tl with
  | cons _ _=>
   cases w with
   | h n=>cases h
   | d x=>cases x<;>cases h
  | nil=>
   cases w with
   | h n=>exact seq _ h
   | d x=>
    cases x with
    | str x=>
     simp only [bI] at h
     split at h
     ·rename_i hl
      cases h
      refine ow.imp ?_
      rintro vs H Q ⟨φ,S,⟨v,r,rfl,r1,rfl⟩,q⟩
      exact⟨x,by rw [show v=.str x from r1],qaX hl mil,q _ H (bx.refl H) rfl⟩
     ·cases h
    | tup ds=>exact seq _ h
    | lst ds=>exact seq _ h
    | scr ds=>exact seq _ h
    | _=>cases h
theorem nI:et K X (.builtin "abs") ph:=by
 refine⟨λst ws d h=>?_⟩
 match ws,h with
 | [.d (.int i)],h=>
  cases h
  refine v8.imp ?_
  rintro vs H Q ⟨φ,S,⟨v,r,rfl,r1,rfl⟩,q⟩
  exact⟨i,by rw [show v=.int i from r1],q _ H (bx.refl H) rfl⟩
theorem Ad:et K X (.type "int") yG:=by
 refine⟨λst ws d h=>?_⟩
 unfold yG at h
 split at h
 next i=>
  cases h
  refine mV.imp ?_
  rintro vs H Q ⟨φ,S,⟨v,r,rfl,r1,rfl⟩,q⟩
  exact .inl ⟨i,by rw [show v=.int i from r1],q _ H (bx.refl H) rfl⟩
 next i=>
  cases h
  refine mV.imp ?_
  rintro vs H Q ⟨φ,S,⟨v,r,rfl,r1,rfl⟩,q⟩
  exact .inr ⟨i,by rw [show v=.bl i from r1],q _ H (bx.refl H) rfl⟩
 next=>cases h
theorem ny (hc:X.calm=true:=by rfl) (hK:X.K=K:=by rfl):et K X (.builtin "sum") jA:=by
 subst hK
 refine⟨λst ws d h=>?_⟩
 unfold jA at h
 split at h
 next ds=>
  obtain⟨ns,e,rfl⟩:=qac.mp h
  cases cM e
  refine (Bb (K:=X.K) hc rfl).imp ?_
  rintro vs H Q ⟨φ,S,⟨v,r,rfl,⟨a,us,rfl,h0,h1,h2⟩,rfl⟩,q⟩
  cases h2.ints
  exact⟨a,ns,rfl,.inl h1,q _ H (bx.refl H) rfl⟩
 next=>cases h
theorem qI (hc:X.calm=true:=by rfl) (hK:X.K=K:=by rfl):et K X (.builtin "all") rA:=by
 subst hK
 refine⟨λst ws d h=>?_⟩
 unfold rA at h
 split at h
 next ds=>
  obtain⟨ns,e,rfl⟩:=qac.mp h
  cases j5 e
  refine (BN (K:=X.K) hc rfl).imp ?_
  rintro vs H Q ⟨φ,S,⟨v,r,rfl,⟨a,us,rfl,h0,h1,h2⟩,rfl⟩,q⟩
  cases h2.bools
  exact⟨a,ns,rfl,.inl h1,q _ H (bx.refl H) rfl⟩
 next=>cases h
theorem dS (hK:X.K=K:=by rfl):et K X (.type "tuple") eH:=by
 subst hK
 refine⟨λst ws d h=>?_⟩
 unfold eH at h
 split at h
 next w=>
  obtain⟨ds,e,rfl⟩:=qac.mp h
  refine mM.imp ?_
  rintro vs H Q ⟨φ,S,⟨v,r,rfl,r1,rfl⟩,q⟩
  obtain⟨a,us,rfl,h1,h2⟩:=pd S r1 e
  refine⟨a,us,rfl,?_⟩
  rcases h1 with h1 | h1
  ·exact .inl ⟨h1,λl hl=>q _ _ (bx.new hl _) ⟨l,us,rfl,bm,h2.fw S (Fw.new hl)⟩⟩
  ·exact .inr ⟨SqT.of h1,q _ H (bx.refl H) ⟨a,us,rfl,h1,h2⟩⟩
 next=>cases h
theorem qh {H:Hp}{φ:List Addr}:∀ {ds:List D}{vs:List V},ds.all qX=true->Rls K H φ ds vs->vs=ds.map vOf/\∀ y ∈ vs,fq y
 | [],_,_,h=>by cases h;exact⟨rfl,λ_ h=>nomatch h⟩
 | d::ds,_,h,r=>by
  rw [qb3,qa0] at h
  obtain⟨v,vr,rfl,r1,r2⟩:=r
  obtain⟨e3,e4⟩:=qh h.2 r2
  have hv:v=vOf d/\fq v:=by
   cases d with
   | non=>cases (show v=.non from r1);exact⟨rfl,.inl rfl⟩
   | int i=>
    cases (show v=.int i from r1)
    have:=h.1
    simp [qX] at this
    exact⟨rfl,.inr ⟨i,rfl,this.1,this.2⟩⟩
   | _=>cases h.1
  refine⟨by rw [hv.1,e3];rfl,λy hy=>?_⟩
  rcases qaF.mp hy with z | z
  ·rw [z];exact hv.2
  ·exact e4 y z
theorem xc {k:Nat} (hr:bh k X.A) (hK:X.K=K:=by rfl):et K X (.builtin "repr") sS:=by
 subst hK
 refine⟨λst ws d h=>?_⟩
 match ws,h with
 | [.d (.int i)],h=>
  simp only [sS] at h
  split at h
  ·rename_i hl
   cases h
   refine (vV (K:=X.K) hr rfl).imp ?_
   rintro vs H Q ⟨φ,S,⟨v,r,rfl,r1,rfl⟩,q⟩
   exact .inl ⟨i,by rw [show v=.int i from r1],hl,q _ H (bx.refl H) rfl⟩
  ·cases h
 | [.d (.tup ds)],h=>
  simp only [sS] at h
  split at h
  ·rename_i hl
   cases h
   refine (vV (K:=X.K) hr rfl).imp ?_
   rintro vs H Q ⟨φ,S,⟨v,r,rfl,⟨a,us,rfl,h1,h2⟩,rfl⟩,q⟩
   obtain⟨e1,e2⟩:=qh hl.1 h2
   exact .inr ⟨a,us,rfl,(SqT.of h1),e2,by rw [<-h2.length];exact hl.2,q _ H (bx.refl H) (by rw [e1];rfl)⟩
  ·cases h
theorem fN {t c:String}{b:Bool} (ht:t = "NoneType"\/t = "bool"\/t = "int"\/t = "str"\/t = "tuple"\/t = "list"\/t = "dict") (h:Ar t c=some b):PySem.W.kitOne K (.type t) (.type c)=some b:=by
 unfold Ar at h
 split at h
 ·rename_i hc
  subst hc
  rcases ht with rfl | rfl | rfl | rfl | rfl | rfl | rfl<;>(cases h;rfl)
 ·split at h
  ·rename_i _ hc
   rcases hc with rfl | rfl | rfl | rfl<;>rcases ht with rfl | rfl | rfl | rfl | rfl | rfl | rfl<;>(cases h;rfl)
  ·cases h
theorem qY (hK:X.K=K:=by rfl):et K X (.builtin "isinstance") wO:=by
 subst hK
 refine⟨λst ws d h=>?_⟩
 unfold wO at h
 split at h
 next w c=>
  simp only [qab,qac] at h
  obtain⟨t,ht,b,hb,rfl⟩:=h
  intro pins s σ H xs us Q I rv q
  obtain⟨φ,S,⟨v,r,rfl,r1,u,r',rfl,r2,rfl⟩,q⟩:=q
  cases (show u=.ty c from r2)
  obtain⟨vv,uu,rfl,rv1,rv2⟩:=rv.two
  cases rv2
  have fin:∀ tk,EP X pins σ Q (.bool b) { s with toks:=tk }:=λtk=>⟨.bl b,H,I.tok tk,rfl,q _ H (bx.refl H) rfl⟩
  cases w with
  | h n=>
   obtain⟨a,ea,rfl⟩:=r1
   obtain⟨ds,eds,rfl⟩:=qac.mp ht
   obtain⟨vs,hv,_⟩:=S.atl n a ds ea eds
   exact cP I rv1 (.lst hv) (fN (by simp) hb) fin
  | d x=>
   cases x with
   | non=>cases ht;cases r1;exact cP I rv1 .non (fN (by simp) hb) fin
   | bl x=>cases ht;cases r1;exact cP I rv1 (.bl x) (fN (by simp) hb) fin
   | int x=>cases ht;cases r1;exact cP I rv1 (.int x) (fN (by simp) hb) fin
   | str x=>cases ht;cases r1;exact cP I rv1 (.str x) (fN (by simp) hb) fin
   | lst ds=>
    cases ht
    obtain⟨a,vs,rfl,h0,h1,h2⟩:=r1
    rcases h1 with h1 | ⟨o,h1⟩
    ·exact cP I rv1 (.lst h1) (fN (by simp) hb) fin
    ·exact cP I rv1 (.frz h1) (fN (by simp) hb) fin
   | tup ds=>
    cases ht
    obtain⟨a,vs,rfl,h1,h2⟩:=r1
    cases rv1
    obtain⟨its,_,p,_⟩:=I.tuple (SqT.of h1)
    obtain⟨o,e1,e2,_⟩:=p
    exact qbw qeN I.kIn ⟨o,e1,e2⟩ (fN (by simp) hb) (λz=>nomatch z) fin
   | dct=>
    cases ht
    obtain⟨a,rfl,_,h1⟩:=r1
    rcases h1 with⟨d,h1⟩ | ⟨d,h1⟩
    ·exact cP I rv1 (.dK h1) (fN (by simp) hb) fin
    ·exact cP I rv1 (.dT h1) (fN (by simp) hb) fin
   | ty x=>cases ht
   | scr x=>cases ht
 next=>cases h
variable {e a b:Expr}{es:List Expr}{pos:Pos}{f fa fb:Ef}{af:Af}
theorem u6 {x:Str}{c:String} (hg:Gl X x) (hm:X.mg x=none) (hv:bootBuiltins x=some (.type c)) (hn:x≠"__name__":=by decide) (hd:(x==("__debug__" : Str))=false:=by decide):IE K X (.Name x pos) (iC (.ty c)):=
 wE (v:=.ty c) (xW hg hm hv rfl hn hd) λ_ _=>rfl
noncomputable def jv (g:List D->List W->Option (D×List D)) (o:Ef) (a:Af):Ef
 | env,st=>(o env st).bind λx=>(a env x.2).bind λr=>match x.1 with
 | .h n=>(lg x.2 n).bind λ_=>(lg r.2 n).bind λds=>(g ds r.1).map λy=>(.d y.1,r.2.set n (.l y.2))
 | _=>none
noncomputable def iw (ds:List D):List W->Option (D×List D)
 | [.d x]=>if ds.length < 1000000 then some (.non,ds++[x]) else none
 | _=>none
theorem wN {name:Str}{id:String}{apos:Pos}{rr:V->List V->Hp->VK->Prop}{g:List D->List W->Option (D×List D)} (slot:Slot "list" name id) (hty:typeOf (.builtin id)=pure (.type "method_descriptor")) (hm:MtR X id rr)
  (hg:∀ (H:Hp) (φ:List Addr) (st:Sto) (n:Nat) (ad:Addr) (ds:List D) (vs:List V) (ws:List W) (us:List V) (y:D×List D) (Q:VK),Sr K H φ st->φ[n]?=some ad->lg st n=some ds->H ad=some (.lst vs)->Rls K H φ ds vs->Rws K H φ ws us->g ds ws=some y->
    (∀ v vs',Rl K H φ y.1 v->Rls K H φ y.2 vs'->(∀ b,v≠.ref b)->Q v (upd H ad (.lst vs')))->rr (.ref ad) us H Q)
  (hfl:∀ ds ws y,g ds ws=some y->eY y.1=true)
  (ho:IE K X a fa) (ha:IA K X (e::es) af) (hbase:attributeBase a name X.env (eval a X.env)=eval a X.env:=by rfl)
  (hall:(e::es).all aS=true:=by rfl) (hfl30:(e::es).length < 30:=by decide) (hline:(apos.endLine==pos.line)=true:=by rfl) (hK:X.K=K:=by rfl) :
  IE K X (.Call (.Attribute a name apos) (e::es) [] pos) (jv g fa af):=by
 subst hK
 have hall2:aS e=true/\es.all aS=true:=by rw [qb3,qa0] at hall;exact hall
 refine⟨λenv st r hr=>?_⟩
 simp only [jv,qab] at hr
 obtain⟨⟨x,s1⟩,hx,⟨ws,s2⟩,hw,hr⟩:=hr
 cases x with
 | d x=>cases hr
 | h n=>
  simp only [qab,qac] at hr
  obtain⟨ds1,hds1,ds,hds,y,hy,rfl⟩:=hr
  refine (BS PySem.F.plainAttrs_list slot hty hm (ho.run _ _ _ hx) (ha.run _ _ _ hw) hbase (vg hall hfl30) hline (cT hall2.1) (eN hall2.2)).imp ?_
  rintro σ H Q ⟨φ,hE,hS,q⟩
  refine⟨φ,hE,hS,λv H1 φ1 f1 S1 w1=>?_⟩
  obtain⟨ad,ea,rfl⟩:=w1
  obtain⟨vs1,hv1,_⟩:=S1.atl n ad _ ea hds1
  refine⟨.inl ⟨rfl,vs1,SqL.of hv1⟩,φ1,hE.fw hS f1,S1,λus H2 φ2 f2 S2 w2=>?_⟩
  have ea2:=f2.get ea
  obtain⟨vs2,hv2,rl2⟩:=S2.atl n ad ds ea2 hds
  refine hg H2 φ2 s2 n ad ds vs2 ws us y _ S2 ea2 hds hv2 rl2 w2 hy λv vs' r1 r2 hb=>?_
  obtain⟨f3,S3⟩:=S2.put ea2 r2
  exact q v _ φ2 ((f1.trans f2).trans f3) S3 (r1.fw S2 f3)
theorem tJ {apos:Pos} (ho:IE K X a fa) (ha:IA K X (e::es) af) (hbase:attributeBase a "append" X.env (eval a X.env)=eval a X.env:=by rfl)
  (hall:(e::es).all aS=true:=by rfl) (hfl30:(e::es).length < 30:=by decide) (hline:(apos.endLine==pos.line)=true:=by rfl) (hK:X.K=K:=by rfl) :
  IE K X (.Call (.Attribute a "append" apos) (e::es) [] pos) (jv iw fa af):=by
 refine wN PySem.F.slot_list_append PySem.F.type_list_append tU (λH φ st n ad ds vs ws us y Q S ea eds hv rl rw hy q=>?_) (λds ws y h=>?_) ho ha hbase hall hfl30 hline hK
 ·match ws,hy with
  | [.d x],hy=>
   simp only [iw] at hy
   split at hy
   ·rename_i hl
    cases hy
    obtain⟨v,r,rfl,r1,rfl⟩:=rw
    exact⟨ad,vs,v,rfl,rfl,hv,by rw [<-rl.length];exact qaH hl mil,q _ _ rfl (rl.append ⟨v,[],rfl,r1,rfl⟩) (λb z=>nomatch z)⟩
   ·cases hy
 ·match ws,h with
  | [.d x],h=>
   simp only [iw] at h
   split at h
   ·cases h;rfl
   ·cases h
end
section
variable {K:PySem.W.Frag}{X:Cx}{e a b:Expr}{es:List Expr}{pos:Pos}{f fa fb:Ef}{af:Af}
theorem xt {i j:Nat}{x y:Str}{px py pt:Pos}{kt k2 pt2}
  (h:∀ ta,PA X [a,b] ta->PS X (.Assign [.Tuple [.Name x px,.Name y py] kt pt] (.Tuple [a,b] k2 pt2) pos) (Bq i j ta)) (ha:IA K X [a,b] af) :
  IS K X (.Assign [.Tuple [.Name x px,.Name y py] kt pt] (.Tuple [a,b] k2 pt2) pos) (uS i j af):=by
 refine⟨λenv st r hr=>?_⟩
 simp only [uS,qab] at hr
 obtain⟨⟨ws,s1⟩,hy,hr⟩:=hr
 match ws,hr with
 | [x,y],hr=>
  cases hr
  refine (h _ (ha.run _ _ _ hy)).imp ?_
  rintro D σ H ⟨φ,hE,hS,q⟩
  refine⟨φ,hE,hS,λvs H1 φ1 f1 s1 w1=>?_⟩
  obtain⟨v,r,rfl,r1,u,r',rfl,r2,r3⟩:=w1
  cases r3
  exact⟨v,u,rfl,q _ H1 φ1 f1 (((hE.fw hS f1).set i r1).set j r2) s1⟩
noncomputable def rL (K:PySem.W.Frag) (st:Sto) (x y:W) (ds:List D):R2:=λvx vy H Q=>∃ φ,Sr K H φ st/\Rw K H φ x vx/\Rw K H φ y vy/\∀ p us,H p=none->Rls K H φ ds us->Q (.ref p) (upd H p (.lst us))
structure OpL (K:PySem.W.Frag) (X:Cx) (f:Value->Value->Sem Value) (g:Sto->W->W->Option (List D)):Prop where
 run:∀ st x y d,g st x y=some d->OpR X f (rL K st x y d)
noncomputable def vz (g:Sto->W->W->Option (List D)) (a b:Ef):Lf
 | env,st=>(a env st).bind λx=>(b env x.2).bind λy=>(g y.2 x.1 y.1).map λd=>(d,y.2)
theorem B2 {op:Operator}{g:Sto->W->W->Option (List D)} (ho:OpL K X (binaryOp op) g) (ha:IE K X a fa) (hb:IE K X b fb):IL K X (.BinOp a op b pos) (vz g fa fb):=by
 refine⟨λenv st r hr=>?_⟩
 simp only [vz,qab,qac] at hr
 obtain⟨x,hx,y,hy,d,hd,rfl⟩:=hr
 refine (yU (ho.run _ _ _ _ hd) (ha.run _ _ _ hx) (hb.run _ _ _ hy)).imp ?_
 rintro σ H Q ⟨φ,hE,hS,q⟩
 exact⟨φ,hE,hS,λv H1 φ1 f1 s1 w1=>⟨φ1,hE.fw hS f1,s1,λu H2 φ2 f2 s2 w2=>⟨φ2,s2,w1.fw s1 f2,w2,λp us hp r=>q p us H2 φ2 (f1.trans f2) s2 hp r⟩⟩⟩
noncomputable def wl (_:Sto):W->W->Option (List D)
 | .d (.lst a),.d (.int k)=>if a.length<=1000/\-1000<=k/\k < 1000 then some (List.replicate k.toNat a).flatten else none
 | _,_=>none
theorem zP:OpL K X (binaryOp .Mult) wl:=by
 refine⟨λst x y d h=>?_⟩
 match x,y,h with
 | .d (.lst as),.d (.int k),h=>
  simp only [wl] at h
  split at h
  ·rename_i hl
   cases h
   refine sw.imp ?_
   rintro vx vy H Q ⟨φ,S,⟨a,us,rfl,h0,h1,h2⟩,r2,q⟩
   refine⟨a,k,us,rfl,r2,h1,by lia,by lia,?_,λp hp=>q p _ hp (h2.rep _)⟩
   rw [<-h2.length]
   have:as.length*k.toNat<=1000*1000:=qdH hl.1 (by lia)
   exact qaX this mil
  ·cases h
noncomputable def rh (x:Int):List Int->List Int
 | []=>[x]
 | y::ys=>if x<=y then x::y::ys else y::rh x ys
noncomputable def lB:List Int->List Int
 | []=>[]
 | x::xs=>rh x (lB xs)
theorem jV (x:Int):∀ ys,(rh x ys).Perm (x::ys)
 | []=>qcK _
 | y::ys=>by
  unfold rh
  split
  ·exact qcK _
  ·exact (List.Perm.cons y (jV x ys)).trans (List.Perm.swap x y ys)
theorem j7:∀ xs,(lB xs).Perm xs
 | []=>qcK _
 | x::xs=>(jV x _).trans (List.Perm.cons x (j7 xs))
theorem j8 (x:Int):∀ {ys:List Int},ys.Pairwise (·<=·)->(rh x ys).Pairwise (·<=·)
 | [],_=>by simp [rh]
 | y::ys,h=>by
  unfold rh
  split
  ·rename_i hxy
   refine qa9.mpr ⟨λz hz=>?_,h⟩
   rcases qaF.mp hz with rfl | hz
   ·exact hxy
   ·exact qed hxy ((qa9.mp h).1 z hz)
  ·rename_i hxy
   refine qa9.mpr ⟨λz hz=>?_,j8 x (qa9.mp h).2⟩
   rcases qaF.mp ((jV x ys).mem_iff.mp hz) with rfl | hz
   ·lia
   ·exact (qa9.mp h).1 z hz
theorem iM:∀ xs,(lB xs).Pairwise (·<=·)
 | []=>List.Pairwise.nil
 | x::xs=>j8 x (iM xs)
theorem qA {xs ys:List Int} (p:xs.Perm ys) (h1:xs.Pairwise (·<=·)) (h2:ys.Pairwise (·<=·)):xs=ys:=
 qeb (λa b _ _ h1 h2=>Int.le_antisymm h1 h2) h1 h2 p
theorem je:∀ {ns:List Int}{us:List Value},IntsAre us ns->aN (ns.map V.int) us
 | _,_,.nil=>.nil
 | _,_,.cons n t h=>.cons ⟨t,rfl⟩ (je h)
theorem xq {H:Hp}{ad:Addr}{ns:List Int}{m:Fn} (hO:xV H) (hS:SqL K H ad (ns.map V.int)) (h:∃ st,m [.d (.scr ns)] []=some (.d (.bl true),st)):spI K m [.ref ad] H (λv _=>v=.bl true) λ_ _ _=>False:=by
 obtain⟨st,h⟩:=h
 refine⟨[],[],[.d (.scr ns)],_,h,⟨_,[],rfl,⟨ad,rfl,?_⟩,rfl⟩,⟨List.nodup_nil,rfl,λn a ds e=>by simp at e⟩,λv H' φ' _ _ r=>r⟩
 rcases hS with (h | h) | h
 ·rcases hO ad with z | ⟨o,xs,z⟩
  ·rw [h] at z;cases z
  ·rw [h] at z;cases z
 ·exact .inl h
 ·exact .inr h
end
end L2
namespace L2
open PySem
theorem dz {g:Tg}{body:Sf}:∀ {ds:List D} (Pv:Nat->Ev->Sto->Prop) {env:Ev}{st:Sto},Pv 0 env st->
  (∀ i d env st,ds[i]?=some d->Pv i env st->∃ e1 e2 s2,d7 g (.d d) env=some e1/\(body e1 st=some (.nx e2 s2)\/body e1 st=some (.ct e2 s2))/\Pv (i+1) e2 s2)->
  ∃ env' st',kB g body ds env st=some (.nx env' st')/\Pv ds.length env' st'
 | [],Pv,env,st,h0,_=>⟨env,st,rfl,h0⟩
 | d::ds,Pv,env,st,h0,hs=>by
  obtain⟨e1,e2,s2,h1,h2,h3⟩:=hs 0 d env st rfl h0
  obtain⟨e',s',h4,h5⟩:=dz (g:=g) (body:=body) (ds:=ds) (λi=>Pv (i+1)) h3 λi d' env' st' hd p=>hs (i+1) d' env' st' (by simpa using hd) p
  refine⟨e',s',?_,h5⟩
  unfold kB
  rw [h1,qad]
  rcases h2 with h2 | h2<;>(rw [h2,qad];exact h4)
theorem kO {g:Tg}{tt:Tf}{te:Ef}{env:Ev}:∀ {ds:List D} (Pv:Nat->List D->Sto->Prop) {st:Sto}{ys0:List D},Pv 0 ys0 st->
  (∀ i d ys st,ds[i]?=some d->Pv i ys st->∃ e1,d7 g (.d d) env=some e1/\((∃ s1 x s2,tt e1 st=some (true,s1)/\te e1 s1=some (.d x,s2)/\Pv (i+1) (ys++[x]) s2)\/∃ s1,tt e1 st=some (false,s1)/\Pv (i+1) ys s1))->
  ∃ ys st',lcI g tt te env ds st=some (ys,st')/\Pv ds.length (ys0++ys) st'
 | [],Pv,st,ys0,h0,_=>⟨[],st,rfl,by rw [qbG];exact h0⟩
 | d::ds,Pv,st,ys0,h0,hs=>by
  obtain⟨e1,h1,h2⟩:=hs 0 d ys0 st rfl h0
  rcases h2 with⟨s1,x,s2,h2,h3,h4⟩ | ⟨s1,h2,h4⟩
  ·obtain⟨ys,s',h5,h6⟩:=kO (g:=g) (tt:=tt) (te:=te) (env:=env) (ds:=ds) (λi=>Pv (i+1)) h4 λi d' ys' st' hd p=>hs (i+1) d' ys' st' (by simpa using hd) p
   refine⟨x::ys,s',?_,by simpa using h6⟩
   unfold lcI
   rw [h1,qad,h2,qad,if_pos rfl,h3,qad,h5]
   rfl
  ·obtain⟨ys,s',h5,h6⟩:=kO (g:=g) (tt:=tt) (te:=te) (env:=env) (ds:=ds) (λi=>Pv (i+1)) h4 λi d' ys' st' hd p=>hs (i+1) d' ys' st' (by simpa using hd) p
   refine⟨ys,s',?_,by simpa using h6⟩
   unfold lcI
   rw [h1,qad,h2,qad,if_neg qaB,h5]
theorem ce {g:Tg}{tt:Tf}{te:Ef}{env:Ev}{st:Sto} (p:D->Bool) (F:D->D):∀ {ds:List D},(∀ d ∈ ds,∃ e1,d7 g (.d d) env=some e1/\tt e1 st=some (p d,st)/\(p d=true->te e1 st=some (.d (F d),st)))->
  lcI g tt te env ds st=some ((ds.filter p).map F,st)
 | [],_=>rfl
 | d::ds,h=>by
  obtain⟨e1,h1,h2,h3⟩:=h d qai
  have ih:=ce (g:=g) (tt:=tt) (te:=te) (env:=env) (st:=st) p F (ds:=ds) λx hx=>h x (qah _ hx)
  unfold lcI
  rw [h1,qad,h2,qad]
  cases hp:p d with
  | true=>rw [if_pos rfl,h3 hp,qad,ih,qd9,hp];rfl
  | false=>rw [if_neg qaB,ih,qd9,hp];rfl
theorem cS {g:Tg}{te:Ef}{env:Ev}{st:Sto} (F:D->D) {ds:List D} (h:∀ d ∈ ds,∃ e1,d7 g (.d d) env=some e1/\te e1 st=some (.d (F d),st)):lcI g cC te env ds st=some (ds.map F,st):=by
 have:=ce (g:=g) (tt:=cC) (te:=te) (env:=env) (st:=st) (λ_=>true) F (ds:=ds) λd hd=>by
  obtain⟨e1,h1,h2⟩:=h d hd
  exact⟨e1,h1,rfl,λ_=>h2⟩
 rw [this,qeY.mpr λ_ _=>rfl]
theorem n5 {a b:Int} (h:-(2 ^ 64) < a/\a < 2 ^ 64):PySem.IntMulOk a b:=xQ.ok (.inl h)
theorem gk {a b:Int} (h:-(2 ^ 64) < b/\b < 2 ^ 64):PySem.IntMulOk a b:=xQ.ok (.inr h)
theorem ud {α:Type} (a:α) (l:List α):atI (a::l) 0=some a:=fF (j:=0) rfl
theorem Ch {α:Type} (a b:α) (l:List α):atI (a::b::l) 1=some b:=fF (j:=1) rfl
theorem Cw {α:Type} (a b c:α) (l:List α):atI (a::b::c::l) 2=some c:=fF (j:=2) rfl
theorem Bs (n:Nat):ixN (n+1) 0=some 0:=og (j:=0) (by lia)
theorem Ck (n:Nat):ixN (n+3) 2=some 2:=og (j:=2) (by lia)
theorem cF {n i:Nat}{d:D} (h:(bF 0 n)[i]?=some d):d=.int (i:Int)/\i < n:=by
 rw [pL] at h
 by_cases hi:i < n
 ·rw [if_pos hi] at h
  cases h
  exact⟨by rw [qbl],hi⟩
 ·rw [if_neg hi] at h;cases h
end L2
namespace L2
open PySem PySem.Spec PyProof.Rows
noncomputable def Bd:Nat->Nat->StateT SortSt Sem (Option Nat):=sortPriv% PySem.Builtin.countRun
noncomputable def zl:Nat->Nat->Nat->StateT SortSt Sem Bool:=sortPriv% PySem.Builtin.binarySort
noncomputable def oD:Bool->Keyed->Array Keyed->Nat->Nat->Nat->StateT SortSt Sem (Option Nat):=sortPriv% PySem.Builtin.gallop
noncomputable def BC:Array Keyed->Array Keyed->StateT SortSt Sem (Array Keyed):=sortPriv% PySem.Builtin.mergeLo
noncomputable def BB:Array Keyed->Array Keyed->StateT SortSt Sem (Array Keyed):=sortPriv% PySem.Builtin.mergeHi
noncomputable def zd:Nat->StateT SortSt Sem Bool:=sortPriv% PySem.Builtin.mergeAt
abbrev z6 (st:SortSt) (g:Nat):SortSt:=SortSt.mk' (kindOf st) (arrOf st) (pendingOf st) g (failedOf st)
noncomputable def Cm (prog:Program) (w:World) (A:Around) (s:Shared) (κ:SortKind) (O:KeyOrd) (rk:Keyed->O.α) (S:Keyed->Prop):Prop:=
 ∀ x y,S x->S y->∀ (Q:Bool->Shared->Prop) (E:Value->Shared->Prop),Q (O.blt (rk x) (rk y)) s->wpAny (model prog w) A (keyLt' κ x.1 y.1) Q E s
section
variable {prog:Program}{w:World}{A:Around}{E:Value->Shared->Prop}{s:Shared}{κ:SortKind}{O:KeyOrd}{rk:Keyed->O.α}{S:Keyed->Prop}
theorem pB (hC:Cm prog w A s κ O rk S) {x y:Keyed}{st:SortSt}{Q:Option Bool->SortSt->Prop} (hk:kindOf st=κ) (hx:S x) (hy:S y) (h:Q (some (O.blt (rk x) (rk y))) st) :
  wpS (model prog w) A E s (lt' x y) Q st:=by
 rw [lt'_eq]
 refine qam (qc4 ?_)
 rw [hk]
 exact qam (wpS_lift (qe1 (hC x y hx hy _ _ ⟨rfl,qay h⟩)))
theorem bE {c:Prop} [Decidable c] {M:Model}{A':Around}{E':Value->Shared->Prop}{s':Shared}{α:Type}{a b:StateT SortSt Sem α}{Q:α->SortSt->Prop}{st:SortSt} (h:c) (k:wpS M A' E' s' a Q st):wpS M A' E' s' (if c then a else b) Q st:=by rw [if_pos h];exact k
theorem bj {c:Prop} [Decidable c] {M:Model}{A':Around}{E':Value->Shared->Prop}{s':Shared}{α:Type}{a b:StateT SortSt Sem α}{Q:α->SortSt->Prop}{st:SortSt} (h:¬ c) (k:wpS M A' E' s' b Q st):wpS M A' E' s' (if c then a else b) Q st:=by rw [if_neg h];exact k
theorem bD {arr:Array Keyed}{i:Nat}{x:Keyed}{st:SortSt}{Q:Keyed->SortSt->Prop} (hi:arr[i]?=some x) (h:Q x st):wpS (model prog w) A E s (elem' arr i) Q st:=by
 rw [elem'_eq,hi];exact qay h
theorem gq {t:String}{st:SortSt}{Q:Unit->SortSt->Prop} (h:Q () st):wpS (model prog w) A E s (liftM (rule t):StateT SortSt Sem Unit) Q st:=wpS_lift (qb8 ⟨rfl,h⟩)
noncomputable def kyd (arr:Array Keyed) (i:Nat):Keyed:=(arr[i]?).getD (.none,.none)
theorem bo {arr:Array Keyed}{i:Nat} (h:i < arr.size):arr[i]?=some (kyd arr i):=by
 unfold kyd;simp [h]
theorem dl {a b:Array Keyed}{i j:Nat} (h:a[i]?=b[j]?):kyd a i=kyd b j:=by
 unfold kyd;rw [h]
theorem xR (hC:Cm prog w A s κ O rk S) {i j:Nat}{st:SortSt}{Q:Option Bool->SortSt->Prop} (hk:kindOf st=κ) (hi:i < (arrOf st).size) (hj:j < (arrOf st).size) (hx:S (kyd (arrOf st) i)) (hy:S (kyd (arrOf st) j))
  (h:Q (some (O.blt (rk (kyd (arrOf st) i)) (rk (kyd (arrOf st) j)))) st):wpS (model prog w) A E s (ltAt' i j) Q st:=by
 rw [ltAt'_eq]
 refine qam (qc4 ?_)
 exact qam (bD (bo hi) (qam (bD (bo hj) (pB hC hk hx hy h))))
structure SB (κ:SortKind) (a0:Array Keyed) (lo:Nat) (p0:Array (Nat×Nat×Nat)) (g0:Nat) (st:SortSt):Prop where
 perm:(arrOf st).Perm a0
 pre:∀ k,k < lo->(arrOf st)[k]?=a0[k]?
 kind:kindOf st=κ
 fail:failedOf st=none
 pend:pendingOf st=p0
 gal:gallopOf st=g0
variable {a0:Array Keyed}{lo:Nat}{p0:Array (Nat×Nat×Nat)}{g0:Nat}{st:SortSt}
theorem SB.size (h:SB κ a0 lo p0 g0 st):(arrOf st).size=a0.size:=h.perm.size_eq
theorem SB.mem (h:SB κ a0 lo p0 g0 st) (hS:∀ x ∈ a0.toList,S x) {i:Nat} (hi:i < a0.size):S (kyd (arrOf st) i):=by
 have hi':i < (arrOf st).size:=by rw [h.size];exact hi
 refine hS _ ((qbZ.mp h.perm).mem_iff.mp ?_)
 have e:=bo hi'
 rw [qaS hi'] at e
 rw [<-qaA e]
 exact qey hi'
theorem SB.set (h:SB κ a0 lo p0 g0 st) {xs:Array Keyed} (hp:xs.Perm (arrOf st)) (hl:∀ k,k < lo->xs[k]?=(arrOf st)[k]?):SB κ a0 lo p0 g0 (setArr st xs):=
 ⟨hp.trans h.perm,λk hk=>(hl k hk).trans (h.pre k hk),h.kind,h.fail,h.pend,h.gal⟩
theorem sC (hC:Cm prog w A s κ O rk S) (hS:∀ x ∈ a0.toList,S x) (hB:SB κ a0 lo p0 g0 st) {i j:Nat}{Q:Option Bool->SortSt->Prop} (hi:i < a0.size) (hj:j < a0.size)
  (h:Q (some (O.blt (rk (kyd (arrOf st) i)) (rk (kyd (arrOf st) j)))) st):wpS (model prog w) A E s (ltAt' i j) Q st:=
 xR hC hB.kind (by rw [hB.size];exact hi) (by rw [hB.size];exact hj) (hB.mem hS hi) (hB.mem hS hj) h
noncomputable def Up (rk:Keyed->O.α) (arr:Array Keyed) (lo n:Nat):Prop:=∀ i j,lo<=i->i<=j->j < lo+n->O.kle (rk (kyd arr i)) (rk (kyd arr j))
noncomputable def gK (rk:Keyed->O.α) (arr:Array Keyed) (lo n:Nat):Prop:=∀ i j,lo<=i->i<=j->j < lo+n->O.kle (rk (kyd arr j)) (rk (kyd arr i))
theorem iT {xs:Array Keyed}{i j:Nat} (hj:j<=xs.size) (k:Nat):kyd (mirror xs i j ((j - i) / 2)) k=if i<=k/\k < j then kyd xs (i+j - 1 - k) else kyd xs k:=by
 have e:=qfE (i:=i) hj k
 by_cases h1:i<=k/\k < j
 ·rw [if_pos h1] at e ⊢;exact dl e
 ·rw [if_neg h1] at e ⊢;exact dl e
theorem lq {xs:Array Keyed}{src d:Nat} (hs:src < xs.size) (hd:d<=src) (k:Nat) :
  kyd (bubble xs src d) k=if k=src - d then kyd xs src else if src - d < k/\k<=src then kyd xs (k - 1) else kyd xs k:=by
 have e:=qgY hs d hd k
 by_cases h1:k=src - d
 ·rw [if_pos h1] at e ⊢;exact dl e
 ·rw [if_neg h1] at e ⊢
  by_cases h2:src - d < k/\k<=src
  ·rw [if_pos h2] at e ⊢;exact dl e
  ·rw [if_neg h2] at e ⊢;exact dl e
theorem SB.rev (hB:SB κ a0 lo p0 g0 st) {i j:Nat} (hi:lo<=i) (hj:j<=a0.size):SB κ a0 lo p0 g0 (setArr st (mirror (arrOf st) i j ((j - i) / 2))):=
 hB.set (mirror_perm _ _ _ _) λk hk=>by
  rw [qfE (by rw [hB.size];exact hj),if_neg (by lia)]
theorem gR {xs:Array Keyed}{i j:Nat} (hj:j<=xs.size) (he:∀ k,i<=k->k < j->rk (kyd xs k)=rk (kyd xs (j - 1))) (k:Nat):rk (kyd (mirror xs i j ((j - i) / 2)) k)=rk (kyd xs k):=by
 rw [iT hj]
 split
 ·rw [he (i+j - 1 - k) (by lia) (by lia),he k (by lia) (by lia)]
 ·rfl
theorem nQ {i j:Nat}{Q:Unit->SortSt->Prop} (h:Q () (setArr st (mirror (arrOf st) i j ((j - i) / 2)))):wpS (model prog w) A E s (reverseSlice' i j) Q st:=by
 rw [reverseSlice'_eq];exact qcn h
theorem Up.more {arr:Array Keyed}{n:Nat} (h:Up rk arr lo n) (h1:1<=n) (hl:O.kle (rk (kyd arr (lo+n - 1))) (rk (kyd arr (lo+n)))):Up rk arr lo (n+1):=by
 intro i j hi hij hj
 by_cases hjx:j < lo+n
 ·exact h i j hi hij hjx
 ·have hj':j=lo+n:=by lia
  subst hj'
  by_cases hi':i=lo+n
  ·subst hi';exact qcl _
  ·exact qbe (h i (lo+n - 1) hi (by lia) (by lia)) hl
theorem gK.more {arr:Array Keyed}{n:Nat} (h:gK rk arr lo n) (h1:1<=n) (hl:O.kle (rk (kyd arr (lo+n))) (rk (kyd arr (lo+n - 1)))):gK rk arr lo (n+1):=by
 intro i j hi hij hj
 by_cases hjx:j < lo+n
 ·exact h i j hi hij hjx
 ·have hj':j=lo+n:=by lia
  subst hj'
  by_cases hi':i=lo+n
  ·subst hi';exact qcl _
  ·exact qbe hl (h i (lo+n - 1) hi (by lia) (by lia))
theorem Up.one {arr:Array Keyed}:Up rk arr lo 1:=λi j hi hij hj=>by
 have:i=j:=by lia
 subst this;exact qcl _
theorem gK.congr {xs ys:Array Keyed}{n:Nat} (h:gK rk xs lo n) (e:∀ k,rk (kyd ys k)=rk (kyd xs k)):gK rk ys lo n:=λi j hi hij hj=>by
 rw [e,e];exact h i j hi hij hj
end
section
variable {prog:Program}{w:World}{A:Around}{E:Value->Shared->Prop}{s:Shared}{κ:SortKind}{O:KeyOrd}{rk:Keyed->O.α}{S:Keyed->Prop}
variable {a0:Array Keyed}{lo:Nat}{p0:Array (Nat×Nat×Nat)}{g0:Nat}{st:SortSt}
theorem vf {n0 nrem:Nat}{f:Nat->Option (Option Nat)×Nat->StateT SortSt Sem (ForInStep (Option (Option Nat)×Nat))}{Q:Option (Option Nat)×Nat->SortSt->Prop}
  (hf:∀ x n (Q':ForInStep (Option (Option Nat)×Nat)->SortSt->Prop),1<=n->n < nrem->(O.blt (rk (kyd (arrOf st) (lo+n))) (rk (kyd (arrOf st) (lo+n - 1)))=true->Q' (.done (none,n)) st)->
    (O.blt (rk (kyd (arrOf st) (lo+n))) (rk (kyd (arrOf st) (lo+n - 1)))=false->Q' (.yield (none,n+1)) st)->wpS (model prog w) A E s (f x (none,n)) Q' st)
  (h1:1<=n0) (hn:n0<=nrem) (hu:Up rk (arrOf st) lo n0)
  (h:∀ n,n0<=n->n<=nrem->Up rk (arrOf st) lo n->(n=nrem\/O.klt (rk (kyd (arrOf st) (lo+n))) (rk (kyd (arrOf st) (lo+n - 1))))->Q (none,n) st):wpS (model prog w) A E s (forIn [n0:nrem] (none,n0) f) Q st:=by
 refine qby (I:=λx c st'=>st'=st/\c=(none,x)/\Up rk (arrOf st) lo x) ?_ ?_ ⟨rfl,rfl,hu⟩
 ·rintro x c st' hx hxn ⟨rfl,rfl,hs⟩
  exact hf x x _ (by lia) hxn (λhl=>h x hx (by lia) hs (.inr hl)) λhl=>⟨rfl,rfl,hs.more (by lia) hl⟩
 ·rintro c st' ⟨rfl,rfl,hs⟩
  rw [show max n0 nrem=nrem by lia] at hs ⊢
  exact h nrem hn (qaq _) hs (.inl rfl)
noncomputable def Eqs (rk:Keyed->O.α) (arr:Array Keyed) (lo m q:Nat):Prop:=q+1<=m/\∀ i,lo+m - (q+1)<=i->i < lo+m->rk (kyd arr i)=rk (kyd arr (lo+m - 1))
theorem xv {n0 nrem:Nat}{f:Nat->Option (Option Nat)×Nat×Nat->StateT SortSt Sem (ForInStep (Option (Option Nat)×Nat×Nat))}{Q:Option (Option Nat)×Nat×Nat->SortSt->Prop}
  (hf:∀ x n q st' (Q':ForInStep (Option (Option Nat)×Nat×Nat)->SortSt->Prop),1<=n->n < nrem->SB κ a0 lo p0 g0 st'->
    (O.blt (rk (kyd (arrOf st') (lo+n))) (rk (kyd (arrOf st') (lo+n - 1)))=true->0 < q->Q' (.yield (none,n+1,0)) (setArr st' (mirror (arrOf st') (lo+n - (q+1)) (lo+n) ((lo+n - (lo+n - (q+1))) / 2))))->
    (O.blt (rk (kyd (arrOf st') (lo+n))) (rk (kyd (arrOf st') (lo+n - 1)))=true->q=0->Q' (.yield (none,n+1,0)) st')->
    (O.blt (rk (kyd (arrOf st') (lo+n - 1))) (rk (kyd (arrOf st') (lo+n)))=true->Q' (.done (none,n,q)) st')->
    (O.blt (rk (kyd (arrOf st') (lo+n))) (rk (kyd (arrOf st') (lo+n - 1)))=false->O.blt (rk (kyd (arrOf st') (lo+n - 1))) (rk (kyd (arrOf st') (lo+n)))=false->Q' (.yield (none,n+1,q+1)) st')->
    wpS (model prog w) A E s (f x (none,n,q)) Q' st')
  (h1:1<=n0) (hn:n0<=nrem) (hz:lo+nrem<=a0.size) (hB:SB κ a0 lo p0 g0 st) (hd:gK rk (arrOf st) lo n0)
  (h:∀ n q st',n0<=n->n<=nrem->SB κ a0 lo p0 g0 st'->gK rk (arrOf st') lo n->Eqs rk (arrOf st') lo n q->Q (none,n,q) st'):wpS (model prog w) A E s (forIn [n0:nrem] (none,n0,0) f) Q st:=by
 have one:∀ (arr:Array Keyed) m,1<=m->Eqs rk arr lo m 0:=λarr m hm=>⟨by lia,λi h1 h2=>by rw [show i=lo+m - 1 by lia]⟩
 refine qby (I:=λx c st'=>∃ q,c=(none,x,q)/\SB κ a0 lo p0 g0 st'/\gK rk (arrOf st') lo x/\Eqs rk (arrOf st') lo x q) ?_ ?_ ⟨0,rfl,hB,hd,one _ _ h1⟩
 ·rintro x c st' hx hxn ⟨q,rfl,hB',hs,he⟩
  have hsz:lo+x<=(arrOf st').size:=by rw [hB'.size];lia
  refine hf x x q st' _ (by lia) hxn hB' (λhl hq=>?_) (λhl hq=>?_) (λhl=>h x q st' hx (by lia) hB' hs he) λhl hl2=>?_
  ·have e:=gR (rk:=rk) (xs:=arrOf st') (i:=lo+x - (q+1)) (j:=lo+x) hsz he.2
   exact⟨0,rfl,hB'.rev (by have:=he.1;lia) (by lia),gK.congr (hs.more (by lia) (qcN hl)) e,one _ _ (by lia)⟩
  ·exact⟨0,rfl,hB',hs.more (by lia) (qcN hl),one _ _ (by lia)⟩
  ·have eq:rk (kyd (arrOf st') (lo+x))=rk (kyd (arrOf st') (lo+x - 1)):=qeQ hl2 hl
   refine⟨q+1,rfl,hB',hs.more (by lia) (by rw [eq];exact qcl _),by have:=he.1;lia,λi h1 h2=>?_⟩
   rw [show lo+(x+1) - 1=lo+x by lia,eq]
   by_cases hi:i=lo+x
   ·rw [hi,eq]
   ·exact he.2 i (by lia) (by lia)
 ·rintro c st' ⟨q,rfl,hB',hs,he⟩
  rw [show max n0 nrem=nrem by lia] at hs he ⊢
  exact h nrem q st' hn (qaq _) hB' hs he
theorem zI {m nrem:Nat}{f:Nat->Option (Option Nat)×Nat->StateT SortSt Sem (ForInStep (Option (Option Nat)×Nat))}{k:Option (Option Nat)×Nat->StateT SortSt Sem (Option Nat)}{Q:Option Nat->SortSt->Prop}
  (hB:SB κ a0 lo p0 g0 st) (hd:gK rk (arrOf st) lo m) (h1:1<=m) (hm:m<=nrem) (hz:lo+nrem<=a0.size)
  (hf:∀ x n (Q':ForInStep (Option (Option Nat)×Nat)->SortSt->Prop) st4,SB κ a0 lo p0 g0 st4->1<=n->n < nrem->(O.blt (rk (kyd (arrOf st4) (lo+n))) (rk (kyd (arrOf st4) (lo+n - 1)))=true->Q' (.done (none,n)) st4)->
    (O.blt (rk (kyd (arrOf st4) (lo+n))) (rk (kyd (arrOf st4) (lo+n - 1)))=false->Q' (.yield (none,n+1)) st4)->wpS (model prog w) A E s (f x (none,n)) Q' st4)
  (hk:∀ n st4,SB κ a0 lo p0 g0 st4->1<=n->n<=nrem->Up rk (arrOf st4) lo n->wpS (model prog w) A E s (k (none,n)) Q st4) :
  wpS (model prog w) A E s (do reverseSlice' lo (lo+m);let r <-forIn [m:nrem] (none,m) f;k r) Q st:=by
 refine qam (nQ ?_)
 have hB4:=hB.rev (i:=lo) (j:=lo+m) (qaq _) (by lia)
 refine qam (vf (rk:=rk) (lo:=lo) (λx n Q' hn1 hn2 hy hno=>hf x n Q' _ hB4 hn1 hn2 hy hno) h1 hm ?_ λn' hn1' hn2' hu' _=>hk n' _ hB4 (by lia) hn2' hu')
 intro i j hi hij hj
 have hs3:lo+m<=(arrOf st).size:=by rw [hB.size];lia
 show O.kle (rk (kyd (mirror (arrOf st) lo (lo+m) ((lo+m - lo) / 2)) i)) (rk (kyd (mirror (arrOf st) lo (lo+m) ((lo+m - lo) / 2)) j))
 rw [iT hs3,iT hs3,if_pos (by lia),if_pos (by lia)]
 exact hd _ _ (by lia) (by lia) (by lia)
set_option maxHeartbeats 1000000 in
theorem sV (hC:Cm prog w A s κ O rk S) (hS:∀ x ∈ a0.toList,S x) {nrem:Nat}{Q:Option Nat->SortSt->Prop} (hB:SB κ a0 lo p0 g0 st) (h1:1<=nrem) (hz:lo+nrem<=a0.size)
  (h:∀ m st',SB κ a0 lo p0 g0 st'->1<=m->m<=nrem->Up rk (arrOf st') lo m->Q (some m) st'):wpS (model prog w) A E s (Bd lo nrem) Q st:=by
 have asc:∀ st' (_:SB κ a0 lo p0 g0 st') n (Q':Option Bool->SortSt->Prop),1<=n->n < nrem->Q' (some (O.blt (rk (kyd (arrOf st') (lo+n))) (rk (kyd (arrOf st') (lo+n - 1))))) st'->
   wpS (model prog w) A E s (ltAt' (lo+n) (lo+n - 1)) Q' st':=λst' hB' n Q' h1 h2 hq=>sC hC hS hB' (by lia) (by lia) hq
 refine qam (vf (rk:=rk) (lo:=lo) (λx n Q' hn1 hn2 hy hno=>?_) (qaq 1) h1 Up.one λn hn1 hn2 hu hor=>?_)
 ·refine qam (asc st hB n _ hn1 hn2 ?_)
  cases hl:O.blt (rk (kyd (arrOf st) (lo+n))) (rk (kyd (arrOf st) (lo+n - 1))) with
  | true=>exact qay (hy hl)
  | false=>exact qay (hno hl)
 dsimp only
 by_cases hnn:n=nrem
 ·refine bE (by simpa using hnn) ?_
  exact qay (h n st hB hn1 hn2 hu)
 refine bj (by simpa using hnn) ?_
 have hlt:=hor.resolve_left hnn
 have hn3:n+1<=nrem:=by lia
 have hsz:lo+n<=(arrOf st).size:=by rw [hB.size];lia
 by_cases hgt:n > 1
 case' pos=>
  refine bE hgt ?_
  refine qam (sC hC hS hB (by lia) (by lia) ?_)
  by_cases hrose:O.blt (rk (kyd (arrOf st) lo)) (rk (kyd (arrOf st) (lo+n - 1)))=true
  ·rw [hrose];exact qay (h n st hB hn1 hn2 hu)
  rw [qdl] at hrose
  rw [hrose]
  have hall:∀ k,lo<=k->k < lo+n->rk (kyd (arrOf st) k)=rk (kyd (arrOf st) (lo+n - 1)):=λk hk1 hk2=>
   qeQ (hu k (lo+n - 1) hk1 (by lia) (by lia)) (qbe hrose (hu lo k (by lia) hk1 hk2))
  refine qam (nQ ?_)
  have hB2:=hB.rev (i:=lo) (j:=lo+n) (qaq _) (by lia)
  have hd:gK rk (arrOf (setArr st (mirror (arrOf st) lo (lo+n) ((lo+n - lo) / 2)))) lo (n+1):=by
   refine gK.congr (xs:=arrOf st) (gK.more (λi j hi hij hj=>?_) (by lia) (qcN hlt)) (gR hsz hall)
   rw [hall i hi (by lia),hall j (by lia) hj];exact qcl _
  generalize setArr st (mirror (arrOf st) lo (lo+n) ((lo+n - lo) / 2))=st2 at hB2 hd ⊢
  clear hu hlt hrose hall hB hsz hor
 case' neg=>
  refine bj hgt ?_
  have hB2:=hB
  have hd:gK rk (arrOf st) lo (n+1):=by
   refine gK.more (λi j hi hij hj=>?_) (by lia) (qcN hlt)
   rw [show i=j by lia];exact qcl _
  clear hu hlt hB hsz hor
  revert hB2 hd
  generalize st=st2
  intro hB2 hd
 all_goals
  refine qam (gq ?_)
  refine qam (xv (λx m q st' Q' hm1 hm2 hB' c1 c2 c3 c4=>?_) (by lia) hn3 hz hB2 hd λm q st' hm1 hm2 hB' hd' he=>?_)
  ·refine qam (asc st' hB' m _ hm1 hm2 ?_)
   cases hl:O.blt (rk (kyd (arrOf st') (lo+m))) (rk (kyd (arrOf st') (lo+m - 1))) with
   | true=>
    dsimp only
    refine bE rfl ?_
    by_cases hq:q > 0
    ·rw [if_pos hq];exact qam (nQ (qay (c1 hl hq)))
    ·rw [if_neg hq];exact qay (c2 hl (by lia))
   | false=>
    dsimp only
    refine bj (by simp) ?_
    refine qam (sC hC hS hB' (by lia) (by lia) ?_)
    cases hl2:O.blt (rk (kyd (arrOf st') (lo+m - 1))) (rk (kyd (arrOf st') (lo+m))) with
    | true=>exact qay (c3 hl2)
    | false=>exact qay (c4 hl hl2)
  have hsz':lo+m<=(arrOf st').size:=by rw [hB'.size];lia
  dsimp only
  by_cases hq:q > 0
  case' pos=>
   refine bE hq ?_
   refine qam (nQ ?_)
   have hB3:=hB'.rev (i:=lo+m - (q+1)) (j:=lo+m) (by have:=he.1;lia) (by lia)
   have hd3:gK rk (arrOf (setArr st' (mirror (arrOf st') (lo+m - (q+1)) (lo+m) ((lo+m - (lo+m - (q+1))) / 2)))) lo m:=gK.congr hd' (gR hsz' he.2)
   generalize setArr st' (mirror (arrOf st') (lo+m - (q+1)) (lo+m) ((lo+m - (lo+m - (q+1))) / 2))=st3 at hB3 hd3 ⊢
  case' neg=>
   refine bj hq ?_
   have hB3:=hB'
   have hd3:=hd'
  all_goals
   refine zI hB3 hd3 (by lia) hm2 hz (λx n' Q' st4 hB4 hn1' hn2' hy hno=>?_) λn' st4 hB4 a1 a2 a3=>qay (h n' st4 hB4 a1 a2 a3)
   refine qam (asc st4 hB4 n' _ hn1' hn2' ?_)
   cases hl:O.blt (rk (kyd (arrOf st4) (lo+n'))) (rk (kyd (arrOf st4) (lo+n' - 1))) with
   | true=>exact qay (hy hl)
   | false=>exact qay (hno hl)
end
section
variable {prog:Program}{w:World}{A:Around}{E:Value->Shared->Prop}{s:Shared}{κ:SortKind}{O:KeyOrd}{rk:Keyed->O.α}{S:Keyed->Prop}
variable {a0:Array Keyed}{lo:Nat}{p0:Array (Nat×Nat×Nat)}{g0:Nat}{st:SortSt}
set_option maxHeartbeats 1000000 in
theorem qj (hC:Cm prog w A s κ O rk S) (hS:∀ x ∈ a0.toList,S x) {n ok:Nat}{Q:Bool->SortSt->Prop} (hB:SB κ a0 lo p0 g0 st) (h1:1<=ok) (hok:ok<=n) (hz:lo+n<=a0.size) (hu:Up rk (arrOf st) lo ok)
  (h:∀ st',SB κ a0 lo p0 g0 st'->Up rk (arrOf st') lo n->Q true st'):wpS (model prog w) A E s (zl lo n ok) Q st:=by
 refine qam (qcT (qby (I:=λk c st'=>c=(none,())/\SB κ a0 lo p0 g0 st'/\Up rk (arrOf st') lo (min k n)) (Q:=λc st'=>c=(none,())/\SB κ a0 lo p0 g0 st'/\Up rk (arrOf st') lo n) ?_ ?_ ?_) ?_)
 ·rintro k c st' hk hkn ⟨rfl,hB',hs⟩
  rw [show min k n=k by lia] at hs
  dsimp only
  refine qam (qcT (qby (I:=λx c st2=>st2=st'/\∃ l r,c=(none,l,r)/\l<=r/\r<=k/\r - l<=k - x/\(∀ i,i < l->O.kle (rk (kyd (arrOf st') (lo+i))) (rk (kyd (arrOf st') (lo+k))))/\
    ∀ i,r<=i->i < k->O.klt (rk (kyd (arrOf st') (lo+k))) (rk (kyd (arrOf st') (lo+i))))
   (Q:=λc st2=>st2=st'/\∃ l r,c=(none,l,r)/\l<=k/\(∀ i,i < l->O.kle (rk (kyd (arrOf st') (lo+i))) (rk (kyd (arrOf st') (lo+k))))/\∀ i,l<=i->i < k->O.klt (rk (kyd (arrOf st') (lo+k))) (rk (kyd (arrOf st') (lo+i)))) ?_ ?_ ?_) ?_)
  ·rintro x c st2 _ hxk ⟨rfl,l,r,rfl,hlr,hrk,hm,hlo,hhi⟩
   dsimp only
   by_cases hge:l>=r
   ·refine bE hge ?_
    have e:l=r:=by lia
    subst e
    exact qay ⟨rfl,l,l,rfl,hrk,hlo,hhi⟩
   ·refine bj hge ?_
    refine qam (sC hC hS hB' (by lia) (by lia) ?_)
    cases hl:O.blt (rk (kyd (arrOf st2) (lo+k))) (rk (kyd (arrOf st2) (lo+(l+r) / 2))) with
    | true=>exact qay ⟨rfl,l,(l+r) / 2,rfl,by lia,by lia,by lia,hlo,λi h1 h2=>qep hl (hs _ _ (by lia) (by lia) (by lia))⟩
    | false=>exact qay ⟨rfl,(l+r) / 2+1,r,rfl,by lia,by lia,by lia,λi h1=>qbe (hs (lo+i) (lo+(l+r) / 2) (by lia) (by lia) (by lia)) hl,hhi⟩
  ·rintro c st2 ⟨rfl,l,r,rfl,hlr,hrk,hm,hlo,hhi⟩
   have e:l=r:=by lia
   subst e
   exact⟨rfl,l,l,rfl,hrk,hlo,hhi⟩
  ·exact⟨rfl,0,k,rfl,by lia,by lia,by lia,λi hi=>by lia,λi h1 h2=>by lia⟩
  ·rintro c st2 ⟨rfl,l,r,rfl,hlk,hlo,hhi⟩
   dsimp only
   refine qam (m:=moveDown' (lo+k) (lo+l)) ?_
   rw [moveDown'_eq]
   have hks:lo+k < (arrOf st2).size:=by rw [hB'.size];lia
   refine qcn (qay ⟨rfl,hB'.set (bubble_perm _ _ _) λi hi=>?_,?_⟩)
   ·rw [qgY hks _ (by lia),if_neg (by lia),if_neg (by lia)]
   ·rw [show min (k+1) n=k+1 by lia]
    intro i j hi hij hj
    show O.kle (rk (kyd (bubble (arrOf st2) (lo+k) (lo+k - (lo+l))) i)) (rk (kyd (bubble (arrOf st2) (lo+k) (lo+k - (lo+l))) j))
    rw [lq hks (by lia),lq hks (by lia),show lo+k - (lo+k - (lo+l))=lo+l by lia]
    have hlo':∀ i,lo<=i->i < lo+l->O.kle (rk (kyd (arrOf st2) i)) (rk (kyd (arrOf st2) (lo+k))):=λi h1 h2=>by
     have:=hlo (i - lo) (by lia);rwa [show lo+(i - lo)=i by lia] at this
    have hhi':∀ i,lo+l<=i->i < lo+k->O.klt (rk (kyd (arrOf st2) (lo+k))) (rk (kyd (arrOf st2) i)):=λi h1 h2=>by
     have:=hhi (i - lo) (by lia) (by lia);rwa [show lo+(i - lo)=i by lia] at this
    repeat' split
    all_goals first
     | (exfalso;lia)
     | exact qcl _
     | exact hlo' _ (by lia) (by lia)
     | exact qcN (hhi' _ (by lia) (by lia))
     | exact hs _ _ (by lia) (by lia) (by lia)
 ·rintro c st' ⟨rfl,hB',hs⟩
  rw [show min (max (max ok 1) n) n=n by lia] at hs
  exact⟨rfl,hB',hs⟩
 ·rw [show max ok 1=ok by lia,show min ok n=ok by lia]
  exact⟨rfl,hB,hu⟩
 ·rintro c st' ⟨rfl,hB',hs⟩
  exact qay (h st' hB' hs)
noncomputable def bey (O:KeyOrd) (rk:Keyed->O.α) (left:Bool) (key x:Keyed):Bool:=if left=true then O.blt (rk x) (rk key) else !O.blt (rk key) (rk x)
set_option maxHeartbeats 1000000 in
theorem eM (hC:Cm prog w A s κ O rk S) {left:Bool}{key:Keyed}{arr:Array Keyed}{base n hint:Nat}{Q:Option Nat->SortSt->Prop} (hk:kindOf st=κ) (hkey:S key) (hz:base+n<=arr.size) (hS:∀ i,i < n->S (kyd arr (base+i)))
  (hh:hint < n) (anti:∀ i j,i<=j->j < n->bey O rk left key (kyd arr (base+j))=true->bey O rk left key (kyd arr (base+i))=true)
  (h:∀ k,k<=n->(∀ i,i < k->bey O rk left key (kyd arr (base+i))=true)->(∀ i,k<=i->i < n->bey O rk left key (kyd arr (base+i))=false)->Q (some k) st) :
  wpS (model prog w) A E s (oD left key arr base n hint) Q st:=by
 have bey1:∀ i (Q':Option Bool->SortSt->Prop),i < n->Q' (some (bey O rk left key (kyd arr (base+i)))) st->wpS (model prog w) A E s (elem' arr (base+i) >>= λx=>if left=true then lt' x key else lt' key x >>= λb=>pure (b.map (!·))) Q' st:=λi Q' hi hq=>by
  refine qam (bD (bo (by lia)) ?_)
  cases left with
  | true=>exact pB hC hk (hS i hi) hkey hq
  | false=>exact qam (pB hC hk hkey (hS i hi) (qay hq))
 have bin:∀ l0 h0,l0<=h0->h0<=n->(∀ i,i < l0->bey O rk left key (kyd arr (base+i))=true)->(∀ i,h0<=i->i < n->bey O rk left key (kyd arr (base+i))=false)->
   ∀ (f:Nat->Option (Option Nat)×Nat×Nat->StateT SortSt Sem (ForInStep (Option (Option Nat)×Nat×Nat))) (k:Option (Option Nat)×Nat×Nat->StateT SortSt Sem (Option Nat)),
   (∀ x l r (Q':ForInStep (Option (Option Nat)×Nat×Nat)->SortSt->Prop),l<=r->r<=n->(r<=l->Q' (.done (none,l,r)) st)->(l < r->bey O rk left key (kyd arr (base+(l+(r - l) / 2)))=true->Q' (.yield (none,l+(r - l) / 2+1,r)) st)->
     (l < r->bey O rk left key (kyd arr (base+(l+(r - l) / 2)))=false->Q' (.yield (none,l,l+(r - l) / 2)) st)->wpS (model prog w) A E s (f x (none,l,r)) Q' st)->
   (∀ l r,k (none,l,r)=pure (some r))->wpS (model prog w) A E s (forIn [0:n] (none,l0,h0) f >>= k) Q st:=λl0 h0 e1 e2 e3 e4 f k hf hkk=>by
  refine qam (qcT (qby (I:=λx c st2=>st2=st/\∃ l r,c=(none,l,r)/\l<=r/\r<=n/\r - l<=n - x/\(∀ i,i < l->bey O rk left key (kyd arr (base+i))=true)/\∀ i,r<=i->i < n->bey O rk left key (kyd arr (base+i))=false)
   (Q:=λc st2=>st2=st/\∃ r,c=(none,r,r)/\r<=n/\(∀ i,i < r->bey O rk left key (kyd arr (base+i))=true)/\∀ i,r<=i->i < n->bey O rk left key (kyd arr (base+i))=false) ?_ ?_ ?_) ?_)
  ·rintro x c st2 _ hx ⟨rfl,l,r,rfl,a1,a2,a3,a4,a5⟩
   refine hf x l r _ a1 a2 (λhrl=>?_) (λhlr ht=>?_) λhlr ht=>?_
   ·have e:l=r:=by lia
    subst e
    exact⟨rfl,l,rfl,a2,a4,a5⟩
   ·refine⟨rfl,_,_,rfl,by lia,a2,by lia,λi hi=>?_,a5⟩
    exact anti i (l+(r - l) / 2) (by lia) (by lia) ht
   ·refine⟨rfl,_,_,rfl,by lia,by lia,by lia,a4,λi h1 h2=>?_⟩
    cases q:bey O rk left key (kyd arr (base+i)) with
    | false=>rfl
    | true=>rw [anti (l+(r - l) / 2) i h1 h2 q] at ht;cases ht
  ·rintro c st2 ⟨rfl,l,r,rfl,a1,a2,a3,a4,a5⟩
   have e:l=r:=by lia
   subst e
   exact⟨rfl,l,rfl,a2,a4,a5⟩
  ·exact⟨rfl,l0,h0,rfl,e1,e2,by lia,e3,e4⟩
  ·rintro c st2 ⟨rfl,r,rfl,a2,a4,a5⟩
   rw [hkk]
   exact qay (h r a2 a4 a5)
 refine qam (bey1 hint _ hh ?_)
 dsimp only
 cases hb:bey O rk left key (kyd arr (base+hint)) with
 | true=>
  refine bE rfl ?_
  refine qam (qcT (qby (I:=λx c st2=>st2=st/\∃ l o,c=(none,l,o)/\l < o/\x+1<=o/\hint+l < n/\bey O rk left key (kyd arr (base+(hint+l)))=true)
   (Q:=λc st2=>st2=st/\∃ l o,c=(none,l,o)/\l < o/\hint+l < n/\bey O rk left key (kyd arr (base+(hint+l)))=true/\(n - hint<=o\/hint+o < n/\bey O rk left key (kyd arr (base+(hint+o)))=false)) ?_ ?_ ?_) ?_)
  ·rintro x c st2 _ hx ⟨rfl,l,o,rfl,a1,a2,a3,a4⟩
   dsimp only
   by_cases ho:o>=n - hint
   ·rw [if_pos ho];exact qay ⟨rfl,l,o,rfl,a1,a3,a4,.inl ho⟩
   ·refine bj ho ?_
    refine qam (bey1 (hint+o) _ (by lia) ?_)
    cases hb2:bey O rk left key (kyd arr (base+(hint+o))) with
    | true=>exact qay ⟨rfl,o,2*o+1,rfl,by lia,by lia,by lia,hb2⟩
    | false=>exact qay ⟨rfl,l,o,rfl,a1,a3,a4,.inr ⟨by lia,hb2⟩⟩
  ·rintro c st2 ⟨rfl,l,o,rfl,a1,a2,a3,a4⟩
   exact⟨rfl,l,o,rfl,a1,a3,a4,.inl (by lia)⟩
  ·exact⟨rfl,0,1,rfl,by lia,by lia,by lia,hb⟩
  ·rintro c st2 ⟨rfl,l,o,rfl,a1,a3,a4,a5⟩
   dsimp only
   refine bin _ _ (by lia) (by lia) (λi hi=>anti i (hint+l) (by lia) a3 a4) (λi h1 h2=>?_) _ _ (λx l r Q' b1 b2 c1 c2 c3=>?_) λl r=>rfl
   ·rcases a5 with a5 | a5
    ·lia
    ·cases q:bey O rk left key (kyd arr (base+i)) with
     | false=>rfl
     | true=>rw [anti (hint+o) i (by lia) h2 q] at a5;exact absurd a5.2 (by simp)
   ·dsimp only
    by_cases hge:l>=r
    ·rw [if_pos hge];exact qay (c1 hge)
    ·refine bj hge ?_
     refine qam (bey1 (l+(r - l) / 2) _ (by lia) ?_)
     cases hb3:bey O rk left key (kyd arr (base+(l+(r - l) / 2))) with
     | true=>exact qay (c2 (by lia) hb3)
     | false=>exact qay (c3 (by lia) hb3)
 | false=>
  refine bj (by simp) ?_
  refine qam (qcT (qby (I:=λx c st2=>st2=st/\∃ l o,c=(none,l,o)/\l < o/\x+1<=o/\l<=hint/\bey O rk left key (kyd arr (base+(hint - l)))=false)
   (Q:=λc st2=>st2=st/\∃ l o,c=(none,l,o)/\l < o/\l<=hint/\bey O rk left key (kyd arr (base+(hint - l)))=false/\(hint+1<=o\/o<=hint/\bey O rk left key (kyd arr (base+(hint - o)))=true)) ?_ ?_ ?_) ?_)
  ·rintro x c st2 _ hx ⟨rfl,l,o,rfl,a1,a2,a3,a4⟩
   dsimp only
   by_cases ho:o>=hint+1
   ·rw [if_pos ho];exact qay ⟨rfl,l,o,rfl,a1,a3,a4,.inl ho⟩
   ·refine bj ho ?_
    refine qam (bey1 (hint - o) _ (by lia) ?_)
    cases hb2:bey O rk left key (kyd arr (base+(hint - o))) with
    | false=>exact qay ⟨rfl,o,2*o+1,rfl,by lia,by lia,by lia,hb2⟩
    | true=>exact qay ⟨rfl,l,o,rfl,a1,a3,a4,.inr ⟨by lia,hb2⟩⟩
  ·rintro c st2 ⟨rfl,l,o,rfl,a1,a2,a3,a4⟩
   exact⟨rfl,l,o,rfl,a1,a3,a4,.inl (by lia)⟩
  ·exact⟨rfl,0,1,rfl,by lia,by lia,by lia,hb⟩
  ·rintro c st2 ⟨rfl,l,o,rfl,a1,a3,a4,a5⟩
   dsimp only
   refine bin _ _ (by lia) (by lia) (λi hi=>?_) (λi h1 h2=>?_) _ _ (λx l r Q' b1 b2 c1 c2 c3=>?_) λl r=>rfl
   ·rcases a5 with a5 | a5
    ·lia
    ·exact anti i (hint - o) (by lia) (by lia) a5.2
   ·cases q:bey O rk left key (kyd arr (base+i)) with
    | false=>rfl
    | true=>rw [anti (hint - l) i (by lia) h2 q] at a4;cases a4
   ·dsimp only
    by_cases hge:l>=r
    ·rw [if_pos hge];exact qay (c1 hge)
    ·refine bj hge ?_
     refine qam (bey1 (l+(r - l) / 2) _ (by lia) ?_)
     cases hb3:bey O rk left key (kyd arr (base+(l+(r - l) / 2))) with
     | true=>exact qay (c2 (by lia) hb3)
     | false=>exact qay (c3 (by lia) hb3)
end
section
variable {O:KeyOrd}{rk:Keyed->O.α}
noncomputable def mrg (O:KeyOrd) (rk:Keyed->O.α) (xs ys:List Keyed):List Keyed:=List.merge xs ys λx y=>!O.blt (rk y) (rk x)
theorem gs (xs:List Keyed):mrg O rk xs []=xs:=by unfold mrg;simp
theorem ix (ys:List Keyed):mrg O rk [] ys=ys:=by unfold mrg;simp
theorem nt {x y:Keyed}{xs ys:List Keyed} (h:O.blt (rk y) (rk x)=false):mrg O rk (x::xs) (y::ys)=x::mrg O rk xs (y::ys):=by
 unfold mrg;rw [qeV,h];rfl
theorem mt {x y:Keyed}{xs ys:List Keyed} (h:O.blt (rk y) (rk x)=true):mrg O rk (x::xs) (y::ys)=y::mrg O rk (x::xs) ys:=by
 unfold mrg;rw [qeV,h];rfl
theorem oA {x:Keyed}:∀ {ys:List Keyed},(∀ y ∈ ys,O.blt (rk y) (rk x)=true)->mrg O rk [x] ys=ys++[x]
 | [],_=>gs _
 | y::ys,h=>by rw [mt (h y qai),oA λz hz=>h z (qah _ hz)];rfl
theorem jK {x:Keyed}:∀ (xs ys:List Keyed),(∀ y ∈ ys,O.blt (rk y) (rk x)=true)->mrg O rk (xs++[x]) ys=mrg O rk xs ys++[x]
 | [],ys,h=>by rw [qaW,oA h,ix]
 | a::xs,[],h=>by rw [gs,gs]
 | a::xs,y::ys,h=>by
  rw [qaU]
  cases hb:O.blt (rk y) (rk a) with
  | true=>rw [mt hb,mt hb,<-qaU,jK (a::xs) ys λz hz=>h z (qah _ hz)];rfl
  | false=>rw [nt hb,nt hb,jK xs (y::ys) h];rfl
termination_by xs ys=>xs.length+ys.length
theorem sP {y:Keyed}:∀ {xs:List Keyed},(∀ x ∈ xs,O.blt (rk y) (rk x)=false)->mrg O rk xs [y]=xs++[y]
 | [],_=>ix _
 | x::xs,h=>by rw [nt (h x qai),sP λz hz=>h z (qah _ hz)];rfl
theorem jM {y:Keyed}:∀ (xs ys:List Keyed),(∀ x ∈ xs,O.blt (rk y) (rk x)=false)->mrg O rk xs (ys++[y])=mrg O rk xs ys++[y]
 | xs,[],h=>by rw [qaW,sP h,gs]
 | [],b::ys,h=>by rw [ix,ix]
 | a::xs,b::ys,h=>by
  rw [qaU]
  cases hb:O.blt (rk b) (rk a) with
  | true=>rw [mt hb,mt hb,jM (a::xs) ys h];rfl
  | false=>rw [nt hb,nt hb,<-qaU,jM xs (b::ys) λz hz=>h z (qah _ hz)];rfl
termination_by xs ys=>xs.length+ys.length
theorem kX (xs ys:List Keyed):(mrg O rk xs ys).Perm (xs++ys):=List.merge_perm_append _
theorem AS {xs ys:List Keyed} (hx:xs.Pairwise λa b=>O.kle (rk a) (rk b)) (hy:ys.Pairwise λa b=>O.kle (rk a) (rk b)):(mrg O rk xs ys).Pairwise λa b=>O.kle (rk a) (rk b):=by
 have:=List.pairwise_merge (le:=λx y=>!O.blt (rk y) (rk x)) (λa b c h1 h2=>by
   simp only [qbV] at *;exact qbe (O:=O) h1 h2) (λa b=>by
   simp only [qen,qbV]
   cases h:O.blt (rk b) (rk a) with
   | false=>exact .inl rfl
   | true=>exact .inr (qe7 (O:=O) h)) xs ys (hx.imp λh=>by rw [qbV];exact h) (hy.imp λh=>by rw [qbV];exact h)
 exact this.imp λh=>by rw [qbV] at h;exact h
theorem d4 {a:Array Keyed}{i:Nat} (h:i < a.size):a.toList.drop i=kyd a i::a.toList.drop (i+1):=by
 have e:=bo h
 rw [qaS h] at e
 rw [qb6 (by simpa using h)]
 rw [<-qaA e];simp
theorem lL {a:Array Keyed}{i:Nat} (h:i < a.size):a.toList.take (i+1)=a.toList.take i++[kyd a i]:=by
 have e:=bo h
 rw [qaS h] at e
 rw [qb7 (by simpa using h)]
 rw [<-qaA e];simp
theorem sN {a:Array Keyed}{x:Keyed} (h:x ∈ a.toList):∃ i,i < a.size/\x=kyd a i:=by
 obtain⟨i,hi,e⟩:=qcb.mp h
 have hi':i < a.size:=by simpa using hi
 refine⟨i,hi',?_⟩
 have q:=bo hi'
 rw [qaS hi'] at q
 rw [<-qaA q,<-e];simp
noncomputable def MI (O:KeyOrd) (rk:Keyed->O.α) (a b out:Array Keyed) (ia ib:Nat):Prop:=out.toList++mrg O rk (a.toList.drop ia) (b.toList.drop ib)=mrg O rk a.toList b.toList
variable {a b out:Array Keyed}{ia ib:Nat}
theorem MI.start:MI O rk a b #[] 0 0:=by unfold MI;simp
theorem MI.b1 (h:MI O rk a b out ia ib) (hb:ib < b.size) (ha:ia < a.size) (hl:O.blt (rk (kyd b ib)) (rk (kyd a ia))=true):MI O rk a b (out.push (kyd b ib)) ia (ib+1):=by
 unfold MI at *
 rw [d4 ha,d4 hb,mt hl] at h
 rw [<-h,d4 ha];simp
theorem MI.a1 (h:MI O rk a b out ia ib) (hb:ib < b.size) (ha:ia < a.size) (hl:O.blt (rk (kyd b ib)) (rk (kyd a ia))=false):MI O rk a b (out.push (kyd a ia)) (ia+1) ib:=by
 unfold MI at *
 rw [d4 ha,d4 hb,nt hl] at h
 rw [<-h,d4 hb];simp
theorem lY {a:Array Keyed}{i k:Nat} (h:i+k < a.size):(out++a.extract i (i+(k+1)))=(out++a.extract i (i+k)).push (kyd a (i+k)):=by
 apply qbt.mp
 rw [Array.toList_push,qa6,qa6,qb9,qb9]
 simp only [qb5,Nat.add_sub_cancel_left]
 have e:(a.toList.drop i).take (k+1)=(a.toList.drop i).take k++[kyd a (i+k)]:=by
  rw [qb7 (by simp;lia)]
  have q:=bo h
  rw [qaS h] at q
  rw [<-qaA q];simp
 rw [e,qbC]
theorem qo {a:Array Keyed}{i:Nat}:out++a.extract i (i+0)=out:=by
 apply qbt.mp
 simp
theorem MI.as (h:MI O rk a b out ia ib) (hb:ib < b.size):∀ k,ia+k<=a.size->(∀ i,i < k->bey O rk false (kyd b ib) (kyd a (ia+i))=true)->MI O rk a b (out++a.extract ia (ia+k)) (ia+k) ib
 | 0,_,_=>by rw [qo];exact h
 | k+1,hk,hq=>by
  rw [lY (by lia)]
  have:=MI.a1 (MI.as h hb k (by lia) λi hi=>hq i (by lia)) hb (by lia) (by simpa [bey] using hq k (by lia))
  exact this
theorem MI.bs (h:MI O rk a b out ia ib) (ha:ia < a.size):∀ k,ib+k<=b.size->(∀ i,i < k->bey O rk true (kyd a ia) (kyd b (ib+i))=true)->MI O rk a b (out++b.extract ib (ib+k)) ia (ib+k)
 | 0,_,_=>by rw [qo];exact h
 | k+1,hk,hq=>by
  rw [lY (by lia)]
  exact MI.b1 (MI.bs h ha k (by lia) λi hi=>hq i (by lia)) (by lia) ha (by simpa [bey] using hq k (by lia))
theorem fz {a:Array Keyed}{i:Nat}:(a.extract i a.size).toList=a.toList.drop i:=by
 rw [qb9,qb5,qcP (by simp)]
theorem MI.doneB (h:MI O rk a b out ia ib) (hb:ib=b.size):(out++a.extract ia a.size++b.extract ib b.size).toList=mrg O rk a.toList b.toList:=by
 unfold MI at h
 subst hb
 rw [qa6,qa6,fz,fz,<-h]
 rw [show b.toList.drop b.size=[] by simp,gs,qbG]
theorem MI.doneA (h:MI O rk a b out ia ib) (ha:ia=a.size):(out++a.extract ia a.size++b.extract ib b.size).toList=mrg O rk a.toList b.toList:=by
 unfold MI at h
 subst ha
 rw [qa6,qa6,fz,fz,<-h]
 rw [show a.toList.drop a.size=[] by simp,ix,qbG]
theorem MI.lastA (h:MI O rk a b out ia ib) (ha:ia+1=a.size) (hl:∀ i,i < b.size->O.blt (rk (kyd b i)) (rk (kyd a (a.size - 1)))=true):(out++b.extract ib b.size++a.extract ia a.size).toList=mrg O rk a.toList b.toList:=by
 unfold MI at h
 rw [qa6,qa6,fz,fz,<-h,d4 (by lia:ia < a.size),show a.toList.drop (ia+1)=[] by simp;lia,oA,qbC]
 intro y hy
 obtain⟨i,hi,rfl⟩:=sN (List.mem_of_mem_drop hy)
 rw [show ia=a.size - 1 by lia]
 exact hl i hi
noncomputable def MH (O:KeyOrd) (rk:Keyed->O.α) (a b out:Array Keyed) (na nb:Nat):Prop:=mrg O rk (a.toList.take na) (b.toList.take nb)++out.toList.reverse=mrg O rk a.toList b.toList
variable {na nb:Nat}
theorem MH.start:MH O rk a b #[] a.size b.size:=by
 unfold MH
 rw [qcP (by simp),qcP (by simp)];simp
theorem MH.a1 (h:MH O rk a b out (na+1) nb) (ha:na < a.size) (hl:∀ i,i < nb->i < b.size->O.blt (rk (kyd b i)) (rk (kyd a na))=true):MH O rk a b (out.push (kyd a na)) na nb:=by
 unfold MH at *
 rw [lL ha,jK _ _ λy hy=>?_] at h
 ·rw [<-h];simp
 ·obtain⟨i,hi,e⟩:=qcb.mp hy
  have hi':i < nb/\i < b.size:=by simp at hi;lia
  have q:=bo hi'.2
  rw [qaS hi'.2] at q
  have:y=kyd b i:=by rw [<-e,<-qaA q];simp
  rw [this];exact hl i hi'.1 hi'.2
theorem MH.b1 (h:MH O rk a b out na (nb+1)) (hb:nb < b.size) (hl:∀ i,i < na->i < a.size->O.blt (rk (kyd b nb)) (rk (kyd a i))=false):MH O rk a b (out.push (kyd b nb)) na nb:=by
 unfold MH at *
 rw [lL hb,jM _ _ λy hy=>?_] at h
 ·rw [<-h];simp
 ·obtain⟨i,hi,e⟩:=qcb.mp hy
  have hi':i < na/\i < a.size:=by simp at hi;lia
  have q:=bo hi'.2
  rw [qaS hi'.2] at q
  have:y=kyd a i:=by rw [<-e,<-qaA q];simp
  rw [this];exact hl i hi'.1 hi'.2
end
section
variable {prog:Program}{w:World}{A:Around}{E:Value->Shared->Prop}{s:Shared}{κ:SortKind}{O:KeyOrd}{rk:Keyed->O.α}{S:Keyed->Prop}{st:SortSt}{a b:Array Keyed}
noncomputable def Gs (st st':SortSt):Prop:=∃ g,st'=z6 st g
theorem Gs.refl:Gs st st:=⟨gallopOf st,rfl⟩
theorem Gs.kind {st':SortSt} (h:Gs st st'):kindOf st'=kindOf st:=by obtain⟨g,rfl⟩:=h;rfl
theorem Gs.set {st':SortSt} (h:Gs st st') (g:Nat):Gs st (SortSt.mk' (kindOf st') (arrOf st') (pendingOf st') g (failedOf st')):=by obtain⟨g',rfl⟩:=h;exact⟨g,rfl⟩
structure Two (O:KeyOrd) (rk:Keyed->O.α) (S:Keyed->Prop) (a b:Array Keyed):Prop where
 sa:∀ i,i < a.size->S (kyd a i)
 sb:∀ i,i < b.size->S (kyd b i)
 ua:Up rk a 0 a.size
 ub:Up rk b 0 b.size
 pa:0 < a.size
 pb:0 < b.size
 first:O.blt (rk (kyd b 0)) (rk (kyd a 0))=true
 last:∀ i,i < b.size->O.blt (rk (kyd b i)) (rk (kyd a (a.size - 1)))=true
theorem Two.galA (T:Two O rk S a b) {ia na:Nat}{key:Keyed} (hn:ia+na<=a.size):∀ i j,i<=j->j < na->bey O rk false key (kyd a (ia+j))=true->bey O rk false key (kyd a (ia+i))=true:=λi j hij hj h=>by
 simp only [bey,qaM,if_false,qbV] at h ⊢
 exact qbe (O:=O) (T.ua (ia+i) (ia+j) (qaZ _) (by lia) (by lia)) h
theorem Two.galB (T:Two O rk S a b) {ib nb:Nat}{key:Keyed} (hn:ib+nb<=b.size):∀ i j,i<=j->j < nb->bey O rk true key (kyd b (ib+j))=true->bey O rk true key (kyd b (ib+i))=true:=λi j hij hj h=>by
 simp only [bey,if_true] at h ⊢
 exact qdb (O:=O) (T.ub (ib+i) (ib+j) (qaZ _) (by lia) (by lia)) h
set_option maxHeartbeats 4000000 in
structure Hid (G:Prop):Prop where
 out:G
theorem shr {C:Prop} [Decidable C] {G P:Prop} (hp:C->Hid G->P) (hn:¬ C->Hid G->P) (g:G):P:=if h:C then hp h ⟨g⟩ else hn h ⟨g⟩
theorem xh (hC:Cm prog w A s κ O rk S) {Q:Array Keyed->SortSt->Prop} (hk:kindOf st=κ) (T:Two O rk S a b)
  (h:∀ r st',Gs st st'->r.toList=mrg O rk a.toList b.toList->Q r st'):wpS (model prog w) A E s (BC a b) Q st:=by
 refine qam (gq ?_)
 refine qam (bD (bo T.pb) ?_)
 have I0:MI O rk a b #[kyd b 0] 0 1:=MI.start.b1 T.pb T.pa T.first
 dsimp -zeta only
 by_cases e1:1=b.size
 ·refine bE (by simpa using e1) ?_
  exact qay (h _ _ .refl (I0.doneB e1))
 refine bj (by simpa using e1) ?_
 by_cases e2:0+1=a.size
 ·refine bE (by simpa using e2) ?_
  exact qay (h _ _ .refl (I0.lastA e2 T.last))
 refine bj (by simpa using e2) ?_
 have pa:=T.pa
 have pb:=T.pb
 refine qam (qc4 ?_)
 refine qam (qcT (qby (I:=λx c st'=>∃ out ia ib g,c=(none,out,ia,ib,g)/\MI O rk a b out ia ib/\ia+1 < a.size/\ib < b.size/\x+1<=ia+ib/\Gs st st')
  (Q:=λc st'=>∃ r c',c=(some r,c')/\r.toList=mrg O rk a.toList b.toList/\Gs st st') ?_ ?_ ?_) ?_)
 ·rintro x c st' _ hx ⟨out,ia,ib,g,rfl,I,ha,hb,hp,hG⟩
  have hk':kindOf st'=κ:=hG.kind.trans hk
  refine qam (qcT (qby (I:=λy c st2=>st2=st'/\∃ out ja jb ac bc,c=(none,out,ja,jb,ac,bc)/\MI O rk a b out ja jb/\ja+1 < a.size/\jb < b.size/\ia+ib+y<=ja+jb)
   (Q:=λc st2=>st2=st'/\((∃ r c',c=(some r,c')/\r.toList=mrg O rk a.toList b.toList)\/∃ out ja jb ac bc,c=(none,out,ja,jb,ac,bc)/\MI O rk a b out ja jb/\ja+1 < a.size/\jb < b.size/\ia+ib+1<=ja+jb)) ?_ ?_ ?_) ?_)
  ·rintro y c st2 _ hy ⟨rfl,out2,ja,jb,ac,bc,rfl,I2,ha2,hb2,hp2⟩
   dsimp only
   refine qam (bD (bo hb2) (qam (bD (bo (by lia)) (qam (pB hC hk' (T.sb _ hb2) (T.sa _ (by lia)) ?_)))))
   cases hl:O.blt (rk (kyd b jb)) (rk (kyd a ja)) with
   | true=>
    dsimp only
    refine bE rfl ?_
    refine qam (bD (bo hb2) ?_)
    have I3:=I2.b1 hb2 (by lia) hl
    by_cases e3:jb+1=b.size
    ·refine bE (by simpa using e3) ?_
     exact qay ⟨rfl,.inl ⟨_,_,rfl,I3.doneB e3⟩⟩
    ·refine bj (by simpa using e3) ?_
     split
     ·exact qay ⟨rfl,.inr ⟨_,_,_,_,_,rfl,I3,ha2,by lia,by lia⟩⟩
     ·exact qay ⟨rfl,_,_,_,_,_,rfl,I3,ha2,by lia,by lia⟩
   | false=>
    dsimp only
    refine bj (by simp) ?_
    refine qam (bD (bo (by lia)) ?_)
    have I3:=I2.a1 hb2 (by lia) hl
    by_cases e3:ja+1+1=a.size
    ·refine bE (by simpa using e3) ?_
     exact qay ⟨rfl,.inl ⟨_,_,rfl,I3.lastA e3 T.last⟩⟩
    ·refine bj (by simpa using e3) ?_
     split
     ·exact qay ⟨rfl,.inr ⟨_,_,_,_,_,rfl,I3,by lia,hb2,by lia⟩⟩
     ·exact qay ⟨rfl,_,_,_,_,_,rfl,I3,by lia,hb2,by lia⟩
  ·rintro c st2 ⟨rfl,out2,ja,jb,ac,bc,rfl,I2,ha2,hb2,hp2⟩
   exact⟨rfl,.inr ⟨_,_,_,_,_,rfl,I2,ha2,hb2,by lia⟩⟩
  ·exact⟨rfl,out,ia,ib,0,0,rfl,I,ha,hb,by lia⟩
  ·rintro c st2 ⟨rfl,⟨r,c',rfl,hr⟩ | ⟨out2,ja,jb,ac,bc,rfl,I2,ha2,hb2,hp2⟩⟩
   ·exact qay ⟨_,_,rfl,hr,hG⟩
   refine qam (gq ?_)
   refine qam (qcT (qby (I:=λy c st3=>Gs st st3/\∃ out ja jb g ac bc,c=(none,out,ja,jb,g,ac,bc)/\MI O rk a b out ja jb/\ja+1 < a.size/\jb < b.size/\ia+ib+1<=ja+jb)
    (Q:=λc st3=>Gs st st3/\((∃ r c',c=(some r,c')/\r.toList=mrg O rk a.toList b.toList)\/∃ out ja jb g ac bc,c=(none,out,ja,jb,g,ac,bc)/\MI O rk a b out ja jb/\ja+1 < a.size/\jb < b.size/\ia+ib+1<=ja+jb)) ?_ ?_ ?_) ?_)
   ·rintro y c st3 _ hy ⟨hG3,out3,ja,jb,g3,ac,bc,rfl,I3,ha3,hb3,hp3⟩
    dsimp -zeta only
    have gal1:∀ (g4:Nat) (Q':Option Nat->SortSt->Prop),(∀ k,k<=a.size - ja->(∀ i,i < k->bey O rk false (kyd b jb) (kyd a (ja+i))=true)->(∀ i,k<=i->i < a.size - ja->bey O rk false (kyd b jb) (kyd a (ja+i))=false)->Q' (some k) (SortSt.mk' (kindOf st3) (arrOf st3) (pendingOf st3) g4 (failedOf st3)))->
      wpS (model prog w) A E s (oD false (kyd b jb) a ja (a.size - ja) 0) Q' (SortSt.mk' (kindOf st3) (arrOf st3) (pendingOf st3) g4 (failedOf st3)):=λg4 Q' hq=>
     eM hC (hG3.kind.trans hk) (T.sb _ hb3) (by lia) (λi hi=>T.sa _ (by lia)) (by lia) (T.galA (by lia)) hq
    dsimp only
    apply shr (C:=g3 > 1)
    case hp=>
     intro hg1 tail
     refine bE hg1 ?_
     generalize g3 - 1=g4
     revert g4
     exact tail.out
    case hn=>
     intro hg1 tail
     refine bj hg1 ?_
     exact tail.out g3
    case g=>
     intro g4
     refine qam (qcn ?_)
     refine qam (bD (bo hb3) (qam (gal1 _ _ λk hk1 hk2 hk3=>?_)))
     have I4:=I3.as hb3 k (by lia) hk2
     clear gal1 hk2
     dsimp only
     apply shr (C:=k > 0)
     case hp=>
      intro hk0 tail
      refine bE hk0 ?_
      by_cases e3:ja+k+1=a.size
      ·refine bE (by simpa using e3) ?_
       exact qay ⟨hG3.set _,.inl ⟨_,_,rfl,I4.lastA e3 T.last⟩⟩
      refine bj (by simpa using e3) ?_
      by_cases e4:ja+k=a.size
      ·refine bE (by simpa using e4) ?_
       exact qay ⟨hG3.set _,.inl ⟨_,_,rfl,I4.doneA e4⟩⟩
      refine bj (by simpa using e4) ?_
      have hb5:O.blt (rk (kyd b jb)) (rk (kyd a (ja+k)))=true:=by simpa [bey] using hk3 k (qaq _) (by lia)
      have z:MI O rk a b (out3++a.extract ja (ja+k)) (ja+k) jb/\O.blt (rk (kyd b jb)) (rk (kyd a (ja+k)))=true/\ja+k+1 < a.size/\ia+ib+1<=ja+k+jb:=⟨I4,hb5,by lia,by lia⟩
      generalize out3++a.extract ja (ja+k)=out5 at z ⊢
      generalize ja+k=ja5 at z ⊢
      generalize k=ac5
      revert z
      revert ac5 out5 ja5
      exact tail.out
     case hn=>
      intro hk0 tail
      refine bj hk0 ?_
      have hb5:O.blt (rk (kyd b jb)) (rk (kyd a ja))=true:=by simpa [bey] using hk3 0 (by lia) (by lia)
      exact tail.out _ _ _ ⟨I3,hb5,ha3,hp3⟩
     case g=>
      clear I4 hk3 hk1 I3
      intro out5 ja5 ac5 z
      obtain⟨I4,hb5,ha5,hp5⟩:=z
      refine qam (bD (bo hb3) ?_)
      have I5:=I4.b1 hb3 (by lia) hb5
      by_cases e5:jb+1=b.size
      ·refine bE (by simpa using e5) ?_
       exact qay ⟨hG3.set _,.inl ⟨_,_,rfl,I5.doneB e5⟩⟩
      refine bj (by simpa using e5) ?_
      refine qam (bD (bo (by lia)) (qam (eM hC (hG3.kind.trans hk) (T.sa _ (by lia)) (by lia) (λi hi=>T.sb _ (by lia)) (by lia) (T.galB (by lia)) λk2 hk1 hk2 hk3=>?_)))
      have I6:=I5.bs (by lia) k2 (by lia) hk2
      clear hk2
      dsimp only
      apply shr (C:=k2 > 0)
      case hp=>
       intro hk20 tail
       refine bE hk20 ?_
       by_cases e6:jb+1+k2=b.size
       ·refine bE (by simpa using e6) ?_
        exact qay ⟨hG3.set _,.inl ⟨_,_,rfl,I6.doneB e6⟩⟩
       refine bj (by simpa using e6) ?_
       have hb7:O.blt (rk (kyd b (jb+1+k2))) (rk (kyd a ja5))=false:=by simpa [bey] using hk3 k2 (qaq _) (by lia)
       have z:MI O rk a b (out5.push (kyd b jb)++b.extract (jb+1) (jb+1+k2)) ja5 (jb+1+k2)/\O.blt (rk (kyd b (jb+1+k2))) (rk (kyd a ja5))=false/\jb+1+k2 < b.size/\ia+ib+1<=ja5+1+(jb+1+k2):=⟨I6,hb7,by lia,by lia⟩
       generalize out5.push (kyd b jb)++b.extract (jb+1) (jb+1+k2)=out7 at z ⊢
       generalize jb+1+k2=jb7 at z ⊢
       generalize k2=bc7
       revert z
       revert bc7 out7 jb7
       exact tail.out
      case hn=>
       intro hk20 tail
       refine bj hk20 ?_
       have hb7:O.blt (rk (kyd b (jb+1))) (rk (kyd a ja5))=false:=by simpa [bey] using hk3 0 (by lia) (by lia)
       exact tail.out _ _ _ ⟨I5,hb7,by lia,by lia⟩
      case g=>
       clear I6 hk3 hk1 I5 I4
       intro out7 jb7 bc7 z
       obtain⟨I6,hb7,hj7,hp7⟩:=z
       refine qam (bD (bo (by lia)) ?_)
       have I7:=I6.a1 hj7 (by lia) hb7
       by_cases e7:ja5+1+1=a.size
       ·refine bE (by simpa using e7) ?_
        exact qay ⟨hG3.set _,.inl ⟨_,_,rfl,I7.lastA e7 T.last⟩⟩
       refine bj (by simpa using e7) ?_
       split
       ·exact qay ⟨hG3.set _,.inr ⟨_,_,_,_,_,_,rfl,I7,by lia,hj7,hp7⟩⟩
       ·exact qay ⟨hG3.set _,_,_,_,_,_,_,rfl,I7,by lia,hj7,hp7⟩
   ·rintro c st3 ⟨hG3,out3,ja,jb,g3,ac,bc,rfl,I3,ha3,hb3,hp3⟩
    exact⟨hG3,.inr ⟨_,_,_,_,_,_,rfl,I3,ha3,hb3,hp3⟩⟩
   ·exact⟨hG,_,_,_,_,_,_,rfl,I2,ha2,hb2,hp2⟩
   ·rintro c st3 ⟨hG3,⟨r,c',rfl,hr⟩ | ⟨out3,ja,jb,g3,ac,bc,rfl,I3,ha3,hb3,hp3⟩⟩
    ·exact qay ⟨_,_,rfl,hr,hG3⟩
    ·refine qam (qcn (qay ⟨out3,ja,jb,_,rfl,I3,ha3,hb3,by lia,hG3.set _⟩))
 ·rintro c st' ⟨out,ia,ib,g,rfl,I,ha,hb,hp,hG⟩
  exfalso;lia
 ·exact⟨_,_,_,_,rfl,I0,by lia,by lia,by lia,.refl⟩
 ·rintro c st' ⟨r,c',rfl,hr,hG⟩
  exact qay (h r st' hG hr)
end
section
variable {prog:Program}{w:World}{A:Around}{E:Value->Shared->Prop}{s:Shared}{κ:SortKind}{O:KeyOrd}{rk:Keyed->O.α}{S:Keyed->Prop}{st:SortSt}{a b out:Array Keyed}{na nb:Nat}
theorem gY {a:Array Keyed}{n:Nat}:(a.extract 0 n).toList=a.toList.take n:=by
 rw [qb9,qb5];simp
theorem MH.doneA (h:MH O rk a b out na nb) (e:na=0):(a.extract 0 na++b.extract 0 nb++out.reverse).toList=mrg O rk a.toList b.toList:=by
 unfold MH at h
 subst e
 rw [qa6,qa6,gY,gY,qdz,<-h,qdD,ix,qaW]
theorem MH.doneB (h:MH O rk a b out na nb) (e:nb=0):(a.extract 0 na++b.extract 0 nb++out.reverse).toList=mrg O rk a.toList b.toList:=by
 unfold MH at h
 subst e
 rw [qa6,qa6,gY,gY,qdz,<-h,qdD,gs,qbG]
theorem MH.firstB (T:Two O rk S a b) (h:MH O rk a b out na nb) (ha:0 < na) (e:nb=1):(b.extract 0 nb++a.extract 0 na++out.reverse).toList=mrg O rk a.toList b.toList:=by
 unfold MH at h
 subst e
 have e1:b.toList.take 1=[kyd b 0]:=by rw [lL T.pb];simp
 have e2:a.toList.take na=kyd a 0::(a.toList.drop 1).take (na - 1):=by
  obtain⟨m,rfl⟩:∃ m,na=m+1:=⟨na - 1,by lia⟩
  have:=d4 T.pa
  rw [qew] at this
  rw [this];simp
 rw [qa6,qa6,gY,gY,qdz,<-h,e1,e2,mt T.first,gs]
 rfl
theorem Two.belowB (T:Two O rk S a b) {i j:Nat}{x:Keyed} (hij:i<=j) (hj:j < b.size) (h:O.blt (rk (kyd b j)) (rk x)=true):O.blt (rk (kyd b i)) (rk x)=true:=
 qdb (O:=O) (T.ub i j (qaZ _) hij (by lia)) h
theorem Two.belowA (T:Two O rk S a b) {i j:Nat}{x:Keyed} (hij:i<=j) (hj:j < a.size) (h:O.blt (rk x) (rk (kyd a j))=false):O.blt (rk x) (rk (kyd a i))=false:=
 qbe (O:=O) (T.ua i j (qaZ _) hij (by lia)) h
theorem pS {a:Array Keyed}{t k:Nat} (h:t+k < a.size):out++(a.extract t (t+(k+1))).reverse=(out.push (kyd a (t+k)))++(a.extract t (t+k)).reverse:=by
 apply qbt.mp
 have e:=lY (out:=#[]) (a:=a) (i:=t) (k:=k) h
 have e':a.extract t (t+(k+1))=(a.extract t (t+k)).push (kyd a (t+k)):=by
  have z:∀ x:Array Keyed,#[]++x=x:=λx=>by simp
  rw [z,z] at e;exact e
 rw [e'];simp
theorem MH.as (T:Two O rk S a b) {t:Nat} (hb:∀ i,i < nb->i < b.size->∀ j,t<=j->j < a.size->O.blt (rk (kyd b i)) (rk (kyd a j))=true):∀ (k:Nat) {out:Array Keyed},MH O rk a b out (t+k) nb->t+k<=a.size->MH O rk a b (out++(a.extract t (t+k)).reverse) t nb
 | 0,out,h,_=>by
  have:out++(a.extract t (t+0)).reverse=out:=by apply qbt.mp;simp
  rw [this];exact h
 | k+1,out,h,hz=>by
  rw [pS (by lia)]
  exact MH.as T hb k (MH.a1 (na:=t+k) h (by lia) λi h1 h2=>hb i h1 h2 (t+k) (by lia) (by lia)) (by lia)
theorem MH.bs (T:Two O rk S a b) {t:Nat} (hb:∀ i,i < na->i < a.size->∀ j,t<=j->j < b.size->O.blt (rk (kyd b j)) (rk (kyd a i))=false):∀ (k:Nat) {out:Array Keyed},MH O rk a b out na (t+k)->t+k<=b.size->MH O rk a b (out++(b.extract t (t+k)).reverse) na t
 | 0,out,h,_=>by
  have:out++(b.extract t (t+0)).reverse=out:=by apply qbt.mp;simp
  rw [this];exact h
 | k+1,out,h,hz=>by
  rw [pS (by lia)]
  exact MH.bs T hb k (MH.b1 (nb:=t+k) h (by lia) λi h1 h2=>hb i h1 h2 (t+k) (by lia) (by lia)) (by lia)
theorem MH.a1' (T:Two O rk S a b) (h:MH O rk a b out na nb) (ha:0 < na) (hz:na<=a.size) (hb:0 < nb) (hz2:nb<=b.size) (hl:O.blt (rk (kyd b (nb - 1))) (rk (kyd a (na - 1)))=true):MH O rk a b (out.push (kyd a (na - 1))) (na - 1) nb:=
 MH.a1 (by rw [show na - 1+1=na by lia];exact h) (by lia) λi h1 h2=>T.belowB (by lia) (by lia) hl
theorem MH.b1' (T:Two O rk S a b) (h:MH O rk a b out na nb) (ha:0 < na) (hz:na<=a.size) (hb:0 < nb) (hz2:nb<=b.size) (hl:O.blt (rk (kyd b (nb - 1))) (rk (kyd a (na - 1)))=false):MH O rk a b (out.push (kyd b (nb - 1))) na (nb - 1):=
 MH.b1 (by rw [show nb - 1+1=nb by lia];exact h) (by lia) λi h1 h2=>T.belowA (by lia) (by lia) hl
theorem MH.as' (T:Two O rk S a b) {t:Nat} (h:MH O rk a b out na nb) (ht:t<=na) (hz:na<=a.size) (hb:0 < nb) (hz2:nb<=b.size) (hq:∀ i,t<=i->i < na->bey O rk false (kyd b (nb - 1)) (kyd a (0+i))=false):MH O rk a b (out++(a.extract t na).reverse) t nb:=by
 by_cases e:t=na
 ·subst e
  have:out++(a.extract t t).reverse=out:=by apply qbt.mp;simp
  rw [this];exact h
 have e2:t+(na - t)=na:=by lia
 have:=MH.as T (t:=t) (nb:=nb) (a:=a) (b:=b) (λi h1 h2 j h3 h4=>?_) (na - t) (out:=out) (by rw [e2];exact h) (by lia)
 ·rw [e2] at this;exact this
 ·have q:=hq t (qaq _) (by lia)
  simp only [bey,qaM,if_false,qfb,qaQ] at q
  exact T.belowB (j:=nb - 1) (by lia) (by lia) (qep (O:=O) q (T.ua t j (qaZ _) h3 (by lia)))
theorem MH.bs' (T:Two O rk S a b) {t:Nat} (h:MH O rk a b out na nb) (ht:t<=nb) (hz:nb<=b.size) (ha:0 < na) (hz2:na<=a.size) (hq:∀ i,t<=i->i < nb->bey O rk true (kyd a (na - 1)) (kyd b (0+i))=false):MH O rk a b (out++(b.extract t nb).reverse) na t:=by
 by_cases e:t=nb
 ·subst e
  have:out++(b.extract t t).reverse=out:=by apply qbt.mp;simp
  rw [this];exact h
 have e2:t+(nb - t)=nb:=by lia
 have:=MH.bs T (t:=t) (na:=na) (a:=a) (b:=b) (λi h1 h2 j h3 h4=>?_) (nb - t) (out:=out) (by rw [e2];exact h) (by lia)
 ·rw [e2] at this;exact this
 ·have q:=hq t (qaq _) (by lia)
  simp only [bey,if_true,qaQ] at q
  exact T.belowA (j:=na - 1) (by lia) (by lia) (qbe (O:=O) q (T.ub t j (qaZ _) h3 (by lia)))
set_option maxHeartbeats 4000000 in
theorem yc (hC:Cm prog w A s κ O rk S) {Q:Array Keyed->SortSt->Prop} (hk:kindOf st=κ) (T:Two O rk S a b)
  (h:∀ r st',Gs st st'->r.toList=mrg O rk a.toList b.toList->Q r st'):wpS (model prog w) A E s (BB a b) Q st:=by
 have pa:=T.pa
 have pb:=T.pb
 refine qam (gq ?_)
 refine qam (bD (bo (by lia)) ?_)
 have I0:MH O rk a b #[kyd a (a.size - 1)] (a.size - 1) b.size:=by
  have e:a.size - 1+1=a.size:=by lia
  exact MH.a1 (out:=#[]) (by rw [e];exact MH.start) (by lia) λi h1 h2=>T.last i h2
 dsimp -zeta only
 by_cases e1:a.size - 1=0
 ·refine bE (by simpa using e1) ?_
  exact qay (h _ _ .refl (I0.doneA e1))
 refine bj (by simpa using e1) ?_
 by_cases e2:b.size=1
 ·refine bE (by simpa using e2) ?_
  exact qay (h _ _ .refl (I0.firstB T (by lia) e2))
 refine bj (by simpa using e2) ?_
 refine qam (qc4 ?_)
 refine qam (qcT (qby (I:=λx c st'=>∃ out na nb g,c=(none,na,nb,out,g)/\MH O rk a b out na nb/\0 < na/\1 < nb/\na<=a.size/\nb<=b.size/\na+nb+x+1<=a.size+b.size/\Gs st st')
  (Q:=λc st'=>∃ r c',c=(some r,c')/\r.toList=mrg O rk a.toList b.toList/\Gs st st') ?_ ?_ ?_) ?_)
 ·rintro x c st' _ hx ⟨out,na,nb,g,rfl,I,ha,hb,hza,hzb,hp,hG⟩
  have hk':kindOf st'=κ:=hG.kind.trans hk
  refine qam (qcT (qby (I:=λy c st2=>st2=st'/\∃ out ma mb ac bc,c=(none,ma,mb,out,ac,bc)/\MH O rk a b out ma mb/\0 < ma/\1 < mb/\ma<=a.size/\mb<=b.size/\ma+mb+y<=na+nb)
   (Q:=λc st2=>st2=st'/\((∃ r c',c=(some r,c')/\r.toList=mrg O rk a.toList b.toList)\/∃ out ma mb ac bc,c=(none,ma,mb,out,ac,bc)/\MH O rk a b out ma mb/\0 < ma/\1 < mb/\ma<=a.size/\mb<=b.size/\ma+mb+1<=na+nb)) ?_ ?_ ?_) ?_)
  ·rintro y c st2 _ hy ⟨rfl,out2,ma,mb,ac,bc,rfl,I2,ha2,hb2,za2,zb2,hp2⟩
   dsimp only
   refine qam (bD (bo (by lia)) (qam (bD (bo (by lia)) (qam (pB hC hk' (T.sb _ (by lia)) (T.sa _ (by lia)) ?_)))))
   cases hl:O.blt (rk (kyd b (mb - 1))) (rk (kyd a (ma - 1))) with
   | true=>
    dsimp only
    refine bE rfl ?_
    refine qam (bD (bo (by lia)) ?_)
    have I3:=I2.a1' T ha2 za2 (by lia) zb2 hl
    by_cases e3:ma - 1=0
    ·refine bE (by simpa using e3) ?_
     exact qay ⟨rfl,.inl ⟨_,_,rfl,I3.doneA e3⟩⟩
    ·refine bj (by simpa using e3) ?_
     split
     ·exact qay ⟨rfl,.inr ⟨_,_,_,_,_,rfl,I3,by lia,hb2,by lia,zb2,by lia⟩⟩
     ·exact qay ⟨rfl,_,_,_,_,_,rfl,I3,by lia,hb2,by lia,zb2,by lia⟩
   | false=>
    dsimp only
    refine bj (by simp) ?_
    refine qam (bD (bo (by lia)) ?_)
    have I3:=I2.b1' T ha2 za2 (by lia) zb2 hl
    by_cases e3:mb - 1=1
    ·refine bE (by simpa using e3) ?_
     exact qay ⟨rfl,.inl ⟨_,_,rfl,I3.firstB T ha2 e3⟩⟩
    ·refine bj (by simpa using e3) ?_
     split
     ·exact qay ⟨rfl,.inr ⟨_,_,_,_,_,rfl,I3,ha2,by lia,za2,by lia,by lia⟩⟩
     ·exact qay ⟨rfl,_,_,_,_,_,rfl,I3,ha2,by lia,za2,by lia,by lia⟩
  ·rintro c st2 ⟨rfl,out2,ma,mb,ac,bc,rfl,I2,ha2,hb2,za2,zb2,hp2⟩
   exact⟨rfl,.inr ⟨_,_,_,_,_,rfl,I2,ha2,hb2,za2,zb2,by lia⟩⟩
  ·exact⟨rfl,out,na,nb,0,0,rfl,I,ha,hb,hza,hzb,by lia⟩
  ·rintro c st2 ⟨rfl,⟨r,c',rfl,hr⟩ | ⟨out2,ma,mb,ac,bc,rfl,I2,ha2,hb2,za2,zb2,hp2⟩⟩
   ·exact qay ⟨_,_,rfl,hr,hG⟩
   refine qam (gq ?_)
   refine qam (qcT (qby (I:=λy c st3=>Gs st st3/\∃ out ma mb g ac bc,c=(none,ma,mb,out,g,ac,bc)/\MH O rk a b out ma mb/\0 < ma/\1 < mb/\ma<=a.size/\mb<=b.size/\ma+mb+1<=na+nb)
    (Q:=λc st3=>Gs st st3/\((∃ r c',c=(some r,c')/\r.toList=mrg O rk a.toList b.toList)\/∃ out ma mb g ac bc,c=(none,ma,mb,out,g,ac,bc)/\MH O rk a b out ma mb/\0 < ma/\1 < mb/\ma<=a.size/\mb<=b.size/\ma+mb+1<=na+nb)) ?_ ?_ ?_) ?_)
   ·rintro y c st3 _ hy ⟨hG3,out3,ma,mb,g3,ac,bc,rfl,I3,ha3,hb3,za3,zb3,hp3⟩
    have gal1:∀ (g4:Nat) (Q':Option Nat->SortSt->Prop),(∀ k,k<=ma->(∀ i,i < k->bey O rk false (kyd b (mb - 1)) (kyd a (0+i))=true)->(∀ i,k<=i->i < ma->bey O rk false (kyd b (mb - 1)) (kyd a (0+i))=false)->Q' (some k) (SortSt.mk' (kindOf st3) (arrOf st3) (pendingOf st3) g4 (failedOf st3)))->
      wpS (model prog w) A E s (oD false (kyd b (mb - 1)) a 0 ma (ma - 1)) Q' (SortSt.mk' (kindOf st3) (arrOf st3) (pendingOf st3) g4 (failedOf st3)):=λg4 Q' hq=>
     eM hC (hG3.kind.trans hk) (T.sb _ (by lia)) (by lia) (λi hi=>T.sa _ (by lia)) (by lia) (T.galA (by lia)) hq
    dsimp only
    apply shr (C:=g3 > 1)
    case hp=>
     intro hg1 tail
     refine bE hg1 ?_
     generalize g3 - 1=g4
     revert g4
     exact tail.out
    case hn=>
     intro hg1 tail
     refine bj hg1 ?_
     exact tail.out g3
    case g=>
     intro g4
     refine qam (qcn ?_)
     refine qam (bD (bo (by lia)) (qam (gal1 _ _ λt hk1 hk2 hk3=>?_)))
     have I4:=I3.as' T hk1 za3 (by lia) zb3 hk3
     have hb5:∀ i,i < t->O.blt (rk (kyd b (mb - 1))) (rk (kyd a i))=false:=λi hi=>by simpa [bey] using hk2 i hi
     clear hk2 hk3 gal1
     dsimp only
     apply shr (C:=ma - t > 0)
     case hp=>
      intro hk0 tail
      refine bE hk0 ?_
      by_cases e3:t=0
      ·refine bE (by simpa using e3) ?_
       exact qay ⟨hG3.set _,.inl ⟨_,_,rfl,I4.doneA e3⟩⟩
      refine bj (by simpa using e3) ?_
      have ha5:0 < t:=by lia
      have za5:t<=a.size:=by lia
      have hp5:t+mb+1<=na+nb:=by lia
      have J4:=I4
      have jb5:=hb5
      generalize out3++(a.extract t ma).reverse=out5 at J4 ⊢
      generalize ma - t=ac5
      generalize t=t5 at jb5 J4 ha5 za5 hp5 ⊢
      revert jb5 J4 ha5 za5 hp5
      revert ac5 out5 t5
      exact tail.out
     case hn=>
      intro hk0 tail
      refine bj hk0 ?_
      have e0:t=ma:=by lia
      subst e0
      have e9:out3++(a.extract t t).reverse=out3:=by apply qbt.mp;simp
      rw [e9] at I4
      exact tail.out _ _ t hb5 I4 ha3 za3 hp3
     case g=>
      clear I4 hb5 hk1
      intro out5 ac5 t hb5 I4 ha5 za5 hp5
      refine qam (bD (bo (by lia)) ?_)
      have I5:=I4.b1' T ha5 za5 (by lia) zb3 (hb5 _ (by lia))
      by_cases e5:mb - 1=1
      ·refine bE (by simpa using e5) ?_
       exact qay ⟨hG3.set _,.inl ⟨_,_,rfl,I5.firstB T ha5 e5⟩⟩
      refine bj (by simpa using e5) ?_
      refine qam (bD (bo (by lia)) (qam (eM hC (hG3.kind.trans hk) (T.sa _ (by lia)) (by lia) (λi hi=>T.sb _ (by lia)) (by lia) (T.galB (by lia)) λu hk1 hk2 hk3=>?_)))
      have I6:=I5.bs' T hk1 (by lia) ha5 za5 hk3
      have hb7:∀ i,i < u->O.blt (rk (kyd b i)) (rk (kyd a (t - 1)))=true:=λi hi=>by simpa [bey] using hk2 i hi
      clear hk2 hk3
      dsimp only
      apply shr (C:=mb - 1 - u > 0)
      case hp=>
       intro hk20 tail
       refine bE hk20 ?_
       by_cases e6:u=1
       ·refine bE (by simpa using e6) ?_
        exact qay ⟨hG3.set _,.inl ⟨_,_,rfl,I6.firstB T ha5 e6⟩⟩
       refine bj (by simpa using e6) ?_
       by_cases e7:u=0
       ·refine bE (by simpa using e7) ?_
        exact qay ⟨hG3.set _,.inl ⟨_,_,rfl,I6.doneB e7⟩⟩
       refine bj (by simpa using e7) ?_
       have hj7:1 < u:=by lia
       have zj7:u<=b.size:=by lia
       have hp7:t+u+1<=na+nb:=by lia
       have J6:=I6
       have jb7:=hb7
       generalize out5.push (kyd b (mb - 1))++(b.extract u (mb - 1)).reverse=out7 at J6 ⊢
       generalize mb - 1 - u=bc7
       generalize u=u7 at jb7 J6 hj7 zj7 hp7 ⊢
       revert jb7 J6 hj7 zj7 hp7
       revert bc7 out7 u7
       exact tail.out
      case hn=>
       intro hk20 tail
       refine bj hk20 ?_
       have e0:u=mb - 1:=by lia
       subst e0
       have e9:out5.push (kyd b (mb - 1))++(b.extract (mb - 1) (mb - 1)).reverse=out5.push (kyd b (mb - 1)):=by apply qbt.mp;simp
       rw [e9] at I6
       exact tail.out _ _ (mb - 1) hb7 I6 (by lia) (by lia) (by lia)
      case g=>
       clear I6 hb7 hk1
       intro out7 bc7 u hb7 I6 hj7 zj7 hp7
       refine qam (bD (bo (by lia)) ?_)
       have I7:=I6.a1' T ha5 za5 (by lia) zj7 (hb7 _ (by lia))
       by_cases e7:t - 1=0
       ·refine bE (by simpa using e7) ?_
        exact qay ⟨hG3.set _,.inl ⟨_,_,rfl,I7.doneA e7⟩⟩
       refine bj (by simpa using e7) ?_
       split
       ·exact qay ⟨hG3.set _,.inr ⟨_,_,_,_,_,_,rfl,I7,by lia,hj7,by lia,zj7,by lia⟩⟩
       ·exact qay ⟨hG3.set _,_,_,_,_,_,_,rfl,I7,by lia,hj7,by lia,zj7,by lia⟩
   ·rintro c st3 ⟨hG3,out3,ja,jb,g3,ac,bc,rfl,I3,ha3,hb3,za3,zb3,hp3⟩
    exact⟨hG3,.inr ⟨_,_,_,_,_,_,rfl,I3,ha3,hb3,za3,zb3,hp3⟩⟩
   ·exact⟨hG,_,_,_,_,_,_,rfl,I2,ha2,hb2,za2,zb2,hp2⟩
   ·rintro c st3 ⟨hG3,⟨r,c',rfl,hr⟩ | ⟨out3,ja,jb,g3,ac,bc,rfl,I3,ha3,hb3,za3,zb3,hp3⟩⟩
    ·exact qay ⟨_,_,rfl,hr,hG3⟩
    ·refine qam (qcn (qay ⟨out3,ja,jb,_,rfl,I3,ha3,hb3,za3,zb3,by lia,hG3.set _⟩))
 ·rintro c st' ⟨out,ia,ib,g,rfl,I,ha,hb,hza,hzb,hp,hG⟩
  exfalso;lia
 ·exact⟨_,_,_,_,rfl,I0,by lia,by lia,by lia,by lia,by lia,.refl⟩
 ·rintro c st' ⟨r,c',rfl,hr,hG⟩
  exact qay (h r st' hG hr)
end
section
variable {prog:Program}{w:World}{A:Around}{E:Value->Shared->Prop}{s:Shared}{κ:SortKind}{O:KeyOrd}{rk:Keyed->O.α}{S:Keyed->Prop}{st:SortSt}{arr:Array Keyed}{n1 n2:Nat}
theorem sq (sa:Nat):∀ (l:List Keyed) (n:Nat) (arr:Array Keyed),sa+n+l.length<=arr.size->
  ((l.zipIdx n).foldl (λ(a:Array Keyed) x=>match x with | (p,j)=>a.setIfInBounds (sa+j) p) arr).toList=arr.toList.take (sa+n)++l++arr.toList.drop (sa+n+l.length)
 | [],n,arr,h=>by simp
 | p::l,n,arr,h=>by
  rw [qd7,qbF,sq sa l (n+1) _ (by simp only [qaj] at h;simp;lia)]
  have hn:sa+n < arr.toList.length:=by simp only [qaj] at h;simp;lia
  rw [Array.toList_setIfInBounds,<-qf4,qb7 (by rw [qbW];exact hn),List.getElem_set_self,List.take_set_of_le (qaq _),List.drop_set_of_lt (by lia),qaj]
  simp [qf4,qcE 1]
theorem eD {a:Array Keyed}{i j k:Nat} (h:k < j - i) (hj:j<=a.size):kyd (a.extract i j) k=kyd a (i+k):=by
 apply dl
 rw [Array.getElem?_extract_of_lt (by lia),qaS (by lia)]
theorem mT {a:Array Keyed} (h:Up rk a 0 a.size):a.toList.Pairwise λx y=>O.kle (rk x) (rk y):=by
 rw [List.pairwise_iff_getElem]
 intro i j hi hj hij
 have hi':i < a.size:=by simpa using hi
 have hj':j < a.size:=by simpa using hj
 have q:=h i j (qaZ _) (by lia) (by lia)
 have e1:=bo hi'
 have e2:=bo hj'
 rw [qaS hi'] at e1
 rw [qaS hj'] at e2
 rw [<-qaA e1,<-qaA e2] at q
 simpa using q
theorem oo {a:Array Keyed}{i j:Nat} (h:Up rk a i (j - i)) (hj:j<=a.size):Up rk (a.extract i j) 0 (a.extract i j).size:=by
 intro x y _ hxy hy
 have hs:(a.extract i j).size=j - i:=by simp;lia
 rw [eD (by lia) hj,eD (by lia) hj]
 exact h _ _ (by lia) (by lia) (by lia)
theorem kQ {a:Array Keyed}{i j:Nat}{x:Keyed} (h:x ∈ (a.extract i j).toList) (hj:j<=a.size):∃ k,i<=k/\k < j/\x=kyd a k:=by
 obtain⟨k,hk,rfl⟩:=sN h
 have hs:(a.extract i j).size=j - i:=by simp;lia
 exact⟨i+k,by lia,by lia,by rw [eD (by lia) hj]⟩
theorem zp {a:Array Keyed}{i j k:Nat} (h1:i<=j) (h2:j<=k) (h3:k<=a.size):a.toList=a.toList.take i++(a.extract i j).toList++(a.extract j k).toList++a.toList.drop k:=by
 have e1:(a.extract i j).toList=(a.toList.drop i).take (j - i):=by rw [qb9,qb5]
 have e2:(a.extract j k).toList=(a.toList.drop j).take (k - j):=by rw [qb9,qb5]
 rw [e1,e2]
 have c1:a.toList.take i++(a.toList.drop i).take (j - i)=a.toList.take j:=by
  rw [<-qfO,show i+(j - i)=j by lia]
 have c2:a.toList.take j++(a.toList.drop j).take (k - j)=a.toList.take k:=by
  rw [<-qfO,show j+(k - j)=k by lia]
 rw [c1,c2,List.take_append_drop]
set_option maxHeartbeats 2000000 in
theorem yz (hC:Cm prog w A s κ O rk S) {Q:Bool->SortSt->Prop}{p q:Nat} (hk:kindOf st=κ) (hf:failedOf st=none) (hp:pendingOf st=#[(0,n1,p),(n1,n2,q)]) (hS:∀ x ∈ (arrOf st).toList,S x) (hz:(arrOf st).size=n1+n2) (h1:0 < n1) (h2:0 < n2)
  (u1:Up rk (arrOf st) 0 n1) (u2:Up rk (arrOf st) n1 n2)
  (h:∀ st',(arrOf st').toList.Perm (arrOf st).toList->(arrOf st').toList.Pairwise (λx y=>O.kle (rk x) (rk y))->failedOf st'=none->pendingOf st'=#[(0,n1+n2,p)]->Q true st'):wpS (model prog w) A E s (zd 0) Q st:=by
 have hSi:∀ i,i < n1+n2->S (kyd (arrOf st) i):=λi hi=>by
  have hi':i < (arrOf st).size:=by lia
  refine hS _ ?_
  have e:=bo hi'
  rw [qaS hi'] at e
  rw [<-qaA e];exact qey hi'
 refine qam (qc4 ?_)
 have e1:(pendingOf st)[0]?=some (0,n1,p):=by rw [hp];rfl
 have e2:(pendingOf st)[0+1]?=some (n1,n2,q):=by rw [hp];rfl
 rw [e1,e2]
 refine qam ?_
 have hset:∀ (x:SortSt) (Q':PUnit->SortSt->Prop) (st0:SortSt),Q' ⟨⟩ x->wpS (model prog w) A E s (set x:StateT SortSt Sem PUnit) Q' st0:=λx Q' st0 hq=>by
  unfold wpS;exact qag ⟨rfl,hq⟩
 refine hset _ _ _ ?_
 have e3:((pendingOf st).setIfInBounds 0 (0,n1+n2,p)).eraseIdxIfInBounds (0+1)=#[(0,n1+n2,p)]:=by
  rw [hp];apply qbt.mp;simp [Array.eraseIdxIfInBounds]
 rw [e3]
 clear e1 e2 e3 hp
 delta arrOf kindOf failedOf gallopOf at *
 obtain⟨kd,arr,pn,gl,fl⟩:=st
 dsimp only at hk hf hS hz u1 u2 h hSi
 dsimp -zeta only
 have h:∀ st',(arrOf st').toList.Perm arr.toList->(arrOf st').toList.Pairwise (λx y=>O.kle (rk x) (rk y))->failedOf st'=none->pendingOf st'=#[(0,n1+n2,p)]->Q true st':=h
 have k2:kindOf (SortSt.mk' kd arr #[(0,n1+n2,p)] gl fl)=κ:=hk
 have a2:arrOf (SortSt.mk' kd arr #[(0,n1+n2,p)] gl fl)=arr:=rfl
 have f2:failedOf (SortSt.mk' kd arr #[(0,n1+n2,p)] gl fl)=none:=hf
 have p2:pendingOf (SortSt.mk' kd arr #[(0,n1+n2,p)] gl fl)=#[(0,n1+n2,p)]:=rfl
 have whole:O.kle (rk (kyd arr (n1 - 1))) (rk (kyd arr n1))->arr.toList.Pairwise λx y=>O.kle (rk x) (rk y):=λhm=>mT λi j _ hij hj=>by
  by_cases c1:j < n1
  ·exact u1 i j (qaZ _) hij (by lia)
  ·by_cases c2:n1<=i
   ·exact u2 i j c2 hij (by lia)
   ·exact qbe (qbe (u1 i (n1 - 1) (qaZ _) (by lia) (by lia)) hm) (u2 n1 j (qaq _) (by lia) (by lia))
 have ok:arr.toList.Pairwise (λx y=>O.kle (rk x) (rk y))->Q true (SortSt.mk' kd arr #[(0,n1+n2,p)] gl fl):=λhw=>h (SortSt.mk' kd arr #[(0,n1+n2,p)] gl fl) (by rw [a2]) (by rw [a2];exact hw) f2 p2
 refine qam (bD (bo (by lia)) (qam (eM hC k2 (hSi _ (by lia)) (by lia) (λi hi=>hSi _ (by lia)) (by lia) (λi j hij hj hb=>?_) λk hk1 hk2 hk3=>?_)))
 ·simp only [bey,qaM,if_false,qbV] at hb ⊢
  exact qbe (O:=O) (u1 (0+i) (0+j) (qaZ _) (by lia) (by lia)) hb
 simp only [bey,qaM,if_false,qbV,qfb,qaQ] at hk2 hk3
 dsimp only
 by_cases c1:n1 - k=0
 ·refine bE (by simpa using c1) ?_
  exact qay (ok (whole (hk2 (n1 - 1) (by lia))))
 refine bj (by simpa using c1) ?_
 rw [show 0+k+(n1 - k) - 1=n1 - 1 by lia,qaQ]
 refine qam (bD (bo (by lia)) (qam (eM hC k2 (hSi _ (by lia)) (by lia) (λi hi=>hSi _ (by lia)) (by lia) (λi j hij hj hb=>?_) λnb hb1 hb2 hb3=>?_)))
 ·simp only [bey,if_true] at hb ⊢
  exact qdb (O:=O) (u2 (n1+i) (n1+j) (by lia) (by lia) (by lia)) hb
 simp only [bey,if_true] at hb2 hb3
 dsimp only
 by_cases c2:nb=0
 ·refine bE (by simpa using c2) ?_
  exact qay (ok (whole (hb3 0 (by lia) (by lia))))
 refine bj (by simpa using c2) ?_
 have sx:(arr.extract k n1).size=n1 - k:=by simp;lia
 have sy:(arr.extract n1 (n1+nb)).size=nb:=by simp;lia
 have T:Two O rk S (arr.extract k n1) (arr.extract n1 (n1+nb)):=by
  refine⟨λi hi=>?_,λi hi=>?_,oo (λi j a b c=>u1 i j (qaZ _) b (by lia)) (by lia),oo (λi j a b c=>u2 i j a b (by lia)) (by lia),by lia,by lia,?_,λi hi=>?_⟩
  ·rw [eD (by lia) (by lia)];exact hSi _ (by lia)
  ·rw [eD (by lia) (by lia)];exact hSi _ (by lia)
  ·rw [eD (by lia) (by lia),eD (by lia) (by lia)];exact hk3 _ (by lia) (by lia)
  ·rw [eD (by lia) (by lia),eD (by lia) (by lia),sx,show k+(n1 - k - 1)=n1 - 1 by lia];exact hb2 i (by lia)
 have fin:∀ (r:Array Keyed) st',Gs (SortSt.mk' kd arr #[(0,n1+n2,p)] gl fl) st'->r.toList=mrg O rk (arr.extract k n1).toList (arr.extract n1 (n1+nb)).toList->
   Q true (SortSt.mk' (kindOf st') ((r.toList.zipIdx).foldl (λ(a:Array Keyed) x=>match x with | (p,j)=>a.setIfInBounds (k+j) p) (arrOf st')) (pendingOf st') (gallopOf st') (failedOf st')):=by
  rintro r st' ⟨g,rfl⟩ hr
  have hl:r.toList.length=n1 - k+nb:=by rw [hr,(kX _ _).length_eq,qaV,qbb,qbb,sx,sy]
  have e5:=sq k r.toList 0 arr (by lia)
  rw [qgT,hl,show k+(n1 - k+nb)=n1+nb by lia,hr] at e5
  have e6:=zp (a:=arr) (i:=k) (j:=n1) (k:=n1+nb) (by lia) (by lia) (by lia)
  refine h _ ?_ ?_ f2 p2
  ·show (List.foldl _ (arrOf (SortSt.mk' kd arr #[(0,n1+n2,p)] gl fl)) _).toList.Perm _
   rw [a2,hr,e5]
   conv=>rhs;rw [e6]
   exact ((kX _ _).append_left _ |>.append_right _).trans (by rw [qbC,qbC,qbC,qbC])
  ·show (List.foldl _ (arrOf (SortSt.mk' kd arr #[(0,n1+n2,p)] gl fl)) _).toList.Pairwise _
   rw [a2,hr,e5]
   have m1:∀ x ∈ arr.toList.take k,∃ i,i < k/\x=kyd arr i:=λx hx=>by
    rw [<-gY] at hx
    obtain⟨i,_,hi,e⟩:=kQ hx (by lia)
    exact⟨i,hi,e⟩
   have m2:∀ x ∈ arr.toList.drop (n1+nb),∃ i,n1+nb<=i/\i < arr.size/\x=kyd arr i:=λx hx=>by
    rw [<-fz] at hx
    obtain⟨i,h1,h2,e⟩:=kQ hx (qaq _)
    exact⟨i,h1,h2,e⟩
   have m3:∀ x ∈ mrg O rk (arr.extract k n1).toList (arr.extract n1 (n1+nb)).toList,∃ i,k<=i/\i < n1+nb/\x=kyd arr i:=λx hx=>by
    rcases qbg.mp ((kX _ _).mem_iff.mp hx) with hx | hx
    ·obtain⟨i,h1,h2,e⟩:=kQ hx (by lia);exact⟨i,h1,by lia,e⟩
    ·obtain⟨i,h1,h2,e⟩:=kQ hx (by lia);exact⟨i,by lia,h2,e⟩
   have lowHi:∀ i j,i < k->n1<=j->j < n1+n2->O.kle (rk (kyd arr i)) (rk (kyd arr j)):=λi j hi h3 h4=>qbe (hk2 i hi) (u2 n1 j (qaq _) h3 h4)
   have hiHi:∀ i j,i < n1->n1+nb<=j->j < n1+n2->O.kle (rk (kyd arr i)) (rk (kyd arr j)):=λi j hi h3 h4=>by
    have:=hb3 (j - n1) (by lia) (by lia)
    rw [show n1+(j - n1)=j by lia] at this
    exact qbe (u1 i (n1 - 1) (qaZ _) (by lia) (by lia)) this
   refine qcr.mpr ⟨qcr.mpr ⟨?_,AS (mT T.ua) (mT T.ub),?_⟩,?_,?_⟩
   ·rw [<-gY]
    exact mT (oo (λi j a b c=>u1 i j (qaZ _) b (by lia)) (by lia))
   ·intro x hx y hy
    obtain⟨i,hi,rfl⟩:=m1 x hx
    obtain⟨j,j1,j2,rfl⟩:=m3 y hy
    by_cases c:j < n1
    ·exact u1 i j (qaZ _) (by lia) (by lia)
    ·exact lowHi i j hi (by lia) (by lia)
   ·rw [<-fz]
    exact mT (oo (λi j a b c=>u2 i j (by lia) b (by lia)) (qaq _))
   ·intro x hx y hy
    obtain⟨j,j1,j2,rfl⟩:=m2 y hy
    have hx':∃ i,i < n1+nb/\x=kyd arr i:=by
     rcases qbg.mp hx with hx | hx
     ·obtain⟨i,hi,e⟩:=m1 x hx;exact⟨i,by lia,e⟩
     ·obtain⟨i,_,hi,e⟩:=m3 x hx;exact⟨i,hi,e⟩
    obtain⟨i,hi,rfl⟩:=hx'
    by_cases c:i < n1
    ·exact hiHi i j c j1 (by lia)
    ·exact u2 i j (by lia) (by lia) (by lia)
 have isn:∀ st',Gs (SortSt.mk' kd arr #[(0,n1+n2,p)] gl fl) st'->failedOf st'=none:=by rintro st' ⟨g,rfl⟩;exact f2
 split
 ·refine qam (xh hC k2 T λr st' hG hr=>?_)
  refine qam (qcn (qam (qc4 (qay ?_))))
  have:=fin r st' hG hr
  have e:=isn st' hG
  have e':(failedOf st').isNone=true:=by rw [e];rfl
  rw [<-e'] at this
  exact this
 ·refine qam (yc hC k2 T λr st' hG hr=>?_)
  refine qam (qcn (qam (qc4 (qay ?_))))
  have:=fin r st' hG hr
  have e:=isn st' hG
  have e':(failedOf st').isNone=true:=by rw [e];rfl
  rw [<-e'] at this
  exact this
end
section
variable {prog:Program}{w:World}{A:Around}{E:Value->Shared->Prop}{s:Shared}{κ:SortKind}{O:KeyOrd}{rk:Keyed->O.α}{S:Keyed->Prop}{st:SortSt}{a0:Array Keyed}
structure AV (κ:SortKind) (O:KeyOrd) (rk:Keyed->O.α) (a0:Array Keyed) (n1:Nat) (st:SortSt):Prop where
 perm:(arrOf st).Perm a0
 kind:kindOf st=κ
 fail:failedOf st=none
 pend:pendingOf st=#[(0,n1,0)]
 up:Up rk (arrOf st) 0 n1
structure yh (κ:SortKind) (O:KeyOrd) (rk:Keyed->O.α) (a0:Array Keyed) (st:SortSt):Prop where
 perm:(arrOf st).Perm a0
 kind:kindOf st=κ
 fail:failedOf st=none
 ex:∃ n1 n2 p,0 < n1/\0 < n2/\n1+n2=a0.size/\pendingOf st=#[(0,n1,p),(n1,n2,0)]/\Up rk (arrOf st) 0 n1/\Up rk (arrOf st) n1 n2
theorem Bz {n:Nat} (h2:2<=n) (h64:n<=64):(n < 64/\minRun' n n 0=n)\/n=64/\minRun' n n 0=32:=by
 by_cases h:n=64
 ·subst h;exact .inr ⟨rfl,rfl⟩
 ·obtain⟨f,rfl⟩:∃ f,n=f+1:=⟨n - 1,by lia⟩
  exact .inl ⟨by lia,by rw [minRun'_succ,if_pos (by lia)]⟩
set_option maxHeartbeats 2000000 in
theorem xS (hC:Cm prog w A s κ O rk S) {Q:Unit->SortSt->Prop} (hk:kindOf st=κ) (hf:failedOf st=none) (hp:pendingOf st=#[]) (ha:arrOf st=a0) (hS:∀ x ∈ a0.toList,S x) (h2:2<=a0.size) (h64:a0.size<=64)
  (h:∀ st',(arrOf st').toList.Perm a0.toList->(arrOf st').toList.Pairwise (λx y=>O.kle (rk x) (rk y))->failedOf st'=none->Q () st'):wpS (model prog w) A E s sortRuns' Q st:=by
 obtain⟨mr,hm0,hmr⟩:∃ mr,(sortPriv% PySem.Builtin.minRun) a0.size a0.size 0=mr/\((a0.size < 64/\mr=a0.size)\/a0.size=64/\mr=32):=⟨_,rfl,Bz h2 h64⟩
 refine qam (qc4 ?_)
 have hz:(arrOf st).size=a0.size:=by rw [ha]
 dsimp only
 rw [hz,hm0]
 refine qam (qcT (qby (I:=λx c st'=>(x=0/\c=(none,0)/\SB κ a0 0 #[] (gallopOf st) st')\/(∃ n1,c=(none,n1)/\AV κ O rk a0 n1 st'/\1<=x/\(n1=a0.size\/x=1/\32<=n1/\n1 < 64/\a0.size=64))\/(c=(none,a0.size)/\yh κ O rk a0 st'/\1<=x))
  (Q:=λc st'=>c.1=none/\(AV κ O rk a0 a0.size st'\/yh κ O rk a0 st')) ?_ ?_ ?_) ?_)
 ·rintro x c st' _ hx H
  rcases H with⟨rfl,rfl,hB⟩ | ⟨n1,rfl,hR,hx1,hor⟩ | ⟨rfl,hR,hx1⟩
  ·dsimp only
   refine bj (by lia) ?_
   refine qam (sV hC hS hB (by lia) (by lia) λm st2 hB2 m1 m2 u=>?_)
   have put:∀ n st3,SB κ a0 0 #[] (gallopOf st) st3->Up rk (arrOf st3) 0 n->mr<=n->n<=a0.size->
     AV κ O rk a0 n (SortSt.mk' (kindOf st3) (arrOf st3) ((pendingOf st3).push (0,n,0)) (gallopOf st3) (failedOf st3))/\(n=a0.size\/0+1=1/\32<=n/\n < 64/\a0.size=64):=λn st3 hB3 u3 h1 h2=>
    ⟨⟨hB3.perm,hB3.kind,hB3.fail,by show (pendingOf st3).push _=_;rw [hB3.pend];rfl,u3⟩,by lia⟩
   dsimp only
   by_cases hlt:m < mr
   ·refine bE hlt ?_
    refine qam (gq (qam (qj hC hS hB2 m1 (by lia) (by lia) u λst3 hB3 u3=>?_)))
    refine bj (by simp) ?_
    have hP:=put _ st3 hB3 u3 (by lia) (by lia)
    refine qam (qc4 ?_)
    have hb:(pendingOf st3).back?=none:=by rw [hB3.pend];rfl
    rw [hb]
    exact qam (qcn (qay (.inr (.inl ⟨_,by rw [qaQ],hP.1,by lia,hP.2⟩))))
   ·refine bj hlt ?_
    have hP:=put m st2 hB2 u (by lia) (by lia)
    refine qam (qc4 ?_)
    have hb:(pendingOf st2).back?=none:=by rw [hB2.pend];rfl
    rw [hb]
    exact qam (qcn (qay (.inr (.inl ⟨_,by rw [qaQ],hP.1,by lia,hP.2⟩))))
  ·dsimp only
   by_cases hge:n1>=a0.size
   ·refine bE hge ?_
    have e:n1=a0.size:=by lia
    subst e
    exact qay ⟨rfl,.inl hR⟩
   refine bj hge ?_
   have hsz:(arrOf st').size=a0.size:=hR.perm.size_eq
   have hS':∀ x ∈ (arrOf st').toList,S x:=λx hx=>hS x ((qbZ.mp hR.perm).mem_iff.mp hx)
   have hB:SB κ (arrOf st') n1 #[(0,n1,0)] (gallopOf st') st':=⟨qib _,λ_ _=>rfl,hR.kind,hR.fail,hR.pend,rfl⟩
   have hn:32<=n1/\n1 < 64/\a0.size=64/\mr=32:=by lia
   refine qam (sV hC hS' hB (by lia) (by lia) λm st2 hB2 m1 m2 u=>?_)
   have put:∀ n pw st3,n=a0.size - n1->SB κ (arrOf st') n1 #[(0,n1,0)] (gallopOf st') st3->Up rk (arrOf st3) n1 n->
     yh κ O rk a0 (SortSt.mk' (kindOf st3) (arrOf st3) (((pendingOf st3).modify ((pendingOf st3).size - 1) λx=>(x.1,x.2.1,pw)).push (n1,n,0)) (gallopOf st3) (failedOf st3)):=λn pw st3 hn3 hB3 u3=>
    ⟨hB3.perm.trans hR.perm,hB3.kind,hB3.fail,n1,n,pw,by lia,by lia,by lia,by show (Array.modify (pendingOf st3) _ _).push _=_;rw [hB3.pend];simp,λi j a b c=>by
     show O.kle (rk (kyd (arrOf st3) i)) (rk (kyd (arrOf st3) j))
     rw [dl (hB3.pre i (by lia)),dl (hB3.pre j (by lia))]
     exact hR.up i j a b c,u3⟩
   have inner:∀ st3,SB κ (arrOf st') n1 #[(0,n1,0)] (gallopOf st') st3->∀ (f:Nat->Option Unit×Unit->StateT SortSt Sem (ForInStep (Option Unit×Unit))) (Q':Option Unit×Unit->SortSt->Prop),
     (∀ x,∀ Q'':ForInStep (Option Unit×Unit)->SortSt->Prop,Q'' (.done (none,())) st3->wpS (model prog w) A E s (f x (none,())) Q'' st3)->Q' (none,()) st3->wpS (model prog w) A E s (forIn [0:a0.size] (none,()) f) Q' st3:=λst3 hB3 f Q' hf hq=>
    qby (I:=λ_ c st4=>c=(none,())/\st4=st3) (λi c st4 _ _ hI=>by
     obtain⟨rfl,rfl⟩:=hI
     exact hf i _ hq) (λc st4 hI=>by obtain⟨rfl,rfl⟩:=hI;exact hq) ⟨rfl,rfl⟩
   dsimp only
   by_cases hlt:m < mr
   case' pos=>
    refine bE hlt ?_
    refine qam (gq (qam (qj hC hS' hB2 m1 (by lia) (by lia) u λst3 hB3 u3=>?_)))
    refine bj (by simp) ?_
    have e9:min (a0.size - n1) mr=a0.size - n1:=by lia
    rw [e9] at u3 ⊢
   case' neg=>
    refine bj hlt ?_
    have e9:m=a0.size - n1:=by lia
    subst e9
    have hB3:=hB2
    have u3:=u
    revert hB3 u3
    clear u hB2
    generalize st2=st3
    intro hB3 u3
   all_goals
    refine qam (qc4 ?_)
    have hb:(pendingOf st3).back?=some (0,n1,0):=by rw [hB3.pend];rfl
    rw [hb]
    refine qam (inner st3 hB3 _ _ (λx Q'' hq=>?_) ?_)
    ·refine qam (qc4 ?_)
     have hb2:(if (pendingOf st3).size > 1 then (pendingOf st3)[(pendingOf st3).size - 2]? else none)=none:=by rw [hB3.pend];rfl
     rw [hb2]
     exact qay hq
    ·refine qam (qcn (qam (qcn (qay (.inr (.inr ⟨?_,put _ _ st3 rfl hB3 u3,by lia⟩))))))
     rw [show n1+(a0.size - n1)=a0.size by lia]
  ·dsimp only
   refine bE (qaq _) ?_
   exact qay ⟨rfl,.inr hR⟩
 ·rintro c st' (⟨hx,_⟩ | ⟨n1,rfl,hR,hx1,hor⟩ | ⟨rfl,hR,hx1⟩)
  ·lia
  ·have e:n1=a0.size:=by lia
   subst e
   exact⟨rfl,.inl hR⟩
  ·exact⟨rfl,.inr hR⟩
 ·exact .inl ⟨rfl,rfl,by rw [ha],λ_ _=>by rw [ha],hk,hf,hp,rfl⟩
 ·rintro⟨c1,c2⟩ st' ⟨rfl,hR⟩
  dsimp only
  refine qam (qcT (qby (I:=λy c st2=>c=(none,())/\((y=0/\yh κ O rk a0 st2)\/((pendingOf st2).size=1/\(arrOf st2).toList.Perm a0.toList/\(arrOf st2).toList.Pairwise (λx y=>O.kle (rk x) (rk y))/\failedOf st2=none)))
   (Q:=λc st2=>c=(none,())/\(arrOf st2).toList.Perm a0.toList/\(arrOf st2).toList.Pairwise (λx y=>O.kle (rk x) (rk y))/\failedOf st2=none) ?_ ?_ ?_) ?_)
  ·rintro y c st2 _ hy ⟨rfl,⟨rfl,hR2⟩ | ⟨h1,h2',h3,h4⟩⟩
   ·refine qam (qc4 ?_)
    obtain⟨n1,n2,p,z1,z2,z3,z4,u1,u2⟩:=hR2.ex
    have hsz:(arrOf st2).size=a0.size:=hR2.perm.size_eq
    have z5:(sortPriv% PySem.Builtin.SortState.pending) st2=#[(0,n1,p),(n1,n2,0)]:=z4
    rw [z5]
    refine qam (m:=zd 0) (yz hC hR2.kind hR2.fail z4 (λx hx=>hS x ((qbZ.mp hR2.perm).mem_iff.mp hx)) (by lia) z1 z2 u1 u2 λst3 a1 a2 a3 a4=>?_)
    refine bj (by simp) ?_
    exact qay ⟨rfl,.inr ⟨by rw [a4];rfl,a1.trans (qbZ.mp hR2.perm),a2,a3⟩⟩
   ·refine qam (qc4 ?_)
    have h1':(pendingOf st2).size<=1:=by lia
    refine bE h1' ?_
    exact qay ⟨rfl,h2',h3,h4⟩
  ·rintro c st2 ⟨rfl,⟨hy,_⟩ | ⟨h1,h2',h3,h4⟩⟩
   ·lia
   ·exact⟨rfl,h2',h3,h4⟩
  ·refine⟨rfl,?_⟩
   rcases hR with hR | hR
   ·have hsz:(arrOf st').size=a0.size:=hR.perm.size_eq
    exact .inr ⟨by rw [hR.pend];rfl,qbZ.mp hR.perm,mT (by rw [hsz];exact hR.up),hR.fail⟩
   ·exact .inl ⟨rfl,hR⟩
  ·rintro c st2 ⟨rfl,h2',h3,h4⟩
   exact qay (h st2 h2' h3 h4)
end
end L2
namespace L2
open PySem PySem.Spec PyProof.Rows PySem.SeqAt
open MeetsSeq MeetsSeq2 MeetsSeq3 SeqRoads2
open AutoSeq1 (wpAny_loadPart')
noncomputable def mS (A:Around) (s:Shared) (y x:Value) (b:Bool):Prop:=∀ (prog:Program) (w:World) (E:Value->Shared->Prop) (Q:Value->Shared->Prop),Q (.bool b) s->wpAny (model prog w) A (richCompare .Lt y x) Q E s
noncomputable def lv (e l:Nat->Bool) (fin:Bool):Nat->Nat->Bool
 | 0,_=>fin
 | k+1,i=>if e i=true then lv e l fin k (i+1) else l i
theorem mf (p q:Addr) (us vs:Array Value) (n n2:Nat) (dd dd2:Option Addr) (sl sl2:Array (Option Value)) (e l:Nat->Bool) :
  Meets (Builtin.«tuple.__lt__» ⟨[.ref p,.ref q],[]⟩)
   (λA R s=>(s.heap.get? p=some ⟨.type "tuple",dd,.seq us n,sl⟩/\s.heap.get? q=some ⟨.type "tuple",dd2,.seq vs n2,sl2⟩)/\
     (∀ j (h1:j < us.size) (h2:j < vs.size),EqAt A.in1 s us[j] vs[j] (e j)/\(e j=false->mS A.in1 s us[j] vs[j] (l j)))/\
     R (.ok (.ret (.bool (lv e l (decide (us.size < vs.size)) (min us.size vs.size) 0)))) s):=
 .of_wp λprog w A R s h=>by
  obtain⟨hp,g,d,tk,os⟩:=s
  obtain⟨⟨h1,h2⟩,he,h⟩:=h
  have f2:=AutoSeq1.sub_tuple_tuple
  have hZ:(us.toList.zip vs.toList).length=min us.size vs.size:=by simp
  wp_walk using wpAny_loadPart' h1,wpAny_loadPart' h2,wpAny_forIn_list _ (λrest b s'=>b.1=none/\s'=⟨hp,g,d,tk,os⟩/\∃ i,i<=min us.size vs.size/\rest=(us.toList.zip vs.toList).drop i/\
   R (.ok (.ret (.bool (lv e l (decide (us.size < vs.size)) (min us.size vs.size - i) i)))) ⟨hp,g,d,tk,os⟩) _
  case turn=>
   rintro⟨y,x⟩ rest b s' ⟨hb',rfl,i,hi,hz,hR⟩
   have hlt:i < (us.toList.zip vs.toList).length:=by
    rcases qgR i (us.toList.zip vs.toList).length with h' | h'
    ·exact h'
    ·rw [List.drop_of_length_le h'] at hz;cases hz
   rw [hZ] at hlt
   have g1:i < us.size:=by lia
   have g2:i < vs.size:=by lia
   rw [qb6 (by rw [hZ];exact hlt)] at hz
   injection hz with hyx hrest
   have hy:y=us[i]:=by have:=congrArg Prod.fst hyx;simpa using this
   have hx:x=vs[i]:=by have:=congrArg Prod.snd hyx;simpa using this
   subst hy hx
   obtain⟨k,hk⟩:∃ k,min us.size vs.size - i=k+1:=⟨min us.size vs.size - i - 1,by lia⟩
   rw [hk] at hR
   have hR':R (.ok (.ret (.bool (if e i=true then lv e l (decide (us.size < vs.size)) k (i+1) else l i)))) ⟨hp,g,d,tk,os⟩:=hR
   refine qaa ((he i g1 g2).1 prog w _ _ ?_)
   cases hy:e i with
   | true=>
    rw [hy,if_pos rfl] at hR'
    wp_walk
    exact⟨rfl,rfl,i+1,by lia,hrest,by rw [show min us.size vs.size - (i+1)=k by lia];exact hR'⟩
   | false=>
    rw [hy,if_neg (by simp)] at hR'
    simp only [qdc,if_true]
    refine qaa (qb8 ?_)
    refine qaa ((he i g1 g2).2 hy prog w _ _ ?_)
    wp_walk
    exact⟨_,rfl,hR'⟩
  case fin=>
   rintro⟨b1,b2⟩ s' ⟨hb',rfl,i,hi,hz,hR⟩
   simp only at hb'
   subst hb'
   have hge:min us.size vs.size<=i:=by
    rcases qgR i (us.toList.zip vs.toList).length with h' | h'
    ·rw [qb6 h'] at hz;cases hz
    ·rw [hZ] at h';exact h'
   rw [show min us.size vs.size - i=0 by lia] at hR
   wp_walk
   exact⟨_,rfl,by simpa [Builtin.Tuple.tupleCompareSizes,lv] using hR⟩
  case h=>exact⟨rfl,rfl,0,qaZ _,rfl,h⟩
section
variable {A:Around}{s:Shared}{p q:Addr}{us vs:Array Value}{e l:Nat->Bool}
theorem mS.tuples (hl:s.heap.IsTuple p us) (hb:s.heap.IsTuple q vs) (hu:A.units < cLine) (he:∀ j (h1:j < us.size) (h2:j < vs.size),EqAt A.in1 s us[j] vs[j] (e j)/\(e j=false->mS A.in1 s us[j] vs[j] (l j))) :
  mS A s (.ref p) (.ref q) (lv e l (decide (us.size < vs.size)) (min us.size vs.size) 0):=λprog w E Q h=>by
 obtain⟨⟨cls,dd,data,sl⟩,ho,hc,n,hd⟩:=id hl
 obtain⟨⟨cls2,dd2,data2,sl2⟩,ho2,hc2,n2,hd2⟩:=id hb
 simp only at hc hd hc2 hd2
 subst hc hd hc2 hd2
 exact richCompare_meets_room (op:=.Lt) ⟨_,ho,rfl⟩ ⟨_,ho2,rfl⟩ qdj qev (qeo _ _) (mf p q us vs n n2 dd dd2 sl sl2 e l)
  ⟨⟨ho,ho2⟩,he,(λx=>nomatch x),h⟩ hu
end
end L2
namespace L2
open PySem PySem.Spec PyProof.Rows PySem.SeqAt PySem.W
noncomputable def cB:List Int->List Int->Bool
 | [],[]=>false
 | [],_::_=>true
 | _::_,[]=>false
 | a::as,b::bs=>if a=b then cB as bs else decide (a < b)
theorem qg:∀ a,cB a a=false
 | []=>rfl
 | a::as=>by unfold cB;rw [if_pos rfl];exact qg as
theorem jq:∀ a b,cB a b=false->cB b a=false->a=b
 | [],[],_,_=>rfl
 | [],_::_,h,_=>by cases h
 | _::_,[],_,h=>by cases h
 | a::as,b::bs,h,h'=>by
  unfold cB at h h'
  by_cases e:a=b
  ·subst e
   rw [if_pos rfl] at h h'
   rw [jq as bs h h']
  ·rw [if_neg e] at h
   rw [if_neg (qbI e)] at h'
   rw [decide_eq_false_iff_not] at h h'
   lia
theorem oa:∀ a b c,cB a b=true->cB b c=true->cB a c=true
 | [],[],_,h,_=>by cases h
 | [],_::_,[],_,h=>by cases h
 | [],_::_,_::_,_,_=>rfl
 | _::_,[],_,h,_=>by cases h
 | _::_,_::_,[],_,h=>by cases h
 | a::as,b::bs,c::cs,h,h'=>by
  unfold cB at h h' ⊢
  by_cases e:a=b
  ·subst e
   rw [if_pos rfl] at h
   by_cases e2:a=c
   ·subst e2;rw [if_pos rfl] at h' ⊢;exact oa as bs cs h h'
   ·rw [if_neg e2] at h' ⊢;exact h'
  ·rw [if_neg e,decide_eq_true_iff] at h
   by_cases e2:b=c
   ·subst e2;rw [if_neg e,decide_eq_true_iff];exact h
   ·rw [if_neg e2,decide_eq_true_iff] at h'
    rw [if_neg (by lia),decide_eq_true_iff];lia
theorem uW:∀ a b c,cB a c=true->cB a b=true\/cB b c=true
 | a,b,c,h=>by
  by_cases h1:cB a b=true
  ·exact .inl h1
  ·rw [qdl] at h1
   by_cases h2:cB b a=true
   ·exact .inr (oa b a c h2 h)
   ·rw [qdl] at h2
    rw [jq a b h1 h2] at h;exact .inr h
noncomputable def OI:KeyOrd:=⟨List Int,cB,qg,oa,uW,jq⟩
noncomputable def TuI (h:Heap) (v:Value) (l:List Int):Prop:=∃ a its,v=.ref a/\h.IsTuple a its/\IntsAre its.toList l
noncomputable def cy:Value->Int
 | .int n _=>n
 | _=>0
noncomputable def tuI (h:Heap):Value->List Int
 | .ref a=>match h.get? a with
  | some o=>match o.data with
   | .seq its _=>its.toList.map cy
   | _=>[]
  | none=>[]
 | _=>[]
theorem lM:∀ {us:List Value}{l:List Int},IntsAre us l->us.map cy=l
 | _,_,.nil=>rfl
 | _,_,.cons n t h=>by rw [qal,lM h];rfl
theorem dI:∀ {us:List Value}{l:List Int},IntsAre us l->us.length=l.length
 | _,_,.nil=>rfl
 | _,_,.cons n t h=>by rw [qaj,qaj,dI h]
theorem gp:∀ {us:List Value}{l:List Int},IntsAre us l->∀ (j:Nat) (h:j < us.length),∃ t,us[j]=.int (l.getD j 0) t
 | _,_,.nil,j,h=>absurd h (qdv j)
 | _,_,.cons n t hh,0,h=>⟨t,rfl⟩
 | _,_,.cons n t hh,j+1,h=>by
  obtain⟨t',e⟩:=gp hh j (qeO h)
  exact⟨t',by simpa using e⟩
theorem TuI.is {h:Heap}{v:Value}{l:List Int} (t:TuI h v l):tuI h v=l:=by
 obtain⟨a,its,rfl,⟨o,ho,hc,n,hd⟩,hi⟩:=t
 simp only [tuI,ho,hd]
 exact lM hi
theorem TuI.fit {h h':Heap}{v:Value}{l:List Int} (t:TuI h v l) (hk:∀ b o,h.get? b=some o->h'.get? b=some o):TuI h' v l:=by
 obtain⟨a,its,rfl,⟨o,ho,r⟩,hi⟩:=t
 exact⟨a,its,rfl,⟨o,hk _ _ ho,r⟩,hi⟩
theorem lZ:∀ (l m:List Int) (i:Nat) (e f:Nat->Bool),(∀ j,j < l.length->j < m.length->e (i+j)=decide (l.getD j 0=m.getD j 0)/\f (i+j)=decide (l.getD j 0 < m.getD j 0))->
  lv e f (decide (l.length < m.length)) (min l.length m.length) i=cB l m
 | [],[],i,e,f,_=>by simp [lv,cB]
 | [],b::m,i,e,f,_=>by simp [lv,cB]
 | a::l,[],i,e,f,_=>by simp [lv,cB]
 | a::l,b::m,i,e,f,h=>by
  have h0:=h 0 (by simp) (by simp)
  rw [qaj,qaj,show min (l.length+1) (m.length+1)=min l.length m.length+1 by lia]
  have e1:decide (l.length+1 < m.length+1)=decide (l.length < m.length):=by rw [qcd];simp
  rw [e1]
  show (if e i=true then lv e f (decide (l.length < m.length)) (min l.length m.length) (i+1) else f i)=if a=b then cB l m else decide (a < b)
  rw [qgT] at h0
  rw [h0.1,h0.2]
  by_cases q:a=b
  ·subst q
   simp only [qap,decide_true,if_true]
   exact lZ l m (i+1) e f λj h1 h2=>by
    have:=h (j+1) (by simpa using h1) (by simpa using h2)
    rw [show i+1+j=i+(j+1) by lia]
    simpa using this
  ·simp [q]
section
variable {prog:Program}{w:World}{A:Around}{E:Value->Shared->Prop}{s:Shared}{x y:Value}{l m:List Int}
theorem mS.ints {a b:Int}{t u:Tok}:mS A s (.int a t) (.int b u) (decide (a < b)):=λprog w E Q h=>qdi h
theorem EqAt.ints {a b:Int}{t u:Tok}:EqAt A s (.int a t) (.int b u) (decide (a=b)):=by
 have:=u4 (A:=A) (s:=s) (y:=.int a) (x:=.int b) (u:=.int a t) (v:=.int b u) ⟨t,rfl⟩ ⟨u,rfl⟩ rfl rfl
 have e:eqV (.int a) (.int b)=decide (a=b):=by simp [eqV,Bool.beq_eq_decide_eq]
 rw [e] at this;exact this
theorem TuI.lt (tx:TuI s.heap x l) (ty:TuI s.heap y m) (hu:A.units < cLine):mS A s x y (cB l m):=by
 obtain⟨a,us,rfl,h1,i1⟩:=tx
 obtain⟨b,vs,rfl,h2,i2⟩:=ty
 have e1:us.size=l.length:=by rw [<-qbb];exact dI i1
 have e2:vs.size=m.length:=by rw [<-qbb];exact dI i2
 have z:=mS.tuples (A:=A) (e:=λj=>decide (l.getD j 0=m.getD j 0)) (l:=λj=>decide (l.getD j 0 < m.getD j 0)) h1 h2 hu λj g1 g2=>by
  obtain⟨t,q1⟩:=gp i1 j (by simpa using g1)
  obtain⟨t',q2⟩:=gp i2 j (by simpa using g2)
  rw [qcZ] at q1 q2
  rw [q1,q2]
  exact⟨EqAt.ints,λ_=>mS.ints⟩
 rw [e1,e2,lZ l m 0 _ _ λj h1 h2=>by rw [qaQ];exact⟨rfl,rfl⟩] at z
 exact z
theorem TuI.one (tx:TuI s.heap x l) (ty:TuI s.heap y m) (hu:A.units < cLine) {Q:Bool->Shared->Prop} (h:Q (cB l m) s) (b:Bool):wpAny (model prog w) A (oneLt' b x y) Q E s:=by
 cases b with
 | false=>exact kat_one _ _ (tx.lt ty hu _ _ _ _ h)
 | true=>
  rw [oneLt'_eq]
  simp only [if_true]
  refine qaa (wpAny_cRoomFor hu ?_)
  obtain⟨a,us,rfl,h1,i1⟩:=id tx
  obtain⟨c,vs,rfl,h2,i2⟩:=id ty
  obtain⟨⟨cls,dd,data,sl⟩,ho,hc,n,hd⟩:=id h1
  obtain⟨⟨cls2,dd2,data2,sl2⟩,ho2,hc2,n2,hd2⟩:=id h2
  simp only at hc hd hc2 hd2
  subst hc hd hc2 hd2
  have e1:us.size=l.length:=by rw [<-qbb];exact dI i1
  have e2:vs.size=m.length:=by rw [<-qbb];exact dI i2
  refine qaa (wpAny_callSpecialIfBound?_slot (T:="tuple") ⟨_,ho,rfl⟩ qdj (qcL qdj ⟨_,ho,rfl⟩ qev (qeo _ _)
   (mf a c us vs n n2 dd dd2 sl sl2 (λj=>decide (l.getD j 0=m.getD j 0)) λj=>decide (l.getD j 0 < m.getD j 0)) ⟨⟨ho,ho2⟩,λj g1 g2=>?_,?_⟩))
  ·obtain⟨t,q1⟩:=gp i1 j (by simpa using g1)
   obtain⟨t',q2⟩:=gp i2 j (by simpa using g2)
   rw [qcZ] at q1 q2
   rw [q1,q2]
   exact⟨EqAt.ints,λ_=>mS.ints⟩
  ·rw [e1,e2,lZ l m 0 _ _ λj h1 h2=>by rw [qaQ];exact⟨rfl,rfl⟩]
   exact qbM h
theorem uZ {Q:Bool->Shared->Prop}{fin:Bool}:∀ {us vs:List Value}{l m:List Int} (i:Nat),IntsAre us l->IntsAre vs m->(fin=decide (l.length < m.length))->Q (cB l m) s->KatLex prog w A true fin Q (us.zip vs) i s
 | _,_,_,_,i,.nil,.nil,hf,h=>kat_nil (by rw [hf];exact h)
 | _,_,_,_,i,.nil,.cons n t r,hf,h=>kat_nil (by rw [hf];simpa [cB] using h)
 | _,_,_,_,i,.cons n t r,.nil,hf,h=>kat_nil (by rw [hf];simpa [cB] using h)
 | _,_,_,_,i,.cons (vs:=us) (ns:=l) a t r,.cons (vs:=vs) (ns:=m) b u r',hf,h=>by
  rw [qe6]
  refine kat_cons (EqAt.ints prog w _ _ ?_)
  unfold cB at h
  by_cases e:a=b
  ·subst e
   rw [if_pos rfl] at h
   rw [decide_eq_true rfl]
   exact kat_yes (uZ (i+1) r r' (by rw [hf,qcd];simp) h)
  ·rw [if_neg e] at h
   rw [decide_eq_false e]
   refine kat_no ?_
   cases (true && i==0) with
   | true=>exact oneLt_int h
   | false=>exact kat_one _ _ (qdi h)
theorem TuI.tups (tx:TuI s.heap x l) (ty:TuI s.heap y m) {Q:Bool->Shared->Prop} (h:Q (cB l m) s):wpAny (model prog w) A (keyLt' (tuples' true) x y) Q E s:=by
 obtain⟨a,us,rfl,⟨o,ho,hc,n,hd⟩,i1⟩:=tx
 obtain⟨c,vs,rfl,⟨o2,ho2,hc2,n2,hd2⟩,i2⟩:=ty
 have e1:us.size=l.length:=by rw [<-qbb];exact dI i1
 have e2:vs.size=m.length:=by rw [<-qbb];exact dI i2
 exact kat_lt ho hd ho2 hd2 (uZ 0 i1 i2 (by rw [e1,e2]) h)
end
section
variable {prog:Program}{w:World}{A:Around}{E:Value->Shared->Prop}{s:Shared}{O:KeyOrd}{rk:Keyed->O.α}{S:Keyed->Prop}{vs:List Value}
theorem oZ:∀ (vs:List Value),vs.zip vs=vs.map λv=>(v,v)
 | []=>rfl
 | v::vs=>by rw [qe6,oZ vs];rfl
theorem AZ {α β:Type}{f:α->β}{R:β->β->Prop}:∀ {vs:List α},vs.toArray.size < 2->(vs.map f).Pairwise R
 | [],_=>List.Pairwise.nil
 | [v],_=>qeI _ _
 | _::_::_,h=>absurd h (by simp)
set_option maxHeartbeats 1000000 in
theorem tz {a:Addr}{n:Nat}{P:PySem.Fin->Shared->Prop} (ho:s.heap.get? a=some (seqObj "list" vs.toArray n)) (h64:vs.length<=64)
  (hyp:∀ h',(∀ b o,b≠a->s.heap.get? b=some o->h'.get? b=some o)->∃ κ,(2<=vs.length->∀ (Q':SortKind->Shared->Prop) E',Q' κ { s with heap:=h' }->wpAny (model prog w) A (keyKind' vs.toArray) Q' E' { s with heap:=h' })/\Cm prog w A { s with heap:=h' } κ O rk S)
  (hS:∀ v ∈ vs,S (v,v))
  (h:∀ out:List Value,out.Perm vs->out.Pairwise (λx y=>O.kle (rk (x,x)) (rk (y,y)))->P (.done (.ret .none)) { s with heap:=sortedHeap s.heap a vs out.toArray }) :
  wpAny (model prog w) A (Builtin.«list.sort» ⟨[.ref a],[]⟩) P E s:=by
 rw [list_sort_plain]
 have hlt:a < s.heap.objs.size:=qao ho
 have hsz:vs.toArray.size=vs.length:=by simp
 refine qaa (listItems_at ho rfl ?_)
 refine qaa (qe3 ho rfl ?_ (by rw [hsz,qci];lia))
 obtain⟨e1,ho1⟩:∃ e1,(s.heap.update a (Obj.mapSeq λ_=>#[])).get? a=some (seqObj "list" #[] e1):=⟨_,get?_update_seq ho (λ_=>#[])⟩
 refine qaa (qfC ho1 rfl ?_)
 refine qaa (qg2 ?_ (by rw [qci];show vs.toArray.toList.length<=_;simp;lia))
 refine qaa (wpAny_newList ?_)
 refine qbE ?_
 have z1:(s.heap.update a (Obj.mapSeq λ_=>(#[]:Array Value))).objs.size=s.heap.objs.size:=qfu ..
 have keepN:∀ b o,b < s.heap.objs.size->(s.heap.update a (Obj.mapSeq λ_=>(#[]:Array Value))).get? b=some o->
   (((s.heap.update a (Obj.mapSeq λ_=>#[])).push (seqObj "tuple" vs.toArray 0)).push (seqObj "list" #[] 0)).get? b=some o:=λb o hb q=>by
  rw [qdg _ _ _ (qaw (by rw [size_push',z1];exact qaO hb)),qdg _ _ _ (qaw (by rw [z1];exact hb))]
  exact q
 have ho6:=keepN a _ hlt ho1
 obtain⟨κ,hkk,hC⟩:=hyp (((s.heap.update a (Obj.mapSeq λ_=>#[])).push (seqObj "tuple" vs.toArray 0)).push (seqObj "list" #[] 0)) λb o hb q=>
  keepN b o (qao q) (by rw [qeZ _ _ _ _ hb];exact q)
 show wpAny (model prog w) A _ P E { s with heap:=((s.heap.update a (Obj.mapSeq λ_=>#[])).push (seqObj "tuple" vs.toArray 0)).push (seqObj "list" #[] 0) }
 have pt:(vs.toArray.zip vs.toArray).toList=vs.map λv=>(v,v):=by rw [<-oZ];simp
 have fin:∀ st':SortSt,(arrOf st').toList.Perm (vs.map λv=>(v,v))->(arrOf st').toList.Pairwise (λx y=>O.kle (rk x) (rk y))->∃ out:List Value,out.length=vs.length/\(arrOf st').map (·.2)=out.toArray/\P (.done (.ret .none)) { s with heap:=sortedHeap s.heap a vs out.toArray }:=λst' h1 h2=>by
  refine⟨(arrOf st').toList.map (·.2),by rw [qaf,h1.length_eq,qaf],by apply qbt.mp;simp,h _ ?_ ?_⟩
  ·have:=h1.map (·.2)
   rw [qaN] at this
   have e:(vs.map ((λx=>x.2) ∘ λv=>((v,v):Keyed)))=vs:=by rw [show ((λx:Keyed=>x.2) ∘ λv=>((v,v):Keyed))=id from rfl,qcR]
   rw [e] at this;exact this
  ·rw [qcQ]
   refine h2.imp_of_mem λ{x y} hx hy q=>?_
   have dx:x=(x.2,x.2):=by obtain⟨v,_,rfl⟩:=qaD.mp (h1.mem_iff.mp hx);rfl
   have dy:y=(y.2,y.2):=by obtain⟨v,_,rfl⟩:=qaD.mp (h1.mem_iff.mp hy);rfl
   rw [<-dx,<-dy];exact q
 dsimp only
 by_cases h2:vs.toArray.size < 2
 ·rw [if_pos h2,if_pos h2]
  refine qaa (qag ?_)
  rw [StateT.run_pure]
  refine qaa (qag ?_)
  dsimp only
  obtain⟨out,q0,q1,q2⟩:=fin (SortSt.mk' general' (vs.toArray.zip vs.toArray) #[] 7 none) (by rw [pt]) (by rw [pt];exact AZ h2)
  refine qaa (qfC ho6 rfl ?_)
  rw [q1]
  refine qaa (qe3 ho6 rfl ?_ (hsz2:=by show out.length<=_;rw [q0,qci];lia))
  simp only [bne_self_eq_false,qaM,if_false]
  exact qag q2
 ·rw [if_neg h2,if_neg h2]
  refine qaa (hkk (by lia) _ _ ?_)
  refine qaa (qcw (xS hC (st:=SortSt.mk' κ (vs.toArray.zip vs.toArray) #[] 7 none) (a0:=vs.toArray.zip vs.toArray) (Q:=λ_ st'=>(arrOf st').toList.Perm (vs.map λv=>(v,v))/\(arrOf st').toList.Pairwise (λx y=>O.kle (rk x) (rk y))/\failedOf st'=none)
   rfl rfl rfl rfl (λx hx=>?_) (by simp;lia) (by simp;lia) λst' a1 a2 a3=>⟨by rw [<-pt];exact a1,a2,a3⟩) ?_ λ_ _ e=>e)
  ·rw [pt] at hx
   obtain⟨v,hv,rfl⟩:=qaD.mp hx
   exact hS v hv
  rintro⟨⟨⟩,st'⟩ s' ⟨rfl,a1,a2,a3⟩
  dsimp only
  obtain⟨out,q0,q1,q2⟩:=fin st' a1 a2
  refine qaa (qfC ho6 rfl ?_)
  rw [q1]
  refine qaa (qe3 ho6 rfl ?_ (hsz2:=by show out.length<=_;rw [q0,qci];lia))
  rw [a3]
  simp only [bne_self_eq_false,qaM,if_false]
  exact qag q2
theorem lU {l:Addr}{Q:Value->Shared->Prop} (hl:s.heap.IsList l vs.toArray) (h64:vs.length<=64)
  (hyp:∀ h',(∀ b o,s.heap.get? b=some o->h'.get? b=some o)->∃ κ,(2<=vs.length->∀ (Q':SortKind->Shared->Prop) E',Q' κ { s with heap:=h' }->wpAny (model prog w) A.in1.in1 (keyKind' vs.toArray) Q' E' { s with heap:=h' })/\Cm prog w A.in1.in1 { s with heap:=h' } κ O rk S)
  (hS:∀ v ∈ vs,S (v,v))
  (h:∀ out:List Value,out.Perm vs->out.Pairwise (λx y=>O.kle (rk (x,x)) (rk (y,y)))->Q (.ref (s.heap.objs.size+1)) { s with heap:=sortedAll s.heap vs out.toArray }) :
  wpAny (model prog w) A (call (.builtin "sorted") [.ref l]) Q E s:=by
 refine Calls.call_function_entry kind_sorted plain_sorted entry_sorted (args_sorted1 _) ?_
 unfold Builtin.«sorted»
 refine qaa (m:=checkCount "sorted" 1 1 _) (qag ?_)
 refine qaa (collect_list hl ?_ (by rw [qci];lia))
 refine qaa (wpAny_newList ?_ (by rw [qci];lia))
 have hz:((s.heap.push (seqObj "list" #[] 0)).update s.heap.objs.size (Obj.mapSeq (·++vs.toArray))).objs.size=s.heap.objs.size+1:=by rw [qfu,size_push']
 generalize hh:((s.heap.push (seqObj "list" #[] 0)).update s.heap.objs.size (Obj.mapSeq (·++vs.toArray)))=hB at hz ⊢
 have hoL:(hB.push (seqObj "list" vs.toArray 0)).get? (s.heap.objs.size+1)=some (seqObj "list" vs.toArray 0):=by
  rw [<-hz];exact qav _ rfl
 have keep:∀ b o,s.heap.get? b=some o->b≠s.heap.objs.size+1/\(hB.push (seqObj "list" vs.toArray 0)).get? b=some o:=λb o q=>by
  have hlt:b < s.heap.objs.size:=qao q
  refine⟨qaw (qaO hlt),?_⟩
  rw [qdg _ _ _ (qaw (by rw [hz];exact qaO hlt)),<-hh,qeZ _ _ _ _ (qaw hlt),qdg _ _ _ (qaw hlt)]
  exact q
 show wpAny _ _ _ _ _ { s with heap:=hB.push (seqObj "list" vs.toArray 0) }
 rw [hz]
 refine qaa (qbE (qcm slot_list_sort ⟨_,hoL,rfl⟩ entry_list_sort (tz (s:={ s with heap:=hB.push (seqObj "list" vs.toArray 0) }) hoL h64 (λh' hk=>hyp h' λb o q=>hk b o (keep b o q).1 (keep b o q).2) hS λout a1 a2=>⟨_,rfl,?_⟩) (args_list_sort _)))
 refine qag ⟨_,rfl,?_⟩
 have:=h out a1 a2
 unfold sortedAll at this
 rw [hh] at this
 exact this
end
noncomputable def jL (h:Heap):Value->Option Value
 | .ref a=>match h.get? a with
  | some o=>match o.data with
   | .seq its _=>its[0]?
   | _=>none
  | none=>none
 | _=>none
theorem TuI.fst {h:Heap}{v:Value}{l:List Int} (t:TuI h v l):jL h v=none\/∃ n t,jL h v=some (.int n t):=by
 obtain⟨a,its,rfl,⟨o,ho,hc,n,hd⟩,hi⟩:=t
 simp only [jL,ho,hd]
 by_cases hz:0 < its.size
 ·obtain⟨t,e⟩:=gp hi 0 (by simpa using hz)
  exact .inr ⟨_,t,by rw [qaS hz];rw [qcZ] at e;rw [e]⟩
 ·exact .inl (Array.getElem?_eq_none (by lia))
section
variable {prog:Program}{w:World}{A:Around}{E:Value->Shared->Prop}{s:Shared}
theorem sO {v:Value}{l:List Int} (t:TuI s.heap v l) {Q:Value->Shared->Prop} (h:Q (.type "tuple") s):wpAny (model prog w) A (typeOf v) Q E s:=by
 obtain⟨a,its,rfl,⟨o,ho,hc,n,hd⟩,hi⟩:=t
 refine Looks.here (show Looks (model prog w) s.heap (typeOf (.ref a)) o.cls from (Looks.ld ho).andThen .now) ?_
 rw [hc];exact h
theorem tB {v:Value}{l:List Int} (t:TuI s.heap v l) {Q:Option Value->Shared->Prop} (h:Q (jL s.heap v) s):wpAny (model prog w) A (firstOfTuple' v) Q E s:=by
 rw [kas_first_eq]
 refine qaa (sO t ?_)
 obtain⟨a,its,rfl,⟨o,ho,hc,n,hd⟩,hi⟩:=t
 rw [if_neg (by simp)]
 simp only [jL,ho,hd] at h
 exact qaa (listItems_at ho hd (qag h))
theorem gi:∀ {vs:List Value}{Q:List (Option Value)->Shared->Prop},(∀ v ∈ vs,∃ l,TuI s.heap v l)->Q (vs.map (jL s.heap)) s->wpAny (model prog w) A (vs.mapM firstOfTuple') Q E s
 | [],_,_,h=>by rw [List.mapM_nil];exact qag h
 | v::vs,Q,t,h=>by
  rw [List.mapM_cons]
  obtain⟨l,tv⟩:=t v qai
  refine qaa (tB tv (qaa (gi (Q:=λbs s'=>wpAny (model prog w) A (pure (jL s.heap v::bs)) Q E s') (λu hu=>t u (qah _ hu)) (qag h))))
theorem rG {x y:Value}{l m:List Int} (hx:TuI s.heap x l) (hy:TuI s.heap y m) {Q:Bool->Shared->Prop} (h:Q (OI.blt (tuI s.heap x) (tuI s.heap y)) s):Q (cB l m) s:=by
 have h':Q (cB (tuI s.heap x) (tuI s.heap y)) s:=h
 rw [hx.is,hy.is] at h';exact h'
theorem uI {vs:List Value} (t:∀ v ∈ vs,∃ l,TuI s.heap v l) (hu:A.units < cLine):∃ κ,(2<=vs.length->∀ (Q':SortKind->Shared->Prop) E',Q' κ s->wpAny (model prog w) A (keyKind' vs.toArray) Q' E' s)/\
  Cm prog w A s κ OI (λp=>tuI s.heap p.1) (λp=>∃ l,TuI s.heap p.1 l):=by
 by_cases c1:(vs.map (jL s.heap)).toArray.all (·.isSome)=true
 ·refine⟨tuples' true,λh2 Q' E' hq=>?_,λx y ⟨l,hx⟩ ⟨m,hy⟩ Q E h=>hx.tups hy (rG hx hy h)⟩
  rw [qfD,qcS,map_eq_pure_bind]
  refine qaa (qaa (gi t (qag ?_)))
  rw [if_pos c1]
  refine qaa (qb8 ?_)
  have hf:∀ v ∈ (vs.map (jL s.heap)).filterMap id,∃ n t,v=.int n t:=λv hv=>by
   obtain⟨o,ho,e⟩:=qdS.mp hv
   obtain⟨u,hu,rfl⟩:=qaD.mp ho
   obtain⟨l,tu⟩:=t u hu
   rcases tu.fst with q | ⟨n,t',q⟩
   ·rw [q] at e;cases e
   ·rw [q] at e;exact⟨n,t',(qaA e).symm⟩
  have hl:∃ f fr,(vs.map (jL s.heap)).filterMap id=f::fr:=by
   match vs,h2,c1 with
   | v::vs,_,c1=>
    simp only [qal,qea,qb3,qa0] at c1
    obtain⟨u,hu⟩:=qcy.mp c1.1
    exact⟨u,(vs.map (jL s.heap)).filterMap id,by rw [qal,qc3,hu];rfl⟩
  obtain⟨f,fr,e⟩:=hl
  have e2:(vs.map (jL s.heap)).toArray.filterMap id=(f::fr).toArray:=by rw [<-e];simp
  rw [e2,qgW,qcS,map_eq_pure_bind]
  refine qaa (qaa (qaa (kas_mapM (r:=.type "int") _ (λv hv Q'' hq'=>?_) (qag ?_))))
  ·rw [<-e] at hv
   obtain⟨n,t',rfl⟩:=hf v hv
   exact qag hq'
  ·have h0:(List.map (λ_=>Value.type "int") (f::fr)).toArray[0]?=some (.type "int"):=by simp
   rw [h0]
   have hall:((List.map (λ_=>Value.type "int") (f::fr)).toArray.all λx=>x==.type "int")=true:=by
    simp only [qea,qd2,qaJ];intro _ _;rfl
   simp only [hall,if_true]
   exact qag (qag hq)
 ·by_cases c2:((vs.map (jL s.heap)).toArray[0]?.bind id).isSome=true
  ·refine⟨general',λh2 Q' E' hq=>?_,λx y ⟨l,hx⟩ ⟨m,hy⟩ Q E h=>hx.one hy hu (rG hx hy h) false⟩
   rw [qfD,qcS,map_eq_pure_bind]
   refine qaa (qaa (gi t (qag ?_)))
   rw [if_neg c1,if_pos c2]
   exact qag hq
  ·refine⟨oneType',λh2 Q' E' hq=>?_,λx y ⟨l,hx⟩ ⟨m,hy⟩ Q E h=>hx.one hy hu (rG hx hy h) true⟩
   rw [qfD,qcS,map_eq_pure_bind]
   refine qaa (qaa (gi t (qag ?_)))
   rw [if_neg c1,if_neg c2,qgW,qcS,map_eq_pure_bind]
   refine qaa (qaa (qaa (kas_mapM (r:=.type "tuple") _ (λv hv Q'' hq'=>?_) (qag ?_))))
   ·obtain⟨l,tv⟩:=t v hv
    exact sO tv hq'
   ·obtain⟨v,vs,rfl⟩:∃ v r,vs=v::r:=by
     match vs,h2 with
     | v::r,_=>exact⟨v,r,rfl⟩
    have h0:(List.map (λ_=>Value.type "tuple") (v::vs)).toArray[0]?=some (.type "tuple"):=by simp
    rw [h0]
    have hall:((List.map (λ_=>Value.type "tuple") (v::vs)).toArray.all λx=>x==.type "tuple")=true:=by
     simp only [qea,qd2,qaJ];intro _ _;rfl
    simp only [hall,if_true]
    exact qag (qag hq)
theorem uL {vs:List Value}{ns:List Int} (t:IntsAre vs ns):(2<=vs.length->∀ (Q':SortKind->Shared->Prop) E',Q' oneType' s->wpAny (model prog w) A (keyKind' vs.toArray) Q' E' s)/\
  Cm prog w A s oneType' OI (λp=>[cy p.1]) (λp=>∃ n t,p.1=.int n t):=by
 refine⟨λh2 Q' E' hq=>?_,λx y ⟨n,t,hx⟩ ⟨m,u,hy⟩ Q E h=>?_⟩
 ·match vs,h2,t with
  | v1::v2::r,_,t=>rw [keyKind_ints t];exact qag hq
 ·rw [keyLt'_oneType,hx,hy]
  refine oneLt_int ?_
  have e:OI.blt [cy x.1] [cy y.1]=decide (n < m):=by
   rw [hx,hy]
   show (if n=m then cB [] [] else decide (n < m))=_
   by_cases q:n=m
   ·subst q;simp [cB]
   ·rw [if_neg q]
  rw [e] at h;exact h
end
noncomputable def rW (x:List Int):List (List Int)->List (List Int)
 | []=>[x]
 | y::ys=>if cB y x=true then y::rW x ys else x::y::ys
noncomputable def fg:List (List Int)->List (List Int)
 | []=>[]
 | x::xs=>rW x (fg xs)
theorem jP (x:List Int):∀ ys,(rW x ys).Perm (x::ys)
 | []=>qcK _
 | y::ys=>by
  unfold rW
  split
  ·exact (List.Perm.cons y (jP x ys)).trans (List.Perm.swap x y ys)
  ·exact qcK _
theorem dk:∀ xs,(fg xs).Perm xs
 | []=>qcK _
 | x::xs=>(jP x _).trans (List.Perm.cons x (dk xs))
noncomputable def leL (a b:List Int):Prop:=cB b a=false
theorem tj {a b c:List Int} (h:leL a b) (h':leL b c):leL a c:=qbe (O:=OI) h h'
theorem wP {a b:List Int} (h:leL a b) (h':leL b a):a=b:=jq a b h' h
theorem kq (x:List Int):∀ {ys:List (List Int)},ys.Pairwise leL->(rW x ys).Pairwise leL
 | [],_=>by simp [rW]
 | y::ys,h=>by
  unfold rW
  split
  ·rename_i hxy
   refine qa9.mpr ⟨λz hz=>?_,kq x (qa9.mp h).2⟩
   rcases qaF.mp ((jP x ys).mem_iff.mp hz) with rfl | hz
   ·exact qe7 (O:=OI) hxy
   ·exact (qa9.mp h).1 z hz
  ·rename_i hxy
   rw [qdl] at hxy
   refine qa9.mpr ⟨λz hz=>?_,h⟩
   rcases qaF.mp hz with rfl | hz
   ·exact hxy
   ·exact tj hxy ((qa9.mp h).1 z hz)
theorem dY:∀ xs,(fg xs).Pairwise leL
 | []=>List.Pairwise.nil
 | x::xs=>kq x (dY xs)
theorem jw {xs ys:List (List Int)} (p:xs.Perm ys) (h1:xs.Pairwise leL) (h2:ys.Pairwise leL):xs=ys:=
 qeb (λa b _ _ h1 h2=>wP h1 h2) h1 h2 p
noncomputable def jQ:List D->Option (List (List Int))
 | []=>some []
 | .tup l::ds=>(bQ l).bind λns=>(jQ ds).map λr=>ns::r
 | _=>none
noncomputable def ag (l:List Int):D:=.tup (l.map D.int)
theorem ko:∀ {ds:List D}{ls:List (List Int)},jQ ds=some ls->ds=ls.map ag
 | [],_,h=>by cases h;rfl
 | .tup l::ds,_,h=>by
  simp only [jQ,qab,qac] at h
  obtain⟨ns,e1,r,e2,rfl⟩:=h
  rw [ko e2,cM e1];rfl
 | .non::_,_,h=>by cases h
 | .bl _::_,_,h=>by cases h
 | .int _::_,_,h=>by cases h
 | .str _::_,_,h=>by cases h
 | .ty _::_,_,h=>by cases h
 | .dct::_,_,h=>by cases h
 | .scr _::_,_,h=>by cases h
 | .lst _::_,_,h=>by cases h
theorem lT:∀ (ls:List (List Int)),jQ (ls.map ag)=some ls
 | []=>rfl
 | l::ls=>by
  have:bQ (l.map D.int)=some l:=by
   induction l with
   | nil=>rfl
   | cons a l ih=>simp [bQ,ih]
  simp only [qal,ag,jQ,this,qad]
  rw [show List.map ag ls=List.map ag ls from rfl,lT ls];rfl
noncomputable def ni (ds:List D):Option (List D):=match bQ ds with
 | some ns=>some ((lB ns).map D.int)
 | none=>(jQ ds).map λls=>(fg ls).map ag
noncomputable def gB (st:Sto):List W->Option (List D)
 | [w]=>(lsD st w).bind λds=>if ds.length<=64 then ni ds else none
 | _=>none
section
variable {K:PySem.W.Frag}{X:Cx}{pins:List (Addr×Obj)}{σ:St}{H:Hp}{s:Shared}{φ:List Addr}
noncomputable def toV:Value->V
 | .ref a=>.ref a
 | _=>.non
theorem xw {l:List Int}{v:V}{u:Value} (I:Inv X pins σ H s) (r:Rl X.K H φ (ag l) v) (q:bi v u):TuI s.heap u l/\v=toV u/\bi (toV u) u:=by
 obtain⟨a,vs,rfl,h1,h2⟩:=r
 obtain⟨its,rv,p,_⟩:=I.tuple (SqT.of h1)
 have e:=h2.ints
 subst e
 have e:u=.ref a:=q
 subst e
 exact⟨⟨a,its.toArray,rfl,p,by simpa using eR rv⟩,rfl,rfl⟩
theorem pO (I:Inv X pins σ H s):∀ {ls:List (List Int)}{vs:List V}{us:List Value},Rls X.K H φ (ls.map ag) vs->aN vs us->
  us.map (tuI s.heap)=ls/\∀ u ∈ us,TuI s.heap u (tuI s.heap u)/\Rl X.K H φ (ag (tuI s.heap u)) (toV u)/\bi (toV u) u
 | [],_,us,h,q=>by cases h;cases q;exact⟨rfl,λu hu=>by cases hu⟩
 | l::ls,_,us,h,q=>by
  obtain⟨v,r,rfl,h1,h2⟩:=h
  cases q with
  | cons q1 q2=>
   rename_i u us
   obtain⟨t,e,e'⟩:=xw I h1 q1
   obtain⟨i1,i2⟩:=pO I h2 q2
   refine⟨by rw [qal,i1,t.is],λx hx=>?_⟩
   rcases qaF.mp hx with rfl | hx
   ·rw [t.is,<-e];exact⟨t,h1,q1⟩
   ·exact i2 x hx
theorem pG:∀ {us:List Value},(∀ u ∈ us,TuI s.heap u (tuI s.heap u)/\Rl K H φ (ag (tuI s.heap u)) (toV u)/\bi (toV u) u)->Rls K H φ (us.map λu=>ag (tuI s.heap u)) (us.map toV)/\aN (us.map toV) us
 | [],_=>⟨rfl,.nil⟩
 | u::us,h=>by
  have h1:=h u qai
  have h2:=pG λx hx=>h x (qah _ hx)
  exact⟨⟨_,_,rfl,h1.2.1,h2.1⟩,.cons h1.2.2 h2.2⟩
theorem kZ:∀ {us:List Value}{l:List Int},IntsAre us l->∀ u ∈ us,∃ n t,u=.int n t
 | _,_,.nil,u,hu=>by cases hu
 | _,_,.cons n t h,u,hu=>by
  rcases qaF.mp hu with rfl | hu
  ·exact⟨n,t,rfl⟩
  ·exact kZ h u hu
theorem m7:∀ {us:List Value},(∀ u ∈ us,∃ n t,u=.int n t)->IntsAre us (us.map cy)
 | [],_=>.nil
 | u::us,h=>by
  obtain⟨n,t,rfl⟩:=h u qai
  exact .cons n t (m7 λx hx=>h x (qah _ hx))
theorem qy {k:Nat} (hr:bh k X.A) (hK:X.K=K:=by rfl):zi K X (.builtin "sorted") gB:=by
 subst hK
 refine⟨λst ws d h=>?_⟩
 unfold gB at h
 split at h
 next w=>
  simp only [qab] at h
  obtain⟨ds,e1,h⟩:=h
  split at h
  ·rename_i hl
   intro pins s σ H xs us Q I rv q
   obtain⟨φ,S,⟨v,r,rfl,r1,rfl⟩,q⟩:=q
   obtain⟨a,vs,rfl,h1,h2⟩:=oK S r1 e1
   obtain⟨u,rfl,ru⟩:=gD rv
   cases ru
   obtain⟨its,rv',pl,hz⟩:=I.list (.inl h1)
   have hlen:its.length<=64:=by
    have:=rv'.length
    have:=h2.length
    lia
   have hun:X.A.in1.in1.units < cLine:=by
    have:=hr.un
    show X.A.units+1+1 < cLine
    lia
   have hn:H (s.heap.objs.size+1)=none:=I.hok.fresh (qcB _)
   have lay:∀ (out:List Value) (vs':List V),aN vs' out->out.length<=64->Inv X pins σ (upd H (s.heap.objs.size+1) (.lst vs')) { s with heap:=sortedAll s.heap its out.toArray }:=λout vs' hv ho=>by
    obtain⟨ep,he⟩:=sortedAll_at s.heap its out.toArray
    refine I.laid (t':=s.toks) (a:=s.heap.objs.size+1) (o:=.lst vs') (λb o q=>sortedAll_old q) (qcB _) ⟨?_,out,ep,hv,by simpa [seqObj] using he⟩
    rw [hv.length];exact kP (by lia)
   unfold ni at h
   cases hi:bQ ds with
   | some ns=>
    rw [hi] at h
    cases h
    cases cM hi
    cases h2.ints
    have hI:=eR rv'
    refine lU (O:=OI) (rk:=λp=>[cy p.1]) (S:=λp=>∃ n t,p.1=.int n t) pl.isList hlen (λh' _=>⟨oneType',uL (s:={ s with heap:=h' }) hI⟩) (λv hv=>kZ hI v hv) λout a1 a2=>?_
    have ho:∀ u ∈ out,∃ n t,u=.int n t:=λu hu=>kZ hI u (a1.mem_iff.mp hu)
    have hp:(out.map cy).Perm ns:=by
     have:=a1.map cy
     rw [lM hI] at this;exact this
    have hs:(out.map cy).Pairwise (·<=·):=by
     rw [qcQ]
     refine a2.imp λ{x y} q=>?_
     have q':cB [cy y] [cy x]=false:=q
     by_cases e:cy y=cy x
     ·lia
     ·have:cB [cy y] [cy x]=decide (cy y < cy x):=by show (if _ then _ else _)=_;rw [if_neg e]
      rw [this,decide_eq_false_iff_not] at q';lia
    have e:out.map cy=lB ns:=qA (hp.trans (j7 ns).symm) hs (iM ns)
    have hv:=je (m7 ho)
    rw [e] at hv
    exact⟨.ref _,_,lay out _ hv (by rw [a1.length_eq];exact hlen),rfl,q _ _ H (bx.refl H) hn (Rls.of_ints _)⟩
   | none=>
    rw [hi] at h
    obtain⟨ls,hls,rfl⟩:=qac.mp h
    cases ko hls
    obtain⟨m1,m2⟩:=pO I h2 rv'
    refine lU (O:=OI) (rk:=λp=>tuI s.heap p.1) (S:=λp=>∃ l,TuI s.heap p.1 l) pl.isList hlen (λh' hk=>?_) (λv hv=>⟨_,(m2 v hv).1⟩) λout a1 a2=>?_
    ·obtain⟨κ,k1,k2⟩:=uI (prog:=X.prog) (w:=X.w) (s:={ s with heap:=h' }) (vs:=its) (λv hv=>⟨_,(m2 v hv).1.fit hk⟩) hun
     refine⟨κ,k1,λx y ⟨l,hx⟩ ⟨m,hy⟩ Q E hq=>k2 x y ⟨l,hx.fit hk⟩ ⟨m,hy.fit hk⟩ Q E ?_⟩
     have hx':=hx.fit hk
     have hy':=hy.fit hk
     have hq':Q (cB (tuI s.heap x.1) (tuI s.heap y.1)) { s with heap:=h' }:=hq
     show Q (cB (tuI h' x.1) (tuI h' y.1)) { s with heap:=h' }
     rw [hx'.is,hy'.is]
     rw [hx.is,hy.is] at hq'
     exact hq'
    ·have ho:=λu hu=>m2 u (a1.mem_iff.mp hu)
     obtain⟨b1,b2⟩:=pG (K:=X.K) (H:=H) (φ:=φ) ho
     have hp:(out.map (tuI s.heap)).Perm ls:=by
      have:=a1.map (tuI s.heap)
      rw [m1] at this;exact this
     have hs:(out.map (tuI s.heap)).Pairwise leL:=by
      rw [qcQ]
      exact a2.imp λ{x y} q=>q
     have e:out.map (tuI s.heap)=fg ls:=jw (hp.trans (dk ls).symm) hs (dY ls)
     have e2:(out.map λu=>ag (tuI s.heap u))=(fg ls).map ag:=by rw [<-e,qaN];rfl
     rw [e2] at b1
     exact⟨.ref _,_,lay out _ b2 (by rw [a1.length_eq];exact hlen),rfl,q _ _ H (bx.refl H) hn b1⟩
  ·cases h
 next=>cases h
end
end L2
namespace L2
open PySem PySem.Spec PyProof.Rows
open PySem.AutoSeq1 (wpAny_loadPart')
noncomputable def SIt (k:Bool) (h:Heap) (it l:Addr) (i:Nat):Prop:=match k with
 | true=>h.IsTupleIter it l i
 | false=>h.IsListIter it l i
noncomputable def SIs (k:Bool) (h:Heap) (l:Addr) (xs:Array Value):Prop:=match k with
 | true=>h.IsTuple l xs
 | false=>h.IsList l xs
theorem SIt.to {k:Bool}{h h':Heap}{it l:Addr}{i:Nat} (a:SIt k h it l i) (f:∀ o,h.get? it=some o->h'.get? it=some o):SIt k h' it l i:=by
 cases k with
 | true=>exact Heap.IsTupleIter.at a f
 | false=>exact Heap.IsListIter.at a f
theorem SIs.to {k:Bool}{h h':Heap}{l:Addr}{xs:Array Value} (a:SIs k h l xs) (f:∀ o,h.get? l=some o->h'.get? l=some o):SIs k h' l xs:=by
 cases k with
 | true=>obtain⟨o,e,r⟩:=a;exact⟨o,f o e,r⟩
 | false=>exact Heap.IsList.at a f
theorem SIt.live {k:Bool}{h:Heap}{it l:Addr}{i:Nat} (a:SIt k h it l i):∃ o vs,h.get? it=some o/\o.data=.fields vs:=by
 cases k with
 | true=>obtain⟨o,e,_,d⟩:=a;exact⟨o,_,e,d⟩
 | false=>obtain⟨o,e,_,d⟩:=a;exact⟨o,_,e,d⟩
section
variable {prog:Program}{w:World}{A:Around}{E:Value->Shared->Prop}{s:Shared}{k k2:Bool}
theorem ox {it l:Addr}{i:Nat}{xs:Array Value}{x:Value}{Q:Value->Shared->Prop} (hit:SIt k s.heap it l i) (hl:SIs k s.heap l xs) (hx:xs[i]?=some x)
  (hQ:∀ h',SIt k h' it l (i+1)->Heap.SameBut it s.heap h'->Q x { s with heap:=h' }):wpAny (model prog w) A (Builtin.SmallTypes.nextOf (.ref it)) Q E s:=by
 cases k with
 | true=>exact fE hit hl hx hQ
 | false=>exact wpAny_nextOf_list_item hit hl hx hQ
theorem vk {it l:Addr}{i:Nat}{xs:Array Value}{Q:Value->Shared->Prop} (hh:A.handled=none) (hit:SIt k s.heap it l i) (hl:SIs k s.heap l xs) (hx:xs[i]?=none)
  (hE:∀ h' e,Heap.ExtBut it s.heap h'->(∃ o,h'.get? e=some o/\o.cls=.type "StopIteration")->E (.ref e) { s with heap:=h' }):wpAny (model prog w) A (Builtin.SmallTypes.nextOf (.ref it)) Q E s:=by
 cases k with
 | true=>exact gg hh hit hl hx hE
 | false=>exact wpAny_nextOf_list_end hh hit hl hx hE
variable {z TI TO i1 i2 l1 l2:Addr}{n:Nat}{xs ys:Array Value}{a b:Value}
structure ZSt (k k2:Bool) (z TI TO i1 i2 l1 l2:Addr) (f0:Value) (n:Nat) (h:Heap):Prop where
 z:IsZip h z TI TO f0
 ti:IsPair h TI (.ref i1) (.ref i2)
 to:∃ a b,IsPair h TO a b
 t1:SIt k h i1 l1 n
 t2:SIt k2 h i2 l2 n
set_option maxHeartbeats 1000000 in
theorem vR {x y:Value}{Q:Option Value->Shared->Prop} (D:ZipApart z TI TO i1 i2 l1 l2) (hs:ZSt k k2 z TI TO i1 i2 l1 l2 .none n s.heap) (hl1:SIs k s.heap l1 xs) (hl2:SIs k2 s.heap l2 ys) (hx:xs[n]?=some x) (hy:ys[n]?=some y)
  (hQ:∀ h',ZSt k k2 z TI TO i1 i2 l1 l2 (rawInt s.heap.objs.size) (n+1) h'->IsPair h' s.heap.objs.size x y->h'.objs.size=s.heap.objs.size+1->
    (∀ c o,c≠z->c≠TO->c≠i1->c≠i2->s.heap.get? c=some o->h'.get? c=some o)->Q (some (.ref s.heap.objs.size)) { s with heap:=h' }) :
  wpAny (model prog w) A (pyNext (.ref z)) Q E s:=by
 obtain⟨hz,hTI,⟨a,b,hTO⟩,h1,h2⟩:=hs
 have hT:s.TypeIs (.ref z) "zip":=⟨_,hz,rfl⟩
 unfold pyNext
 refine qaa (qe1 (qbX (name:=Str.ofString "__next__") hT qdF (qcm qdF hT qfS ?_ (qfL _))))
 show wpAny _ _ (field (.ref z) 2 >>= _) _ _ _
 refine qaa (qbO hz rfl (x:=.bool false) rfl ?_)
 show wpAny _ _ (field (.ref z) 3 >>= _) _ _ _
 refine qaa (qbO hz rfl (x:=.ref TI) rfl (qaa (qbd hTI rfl ?_)))
 show wpAny _ _ (Builtin.SmallTypes.ownedTupleIsFree (.ref z) >>= _) _ _ _
 refine qaa ?_
 unfold Builtin.SmallTypes.ownedTupleIsFree
 refine qaa (qbO hz rfl (x:=.none) rfl (qag ?_))
 simp only [if_true]
 refine qaa (qb8 (qaa (qbO hz rfl (x:=.ref TO) rfl ?_)))
 refine qaa (qcp hz (by simp) λg1 hz1 s1=>?_)
 replace hz1:IsZip g1 z TI TO .ellipsis:=hz1
 refine qaa ?_
 simp only [qd7,qfx,qek,qdE]
 have e1:=s1.extBut
 refine qaa (qaa (qee ?_))
 show wpAny _ _ (Builtin.SmallTypes.nextOf (.ref i1) >>= _) _ _ _
 refine qaa (ox (h1.to λo q=>e1 _ o D.i1z q) (hl1.to λo q=>e1 _ o D.l1z q) hx λg2 h12 s2=>qag ?_)
 have e2:=s2.extBut
 have hTO2:IsPair g2 TO a b:=e2 _ _ D.TOi1 (e1 _ _ D.TOz hTO)
 refine qaa (qbd hTO2 rfl (qaa (qdV hTO2 λg3 hTO3 s3=>?_)))
 replace hTO3:IsPair g3 TO x b:=hTO3
 have e3:=s3.extBut
 refine qaa (qbN (qag ?_))
 refine qaa (qaa (qee ?_))
 show wpAny _ _ (Builtin.SmallTypes.nextOf (.ref i2) >>= _) _ _ _
 refine qaa (ox (h2.to λo q=>e3 _ o D.TOi2.symm (e2 _ o D.i12.symm (e1 _ o D.i2z q))) (hl2.to λo q=>e3 _ o D.l2TO (e2 _ o D.l2i1 (e1 _ o D.l2z q))) hy λg4 h24 s4=>qag ?_)
 have e4:=s4.extBut
 have hTO4:IsPair g4 TO x b:=e4 _ _ D.TOi2 hTO3
 refine qaa (qbd hTO4 rfl (qaa (qdV hTO4 λg5 hTO5 s5=>?_)))
 replace hTO5:IsPair g5 TO x y:=hTO5
 have e5:=s5.extBut
 refine qaa (qbN (qag (qag ?_)))
 refine qaa (qbd hTO5 rfl (qaa (qg2 ?_)))
 have hsz:g5.objs.size=s.heap.objs.size:=by rw [s5.1,s4.1,s3.1,s2.1,s1.1]
 have hz5:IsZip g5 z TI TO .ellipsis:=e5 _ _ D.TOz.symm (e4 _ _ D.i2z.symm (e3 _ _ D.TOz.symm (e2 _ _ D.i1z.symm hz1)))
 have kp:∀ c o,c≠z->c≠TO->c≠i1->c≠i2->s.heap.get? c=some o->g5.get? c=some o:=λc o c1 c2 c3 c4 e=>e5 _ _ c2 (e4 _ _ c4 (e3 _ _ c2 (e2 _ _ c3 (e1 _ _ c1 e))))
 have h15:SIt k g5 i1 l1 (n+1):=h12.to λo q=>e5 _ o D.TOi1.symm (e4 _ o D.i12 (e3 _ o D.TOi1.symm q))
 have h25:SIt k2 g5 i2 l2 (n+1):=h24.to λo q=>e5 _ o D.TOi2.symm q
 have hzlt:z < g5.objs.size:=qao hz5
 show wpAny _ _ (Builtin.SmallTypes.ownedTupleHandOut (.ref z) (.ref g5.objs.size) >>= _) _ _ _
 refine qaa ?_
 unfold Builtin.SmallTypes.ownedTupleHandOut
 have hz6:IsZip (g5.push { cls:=.type "tuple",data:=.seq #[x,y] }) z TI TO .ellipsis:=qae _ hz5
 refine qaa (qcp hz6 (by simp) λg7 hz7 s7=>?_)
 replace hz7:IsZip g7 z TI TO (rawInt g5.objs.size):=hz7
 refine qcp hz7 (by simp) λg8 hz8 s8=>?_
 replace hz8:IsZip g8 z TI TO (rawInt g5.objs.size):=hz8
 have up:∀ c o,c≠z->g5.get? c=some o->g8.get? c=some o:=λc o c1 e=>s8.extBut _ _ c1 (s7.extBut _ _ c1 (qae _ e))
 have hT8:IsPair g8 g5.objs.size x y:=s8.extBut _ _ (qb4 hzlt) (s7.extBut _ _ (qb4 hzlt) (qav _ rfl))
 have hz9:g8.objs.size=g5.objs.size+1:=by rw [s8.1,s7.1,qbc]
 rw [hsz] at hz8 hT8 hz9
 refine qag ⟨_,rfl,qag ?_⟩
 show Q (some (.ref g5.objs.size)) _
 rw [hsz]
 exact hQ g8 ⟨hz8,up _ _ D.TIz (kp _ _ D.TIz D.TITO D.TIi1 D.TIi2 hTI),⟨_,_,up _ _ D.TOz hTO5⟩,h15.to λo q=>up _ o D.i1z q,h25.to λo q=>up _ o D.i2z q⟩ hT8 hz9 λc o c1 c2 c3 c4 e=>up c o c1 (kp c o c1 c2 c3 c4 e)
set_option maxHeartbeats 1000000 in
theorem ym {Q:Option Value->Shared->Prop} (hh:A.in1.handled=none) (D:ZipApart z TI TO i1 i2 l1 l2) (hs:ZSt k k2 z TI TO i1 i2 l1 l2 .none n s.heap) (hl1:SIs k s.heap l1 xs) (hl2:SIs k2 s.heap l2 ys) (hend:xs[n]?=none\/ys[n]?=none)
  (hQ:∀ h',(∀ c o,c≠z->c≠TO->c≠i1->c≠i2->s.heap.get? c=some o->h'.get? c=some o)->Q none { s with heap:=h' }):wpAny (model prog w) A (pyNext (.ref z)) Q E s:=by
 obtain⟨hz,hTI,⟨a,b,hTO⟩,h1,h2⟩:=hs
 have hT:s.TypeIs (.ref z) "zip":=⟨_,hz,rfl⟩
 have fin:∀ (h':Heap) (e:Addr),(∀ c o,c≠z->c≠TO->c≠i1->c≠i2->s.heap.get? c=some o->h'.get? c=some o)->(∃ o,h'.get? e=some o/\o.cls=.type "StopIteration")->
   wpAny (model prog w) A (do if (<-isInstance (.ref e) (.type "StopIteration")) then pure none else throw (.ref e)) Q E { s with heap:=h' }:=λh' e hk ⟨o,ho,hc⟩=>
  qaa (wpAny_isInstance (T:="StopIteration") (b:=true) ⟨o,ho,hc⟩ isSubtype_stop (qag (hQ _ hk)))
 unfold pyNext
 refine qaa (qe1 (qbX (name:=Str.ofString "__next__") hT qdF (qcm qdF hT qfS ?_ (qfL _))))
 show wpAny _ _ (field (.ref z) 2 >>= _) _ _ _
 refine qaa (qbO hz rfl (x:=.bool false) rfl ?_)
 show wpAny _ _ (field (.ref z) 3 >>= _) _ _ _
 refine qaa (qbO hz rfl (x:=.ref TI) rfl (qaa (qbd hTI rfl ?_)))
 show wpAny _ _ (Builtin.SmallTypes.ownedTupleIsFree (.ref z) >>= _) _ _ _
 refine qaa ?_
 unfold Builtin.SmallTypes.ownedTupleIsFree
 refine qaa (qbO hz rfl (x:=.none) rfl (qag ?_))
 simp only [if_true]
 refine qaa (qb8 (qaa (qbO hz rfl (x:=.ref TO) rfl ?_)))
 refine qaa (qcp hz (by simp) λg1 hz1 s1=>?_)
 replace hz1:IsZip g1 z TI TO .ellipsis:=hz1
 refine qaa ?_
 simp only [qd7,qfx,qek,qdE]
 have e1:=s1.extBut
 refine qaa (qaa (qee ?_))
 show wpAny _ _ (Builtin.SmallTypes.nextOf (.ref i1) >>= _) _ _ _
 cases hx:xs[n]? with
 | none=>
  refine qaa (vk hh (h1.to λo q=>e1 _ o D.i1z q) (hl1.to λo q=>e1 _ o D.l1z q) hx λg2 e s2 he=>?_)
  obtain⟨oe,hoe,hce⟩:=he
  have hz2:IsZip g2 z TI TO .ellipsis:=s2 _ _ D.i1z.symm hz1
  have hez:e≠z:=λx=>by subst x;rw [hz2] at hoe;cases hoe;simp at hce
  exact qcp hz2 (by simp) λg3 _ s3=>fin g3 e (λc o c1 _ c3 _ x=>s3.extBut _ _ c1 (s2 _ _ c3 (e1 _ _ c1 x))) ⟨oe,s3.extBut _ _ hez hoe,hce⟩
 | some x=>
  have hy:ys[n]?=none:=by rcases hend with h | h;rw [hx] at h;cases h;exact h
  refine qaa (ox (h1.to λo q=>e1 _ o D.i1z q) (hl1.to λo q=>e1 _ o D.l1z q) hx λg2 h12 s2=>qag ?_)
  have e2:=s2.extBut
  have hTO2:IsPair g2 TO a b:=e2 _ _ D.TOi1 (e1 _ _ D.TOz hTO)
  refine qaa (qbd hTO2 rfl (qaa (qdV hTO2 λg3 hTO3 s3=>?_)))
  have e3:=s3.extBut
  refine qaa (qbN (qag ?_))
  refine qaa (qaa (qee ?_))
  show wpAny _ _ (Builtin.SmallTypes.nextOf (.ref i2) >>= _) _ _ _
  refine qaa (vk hh (h2.to λo q=>e3 _ o D.TOi2.symm (e2 _ o D.i12.symm (e1 _ o D.i2z q))) (hl2.to λo q=>e3 _ o D.l2TO (e2 _ o D.l2i1 (e1 _ o D.l2z q))) hy λg4 e s4 he=>?_)
  obtain⟨oe,hoe,hce⟩:=he
  have hz4:IsZip g4 z TI TO .ellipsis:=s4 _ _ D.i2z.symm (e3 _ _ D.TOz.symm (e2 _ _ D.i1z.symm hz1))
  have hez:e≠z:=λx=>by subst x;rw [hz4] at hoe;cases hoe;simp at hce
  exact qcp hz4 (by simp) λg5 _ s5=>fin g5 e (λc o c1 c2 c3 c4 x=>s5.extBut _ _ c1 (s4 _ _ c4 (e3 _ _ c2 (e2 _ _ c3 (e1 _ _ c1 x))))) ⟨oe,s5.extBut _ _ hez hoe,hce⟩
end
noncomputable def Bc (k:Bool):Value:=if k=true then .type "tuple_iterator" else .type "list_iterator"
noncomputable def mk (k:Bool) (l:Addr):Obj:={ cls:=Bc k,data:=.fields #[.ref l,.int 0 0] }
abbrev zH1 (k:Bool) (h:Heap) (l1:Addr):Heap:=h.push (mk k l1)
abbrev zH2 (k k2:Bool) (h:Heap) (l1 l2:Addr):Heap:=(zH1 k h l1).push (mk k2 l2)
abbrev zH3 (k k2:Bool) (h:Heap) (l1 l2:Addr):Heap:=(zH2 k k2 h l1 l2).push { cls:=.type "tuple",data:=.seq #[.ref h.objs.size,.ref (zH1 k h l1).objs.size] }
abbrev zH4 (k k2:Bool) (h:Heap) (l1 l2:Addr):Heap:=(zH3 k k2 h l1 l2).push { cls:=.type "tuple",data:=.seq #[.none,.none] }
abbrev zH5 (k k2:Bool) (h:Heap) (l1 l2:Addr):Heap:=(zH4 k k2 h l1 l2).push { cls:=.type "zip",data:=.fields #[.none,.bool false,.bool false,.ref (zH2 k k2 h l1 l2).objs.size,.ref (zH3 k k2 h l1 l2).objs.size] }
section
variable {prog:Program}{w:World}{A:Around}{E:Value->Shared->Prop}{s:Shared}{k k2:Bool}
theorem oX {l:Addr}{xs:Array Value}{Q:Value->Shared->Prop} (hl:SIs k s.heap l xs) (h:Q (.ref s.heap.objs.size) { s with heap:=s.heap.push (mk k l) }):wpAny (model prog w) A (pyIter (.ref l)) Q E s:=by
 cases k with
 | true=>exact qca hl h
 | false=>exact qc0 hl h
theorem mQ (l1 l2:Addr) (xs ys:Array Value) (k k2:Bool) :
  Meets (Builtin.«zip.__new__» ⟨[.type "zip",.ref l1,.ref l2],[]⟩) (λ_ R s=>SIs k s.heap l1 xs/\SIs k2 s.heap l2 ys/\R (.ok (.ret (.ref (zH4 k k2 s.heap l1 l2).objs.size))) { s with heap:=zH5 k k2 s.heap l1 l2 }):=
 .of_wp λprog w A R s h=>by
  obtain⟨hp,g,d,tk,os⟩:=s
  obtain⟨hl1,hl2,h⟩:=h
  have hsub:=sub_zip
  have hL1:SIs k (Shared.heap ⟨hp,g,d,tk,os⟩) l1 xs:=hl1
  have hL2:SIs k2 (Shared.heap ⟨hp.push (mk k l1),g,d,tk,os⟩) l2 ys:=hl2.to λo q=>qae _ q
  wp_walk using oX hL1,oX hL2
  exact⟨_,rfl,h⟩
theorem pq (k:Bool) {h:Heap}{it l:Addr} (e:h.get? it=some (mk k l)):SIt k h it l 0:=by
 cases k with
 | true=>exact⟨_,e,rfl,rfl⟩
 | false=>exact⟨_,e,rfl,rfl⟩
theorem oh {l1 l2:Addr}{xs ys:Array Value}{Q:Value->Shared->Prop} (hl1:SIs k s.heap l1 xs) (hl2:SIs k2 s.heap l2 ys)
  (h:∀ h',ZSt k k2 (s.heap.objs.size+4) (s.heap.objs.size+2) (s.heap.objs.size+3) s.heap.objs.size (s.heap.objs.size+1) l1 l2 .none 0 h'->
    (∀ c o,s.heap.get? c=some o->h'.get? c=some o)->Q (.ref (s.heap.objs.size+4)) { s with heap:=h' }) :
  wpAny (model prog w) A (call (.type "zip") [.ref l1,.ref l2]) Q E s:=by
 refine callType_new F.called_zip (by decide) (F.typeCall_zip_2 _ _) (F.newCall_zip_2 _ _) (λobj=>F.args_object_init_3 obj _ _) F.entry_zip_new (mQ l1 l2 xs ys k k2) ⟨hl1,hl2,?_⟩
 have z1:(zH1 k s.heap l1).objs.size=s.heap.objs.size+1:=qbc ..
 have z2:(zH2 k k2 s.heap l1 l2).objs.size=s.heap.objs.size+2:=by rw [qbc,z1]
 have z3:(zH3 k k2 s.heap l1 l2).objs.size=s.heap.objs.size+3:=by rw [qbc,z2]
 have z4:(zH4 k k2 s.heap l1 l2).objs.size=s.heap.objs.size+4:=by rw [qbc,z3]
 have up:∀ {h:Heap}{o':Obj}{c:Addr}{o:Obj},h.get? c=some o->(h.push o').get? c=some o:=λe=>qae _ e
 have g5:(zH5 k k2 s.heap l1 l2).get? (zH4 k k2 s.heap l1 l2).objs.size=some _:=qav _ rfl
 have g4:(zH5 k k2 s.heap l1 l2).get? (zH3 k k2 s.heap l1 l2).objs.size=some _:=up (qav _ rfl)
 have g3:(zH5 k k2 s.heap l1 l2).get? (zH2 k k2 s.heap l1 l2).objs.size=some _:=up (up (qav _ rfl))
 have g2:(zH5 k k2 s.heap l1 l2).get? (zH1 k s.heap l1).objs.size=some (mk k2 l2):=up (up (up (qav _ rfl)))
 have g1:(zH5 k k2 s.heap l1 l2).get? s.heap.objs.size=some (mk k l1):=up (up (up (up (qav _ rfl))))
 show _/\_
 rw [z2,z3,z4] at g5
 rw [z1,z2] at g3
 rw [z3] at g4
 rw [z1] at g2
 rw [z4]
 exact⟨⟨_,g5,rfl⟩,h _ ⟨g5,g3,⟨_,_,g4⟩,pq k g1,pq k2 g2⟩ λc o x=>up (up (up (up (up x))))⟩
end
noncomputable def SqK (k:Bool) (K:PySem.W.Frag) (H:Hp) (a:Addr) (xs:List V):Prop:=match k with
 | true=>SqT K H a xs
 | false=>SqL K H a xs
noncomputable def Itz (S1 S2:Hp->List V->Prop):It:=
 ⟨λi H=>∃ xs ys x y,S1 H xs/\S2 H ys/\xs[i]?=some x/\ys[i]?=some y,λi H x H'=>∃ T v u,(∀ xs,S1 H xs->xs[i]?=some v)/\(∀ ys,S2 H ys->ys[i]?=some u)/\H T=none/\x=.ref T/\H'=upd H T (.tup [v,u]),
  λi H=>∃ xs ys,S1 H xs/\S2 H ys/\(xs[i]?=none\/ys[i]?=none)⟩
theorem Inv.seqK {X:Cx}{pins:List (Addr×Obj)}{σ:St}{H:Hp}{s:Shared}{k:Bool}{a:Addr}{xs:List V} (I:Inv X pins σ H s) (h:SqK k X.K H a xs):∃ its:List Value,aN xs its/\SIs k s.heap a its.toArray:=by
 cases k with
 | true=>obtain⟨its,r,p,_⟩:=I.tuple h;exact⟨its,r,p⟩
 | false=>obtain⟨its,r,p,_⟩:=I.list h;exact⟨its,r,p.isList⟩
theorem Inv.seqK_inj {X:Cx}{pins:List (Addr×Obj)}{σ:St}{H:Hp}{s:Shared}{k:Bool}{a:Addr}{xs ys:List V} (I:Inv X pins σ H s) (h:SqK k X.K H a xs) (h':SqK k X.K H a ys):xs=ys:=by
 cases k with
 | true=>exact I.tuple_inj h h'
 | false=>exact I.list_inj h h'
theorem uX {P:Program}{w:World}{K:PySem.W.Frag}{elts:List Expr}{kk:Nat}{pos:Pos}{k k2:Bool}{z TI TO i1 i2 l1 l2:Addr} (D:ZipApart z TI TO i1 i2 l1 l2) :
  qJ P w K (.Tuple elts kk pos) (Itz (λH xs=>SqK k K H l1 xs) λH xs=>SqK k2 K H l2 xs) [z,TI,TO,i1,i2] z (λi h=>ZSt k k2 z TI TO i1 i2 l1 l2 .none i h) where
 mem:=by simp
 obj:=λi h st b hb=>by
  simp only [qaF,qcX,or_false] at hb
  rcases hb with rfl | rfl | rfl | rfl | rfl
  ·exact⟨_,st.z,λv z=>by cases z⟩
  ·exact⟨_,st.ti,λv z=>by cases z⟩
  ·obtain⟨a,b,e⟩:=st.to;exact⟨_,e,λv z=>by cases z⟩
  ·obtain⟨o,vs,e,d⟩:=st.t1.live;exact⟨o,e,λv z=>by rw [d] at z;cases z⟩
  ·obtain⟨o,vs,e,d⟩:=st.t2.live;exact⟨o,e,λv z=>by rw [d] at z;cases z⟩
 keep:=λi h h' st kp=>by
  obtain⟨a,b,e⟩:=st.to
  exact⟨kp z (by simp) _ st.z,kp TI (by simp) _ st.ti,⟨a,b,kp TO (by simp) _ e⟩,st.t1.to λo q=>kp i1 (by simp) o q,st.t2.to λo q=>kp i2 (by simp) o q⟩
 item:=by
  intro X hP hw hK hc i pins s σ H E I hf st hg
  subst hP hw hK
  obtain⟨xs,ys,x,y,hq1,hq2,hx,hy⟩:=hg
  obtain⟨us,rv1,p1⟩:=I.seqK hq1
  obtain⟨vs,rv2,p2⟩:=I.seqK hq2
  obtain⟨u,hu,ru⟩:=rv1.get hx
  obtain⟨v,hv,rv⟩:=rv2.get hy
  refine vR D st p1 p2 (x:=u) (y:=v) (by simpa using hu) (by simpa using hv) λh1 st1 hT hsz kp=>⟨_,rfl,?_⟩
  refine wpAny_letOwnedTupleGo_zip st1.z λh2 hz2 s2=>?_
  have e2:=s2.extBut
  obtain⟨c1,c2,hto⟩:=st1.to
  have nz:∀ b ∈ [z,TI,TO,i1,i2],b≠s.heap.objs.size:=λb hb e=>by
   obtain⟨o,ho,_⟩:=(show ∃ o,s.heap.get? b=some o/\True by
    simp only [qaF,qcX,or_false] at hb
    obtain⟨a',b',e'⟩:=st.to
    obtain⟨o1,_,q1,_⟩:=st.t1.live
    obtain⟨o2,_,q2,_⟩:=st.t2.live
    rcases hb with rfl | rfl | rfl | rfl | rfl
    ·exact⟨_,st.z,trivial⟩
    ·exact⟨_,st.ti,trivial⟩
    ·exact⟨_,e',trivial⟩
    ·exact⟨_,q1,trivial⟩
    ·exact⟨_,q2,trivial⟩)
   have:=qao ho
   rw [e] at this
   exact qbA _ this
  have hT2:dq h2 s.heap.objs.size #[u,v]:=⟨_,e2 _ _ (qbI (nz z (by simp))) hT,rfl,⟨_,rfl⟩,rfl⟩
  refine⟨.ref s.heap.objs.size,upd H s.heap.objs.size (.tup [x,y]),?_,rfl,⟨s.heap.objs.size,x,y,λzs hz=>by rw [I.seqK_inj hz hq1];exact hx,λzs hz=>by rw [I.seqK_inj hz hq2];exact hy,I.hok.fresh (qaq _),rfl,rfl⟩,?_,λb hb=>?_⟩
  ·have I2:Inv X pins σ (upd H s.heap.objs.size (.tup [x,y])) { s with heap:=h2,toks:=s.toks }:=I.turnsT (fp:=[z,TI,TO,i1,i2]) (h':=h2) (t':=s.toks) (its:=#[u,v]) hf (λb o hb q=>by
    simp only [qaF,qcX,or_false,not_or] at hb
    exact e2 b o hb.1 (kp b o hb.1 hb.2.2.1 hb.2.2.2.1 hb.2.2.2.2 q)) (qaq _) hT2 (.cons ru (.cons rv .nil)) (by show 2<=sizeLine;decide)
   exact I2
  ·exact⟨hz2,e2 _ _ D.TIz st1.ti,⟨c1,c2,e2 _ _ D.TOz hto⟩,st1.t1.to λo q=>e2 _ o D.i1z q,st1.t2.to λo q=>e2 _ o D.i2z q⟩
  ·rw [aK (nz b hb)];exact (hf b hb).1
 done:=by
  intro X hP hw hK hc i pins s σ H E I hf st hg
  subst hP hw hK
  obtain⟨xs,ys,hq1,hq2,hend⟩:=hg
  obtain⟨us,rv1,p1⟩:=I.seqK hq1
  obtain⟨vs,rv2,p2⟩:=I.seqK hq2
  have hl1:=rv1.length
  have hl2:=rv2.length
  refine ym (I.ok.hd hc) D st p1 p2 (by
   rcases hend with h | h
   ·left;rw [qbk] at h;simp;lia
   ·right;rw [qbk] at h;simp;lia) λh' kp=>⟨rfl,I.turns (t':=s.toks) (fp:=[z,TI,TO,i1,i2]) hf λb o hb q=>?_⟩
  simp only [qaF,qcX,or_false,not_or] at hb
  exact kp b o hb.1 hb.2.2.1 hb.2.2.2.1 hb.2.2.2.2 q
 self:=λ_ _ _ _ _ st h=>qf6 st.z h
noncomputable def Cd (K:PySem.W.Frag) (k k2:Bool) (ta:TA):L2.TI:=λσ H R=>ta σ H λvs H1=>∃ a b,vs=[.ref a,.ref b]/\(∃ xs,SqK k K H1 a xs)/\(∃ xs,SqK k2 K H1 b xs)/\R (Itz (λH xs=>SqK k K H a xs) λH xs=>SqK k2 K H b xs) H1
theorem zt {X:Cx}{elts:List Expr}{kk:Nat}{tpos:Pos}{a b:Expr}{ta:TA}{p pos:Pos}{k k2:Bool} (hg:Gl X "zip") (hm:X.mg "zip" = none) (ha:PA X [a,b] ta) (hs:starEach [a,b] X.env=[(false,eval a X.env),(false,eval b X.env)]:=by rfl) (hs2:starEach [b] X.env=[(false,eval b X.env)]:=by rfl) :
  PI X (.Tuple elts kk tpos) (.Call (.Name "zip" p) [a,b] [] pos) (Cd X.K k k2 ta):=by
 intro pins s σ H R I h
 refine Call_ (iU I hg hm boot_zip (qbQ (thn (ha pos pins s σ H _ I h) λus s1 ⟨vs,H1,I1,r1,q1⟩=>?_) (by rw [hs,hs2]) (by rw [hs2];rfl)))
 obtain⟨l,m,e,⟨xs,hq⟩,⟨ys,hq2⟩,q⟩:=q1
 subst e
 cases r1 with
 | cons r rr=>
  cases rr with
  | cons r' rr=>
   cases rr
   cases r
   cases r'
   obtain⟨us,rv1,p1⟩:=I1.seqK hq
   obtain⟨vs,rv2,p2⟩:=I1.seqK hq2
   have lt:∀ {k:Bool}{l:Addr}{us:Array Value},SIs k s1.heap l us->l < s1.heap.objs.size:=λ{k l us} hl=>by
    cases k with
    | true=>obtain⟨_,he,_⟩:=hl;exact qao he
    | false=>obtain⟨_,he,_⟩:=hl;exact qao he
   refine oh p1 p2 λh' hst hk=>qf6 hst.z ?_
   refine⟨_,[s1.heap.objs.size+4,s1.heap.objs.size+2,s1.heap.objs.size+3,s1.heap.objs.size,s1.heap.objs.size+1],_,_,H1,rfl,I1.kept (t':=s1.toks) hk,uX (zipApart_new (lt p1) (lt p2)),hst,λb hb=>?_,q⟩
   have hb':s1.heap.objs.size<=b:=by
    simp only [qaF,qcX,or_false] at hb
    rcases hb with rfl | rfl | rfl | rfl | rfl
    ·exact qcz _ 4
    ·exact qcz _ 2
    ·exact qcz _ 3
    ·exact qaq _
    ·exact qcz _ 1
   exact I1.fpOk hb' (I1.hok.fresh hb')
noncomputable def fO:List D->List D->List D
 | d::ds,e::es=>.tup [d,e]::fO ds es
 | _,_=>[]
noncomputable def xI:W->Option (Bool×List D)
 | .d (.tup ds)=>some (true,ds)
 | .d (.lst ds)=>some (false,ds)
 | _=>none
noncomputable def mz (af:Af):Lf
 | env,st=>(af env st).bind λr=>match r.1 with
  | [x,y]=>(xI x).bind λa=>(xI y).map λb=>(fO a.2 b.2,r.2)
  | _=>none
theorem jf:∀ (ds es:List D) (i:Nat),(fO ds es)[i]?=(ds[i]?).bind λd=>(es[i]?).map λe=>D.tup [d,e]
 | [],es,i=>by simp [fO]
 | d::ds,[],i=>by cases i<;>simp [fO]
 | d::ds,e::es,0=>by simp [fO]
 | d::ds,e::es,i+1=>by simpa [fO] using jf ds es i
theorem jy:∀ (ds es:List D),(fO ds es).length=min ds.length es.length
 | [],es=>by simp [fO]
 | d::ds,[]=>by simp [fO]
 | d::ds,e::es=>by simp [fO,jy ds es]
section
variable {K:PySem.W.Frag}{X:Cx}{a b:Expr}{pos:Pos}{af:Af}
theorem sD {st:Sto}{H:Hp}{φ:List Addr}{w:W}{v:V}{p:Bool×List D} (r:Rw K H φ w v) (e:xI w=some p) (S:Sr K H φ st):∃ a vs,v=.ref a/\SqK p.1 K H a vs/\(∀ H' φ',Fw φ φ' H H'->SqK p.1 K H' a vs)/\Rls K H φ p.2 vs:=by
 cases w with
 | h n=>cases e
 | d x=>
  cases x with
  | tup ds=>
   cases e
   obtain⟨a,us,rfl,hq,hr⟩:=r
   exact⟨a,us,rfl,(SqT.of hq),λH' φ' f=>(SqT.of hq).fw S f,hr⟩
  | lst ds=>
   cases e
   obtain⟨a,us,rfl,h0,hq,hr⟩:=r
   exact⟨a,us,rfl,.inl hq,λH' φ' f=>.inl (hq.fw f h0),hr⟩
  | _=>cases e
theorem AB {S1 S2:Hp->List V->Prop}{ds es:List D}{vs us:List V}{φ:List Addr}{H:Hp} (h1:∀ H' φ',Fw φ φ' H H'->S1 H' vs) (h2:∀ H' φ',Fw φ φ' H H'->S2 H' us) (r1:∀ H' φ',Fw φ φ' H H'->Rls K H' φ' ds vs) (r2:∀ H' φ',Fw φ φ' H H'->Rls K H' φ' es us) :
  Yl K φ H (Itz S1 S2) (fO ds es):=by
 intro H2 φ2 st2 i f2 s2
 have q1:=h1 H2 φ2 f2
 have q2:=h2 H2 φ2 f2
 have w1:=r1 H2 φ2 f2
 have w2:=r2 H2 φ2 f2
 refine⟨λd hd=>?_,λhi=>⟨vs,us,q1,q2,?_⟩⟩
 ·rw [jf,qab] at hd
  obtain⟨d1,hd1,hd⟩:=hd
  obtain⟨d2,hd2,rfl⟩:=qac.mp hd
  obtain⟨v,ev,rv⟩:=w1.get hd1
  obtain⟨u,eu,ru⟩:=w2.get hd2
  refine⟨⟨vs,us,v,u,q1,q2,ev,eu⟩,λx H' y=>?_⟩
  obtain⟨T,v',u',y1,y2,hT,rfl,rfl⟩:=y
  have z1:=y1 vs q1
  have z2:=y2 us q2
  rw [ev] at z1
  rw [eu] at z2
  cases z1
  cases z2
  exact⟨bx.new hT _,T,_,rfl,bm,_,_,rfl,rv.fw s2 (Fw.new hT),_,_,rfl,ru.fw s2 (Fw.new hT),rfl⟩
 ·rw [jy] at hi
  have l1:=w1.length
  have l2:=w2.length
  rw [qbk,qbk]
  lia
theorem wk {elts:List Expr}{k:Nat}{tpos p:Pos} (hg:Gl X "zip") (hm:X.mg "zip" = none) (ha:IA K X [a,b] af) (hs:aS a=true:=by rfl) (hs2:aS b=true:=by rfl) (hK:X.K=K:=by rfl) :
  II K X (.Tuple elts k tpos) (.Call (.Name "zip" p) [a,b] [] pos) (mz af):=by
 subst hK
 refine⟨λenv st r hr=>?_⟩
 simp only [mz,qab] at hr
 obtain⟨⟨ws,s1⟩,hy,hr⟩:=hr
 dsimp only at hr
 split at hr
 next x y=>
  simp only [qab,qac] at hr
  obtain⟨p1,hp1,p2,hp2,rfl⟩:=hr
  refine (zt (k:=p1.1) (k2:=p2.1) hg hm (ha.run _ _ _ hy) (vG hs hs2) (h8 hs2)).imp ?_
  rintro σ H R ⟨φ,hE,hS,q⟩
  refine⟨φ,hE,hS,λvs H1 φ1 f1 s1 w1=>?_⟩
  obtain⟨v,r,rfl,rx,v2,r',rfl,ry,rfl⟩:=w1
  obtain⟨a,us,rfl,hq,hq',hr⟩:=sD rx hp1 s1
  obtain⟨b,us2,rfl,hq2,hq2',hr2⟩:=sD ry hp2 s1
  exact⟨a,b,rfl,⟨us,hq⟩,⟨us2,hq2⟩,q _ H1 φ1 f1 s1 (AB hq' hq2' (λH' φ' f=>hr.fw s1 f) λH' φ' f=>hr2.fw s1 f)⟩
 next=>cases hr
end
end L2
namespace L2
open PySem PySem.Spec PyProof.Rows
noncomputable def gM:List Int->Int->Int
 | [],m=>m
 | n::ns,m=>gM ns (if n > m then n else m)
noncomputable def kH:List Int->Int->Int
 | [],m=>m
 | n::ns,m=>kH ns (if n < m then n else m)
section
variable {prog:Program}{w:World}{A:Around}{s:Shared}{I l S:Addr}{items:Array Value}{ns:List Int}{kw:List (Str×Value)}{R:Result->Shared->Prop}
theorem gc (h:IntsAre items.toList ns) {j:Nat}{n:Int} (hn:ns[j]?=some n):∃ t,items[j]?=some (.int n t):=by
 have hj:j < items.toList.length:=by rw [dI h];exact (qan.mp hn).1
 obtain⟨t,e⟩:=gp h j hj
 refine⟨t,?_⟩
 have hj':j < items.size:=by simpa using hj
 rw [qaS hj']
 rw [qcZ] at e
 rw [e,qbu,hn];rfl
theorem fZ (h:IntsAre items.toList ns) {j:Nat} (hn:ns[j]?=none):items[j]?=none:=by
 rw [qbk] at hn
 have:=dI h
 rw [Array.getElem?_eq_none_iff]
 rw [qbb] at this
 lia
theorem Ax (hh:A.handled=none) (hi:IntsAre items.toList ns) (hSI:S≠I) (hlI:l≠I) (hlS:l≠S):∀ (rest:List Int) (j:Nat) (s:Shared) (m:Int) (t:Tok) (c:Nat),ns.drop j=rest->s.heap.IsListIter I l j->s.heap.IsList l items->
  s.heap.get? S=some { cls:=.type "list",dict:=none,data:=.seq #[.int m t,.int m t] c,slots:=#[] }->
  (∀ t' h',(∀ b o,b≠I->b≠S->s.heap.get? b=some o->h'.get? b=some o)->R (.ok (.ret (.int (gM rest m) t'))) { s with heap:=h' })->codeAny (model prog w) A (.builtin "max.loop" ⟨[.ref I,.none,.ref S],kw⟩) R s:=by
 have hname:(toString "max"++toString ".loop" : String) = "max.loop":=by decide
 intro rest
 induction rest with
 | nil=>
  intro j s m t c hd hit hl hS hR
  have hn:ns[j]?=none:=by
   rw [qbk]
   have:=congrArg List.length hd
   simp at this;lia
  refine qb1 qcG ?_
  rw [qbv qbh _]
  show wpAny _ A.in1 (seqItems? (.ref S) >>= _) _ _ s
  refine qaa (qbd hS rfl ?_)
  show wpAny _ A.in1 (tryCatch (pyNext (.ref I)) _ >>= _) _ _ s
  refine qaa (qbn (qcs hh hit hl (fZ hi hn) λh1 e1=>?_))
  show wpAny _ A.in1 (updateSeq S (λ_=>#[]) >>= _) _ _ _
  refine qaa (qb0 (e1 _ _ hSI hS) rfl (qaa (qbN (qag ?_))))
  exact hR t _ λb o hb1 hb2 q=>(qar _ _ (qbI hb2)).trans (e1 _ _ hb1 q)
 | cons n rest ih=>
  intro j s m t c hd hit hl hS hR
  have hn:ns[j]?=some n:=by
   have:=congrArg (λl=>l[0]?) hd
   simpa using this
  have hd':ns.drop (j+1)=rest:=by
   have:=congrArg (List.drop 1) hd
   simpa [qda,qcE] using this
  obtain⟨tn,hx⟩:=gc hi hn
  refine qb1 qcG ?_
  rw [qbv qbh _]
  show wpAny _ A.in1 (seqItems? (.ref S) >>= _) _ _ s
  refine qaa (qbd hS rfl ?_)
  show wpAny _ A.in1 (tryCatch (pyNext (.ref I)) _ >>= _) _ _ s
  refine qaa (qbn (qco hit hl hx λh1 hit1 s1=>?_))
  have e1:=s1.extBut
  have hS1:=e1 _ _ hSI hS
  show wpAny _ A.in1 (tryCatch (holding [.int n tn,.int n tn] (richCompare .Gt (.int n tn) (.int m t) >>= _)) _ >>= _) _ _ _
  refine qaa (qbn (qbE (qaa (qei ?_))))
  refine qaa (qbE (qbM ?_))
  refine qaa (qbN (qag ?_))
  by_cases hb:n > m
  ·have hb':decide (n > m)=true:=by simp [hb]
   rw [hb']
   simp only [if_true]
   refine qaa (qb0 hS1 rfl (qaa (qbN ?_)))
   rw [hname]
   refine qag ⟨qbP qbh _,ih (j+1) _ n tn _ hd' (hit1.at λo q=>(qar _ _ hSI).trans q) (Heap.IsList.at hl λo q=>(qar _ _ (qbI hlS)).trans (e1 _ _ hlI q)) (qbD _ hS1 rfl) λt' h' k=>?_⟩
   have:=hR t' h' λb o hb1 hb2 q=>k b o hb1 hb2 ((qar _ _ (qbI hb2)).trans (e1 _ _ hb1 q))
   rw [gM,if_pos hb] at this
   exact this
  ·have hb':decide (n > m)=false:=by simp [hb]
   rw [hb']
   simp only [qaM,if_false]
   refine qaa (qbN ?_)
   rw [hname]
   refine qag ⟨qbP qbh _,ih (j+1) _ m t c hd' hit1 (Heap.IsList.at hl λo q=>e1 _ _ hlI q) hS1 λt' h' k=>?_⟩
   have:=hR t' h' λb o hb1 hb2 q=>k b o hb1 hb2 (e1 _ _ hb1 q)
   rw [gM,if_neg hb] at this
   exact this
variable {E:Value->Shared->Prop}
theorem dr {id:String}{b:Builtin}{args:List Value}{kw:List (Str×Value)}{Q:Value->Shared->Prop} (hk:builtinKind id=none) (hp:plainId id=true) (hb:entryFor table id=some b) (ha:argsOk id ⟨args,kw⟩)
  (hc:wpAny (model prog w) A.in1 (b ⟨args,kw⟩) (λfin s'=>match fin with
    | .done f=>(match (Except.ok f:Result) with | .ok (.ret v)=>Q v s' | .ok _=>False | .error e=>E e s')
    | .again c'=>c'.quiet=true/\codeAny (model prog w) A c' (λr s'=>match r with | .ok (.ret v)=>Q v s' | .ok _=>False | .error e=>E e s') s') E s) :
  wpAny (model prog w) A (call (.builtin id) args kw) Q E s:=by
 refine wpAny_call (codeAny_call_builtin hp hb ?_)
 simp only [checkBuiltinCall,hk]
 cases hsig:Manifest.signature? id with
 | none=>exact qag hc
 | some sig=>
  have h2:Bind.checkArgs id sig ⟨args,kw⟩=pure ():=by simpa only [argsOk,hsig] using ha
  show wpAny _ A.in1 (Bind.checkArgs id sig ⟨args,kw⟩) _ _ s
  rw [h2];exact qag hc
theorem nr (a v:Value):argsOk "max" ⟨[a],[(Str.ofString "default",v)]⟩:=by unfold argsOk;kernel_rfl
noncomputable def pp (ns:List Int) (d:Option Int):Option Int:=match ns with
 | n::r=>some (gM r n)
 | []=>d
theorem ur (hh:A.handled=none) (hi:IntsAre items.toList ns) (hSI:S≠I) (hlI:l≠I) (hlS:l≠S) {c:Nat} (hit:s.heap.IsListIter I l 0) (hl:s.heap.IsList l items) (hS:s.heap.get? S=some { cls:=.type "list",dict:=none,data:=.seq #[] c,slots:=#[] })
  (hR:∀ v h',(∀ b o,b≠I->b≠S->s.heap.get? b=some o->h'.get? b=some o)->(∀ n r,ns=n::r->∃ t,v=.int (gM r n) t)->(ns=[]->∃ k,kw=[(k,v)])->R (.ok (.ret v)) { s with heap:=h' })
  (h0:ns=[]->∃ k v,kw=[(k,v)]):codeAny (model prog w) A (.builtin "max.loop" ⟨[.ref I,.none,.ref S],kw⟩) R s:=by
 have hname:(toString "max"++toString ".loop" : String) = "max.loop":=by decide
 refine qb1 qcG ?_
 rw [qbv qbh _]
 show wpAny _ A.in1 (seqItems? (.ref S) >>= _) _ _ s
 refine qaa (qbd hS rfl ?_)
 show wpAny _ A.in1 (tryCatch (pyNext (.ref I)) _ >>= _) _ _ s
 cases hn:ns with
 | nil=>
  obtain⟨k,v,rfl⟩:=h0 hn
  refine qaa (qbn (qcs hh hit hl (fZ hi (j:=0) (by rw [hn];rfl)) λh1 e1=>?_))
  refine qaa (qb8 (qag ?_))
  exact hR v _ (λb o hb1 _ q=>e1 _ _ hb1 q) (λn r e=>by rw [hn] at e;cases e) λ_=>⟨k,rfl⟩
 | cons n rest=>
  obtain⟨tn,hx⟩:=gc hi (j:=0) (n:=n) (by rw [hn];rfl)
  refine qaa (qbn (qco hit hl hx λh1 hit1 s1=>?_))
  have e1:=s1.extBut
  have hS1:=e1 _ _ hSI hS
  show wpAny _ A.in1 (updateSeq S (λ_=>#[.int n tn,.int n tn]) >>= _) _ _ _
  refine qaa (qb0 hS1 rfl ?_)
  rw [hname]
  refine qag ⟨qbP qbh _,Ax hh hi hSI hlI hlS rest 1 _ n tn _ (by rw [hn];rfl) (hit1.at λo q=>(qar _ _ hSI).trans q) (Heap.IsList.at hl λo q=>(qar _ _ (qbI hlS)).trans (e1 _ _ hlI q)) (qbD _ hS1 rfl) λt' h' k=>?_⟩
  exact hR _ h' (λb o hb1 hb2 q=>k b o hb1 hb2 ((qar _ _ (qbI hb2)).trans (e1 _ _ hb1 q))) (λn' r' e=>by rw [hn] at e;cases e;exact⟨t',rfl⟩) λe=>by rw [hn] at e;cases e
theorem ot {Q:Value->Shared->Prop} (hh:A.handled=none) (hi:IntsAre items.toList ns) (hl:s.heap.IsList l items) (hk:kw=[]\/∃ v,kw=[(Str.ofString "default",v)]) (h0:ns=[]->kw≠[])
  (h:∀ v h',(∀ b o,s.heap.get? b=some o->h'.get? b=some o)->(∀ n r,ns=n::r->∃ t,v=.int (gM r n) t)->(ns=[]->∃ k,kw=[(k,v)])->Q v { s with heap:=h' }) :
  wpAny (model prog w) A (call (.builtin "max") [.ref l] kw) Q E s:=by
 have hname:(toString "max"++toString ".loop" : String) = "max.loop":=by decide
 have hlt:l < s.heap.objs.size:=by obtain⟨_,e,_⟩:=hl;exact qao e
 have hsz:(s.heap.push { cls:=.type "list_iterator",data:=.fields #[.ref l,.int 0 0] }).objs.size=s.heap.objs.size+1:=qbc ..
 have fin:∀ dd:List Value,kw=dd.map (λd=>((Str.ofString "default",d):Str×Value))->wpAny (model prog w) A.in1 (do
   let it <-pyIter (.ref l)
   let b <-newList []
   PySem.again (.builtin "max.loop" ⟨[it,.none,b],dd.map λd=>(Str.ofString "default",d)⟩)) (λfin s'=>match fin with
   | .done f=>(match (Except.ok f:Result) with | .ok (.ret v)=>Q v s' | .ok _=>False | .error e=>E e s')
   | .again c'=>c'.quiet=true/\codeAny (model prog w) A c' (λr s'=>match r with | .ok (.ret v)=>Q v s' | .ok _=>False | .error e=>E e s') s') E s:=λdd hdd=>by
  refine qaa (qc0 hl (qaa (qbo ?_)))
  refine qag ⟨qbP qbh _,?_⟩
  rw [<-hdd]
  refine ur (S:=(s.heap.push { cls:=.type "list_iterator",data:=.fields #[.ref l,.int 0 0] }).objs.size) (I:=s.heap.objs.size) (l:=l) hh hi (by rw [hsz];exact qc1 _) (qaw hlt) (by rw [hsz];exact qaw (qaO hlt))
   ⟨_,qae _ (qav _ rfl),rfl,rfl⟩ (Heap.IsList.at hl λo q=>qae _ (qae _ q)) (qav _ rfl) (λv h' k h1 h2=>?_) (λe=>?_)
  ·refine h v h' (λb o q=>?_) h1 h2
   have hb:=qao q
   exact k b o (qaw hb) (by rw [hsz];exact qaw (qaO hb)) (qae _ (qae _ q))
  ·rcases hk with hk | ⟨v,hk⟩
   ·exact absurd hk (h0 e)
   ·exact⟨_,v,hk⟩
 rcases hk with rfl | ⟨v,rfl⟩
 ·refine dr qeR qeE qeG (F.args_max1 _) ?_
  show wpAny _ A.in1 (Builtin.Builtins.bindParams "max" ["key","default"] 0 ⟨[],[]⟩ >>= _) _ _ s
  refine qaa (qdt (show Builtin.Builtins.bindParams "max" ["key","default"] 0 ⟨[],[]⟩=pure [none,none] from rfl) ?_)
  refine qaa (qag ?_)
  have:=fin [] rfl
  rw [<-hname] at this
  exact this
 ·refine dr qeR qeE qeG (nr _ _) ?_
  show wpAny _ A.in1 (Builtin.Builtins.bindParams "max" ["key","default"] 0 ⟨[],[(Str.ofString "default",v)]⟩ >>= _) _ _ s
  refine qaa (qdt (show Builtin.Builtins.bindParams "max" ["key","default"] 0 ⟨[],[(Str.ofString "default",v)]⟩=pure [none,some v] from by kernel_rfl) ?_)
  refine qaa (qag ?_)
  have:=fin [v] rfl
  rw [<-hname] at this
  exact this
end
section
variable {K:PySem.W.Frag}{X:Cx}{e a b:Expr}{es:List Expr}{pos:Pos}{f fa fb:Ef}{af:Af}
noncomputable def lsI (st:Sto) (w:W):Option (List Int):=(lsD st w).bind bQ
theorem tK (hc:X.calm=true) {kw:List (Str×Value)}{d:Option V}{ns:List Int}{pins:List (Addr×Obj)}{σ:St}{H:Hp}{s:Shared}{ad:Addr}{Q:VK}{E:XK}{r:Int} (I:Inv X pins σ H s) (hl:Rd H ad (.lst (ns.map V.int)))
  (hk:(kw=[]/\ns≠[])\/∃ c t,kw=[(Str.ofString "default",.int c t)]/\(ns=[]->r=c)) (hr:∀ n q,ns=n::q->r=gM q n) (q:Q (.int r) H) :
  wpAny (model X.prog X.w) X.A (call (.builtin "max") [.ref ad] kw) (EP X pins σ Q) X.xe s:=by
 obtain⟨its,rv,pl,hz⟩:=I.list (.inl hl)
 refine ot (items:=its.toArray) (ns:=ns) (I.ok.hd hc) (by simpa using eR rv) pl.isList ?_ ?_ λv h' kp h1 h2=>?_
 ·rcases hk with hk | ⟨c,t,hk,_⟩
  ·exact .inl hk.1
  ·exact .inr ⟨_,hk⟩
 ·intro e z
  rcases hk with hk | ⟨c,t,hk,_⟩
  ·exact hk.2 e
  ·rw [hk] at z;cases z
 ·have hv:∃ t,v=.int r t:=by
   cases hn:ns with
   | nil=>
    obtain⟨k,hk2⟩:=h2 hn
    rcases hk with hk | ⟨c,t,hk,hc'⟩
    ·exact absurd hn hk.2
    ·rw [hk] at hk2
     cases hk2
     rw [hc' hn];exact⟨t,rfl⟩
   | cons n q=>
    rw [hr n q hn]
    exact h1 n q hn
  exact⟨.int r,H,I.kept kp,hv,q⟩
noncomputable def dMx (st:Sto):List W->Option D
 | [.d (.int i),.d (.int j)]=>some (.int (if j > i then j else i))
 | [w]=>(lsI st w).bind λns=>(pp ns none).map D.int
 | _=>none
theorem sQ {st:Sto}{H:Hp}{φ:List Addr}{w:W}{v:V}{ns:List Int} (S:Sr K H φ st) (r:Rw K H φ w v) (h:lsI st w=some ns):∃ ad,v=.ref ad/\Rd H ad (.lst (ns.map V.int)):=by
 obtain⟨ds,e1,e2⟩:=qab.mp h
 obtain⟨ad,vs,rfl,h1,h2⟩:=oK S r e1
 cases cM e2
 cases h2.ints
 exact⟨ad,rfl,h1⟩
theorem BV (hc:X.calm=true:=by rfl):et K X (.builtin "max") dMx:=by
 refine⟨λst ws d h=>?_⟩
 have one:∀ w,((lsI st w).bind λns=>(pp ns none).map D.int)=some d->bS X (.builtin "max") (rCD K st [w] d):=λw h=>by
  obtain⟨ns,e1,h⟩:=qab.mp h
  obtain⟨r,e2,rfl⟩:=qac.mp h
  intro pins s σ H xs us Q I rv q
  obtain⟨φ,S,⟨v,rr,rfl,r1,rfl⟩,q⟩:=q
  obtain⟨ad,rfl,hl⟩:=sQ S r1 e1
  obtain⟨u,rfl,ru⟩:=gD rv
  cases ru
  refine tK (E:=λ_ _ _=>False) (d:=none) hc I hl (.inl ⟨rfl,λe=>by rw [e] at e2;cases e2⟩) (λn q hn=>by rw [hn] at e2;exact (qaA e2).symm) (q _ H (bx.refl H) rfl)
 match ws,h with
 | [.d (.int i),.d (.int j)],h=>
  cases h
  refine (uF hc).imp ?_
  rintro vs H Q ⟨φ,S,⟨v,r,rfl,r1,u,r',rfl,r2,rfl⟩,q⟩
  exact⟨i,j,by rw [show v=.int i from r1,show u=.int j from r2],q _ H (bx.refl H) rfl⟩
 | [w],h=>exact one w (by cases w with | h n=>exact h | d x=>cases x<;>exact h)
end
section
variable {K:PySem.W.Frag}{X:Cx}
noncomputable def BH (b:Bool):D->Bool
 | .bl c=>c==b
 | _=>false
noncomputable def A5 (_:Sto):W->W->Option D
 | .d x,.d (.bl b)=>some (.bl (BH b x))
 | _,_=>none
theorem pk {M:Model}{A:Around}{E:Value->Shared->Prop}{s:Shared}{Q:Value->Shared->Prop}{v:Value}{b:Bool} (hb:∀ id,v≠.builtin id) (h:Q (.bool (v==.bool b)) s):wpAny M A (compareOp .Is v (.bool b)) Q E s:=by
 cases v<;>first | exact qag h | exact absurd rfl (hb _)
theorem Bl {H:Hp}{φ:List Addr}{d:D}{v:V}{u:Value}{b:Bool} (r:Rl K H φ d v) (q:bi v u):BH b d=(u==.bool b):=by
 cases d with
 | bl c=>
  have r':v=.bl c:=r
  subst r'
  have q':u=.bool c:=q
  subst q'
  cases c<;>cases b<;>rfl
 | non=>have r':v=.non:=r;subst r';have q':u=.none:=q;subst q';rfl
 | int i=>have r':v=.int i:=r;subst r';obtain⟨t,rfl⟩:=q;rfl
 | str i=>have r':v=.str i:=r;subst r';obtain⟨t,rfl⟩:=q;rfl
 | ty i=>have r':v=.ty i:=r;subst r';have q':u=.type i:=q;subst q';rfl
 | dct=>obtain⟨a,rfl,_⟩:=r;have q':u=.ref a:=q;subst q';rfl
 | scr ns=>obtain⟨a,rfl,_⟩:=r;have q':u=.ref a:=q;subst q';rfl
 | tup ds=>obtain⟨a,vs,rfl,_⟩:=r;have q':u=.ref a:=q;subst q';rfl
 | lst ds=>obtain⟨a,vs,rfl,_⟩:=r;have q':u=.ref a:=q;subst q';rfl
theorem xf {H:Hp}{φ:List Addr}{d:D}{v:V}{u:Value} (r:Rl K H φ d v) (q:bi v u):∀ id,u≠.builtin id:=by
 intro id e
 subst e
 cases d with
 | bl c=>have r':v=.bl c:=r;subst r';cases q
 | non=>have r':v=.non:=r;subst r';cases q
 | int i=>have r':v=.int i:=r;subst r';obtain⟨t,h⟩:=q;cases h
 | str i=>have r':v=.str i:=r;subst r';obtain⟨t,h⟩:=q;cases h
 | ty i=>have r':v=.ty i:=r;subst r';cases q
 | dct=>obtain⟨a,rfl,_⟩:=r;cases q
 | scr ns=>obtain⟨a,rfl,_⟩:=r;cases q
 | tup ds=>obtain⟨a,vs,rfl,_⟩:=r;cases q
 | lst ds=>obtain⟨a,vs,rfl,_⟩:=r;cases q
theorem wj:OpD K X (compareOp .Is) A5:=by
 refine⟨λst x y d h=>?_⟩
 match x,y,h with
 | .d x,.d (.bl b),h=>
  cases h
  intro pins s σ H vx vy v u Q I rx ry hq
  obtain⟨φ,S,r1,r2,q⟩:=hq
  have r2':vy=.bl b:=r2
  subst r2'
  have ry':u=.bool b:=ry
  subst ry'
  exact pk (xf r1 rx) (rK I (q _ H (bx.refl H) rfl) (Bl r1 rx))
noncomputable def xG (_:Sto):W->W->Option D
 | .d (.int i),.d (.int j)=>some (.int (Builtin.bitAnd i j))
 | _,_=>none
theorem vD:OpD K X (binaryOp .BitAnd) xG:=mU (λ_=>rfl) (λ_ _=>rfl) λi j=>zj.imp λvx vy H Q h=>⟨i,j,h.1,h.2.1,h.2.2⟩
noncomputable def Bn (_ j:Int):Prop:=0 < j/\j < 1000000000000000000000000000000000000000000000000000000000000
theorem xX {j:Int} (h0:0 < j) (h:j < 1000000000000000000000000000000000000000000000000000000000000):j.natAbs.log2 < 9000:=by
 have h1:j.natAbs≠0:=by lia
 have h2:j.natAbs < 2 ^ 200:=by
  have:(1000000000000000000000000000000000000000000000000000000000000:Nat) < 2 ^ 200:=by decide
  lia
 have:=(qe5 h1).mpr h2
 lia
theorem wM:OpR X (binaryOp .FloorDiv) (rI Bn λi j=>.int (i / j)):=opI λi j _ _ _ _ _ hc q=>by
 obtain⟨h0,h1⟩:=hc
 exact floordiv_int (by lia) (by rw [qc7 i (by lia)];exact q) (.inl (PyProof.noPylong_of_log2 (xX h0 h1)))
noncomputable def zX (_:Sto):W->W->Option D
 | .d (.int i),.d (.int j)=>if 0 < j/\j < 1000000000000000000000000000000000000000000000000000000000000 then some (.int (i / j)) else none
 | _,_=>none
theorem zS:OpD K X (binaryOp .FloorDiv) zX:=jS (λ_=>rfl) (λ_ _=>rfl) λi j hc=>wM.imp λvx vy H Q h=>⟨i,j,h.1,h.2.1,hc,h.2.2⟩
end
section
variable {K:PySem.W.Frag}{X:Cx}{pos:Pos}{a b:Expr}{af:Af}
end
noncomputable def gu (a b:Ef):Ef
 | env,st=>(a env st).bind λx=>(b env x.2).bind λy=>match x.1,y.1 with
 | .h n,.d (.int i)=>(match y.2[n]? with
  | some (.n ws)=>(atI ws i).map λw=>(w,y.2)
  | _=>none)
 | _,_=>none
noncomputable def sv (a:Af):Ef
 | env,st=>(a env st).bind λr=>if r.1.length<=1000 then some (.h r.2.length,r.2++[.n r.1]) else none
noncomputable def jB (o i v:Ef):Sf
 | env,st=>(v env st).bind λrv=>(o env rv.2).bind λro=>(i env ro.2).bind λri=>match ro.1,ri.1,rv.1 with
 | .h n,.d (.int k),.d x=>(match ri.2[n]? with
  | some (.n ws)=>(ixN ws.length k).map λj=>.nx env (ri.2.set n (.n (ws.set j (.d x))))
  | _=>none)
 | _,_,_=>none
noncomputable def vT (ds:List D):List W->Option (D×List D)
 | [.d (.int i)]=>(ixN ds.length i).bind λk=>(ds[k]?).bind λd=>if eY d=true/\-(2 ^ 62)<=i/\i < 2 ^ 62 then some (d,ds.eraseIdx k) else none
 | _=>none
section
variable {K:PySem.W.Frag}{X:Cx}{pos:Pos}{e a b c:Expr}{es:List Expr}{f fa fb:Ef}{af:Af}
theorem Rws.get {H:Hp}{φ:List Addr}:∀ {ds:List W}{vs:List V},Rws K H φ ds vs->∀ {i:Nat}{d:W},ds[i]?=some d->∃ v,vs[i]?=some v/\Rw K H φ d v
 | [],_,h,i,d,e=>by simp at e
 | d::ds,_,h,i,e,q=>by
  obtain⟨v,r,rfl,h1,h2⟩:=h
  cases i with
  | zero=>simp at q;subst q;exact⟨v,rfl,h1⟩
  | succ i=>simpa using Rws.get h2 (i:=i) (d:=e) (by simpa using q)
theorem Rws.set {H:Hp}{φ:List Addr}:∀ {ds:List W}{vs:List V} (n:Nat) {d:W}{v:V},Rws K H φ ds vs->Rw K H φ d v->Rws K H φ (ds.set n d) (vs.set n v)
 | [],_,_,_,_,h,_=>by cases h;exact rfl
 | e::ds,_,0,d,v,h,hd=>by
  obtain⟨u,r,rfl,h1,h2⟩:=h
  exact⟨v,r,rfl,hd,h2⟩
 | e::ds,_,n+1,d,v,h,hd=>by
  obtain⟨u,r,rfl,h1,h2⟩:=h
  exact⟨u,_,rfl,h1,Rws.set n h2 hd⟩
theorem Rws.mem {H:Hp}{φ:List Addr}:∀ {ds:List W}{vs:List V},Rws K H φ ds vs->∀ {m:Nat},W.h m ∈ ds->m < φ.length
 | [],_,_,m,hm=>nomatch hm
 | d::ds,_,h,m,hm=>by
  obtain⟨v,r,rfl,h1,h2⟩:=h
  rcases qaF.mp hm with z | z
  ·subst z
   obtain⟨a,e,_⟩:=h1
   exact (qan.mp e).1
  ·exact Rws.mem h2 z
theorem Sr.atn {H:Hp}{φ:List Addr}{st:Sto} (S:Sr K H φ st) {n:Nat}{p:Addr}{ws:List W} (e1:φ[n]?=some p) (e2:st[n]?=some (.n ws)):∃ vs,H p=some (.lst vs)/\Rws K H φ ws vs/\∀ m,W.h m ∈ ws->m < n:=S.at_ n p _ e1 e2
theorem yB {H:Hp}{φ:List Addr}{ds:List W}{vs:List V}{i:Int}{d:W} (r:Rws K H φ ds vs) (e:atI ds i=some d):∃ v,atI vs i=some v/\Rw K H φ d v:=by
 unfold atI at e ⊢
 rw [<-r.length]
 obtain⟨j,e1,e2⟩:=qab.mp e
 obtain⟨v,ev,rv⟩:=r.get e2
 exact⟨v,by rw [e1];exact ev,rv⟩
theorem eh (ha:IE K X a fa) (hb:IE K X b fb) (hs:jD b=true:=by rfl) (hK:X.K=K:=by rfl):IE K X (.Subscript a b pos) (gu fa fb):=by
 subst hK
 refine⟨λenv st r hr=>?_⟩
 simp only [gu,qab] at hr
 obtain⟨⟨x,s1⟩,hx,⟨y,s2⟩,hy,hr⟩:=hr
 match x,y,hr with
 | .h n,.d (.int i),hr=>
  dsimp only at hr
  split at hr
  ·rename_i ws hws
   obtain⟨w,hw,rfl⟩:=qac.mp hr
   refine (za rn (ha.run _ _ _ hx) (hb.run _ _ _ hy) (qB hs)).imp ?_
   rintro σ H Q ⟨φ,hE,hS,q⟩
   refine⟨φ,hE,hS,λv H1 φ1 f1 S1 w1=>⟨φ1,hE.fw hS f1,S1,λu H2 φ2 f2 S2 w2=>?_⟩⟩
   obtain⟨p,ep,rfl⟩:=w1.fw S1 f2
   obtain⟨vs,hv,rl,_⟩:=S2.atn ep hws
   obtain⟨z,ez,rz⟩:=yB rl hw
   exact .inl ⟨p,vs,i,z,rfl,w2,SqL.of hv,ez,q z H2 φ2 (f1.trans f2) S2 rz⟩
  ·cases hr
theorem xE (h:IA K X es af):IE K X (.List es pos) (sv af):=by
 refine⟨λenv st r hr=>?_⟩
 simp only [sv,qab] at hr
 obtain⟨y,hy,hr⟩:=hr
 split at hr
 ·cases hr
  rename_i hl
  refine (wR (h.run _ _ _ hy)).imp ?_
  rintro σ H Q ⟨φ,hE,hS,q⟩
  refine⟨φ,hE,hS,λvs H1 φ1 f1 s1 w1=>?_⟩
  refine⟨by rw [<-w1.length];exact kP hl,λp hp=>?_⟩
  exact q _ _ (φ1++[p]) (f1.trans (Fw.more hp)) (s1.moreC hp ⟨vs,bm,w1.fw s1 (Fw.more hp),λm hm=>w1.mem hm⟩) ⟨p,by rw [<-s1.len];simp,rfl⟩
 ·cases hr
theorem uy {tpos:Pos} (ho:IE K X a fa) (hi:IE K X b fb) (hv:IE K X e f) (hb:jD b=true:=by rfl) (hs:swapsWithSole [.Subscript a b tpos] e pos.line X.env=pure false:=by rfl) (hw:swappedStores [.Subscript a b tpos] e X.env=pure none:=by rfl) :
  IS K X (.Assign [.Subscript a b tpos] e pos) (jB fa fb f):=by
 refine⟨λenv st r hr=>?_⟩
 simp only [jB,qab] at hr
 obtain⟨⟨rv,s1⟩,ev,⟨ro,s2⟩,eo,⟨ri,s3⟩,ei,hr⟩:=hr
 match ro,ri,rv,hr with
 | .h n,.d (.int k),.d x,hr=>
  dsimp only at hr
  split at hr
  ·rename_i ws hws
   obtain⟨j,ej,rfl⟩:=qac.mp hr
   refine (rC (hv.run _ _ _ ev) (uJ (ho.run _ _ _ eo) (hi.run _ _ _ ei) pK (sL hb)) hs hw (oH rfl)).imp ?_
   rintro D σ H ⟨φ,hE,hS,q⟩
   refine⟨φ,hE,hS,λv H1 φ1 f1 s1 w1=>⟨φ1,hE.fw hS f1,s1,λo H2 φ2 f2 s2 w2=>⟨φ2,(hE.fw hS f1).fw s1 f2,s2,λi H3 φ3 f3 s3 w3=>?_⟩⟩⟩
   have e3:=((hE.fw hS f1).fw s1 f2).fw s2 f3
   have w1':=(w1.fw s1 f2).fw s2 f3
   obtain⟨p,ep,rfl⟩:=w2.fw s2 f3
   obtain⟨vs,hp,rl,bd⟩:=s3.atn ep hws
   have w3':i=.int k:=w3
   subst w3'
   obtain⟨f4,s4⟩:=s3.putC (o:=.lst (vs.set j v)) (c:=.n (ws.set j (.d x))) ep λf=>⟨_,bm,(Rws.set j rl w1').fw s3 f,λm hm=>by
    rcases List.mem_or_eq_of_mem_set hm with z | z
    ·exact bd m z
    ·cases z⟩
   refine⟨p,vs,k,j,rfl,rfl,hp,by rw [<-rl.length];exact ej,?_⟩
   exact q _ _ φ3 (((f1.trans f2).trans f3).trans f4) (e3.fw s3 f4) s4
  ·cases hr
theorem Rls.erase {H:Hp}{φ:List Addr}:∀ {ds:List D}{vs:List V} (n:Nat),Rls K H φ ds vs->Rls K H φ (ds.eraseIdx n) (vs.eraseIdx n)
 | [],_,_,h=>by cases h;exact rfl
 | d::ds,_,0,h=>by
  obtain⟨v,r,rfl,h1,h2⟩:=h
  exact h2
 | d::ds,_,n+1,h=>by
  obtain⟨v,r,rfl,h1,h2⟩:=h
  exact⟨v,_,rfl,h1,Rls.erase n h2⟩
theorem zN {apos:Pos} (ho:IE K X a fa) (ha:IA K X (e::es) af) (hbase:attributeBase a "pop" X.env (eval a X.env)=eval a X.env:=by rfl)
  (hall:(e::es).all aS=true:=by rfl) (hfl30:(e::es).length < 30:=by decide) (hline:(apos.endLine==pos.line)=true:=by rfl) (hK:X.K=K:=by rfl) :
  IE K X (.Call (.Attribute a "pop" apos) (e::es) [] pos) (jv vT fa af):=by
 refine wN PySem.F.slot_list_pop PySem.F.type_list_pop vL (λH φ st n ad ds vs ws us y Q S ea eds hv rl rw hy q=>?_) (λds ws y h=>?_) ho ha hbase hall hfl30 hline hK
 ·match ws,hy with
  | [.d (.int i)],hy=>
   simp only [vT,qab] at hy
   obtain⟨k,hk,d,hd,hy⟩:=hy
   split at hy
   ·rename_i hl
    cases hy
    obtain⟨v,r,rfl,r1,rfl⟩:=rw
    obtain⟨x,ex,rx⟩:=rl.get hd
    refine⟨ad,vs,i,k,x,rfl,by rw [show v=.int i from r1],hv,by lia,by lia,by rw [<-rl.length];exact (oz hk).1,ex,q _ _ rx (rl.erase k) λb z=>?_⟩
    obtain⟨z1,z2⟩:=fC hl.1 rx
    rw [z] at z2
    cases z2
   ·cases hy
 ·match ws,h with
  | [.d (.int i)],h=>
   simp only [vT,qab] at h
   obtain⟨k,hk,d,hd,h⟩:=h
   split at h
   ·rename_i hl
    cases h;exact hl.1
   ·cases h
end
noncomputable def zC (_:Sto):List W->Option D
 | [.d (.tup ds)]=>(bQ ds).map λns=>.bl (ns.any λn=>decide (n≠0))
 | _=>none
section
variable {K:PySem.W.Frag}{X:Cx}
theorem uj:bS X (.builtin "any") (λxs H Q=>X.calm=true/\∃ (a:Addr) (ns:List Int),xs=[.ref a]/\H a=some (.tup (ns.map V.int))/\Q (.bl (ns.any λn=>decide (n≠0))) H):=by
 intro pins s σ H xs us Q I rv h
 obtain⟨hc,a,bs,rfl,hq,q⟩:=h
 obtain⟨u1,rfl,ru1⟩:=gD rv
 cases ru1
 obtain⟨z,its,rv,p⟩:=(show cL X.prog X.w H s.heap a (.tup (bs.map V.int)) from I.hok a _ hq)
 have pt:s.heap.IsTuple a its.toArray:=p.tup
 have hlt:a < s.heap.objs.size:=let ⟨_,e,_⟩:=p;qao e
 have hlen:its.length=bs.length:=by have:=rv.length;simpa using this.symm
 refine call_any_walk (qca pt ?_)
 refine⟨s.heap.objs.size,_,_,_,_,_,λi=>decide ((bs[i]?).getD 0≠0),rfl,Walks.tuple (A:=X.A.in1) (I.ok.hd hc) s.heap.objs.size a (qaw hlt) its.toArray,⟨⟨_,qav _ rfl,rfl,rfl⟩,pt.push _⟩,?_,λh' tk hk=>?_⟩
 ·intro i v s' Q' E' hv hQ'
  have hv':its[i]?=some v:=by simpa using hv
  have hi:i < its.length:=(qan.mp hv').1
  obtain⟨b,hb⟩:∃ b,bs[i]?=some b:=⟨bs[i]'(by lia),by simp [show i < bs.length by lia]⟩
  have:(bs.map V.int)[i]?=some (.int b):=by rw [qaI,hb];rfl
  obtain⟨u,hu,ru⟩:=rv.get this
  rw [hv'] at hu
  cases hu
  obtain⟨t,rfl⟩:=ru
  have hQ2:Q' (decide ((bs[i]?).getD 0≠0)) s':=hQ'
  rw [hb] at hQ2
  refine qgI ?_
  have e:(b != 0)=decide (b≠0):=by
   by_cases h:b=0
   ·subst h;rfl
   ·rw [decide_eq_true h];simpa using h
  rw [e];exact hQ2
 ·refine⟨.bl (bs.any λn=>decide (n≠0)),H,I.kept (t':=tk) (λb o e=>hk b o (λz=>absurd (qao e) (by rw [qaz.mp z];exact qbA _)) (qae _ e)),?_,q⟩
  show Value.bool _=Value.bool _
  congr 1
  have:∀ n,n=bs.length->((List.range n).any λi=>decide ((bs[i]?).getD 0≠0))=bs.any λn=>decide (n≠0):=by
   intro n hn
   subst hn
   apply qcd.mpr
   rw [qdk,qdk]
   constructor
   ·rintro⟨i,hi,h⟩
    have hi':=qa7.mp hi
    refine⟨bs[i],qa8 hi',?_⟩
    rw [qaG hi'] at h
    exact h
   ·rintro⟨x,hx,h⟩
    obtain⟨i,hi,rfl⟩:=qdI hx
    refine⟨i,qa7.mpr hi,?_⟩
    rw [qaG hi]
    exact h
  exact this _ (by simpa using hlen)
theorem Ah (hc:X.calm=true:=by rfl) (hK:X.K=K:=by rfl):et K X (.builtin "any") zC:=by
 subst hK
 refine⟨λst ws d h=>?_⟩
 match ws,h with
 | [.d (.tup ds)],h=>
  obtain⟨ns,e,rfl⟩:=qac.mp h
  cases cM e
  refine bS.imp uj ?_
  rintro vs H Q ⟨φ,S,⟨v,r,rfl,⟨a,us,rfl,h1,h2⟩,rfl⟩,q⟩
  cases h2.ints
  exact⟨hc,a,ns,rfl,h1,q _ H (bx.refl H) rfl⟩
end
section
variable {prog:Program}{w:World}{A:Around}{s:Shared}{I l S:Addr}{items:Array Value}{ns:List Int}{kw:List (Str×Value)}{R:Result->Shared->Prop}
theorem xb (hh:A.handled=none) (hi:IntsAre items.toList ns) (hSI:S≠I) (hlI:l≠I) (hlS:l≠S):∀ (rest:List Int) (j:Nat) (s:Shared) (m:Int) (t:Tok) (c:Nat),ns.drop j=rest->s.heap.IsTupleIter I l j->s.heap.IsTuple l items->
  s.heap.get? S=some { cls:=.type "list",dict:=none,data:=.seq #[.int m t,.int m t] c,slots:=#[] }->
  (∀ t' h',(∀ b o,b≠I->b≠S->s.heap.get? b=some o->h'.get? b=some o)->R (.ok (.ret (.int (gM rest m) t'))) { s with heap:=h' })->codeAny (model prog w) A (.builtin "max.loop" ⟨[.ref I,.none,.ref S],kw⟩) R s:=by
 have hname:(toString "max"++toString ".loop" : String) = "max.loop":=by decide
 intro rest
 induction rest with
 | nil=>
  intro j s m t c hd hit hl hS hR
  have hn:ns[j]?=none:=by
   rw [qbk]
   have:=congrArg List.length hd
   simp at this;lia
  refine qb1 qcG ?_
  rw [qbv qbh _]
  show wpAny _ A.in1 (seqItems? (.ref S) >>= _) _ _ s
  refine qaa (qbd hS rfl ?_)
  show wpAny _ A.in1 (tryCatch (pyNext (.ref I)) _ >>= _) _ _ s
  refine qaa (qbn (qdB hh hit hl (fZ hi hn) λh1 e1=>?_))
  show wpAny _ A.in1 (updateSeq S (λ_=>#[]) >>= _) _ _ _
  refine qaa (qb0 (e1 _ _ hSI hS) rfl (qaa (qbN (qag ?_))))
  exact hR t _ λb o hb1 hb2 q=>(qar _ _ (qbI hb2)).trans (e1 _ _ hb1 q)
 | cons n rest ih=>
  intro j s m t c hd hit hl hS hR
  have hn:ns[j]?=some n:=by
   have:=congrArg (λl=>l[0]?) hd
   simpa using this
  have hd':ns.drop (j+1)=rest:=by
   have:=congrArg (List.drop 1) hd
   simpa [qda,qcE] using this
  obtain⟨tn,hx⟩:=gc hi hn
  refine qb1 qcG ?_
  rw [qbv qbh _]
  show wpAny _ A.in1 (seqItems? (.ref S) >>= _) _ _ s
  refine qaa (qbd hS rfl ?_)
  show wpAny _ A.in1 (tryCatch (pyNext (.ref I)) _ >>= _) _ _ s
  refine qaa (qbn (qds hit hl hx λh1 hit1 s1=>?_))
  have e1:=s1.extBut
  have hS1:=e1 _ _ hSI hS
  show wpAny _ A.in1 (tryCatch (holding [.int n tn,.int n tn] (richCompare .Gt (.int n tn) (.int m t) >>= _)) _ >>= _) _ _ _
  refine qaa (qbn (qbE (qaa (qei ?_))))
  refine qaa (qbE (qbM ?_))
  refine qaa (qbN (qag ?_))
  by_cases hb:n > m
  ·have hb':decide (n > m)=true:=by simp [hb]
   rw [hb']
   simp only [if_true]
   refine qaa (qb0 hS1 rfl (qaa (qbN ?_)))
   rw [hname]
   refine qag ⟨qbP qbh _,ih (j+1) _ n tn _ hd' (hit1.at λo q=>(qar _ _ hSI).trans q) (Heap.IsTuple.at hl λo q=>(qar _ _ (qbI hlS)).trans (e1 _ _ hlI q)) (qbD _ hS1 rfl) λt' h' k=>?_⟩
   have:=hR t' h' λb o hb1 hb2 q=>k b o hb1 hb2 ((qar _ _ (qbI hb2)).trans (e1 _ _ hb1 q))
   rw [gM,if_pos hb] at this
   exact this
  ·have hb':decide (n > m)=false:=by simp [hb]
   rw [hb']
   simp only [qaM,if_false]
   refine qaa (qbN ?_)
   rw [hname]
   refine qag ⟨qbP qbh _,ih (j+1) _ m t c hd' hit1 (Heap.IsTuple.at hl λo q=>e1 _ _ hlI q) hS1 λt' h' k=>?_⟩
   have:=hR t' h' λb o hb1 hb2 q=>k b o hb1 hb2 (e1 _ _ hb1 q)
   rw [gM,if_neg hb] at this
   exact this
variable {E:Value->Shared->Prop}
theorem rg (hh:A.handled=none) (hi:IntsAre items.toList ns) (hSI:S≠I) (hlI:l≠I) (hlS:l≠S) {c:Nat} (hit:s.heap.IsTupleIter I l 0) (hl:s.heap.IsTuple l items) (hS:s.heap.get? S=some { cls:=.type "list",dict:=none,data:=.seq #[] c,slots:=#[] })
  (hR:∀ v h',(∀ b o,b≠I->b≠S->s.heap.get? b=some o->h'.get? b=some o)->(∀ n r,ns=n::r->∃ t,v=.int (gM r n) t)->(ns=[]->∃ k,kw=[(k,v)])->R (.ok (.ret v)) { s with heap:=h' })
  (h0:ns=[]->∃ k v,kw=[(k,v)]):codeAny (model prog w) A (.builtin "max.loop" ⟨[.ref I,.none,.ref S],kw⟩) R s:=by
 have hname:(toString "max"++toString ".loop" : String) = "max.loop":=by decide
 refine qb1 qcG ?_
 rw [qbv qbh _]
 show wpAny _ A.in1 (seqItems? (.ref S) >>= _) _ _ s
 refine qaa (qbd hS rfl ?_)
 show wpAny _ A.in1 (tryCatch (pyNext (.ref I)) _ >>= _) _ _ s
 cases hn:ns with
 | nil=>
  obtain⟨k,v,rfl⟩:=h0 hn
  refine qaa (qbn (qdB hh hit hl (fZ hi (j:=0) (by rw [hn];rfl)) λh1 e1=>?_))
  refine qaa (qb8 (qag ?_))
  exact hR v _ (λb o hb1 _ q=>e1 _ _ hb1 q) (λn r e=>by rw [hn] at e;cases e) λ_=>⟨k,rfl⟩
 | cons n rest=>
  obtain⟨tn,hx⟩:=gc hi (j:=0) (n:=n) (by rw [hn];rfl)
  refine qaa (qbn (qds hit hl hx λh1 hit1 s1=>?_))
  have e1:=s1.extBut
  have hS1:=e1 _ _ hSI hS
  show wpAny _ A.in1 (updateSeq S (λ_=>#[.int n tn,.int n tn]) >>= _) _ _ _
  refine qaa (qb0 hS1 rfl ?_)
  rw [hname]
  refine qag ⟨qbP qbh _,xb hh hi hSI hlI hlS rest 1 _ n tn _ (by rw [hn];rfl) (hit1.at λo q=>(qar _ _ hSI).trans q) (Heap.IsTuple.at hl λo q=>(qar _ _ (qbI hlS)).trans (e1 _ _ hlI q)) (qbD _ hS1 rfl) λt' h' k=>?_⟩
  exact hR _ h' (λb o hb1 hb2 q=>k b o hb1 hb2 ((qar _ _ (qbI hb2)).trans (e1 _ _ hb1 q))) (λn' r' e=>by rw [hn] at e;cases e;exact⟨t',rfl⟩) λe=>by rw [hn] at e;cases e
theorem mO {Q:Value->Shared->Prop} (hh:A.handled=none) (hi:IntsAre items.toList ns) (hl:s.heap.IsTuple l items) (hk:kw=[]\/∃ v,kw=[(Str.ofString "default",v)]) (h0:ns=[]->kw≠[])
  (h:∀ v h',(∀ b o,s.heap.get? b=some o->h'.get? b=some o)->(∀ n r,ns=n::r->∃ t,v=.int (gM r n) t)->(ns=[]->∃ k,kw=[(k,v)])->Q v { s with heap:=h' }) :
  wpAny (model prog w) A (call (.builtin "max") [.ref l] kw) Q E s:=by
 have hname:(toString "max"++toString ".loop" : String) = "max.loop":=by decide
 have hlt:l < s.heap.objs.size:=by obtain⟨_,e,_⟩:=hl;exact qao e
 have hsz:(s.heap.push { cls:=.type "tuple_iterator",data:=.fields #[.ref l,.int 0 0] }).objs.size=s.heap.objs.size+1:=qbc ..
 have fin:∀ dd:List Value,kw=dd.map (λd=>((Str.ofString "default",d):Str×Value))->wpAny (model prog w) A.in1 (do
   let it <-pyIter (.ref l)
   let b <-newList []
   PySem.again (.builtin "max.loop" ⟨[it,.none,b],dd.map λd=>(Str.ofString "default",d)⟩)) (λfin s'=>match fin with
   | .done f=>(match (Except.ok f:Result) with | .ok (.ret v)=>Q v s' | .ok _=>False | .error e=>E e s')
   | .again c'=>c'.quiet=true/\codeAny (model prog w) A c' (λr s'=>match r with | .ok (.ret v)=>Q v s' | .ok _=>False | .error e=>E e s') s') E s:=λdd hdd=>by
  refine qaa (qca hl (qaa (qbo ?_)))
  refine qag ⟨qbP qbh _,?_⟩
  rw [<-hdd]
  refine rg (S:=(s.heap.push { cls:=.type "tuple_iterator",data:=.fields #[.ref l,.int 0 0] }).objs.size) (I:=s.heap.objs.size) (l:=l) hh hi (by rw [hsz];exact qc1 _) (qaw hlt) (by rw [hsz];exact qaw (qaO hlt))
   ⟨_,qae _ (qav _ rfl),rfl,rfl⟩ (Heap.IsTuple.at hl λo q=>qae _ (qae _ q)) (qav _ rfl) (λv h' k h1 h2=>?_) (λe=>?_)
  ·refine h v h' (λb o q=>?_) h1 h2
   have hb:=qao q
   exact k b o (qaw hb) (by rw [hsz];exact qaw (qaO hb)) (qae _ (qae _ q))
  ·rcases hk with hk | ⟨v,hk⟩
   ·exact absurd hk (h0 e)
   ·exact⟨_,v,hk⟩
 rcases hk with rfl | ⟨v,rfl⟩
 ·refine dr qeR qeE qeG (F.args_max1 _) ?_
  show wpAny _ A.in1 (Builtin.Builtins.bindParams "max" ["key","default"] 0 ⟨[],[]⟩ >>= _) _ _ s
  refine qaa (qdt (show Builtin.Builtins.bindParams "max" ["key","default"] 0 ⟨[],[]⟩=pure [none,none] from rfl) ?_)
  refine qaa (qag ?_)
  have:=fin [] rfl
  rw [<-hname] at this
  exact this
 ·refine dr qeR qeE qeG (nr _ _) ?_
  show wpAny _ A.in1 (Builtin.Builtins.bindParams "max" ["key","default"] 0 ⟨[],[(Str.ofString "default",v)]⟩ >>= _) _ _ s
  refine qaa (qdt (show Builtin.Builtins.bindParams "max" ["key","default"] 0 ⟨[],[(Str.ofString "default",v)]⟩=pure [none,some v] from by kernel_rfl) ?_)
  refine qaa (qag ?_)
  have:=fin [v] rfl
  rw [<-hname] at this
  exact this
end
noncomputable def ww (st:Sto) (ws:List W):Option D:=match ws with
 | [.d (.tup ds)]=>(bQ ds).bind λns=>(pp ns none).map D.int
 | ws=>dMx st ws
section
variable {K:PySem.W.Frag}{X:Cx}
theorem zW (hc:X.calm=true:=by rfl):et K X (.builtin "max") ww:=by
 refine⟨λst ws d h=>?_⟩
 unfold ww at h
 split at h
 next ds=>
  obtain⟨ns,e1,h⟩:=qab.mp h
  obtain⟨r,e2,rfl⟩:=qac.mp h
  cases cM e1
  intro pins s σ H xs us Q I rv q
  obtain⟨φ,S,⟨v,rr,rfl,⟨ad,vs,rfl,h1,h2⟩,rfl⟩,q⟩:=q
  cases h2.ints
  obtain⟨u,rfl,ru⟩:=gD rv
  cases ru
  obtain⟨z,its,rv,p⟩:=(show cL X.prog X.w H s.heap ad (.tup (ns.map V.int)) from I.hok ad _ h1)
  have pt:s.heap.IsTuple ad its.toArray:=p.tup
  refine mO (items:=its.toArray) (ns:=ns) (I.ok.hd hc) (by simpa using eR rv) pt (.inl rfl) (λe=>by rw [e] at e2;cases e2) λv h' kp a1 a2=>?_
  have hv:∃ t,v=.int r t:=by
   cases hn:ns with
   | nil=>rw [hn] at e2;cases e2
   | cons n r2=>rw [hn] at e2;cases e2;exact a1 n r2 hn
  exact⟨.int r,H,I.kept kp,hv,q _ H (bx.refl H) rfl⟩
 ·exact (BV (K:=K) (X:=X) hc).run st ws d h
end
section
variable {κ:Type} [DecidableEq κ]
end
section
variable {P:Program}{w:World}{H:Hp}{h:Heap}{a:Addr}
end
section
variable {X:Cx}{pins:List (Addr×Obj)}{σ:St}{H:Hp}{s:Shared}{a:Addr}{y v:V}{u r:Value}{o:Option V}{A:Around}{E:Value->Shared->Prop}
end
section
variable {X:Cx}{pins:List (Addr×Obj)}{σ:St}{H:Hp}{s:Shared}{a:Addr}{kvs:List (Key×V)}{k:Key}{u:Value}{A:Around}{E:Value->Shared->Prop}
end
section
variable {X:Cx}{o i e value:Expr}{pos pos' tpos:Pos}{td ty tv:TE}
end
section
variable {X:Cx}{pos:Pos}
end
section
variable {X:Cx}{pins:List (Addr×Obj)}{σ:St}{H:Hp}{s:Shared}{a:Addr}{y d:V}{u r:Value}{o:Option V}{A:Around}{E:Value->Shared->Prop}
end
section
variable {X:Cx}{o e f:Expr}{apos cpos:Pos}{td ty tx:TE}
end
section
variable {X:Cx}{pins:List (Addr×Obj)}{σ:St}{H:Hp}{s:Shared}{a:Addr}{kvs:List (Key×V)}{A:Around}{E:Value->Shared->Prop}
end
section
variable {X:Cx}{pins:List (Addr×Obj)}{σ:St}{H:Hp}{s:Shared}{a:Addr}{y:V}{u:Value}{A:Around}{E:Value->Shared->Prop}
end
section
variable {prog:Program}{w:World}{A:Around}{E:Value->Shared->Prop}{s:Shared}{κ:Type} [DecidableEq κ] {knd:KeyKind prog w κ}{a:Addr}{kvs:List (κ×Value)}
end
section
variable {X:Cx}{pins:List (Addr×Obj)}{σ:St}{H:Hp}{s:Shared}{a:Addr}{kvs:List (Key×V)}{k:Key}{u r:Value}{A:Around}{E:Value->Shared->Prop}{z:V}
end
section
variable {K:PySem.W.Frag}{X:Cx}{pos:Pos}{e a b o f:Expr}{fe fa fb fo ff:Ef}
end
section
variable {K:PySem.W.Frag}{X:Cx}
end
section
variable {b:Bool}{t:SetTable}{m d k:Nat}
end
section
variable {prog:Program}{w:World}{A:Around}{E:Value->Shared->Prop}{s:Shared}{a:Addr}{m d k:Nat}
end
section
variable {prog:Program}{w:World}{A:Around}{E:Value->Shared->Prop}{s:Shared}{a it:Addr}{m d ep i:Nat}{f:Nat->Tok}
end
section
variable {prog:Program}{w:World}{A:Around}{E:Value->Shared->Prop}{s:Shared}{a it:Addr}{m d ep i:Nat}{f:Nat->Tok}
end
section
variable {prog:Program}{w:World}{A:Around}{E:Value->Shared->Prop}{s:Shared}
end
section
variable {prog:Program}{w:World}{A:Around}{R:Result->Shared->Prop}{I:Addr}{fp wr:List Addr}{G:Array GenState->Array GenState->Prop}{P:Nat->Value->Prop}{St:Nat->Shared->Prop}
end
section
variable {prog:Program}{w:World}{A:Around}{E:Value->Shared->Prop}{s:Shared}
end
section
variable {prog:Program}{w:World}{A:Around}{E:Value->Shared->Prop}{s:Shared}{a r o:Addr}{m m1 m2 d k ep:Nat}{f:Nat->Tok}
end
section
variable {prog:Program}{w:World}{A:Around}{E:Value->Shared->Prop}{s:Shared}{a b r o:Addr}{m m1 m2 d k ep:Nat}{f:Nat->Tok}
end
section
variable {prog:Program}{w:World}{A:Around}{E:Value->Shared->Prop}{s:Shared}{a b r o:Addr}{m m1 m2 d k ep:Nat}{f:Nat->Tok}
end
section
variable {prog:Program}{w:World}{A:Around}{E:Value->Shared->Prop}{s:Shared}{a:Addr}{m d ep:Nat}{f:Nat->Tok}
end
section
variable {K:PySem.W.Frag}{X:Cx}{pos p:Pos}{e a b:Expr}{fe:Ef}{fa fb:Xf}
end
section
variable {prog:Program}{w:World}{A:Around}{E:Value->Shared->Prop}{s:Shared}{d it:Addr}{es:Array DictEntry}{i ep:Nat}
end
section
variable {prog:Program}{w:World}{A:Around}{E:Value->Shared->Prop}{s:Shared}{d:Addr}{es:Array DictEntry}{ep:Nat}
end
section
variable {K:PySem.W.Frag}{X:Cx}{pos:Pos}{e a b o f:Expr}{fe fa fb fo ff:Ef}
end
mutual
noncomputable def toP:D->PyData
 | .non=>.none
 | .bl b=>.bool b
 | .int i=>.int i
 | .str x=>.str x
 | .tup ds=>.tuple (iD ds)
 | .lst ds=>.list (iD ds)
 | _=>.none
noncomputable def iD:List D->List PyData
 | []=>[]
 | d::ds=>toP d::iD ds
end
mutual
noncomputable def rpD:D->Bool
 | .non=>true
 | .bl _=>true
 | .int i=>decide (i.natAbs.log2 < 1920)
 | .str _=>true
 | .tup ds=>kI ds
 | .lst ds=>kI ds
 | _=>false
noncomputable def kI:List D->Bool
 | []=>true
 | d::ds=>rpD d && kI ds
end
mutual
noncomputable def wtD:D->Nat
 | .non=>10
 | .bl _=>10
 | .int _=>2000
 | .str x=>(reprText x).length
 | .tup ds=>nS ds+5
 | .lst ds=>nS ds+5
 | _=>0
noncomputable def nS:List D->Nat
 | []=>0
 | d::ds=>wtD d+2+nS ds
end
mutual
noncomputable def dpD:D->Nat
 | .tup ds=>oy ds+1
 | .lst ds=>oy ds+1
 | _=>1
noncomputable def oy:List D->Nat
 | []=>0
 | d::ds=>max (dpD d) (oy ds)
end
noncomputable def nD (st:Sto):List W->Option D
 | [w]=>match w with
  | .d d=>if rpD d=true/\wtD d<=16000000/\dpD d<=50 then some (.str (toP d).shown) else none
  | .h _=>none
 | _=>none
theorem kl:∀ (ts:List Str) (k:Nat) (acc:Str),(textFrom k acc ts).length<=acc.length+piled ts
 | [],k,acc=>by show acc.length<=_;lia
 | t::r,k,acc=>by
  have h:=kl r (k+1) (acc++(if k > 0 then ", " else "" : String)++t)
  have e:(acc++(if k > 0 then ", " else "" : String)++t).length<=acc.length+2+t.length:=by
   rw [qcU,qcU]
   have:((if k > 0 then ", " else "" : String):Str).length<=2:=by split<;>decide
   lia
  rw [qf1]
  show (textFrom (k+1) _ r).length<=_
  lia
theorem vY (ts:List Str):(tupleText ts).length<=piled ts+3:=by
 have hz:(Str.join ", " ts).length<=piled ts:=by
  cases ts with
  | nil=>exact qaZ _
  | cons x r=>
   have:=qgX (x::r) (by simp)
   lia
 unfold tupleText
 rw [qcU,qcU]
 have h2:((if ts.length==1 then ",)" else ")" : String):Str).length<=2:=by split<;>decide
 have h1:((("(" : String):Str)).length=1:=rfl
 lia
theorem xx (ts:List Str):(listText ts).length<=piled ts+2:=by
 have h:=kl ts 0 "["
 unfold listText
 rw [qcU]
 have h1:((("[" : String):Str)).length=1:=rfl
 have h2:((("]" : String):Str)).length=1:=rfl
 lia
mutual
theorem pF:∀ d:D,rpD d=true->(toP d).shown.length<=wtD d
 | .non,_=>by rw [toP,wtD];decide
 | .bl b,_=>by rw [toP,wtD];cases b<;>decide
 | .int i,h=>by
  rw [rpD,decide_eq_true_eq] at h
  rw [toP,wtD,PyData.shown]
  have:=int_text_length_le (k:=1920) (by decide) h
  rw [qeK]
  lia
 | .str x,_=>by rw [toP,wtD,PyData.shown];exact qaq _
 | .tup ds,h=>by
  rw [rpD] at h
  rw [toP,wtD,PyData.shown]
  have:=jZ ds h
  have:=vY (PyData.shownAll (iD ds))
  lia
 | .lst ds,h=>by
  rw [rpD] at h
  rw [toP,wtD,PyData.shown]
  have:=jZ ds h
  have:=xx (PyData.shownAll (iD ds))
  lia
 | .ty _,h=>by simp [rpD] at h
 | .dct,h=>by simp [rpD] at h
 | .scr _,h=>by simp [rpD] at h
theorem jZ:∀ ds:List D,kI ds=true->piled (PyData.shownAll (iD ds))<=nS ds
 | [],_=>by rw [iD,nS,PyData.shownAll];exact qaq _
 | d::ds,h=>by
  rw [kI,qa0] at h
  rw [iD,nS,PyData.shownAll,qf1]
  have:=pF d h.1
  have:=jZ ds h.2
  lia
end
mutual
theorem sK:∀ d:D,rpD d=true->(toP d).showable=true/\(toP d).hasDict=false/\(toP d).depth<=dpD d
 | .non,_=>⟨rfl,rfl,by decide⟩
 | .bl b,_=>⟨rfl,rfl,by rw [toP,PyData.depth];exact qaZ _⟩
 | .int i,h=>by
  rw [rpD] at h
  rw [toP]
  exact⟨h,rfl,by rw [PyData.depth];exact qaZ _⟩
 | .str x,_=>⟨rfl,rfl,by rw [toP,PyData.depth];exact qaZ _⟩
 | .tup ds,h=>by
  rw [rpD] at h
  rw [toP,dpD,PyData.showable,PyData.hasDict,PyData.depth]
  obtain⟨a,b,c⟩:=lm ds h
  exact⟨a,b,by lia⟩
 | .lst ds,h=>by
  rw [rpD] at h
  rw [toP,dpD,PyData.showable,PyData.hasDict,PyData.depth]
  obtain⟨a,b,c⟩:=lm ds h
  exact⟨a,b,by lia⟩
 | .ty _,h=>by simp [rpD] at h
 | .dct,h=>by simp [rpD] at h
 | .scr _,h=>by simp [rpD] at h
theorem lm:∀ ds:List D,kI ds=true->PyData.showableAll (iD ds)=true/\PyData.hasDictAll (iD ds)=false/\PyData.depthAll (iD ds)<=oy ds
 | [],_=>by rw [iD,oy];exact⟨rfl,rfl,by simp [PyData.depthAll]⟩
 | d::ds,h=>by
  rw [kI,qa0] at h
  obtain⟨a,b,c⟩:=sK d h.1
  obtain⟨a',b',c'⟩:=lm ds h.2
  rw [iD,oy,PyData.showableAll,PyData.hasDictAll,PyData.depthAll,a,b,a',b']
  exact⟨rfl,rfl,by lia⟩
end
section
variable {K:PySem.W.Frag}{X:Cx}{pins:List (Addr×Obj)}{σ:St}{H:Hp}{s:Shared}{φ:List Addr}
mutual
theorem p6 (I:Inv X pins σ H s):∀ (d:D) (v:V) (u:Value),rpD d=true->Rl X.K H φ d v->bi v u->∃ as,Reads s.heap u (toP d) as
 | .non,v,u,_,r,q=>by cases (show v=.non from r);cases q;exact⟨_,by rw [toP];exact .none⟩
 | .bl b,v,u,_,r,q=>by cases (show v=.bl b from r);cases q;exact⟨_,by rw [toP];exact .bool b⟩
 | .int i,v,u,_,r,q=>by cases (show v=.int i from r);obtain⟨t,rfl⟩:=q;exact⟨_,by rw [toP];exact .int i t⟩
 | .str x,v,u,_,r,q=>by cases (show v=.str x from r);obtain⟨t,rfl⟩:=q;exact⟨_,by rw [toP];exact .str x t⟩
 | .tup ds,v,u,h,r,q=>by
  rw [rpD] at h
  obtain⟨a,vs,rfl,h1,h2⟩:=r
  cases q
  obtain⟨its,rv,⟨o,ho,hc,n,hd⟩,_⟩:=I.tuple (SqT.of h1)
  obtain⟨as,ra⟩:=jI I ds vs its h h2 rv
  exact⟨as,by rw [toP];exact .tuple ho hc hd (by simpa using ra)⟩
 | .lst ds,v,u,h,r,q=>by
  rw [rpD] at h
  obtain⟨a,vs,rfl,_,h1,h2⟩:=r
  cases q
  obtain⟨its,rv,⟨o,n,ho,hc,hdd,hd⟩,_⟩:=I.list (.inl h1)
  obtain⟨as,ra⟩:=jI I ds vs its h h2 rv
  exact⟨a::as,by rw [toP];exact .list ho hc hd (by simpa using ra)⟩
 | .ty _,_,_,h,_,_=>by simp [rpD] at h
 | .dct,_,_,h,_,_=>by simp [rpD] at h
 | .scr _,_,_,h,_,_=>by simp [rpD] at h
theorem jI (I:Inv X pins σ H s):∀ (ds:List D) (vs:List V) (us:List Value),kI ds=true->Rls X.K H φ ds vs->aN vs us->∃ as,ReadsAll s.heap us (iD ds) as
 | [],vs,us,_,r,q=>by cases r;cases q;exact⟨[],by rw [iD];exact .nil⟩
 | d::ds,vs,us,h,r,q=>by
  rw [kI,qa0] at h
  obtain⟨v,r',rfl,h1,h2⟩:=r
  cases q with
  | cons q1 q2=>
   obtain⟨as,a1⟩:=p6 I d v _ h.1 h1 q1
   obtain⟨bs,a2⟩:=jI I ds r' _ h.2 h2 q2
   exact⟨as++bs,by rw [iD];exact .cons a1 a2⟩
end
end
noncomputable def wH (st:Sto):List W->Option D
 | [.d (.tup ds)]=>nD st [.d (.tup ds)]
 | [.d (.lst ds)]=>nD st [.d (.lst ds)]
 | _=>none
theorem uY {K:PySem.W.Frag}{X:Cx}{k:Nat} (hr:bh k X.A) (hK:X.K=K:=by rfl):et K X (.builtin "repr") wH:=by
 subst hK
 refine⟨λst ws d h=>?_⟩
 have key:∀ x:D,(∀ (H:Hp) (φ:List Addr) v,Rl X.K H φ x v->∃ a,v=.ref a)->nD st [.d x]=some d->bS X (.builtin "repr") (rCD X.K st [.d x] d):=by
  intro x hx h
  simp only [nD] at h
  split at h
  ·rename_i hc
   cases h
   intro pins s σ H xs us Q I rv q
   obtain⟨φ,S,⟨v,r,rfl,r1,rfl⟩,q⟩:=q
   obtain⟨u,rfl,ru⟩:=gD rv
   obtain⟨as,rd⟩:=p6 I x v u hc.1 r1 ru
   obtain⟨a,rfl⟩:=hx H φ v r1
   cases ru
   obtain⟨b1,b2,b3⟩:=sK x hc.1
   have hl:=pF x hc.1
   have hun:=hr.units
   refine qg5 rd b1 (qeX b2) hr.gd (by lia) (λ_ _ e=>e) (λh' u tk hk=>⟨.str _,H,I.kept (t':=tk) hk,⟨u,rfl⟩,q _ H (bx.refl H) rfl⟩) ?_
   rw [qci];lia
  ·cases h
 match ws,h with
 | [.d (.tup ds)],h=>exact key (.tup ds) (λH φ v ⟨a,vs,e,_⟩=>⟨a,e⟩) h
 | [.d (.lst ds)],h=>exact key (.lst ds) (λH φ v ⟨a,vs,e,_⟩=>⟨a,e⟩) h
end L2
namespace L2
open PySem PySem.Spec PyProof.Rows
noncomputable def fS (st:Sto) (ws:List W):Option D:=match ws with
 | [.d (.int i)]=>sS st [.d (.int i)]
 | ws=>wH st ws
theorem jh {K:PySem.W.Frag}{X:Cx}{k:Nat} (hr:bh k X.A) (hK:X.K=K:=by rfl):et K X (.builtin "repr") fS:=by
 refine⟨λst ws d h=>?_⟩
 unfold fS at h
 split at h
 ·exact (xc hr hK).run _ _ _ h
 ·exact (uY hr hK).run _ _ _ h
noncomputable def mZ (ns:List Int) (d:Option Int):Option Int:=match ns with
 | n::r=>some (kH r n)
 | []=>d
section
variable {prog:Program}{w:World}{A:Around}{s:Shared}{I l S:Addr}{items:Array Value}{ns:List Int}{kw:List (Str×Value)}{R:Result->Shared->Prop}
theorem AO (hh:A.handled=none) (hi:IntsAre items.toList ns) (hSI:S≠I) (hlI:l≠I) (hlS:l≠S):∀ (rest:List Int) (j:Nat) (s:Shared) (m:Int) (t:Tok) (c:Nat),ns.drop j=rest->s.heap.IsListIter I l j->s.heap.IsList l items->
  s.heap.get? S=some { cls:=.type "list",dict:=none,data:=.seq #[.int m t,.int m t] c,slots:=#[] }->
  (∀ t' h',(∀ b o,b≠I->b≠S->s.heap.get? b=some o->h'.get? b=some o)->R (.ok (.ret (.int (kH rest m) t'))) { s with heap:=h' })->codeAny (model prog w) A (.builtin "min.loop" ⟨[.ref I,.none,.ref S],kw⟩) R s:=by
 have hname:(toString "min"++toString ".loop" : String) = "min.loop":=by decide
 intro rest
 induction rest with
 | nil=>
  intro j s m t c hd hit hl hS hR
  have hn:ns[j]?=none:=by
   rw [qbk]
   have:=congrArg List.length hd
   simp at this;lia
  refine qb1 qeu ?_
  rw [qbv qck _]
  show wpAny _ A.in1 (seqItems? (.ref S) >>= _) _ _ s
  refine qaa (qbd hS rfl ?_)
  show wpAny _ A.in1 (tryCatch (pyNext (.ref I)) _ >>= _) _ _ s
  refine qaa (qbn (qcs hh hit hl (fZ hi hn) λh1 e1=>?_))
  show wpAny _ A.in1 (updateSeq S (λ_=>#[]) >>= _) _ _ _
  refine qaa (qb0 (e1 _ _ hSI hS) rfl (qaa (qbN (qag ?_))))
  exact hR t _ λb o hb1 hb2 q=>(qar _ _ (qbI hb2)).trans (e1 _ _ hb1 q)
 | cons n rest ih=>
  intro j s m t c hd hit hl hS hR
  have hn:ns[j]?=some n:=by
   have:=congrArg (λl=>l[0]?) hd
   simpa using this
  have hd':ns.drop (j+1)=rest:=by
   have:=congrArg (List.drop 1) hd
   simpa [qda,qcE] using this
  obtain⟨tn,hx⟩:=gc hi hn
  refine qb1 qeu ?_
  rw [qbv qck _]
  show wpAny _ A.in1 (seqItems? (.ref S) >>= _) _ _ s
  refine qaa (qbd hS rfl ?_)
  show wpAny _ A.in1 (tryCatch (pyNext (.ref I)) _ >>= _) _ _ s
  refine qaa (qbn (qco hit hl hx λh1 hit1 s1=>?_))
  have e1:=s1.extBut
  have hS1:=e1 _ _ hSI hS
  show wpAny _ A.in1 (tryCatch (holding [.int n tn,.int n tn] (richCompare .Lt (.int n tn) (.int m t) >>= _)) _ >>= _) _ _ _
  refine qaa (qbn (qbE (qaa (qdi ?_))))
  refine qaa (qbE (qbM ?_))
  refine qaa (qbN (qag ?_))
  by_cases hb:n < m
  ·have hb':decide (n < m)=true:=by simp [hb]
   rw [hb']
   simp only [if_true]
   refine qaa (qb0 hS1 rfl (qaa (qbN ?_)))
   rw [hname]
   refine qag ⟨qbP qck _,ih (j+1) _ n tn _ hd' (hit1.at λo q=>(qar _ _ hSI).trans q) (Heap.IsList.at hl λo q=>(qar _ _ (qbI hlS)).trans (e1 _ _ hlI q)) (qbD _ hS1 rfl) λt' h' k=>?_⟩
   have:=hR t' h' λb o hb1 hb2 q=>k b o hb1 hb2 ((qar _ _ (qbI hb2)).trans (e1 _ _ hb1 q))
   rw [kH,if_pos hb] at this
   exact this
  ·have hb':decide (n < m)=false:=by simp [hb]
   rw [hb']
   simp only [qaM,if_false]
   refine qaa (qbN ?_)
   rw [hname]
   refine qag ⟨qbP qck _,ih (j+1) _ m t c hd' hit1 (Heap.IsList.at hl λo q=>e1 _ _ hlI q) hS1 λt' h' k=>?_⟩
   have:=hR t' h' λb o hb1 hb2 q=>k b o hb1 hb2 (e1 _ _ hb1 q)
   rw [kH,if_neg hb] at this
   exact this
variable {E:Value->Shared->Prop}
theorem uD (hh:A.handled=none) (hi:IntsAre items.toList ns) (hSI:S≠I) (hlI:l≠I) (hlS:l≠S) {c:Nat} (hit:s.heap.IsListIter I l 0) (hl:s.heap.IsList l items) (hS:s.heap.get? S=some { cls:=.type "list",dict:=none,data:=.seq #[] c,slots:=#[] })
  (hR:∀ v h',(∀ b o,b≠I->b≠S->s.heap.get? b=some o->h'.get? b=some o)->(∀ n r,ns=n::r->∃ t,v=.int (kH r n) t)->(ns=[]->∃ k,kw=[(k,v)])->R (.ok (.ret v)) { s with heap:=h' })
  (h0:ns=[]->∃ k v,kw=[(k,v)]):codeAny (model prog w) A (.builtin "min.loop" ⟨[.ref I,.none,.ref S],kw⟩) R s:=by
 have hname:(toString "min"++toString ".loop" : String) = "min.loop":=by decide
 refine qb1 qeu ?_
 rw [qbv qck _]
 show wpAny _ A.in1 (seqItems? (.ref S) >>= _) _ _ s
 refine qaa (qbd hS rfl ?_)
 show wpAny _ A.in1 (tryCatch (pyNext (.ref I)) _ >>= _) _ _ s
 cases hn:ns with
 | nil=>
  obtain⟨k,v,rfl⟩:=h0 hn
  refine qaa (qbn (qcs hh hit hl (fZ hi (j:=0) (by rw [hn];rfl)) λh1 e1=>?_))
  refine qaa (qb8 (qag ?_))
  exact hR v _ (λb o hb1 _ q=>e1 _ _ hb1 q) (λn r e=>by rw [hn] at e;cases e) λ_=>⟨k,rfl⟩
 | cons n rest=>
  obtain⟨tn,hx⟩:=gc hi (j:=0) (n:=n) (by rw [hn];rfl)
  refine qaa (qbn (qco hit hl hx λh1 hit1 s1=>?_))
  have e1:=s1.extBut
  have hS1:=e1 _ _ hSI hS
  show wpAny _ A.in1 (updateSeq S (λ_=>#[.int n tn,.int n tn]) >>= _) _ _ _
  refine qaa (qb0 hS1 rfl ?_)
  rw [hname]
  refine qag ⟨qbP qck _,AO hh hi hSI hlI hlS rest 1 _ n tn _ (by rw [hn];rfl) (hit1.at λo q=>(qar _ _ hSI).trans q) (Heap.IsList.at hl λo q=>(qar _ _ (qbI hlS)).trans (e1 _ _ hlI q)) (qbD _ hS1 rfl) λt' h' k=>?_⟩
  exact hR _ h' (λb o hb1 hb2 q=>k b o hb1 hb2 ((qar _ _ (qbI hb2)).trans (e1 _ _ hb1 q))) (λn' r' e=>by rw [hn] at e;cases e;exact⟨t',rfl⟩) λe=>by rw [hn] at e;cases e
theorem nO {Q:Value->Shared->Prop} (hh:A.handled=none) (hi:IntsAre items.toList ns) (hl:s.heap.IsList l items) (hk:kw=[]) (h0:ns=[]->kw≠[])
  (h:∀ v h',(∀ b o,s.heap.get? b=some o->h'.get? b=some o)->(∀ n r,ns=n::r->∃ t,v=.int (kH r n) t)->(ns=[]->∃ k,kw=[(k,v)])->Q v { s with heap:=h' }) :
  wpAny (model prog w) A (call (.builtin "min") [.ref l] kw) Q E s:=by
 have hname:(toString "min"++toString ".loop" : String) = "min.loop":=by decide
 have hlt:l < s.heap.objs.size:=by obtain⟨_,e,_⟩:=hl;exact qao e
 have hsz:(s.heap.push { cls:=.type "list_iterator",data:=.fields #[.ref l,.int 0 0] }).objs.size=s.heap.objs.size+1:=qbc ..
 have fin:∀ dd:List Value,kw=dd.map (λd=>((Str.ofString "default",d):Str×Value))->wpAny (model prog w) A.in1 (do
   let it <-pyIter (.ref l)
   let b <-newList []
   PySem.again (.builtin "min.loop" ⟨[it,.none,b],dd.map λd=>(Str.ofString "default",d)⟩)) (λfin s'=>match fin with
   | .done f=>(match (Except.ok f:Result) with | .ok (.ret v)=>Q v s' | .ok _=>False | .error e=>E e s')
   | .again c'=>c'.quiet=true/\codeAny (model prog w) A c' (λr s'=>match r with | .ok (.ret v)=>Q v s' | .ok _=>False | .error e=>E e s') s') E s:=λdd hdd=>by
  refine qaa (qc0 hl (qaa (qbo ?_)))
  refine qag ⟨qbP qck _,?_⟩
  rw [<-hdd]
  refine uD (S:=(s.heap.push { cls:=.type "list_iterator",data:=.fields #[.ref l,.int 0 0] }).objs.size) (I:=s.heap.objs.size) (l:=l) hh hi (by rw [hsz];exact qc1 _) (qaw hlt) (by rw [hsz];exact qaw (qaO hlt))
   ⟨_,qae _ (qav _ rfl),rfl,rfl⟩ (Heap.IsList.at hl λo q=>qae _ (qae _ q)) (qav _ rfl) (λv h' k h1 h2=>?_) (λe=>?_)
  ·refine h v h' (λb o q=>?_) h1 h2
   have hb:=qao q
   exact k b o (qaw hb) (by rw [hsz];exact qaw (qaO hb)) (qae _ (qae _ q))
  ·exact absurd hk (h0 e)
 subst hk
 refine dr F.kind_min F.plain_min F.entry_min (F.args_min1 _) ?_
 show wpAny _ A.in1 (Builtin.Builtins.bindParams "min" ["key","default"] 0 ⟨[],[]⟩ >>= _) _ _ s
 refine qaa (qdt (show Builtin.Builtins.bindParams "min" ["key","default"] 0 ⟨[],[]⟩=pure [none,none] from rfl) ?_)
 refine qaa (qag ?_)
 have:=fin [] rfl
 rw [<-hname] at this
 exact this
end
section
variable {K:PySem.W.Frag}{X:Cx}{e a b:Expr}{es:List Expr}{pos:Pos}{f fa fb:Ef}{af:Af}
theorem uq (hc:X.calm=true) {kw:List (Str×Value)}{d:Option V}{ns:List Int}{pins:List (Addr×Obj)}{σ:St}{H:Hp}{s:Shared}{ad:Addr}{Q:VK}{E:XK}{r:Int} (I:Inv X pins σ H s) (hl:Rd H ad (.lst (ns.map V.int)))
  (hk:kw=[]/\ns≠[]) (hr:∀ n q,ns=n::q->r=kH q n) (q:Q (.int r) H) :
  wpAny (model X.prog X.w) X.A (call (.builtin "min") [.ref ad] kw) (EP X pins σ Q) X.xe s:=by
 obtain⟨its,rv,pl,hz⟩:=I.list (.inl hl)
 refine nO (items:=its.toArray) (ns:=ns) (I.ok.hd hc) (by simpa using eR rv) pl.isList ?_ ?_ λv h' kp h1 h2=>?_
 ·exact hk.1
 ·intro e z
  exact hk.2 e
 ·have hv:∃ t,v=.int r t:=by
   cases hn:ns with
   | nil=>exact absurd hn hk.2
   | cons n q=>
    rw [hr n q hn]
    exact h1 n q hn
  exact⟨.int r,H,I.kept kp,hv,q⟩
noncomputable def dMi (st:Sto):List W->Option D
 | [.d (.int i),.d (.int j)]=>some (.int (if j < i then j else i))
 | [w]=>(lsI st w).bind λns=>(mZ ns none).map D.int
 | _=>none
theorem zb (hc:X.calm=true:=by rfl):et K X (.builtin "min") dMi:=by
 refine⟨λst ws d h=>?_⟩
 have one:∀ w,((lsI st w).bind λns=>(mZ ns none).map D.int)=some d->bS X (.builtin "min") (rCD K st [w] d):=λw h=>by
  obtain⟨ns,e1,h⟩:=qab.mp h
  obtain⟨r,e2,rfl⟩:=qac.mp h
  intro pins s σ H xs us Q I rv q
  obtain⟨φ,S,⟨v,rr,rfl,r1,rfl⟩,q⟩:=q
  obtain⟨ad,rfl,hl⟩:=sQ S r1 e1
  obtain⟨u,rfl,ru⟩:=gD rv
  cases ru
  refine uq (E:=λ_ _ _=>False) (d:=none) hc I hl ⟨rfl,λe=>by rw [e] at e2;cases e2⟩ (λn q hn=>by rw [hn] at e2;exact (qaA e2).symm) (q _ H (bx.refl H) rfl)
 match ws,h with
 | [.d (.int i),.d (.int j)],h=>
  cases h
  refine (uv hc).imp ?_
  rintro vs H Q ⟨φ,S,⟨v,r,rfl,r1,u,r',rfl,r2,rfl⟩,q⟩
  exact⟨i,j,by rw [show v=.int i from r1,show u=.int j from r2],q _ H (bx.refl H) rfl⟩
 | [w],h=>exact one w (by cases w with | h n=>exact h | d x=>cases x<;>exact h)
end
end L2
namespace Own
open PySem L2
noncomputable def b_is_whole:Sf:=(bn (j6 (iCB wO (ae (iV 0) (ae (iC (.ty "int")) ai))) (sr (iCB wO (ae (iV 0) (ae (iC (.ty "bool")) ai))))))
noncomputable def m_is_whole:Fn:=aJ 1 1 b_is_whole
noncomputable def gH:Ef:=(j6 (av m_is_whole (ae (iV 0) ai)) (iOp dGe (iV 0) (iC (.int 0))))
noncomputable def b_are_amounts:Sf:=(aw (eF (nR (mX (t7 rJ (iCB wO (ae (iV 0) (ae (iC (.ty "tuple")) ai))))) (bg dNe (iCB bI (ae (iV 0) ai)) (iV 1))) (bn (iC (.bl false))) du) (bn (iCB rA (ae (aD (iLc 1 [] (br (iV 0)) (.nm 0) cC gH)) ai))))
noncomputable def m_are_amounts:Fn:=aJ 2 2 b_are_amounts
noncomputable def dP:Sf:=(aG (.nm 1) (iOp cA (iV 1) (iC (.int 2))))
noncomputable def b_power_of_two:Sf:=(aw (aG (.nm 1) (iC (.int 1))) (aw (gN (bw (ae (iV 0) ai)) (.nm 2) dP) (bn (iV 1))))
noncomputable def m_power_of_two:Fn:=aJ 3 1 b_power_of_two
noncomputable def b_on_in:Sf:=(bn (iOp eV (iOp fk (iV 0) (av m_power_of_two (ae (iV 1) ai))) (iC (.int 2))))
noncomputable def m_on_in:Fn:=aJ 2 2 b_on_in
noncomputable def cx:Tf:=(bg dNe (iV 3) (iC (.int 0)))
noncomputable def dD:Sf:=(aw (aG (.nm 4) (iOp eV (iV 1) (iV 3))) (aw (aG (.nm 1) (iV 3)) (aG (.nm 3) (iV 4))))
noncomputable def dv:Sf:=(aw (aG (.nm 3) (iCB ph (ae (iV 2) ai))) (il 1000000000000000000000000000000 cx dD))
noncomputable def b_greatest_part:Sf:=(aw (aG (.nm 1) (iC (.int 0))) (aw (gN (br (iV 0)) (.nm 2) dv) (bn (iV 1))))
noncomputable def m_greatest_part:Fn:=aJ 5 1 b_greatest_part
noncomputable def im:Ef:=(iOp zX (iV 0) (iV 1))
noncomputable def b_lowered:Sf:=(aw (aG (.nm 1) (av m_greatest_part (ae (iV 0) ai))) (aw (eF (bg dEq (iV 1) (iC (.int 0))) (bn (iCB eH (ae (iV 0) ai))) du) (bn (iCB eH (ae (aD (iLc 1 [1] (br (iV 0)) (.nm 0) cC im)) ai)))))
noncomputable def m_lowered:Fn:=aJ 2 1 b_lowered
noncomputable def d6:Sf:=(aG (.nm 2) (iOp fk (iOp cA (iV 2) (iOp gL (iV 0) (iV 3))) (iOp dm (iV 3) (iC (.int 1)))))
noncomputable def b_how_many_choices:Sf:=(aw (aG (.nm 2) (iC (.int 1))) (aw (gN (bw (ae (iV 1) ai)) (.nm 3) d6) (bn (iV 2))))
noncomputable def m_how_many_choices:Fn:=aJ 4 2 b_how_many_choices
noncomputable def iq:Sf:=(aG (.nm 1) (iOp cA (iV 1) (iV 2)))
noncomputable def b_multiplied:Sf:=(aw (aG (.nm 1) (iC (.int 1))) (aw (gN (br (iV 0)) (.nm 2) iq) (bn (iV 1))))
noncomputable def m_multiplied:Fn:=aJ 3 1 b_multiplied
noncomputable def gv:Ef:=(iOp dm (iV 0) (kg (ae (iV 2) ai)))
noncomputable def gz:Tf:=(bg dLt (iCB bI (ae (iV 0) ai)) (iV 1))
noncomputable def gr:Sf:=(aG (.nm 2) (iOp dm (iV 2) (aD (iLc 1 [1,3] (br (iV 2)) (.nm 0) gz gv))))
noncomputable def b_terms_to:Sf:=(aw (aG (.nm 2) (aD (dF (ae (kg ai) ai)))) (aw (gN (bw (ae (iV 0) ai)) (.nm 3) gr) (bn (iCB eH (ae (aD (iCL gB (ae (iV 2) ai))) ai)))))
noncomputable def m_terms_to:Fn:=aJ 4 2 b_terms_to
noncomputable def gn:Ef:=(av m_on_in (ae (iV 1) (ae (iV 0) ai)))
noncomputable def b_value_of:Sf:=(aw (aG (.nm 3) (iCB jA (ae (aD (iLc 1 [2] (br (iV 1)) (.nm 0) cC gn)) ai))) (aw (eF (bg dEq (iV 0) (iC (.str "both"))) (bn (kv (bg dEq (iV 3) (iCB bI (ae (iV 1) ai))) (iC (.int 1)) (iC (.int 0)))) du) (bn (kv (bg dEq (iOp eV (iV 3) (iC (.int 2))) (iC (.int 1))) (iUn rX (iC (.int 1))) (iC (.int 1))))))
noncomputable def m_value_of:Fn:=aJ 4 3 b_value_of
noncomputable def b_unlike_at:Sf:=(aw (eF (nR (bg ml (iV 0) (iC .non)) (bg ml (iV 1) (iC .non))) (bn (iC .non)) du) (bn (kv (bg dNe (iV 0) (iV 1)) (iC (.int 1)) (iC (.int 0)))))
noncomputable def m_unlike_at:Fn:=aJ 2 2 b_unlike_at
noncomputable def lu:Ef:=(av m_unlike_at (ae (iOp dIx (iV 1) (iOp eV (iV 0) (iCB bI (ae (iV 1) ai)))) (ae (iOp dIx (iV 2) (iOp fk (iV 0) (iCB bI (ae (iV 1) ai)))) ai)))
noncomputable def b_unlike:Sf:=(bn (iCB eH (ae (aD (iLc 1 [0,1] (bw (ae (iOp cA (iCB bI (ae (iV 0) ai)) (iCB bI (ae (iV 1) ai))) ai)) (.nm 0) cC lu)) ai)))
noncomputable def m_unlike:Fn:=aJ 2 2 b_unlike
noncomputable def eZ:Ef:=(iOp cA (iOp dIx (iV 1) (iOp eV (iV 0) (iCB bI (ae (iV 1) ai)))) (iOp dIx (iV 2) (iOp fk (iV 0) (iCB bI (ae (iV 1) ai)))))
noncomputable def b_unlike_weights:Sf:=(bn (iCB eH (ae (aD (iLc 1 [0,1] (bw (ae (iOp cA (iCB bI (ae (iV 0) ai)) (iCB bI (ae (iV 1) ai))) ai)) (.nm 0) cC eZ)) ai)))
noncomputable def m_unlike_weights:Fn:=aJ 2 2 b_unlike_weights
noncomputable def cV:Tf:=(bg dLt (iV 2) (iCB bI (ae (iV 0) ai)))
noncomputable def ed:Sf:=(aw (aG (.nm 2) (iOp cA (iV 2) (iC (.int 2)))) (aG (.nm 1) (iOp dm (iV 1) (iC (.int 1)))))
noncomputable def b_switches_of:Sf:=(aw (aG (.nm 1) (iC (.int 0))) (aw (aG (.nm 2) (iC (.int 1))) (aw (il 1000000000000000000000000000000 cV ed) (bn (iV 1)))))
noncomputable def m_switches_of:Fn:=aJ 3 1 b_switches_of
noncomputable def fP:Ef:=(iV 0)
noncomputable def fV:Tf:=(bg sT (iV 1) (iC .non))
noncomputable def b_told_rows:Sf:=(bn (iCB eH (ae (aD (iLc 2 [] (io (ae (iV 0) ai)) (.tp [0,1]) fV fP)) ai)))
noncomputable def m_told_rows:Fn:=aJ 1 1 b_told_rows
noncomputable def b_sign_at:Sf:=(bn (kv (bg dEq (iOp dIx (iV 0) (iV 1)) (iC (.int 1))) (iC (.int 1)) (iUn rX (iC (.int 1)))))
noncomputable def m_sign_at:Fn:=aJ 2 2 b_sign_at
noncomputable def dE:Tf:=(bg dGt (iV 0) (iC (.int 0)))
noncomputable def gX:Sf:=(aw (aG (.nm 1) (iOp dm (iV 1) (iOp eV (iV 0) (iC (.int 2))))) (aG (.nm 0) (iOp fk (iV 0) (iC (.int 2)))))
noncomputable def b_many_on:Sf:=(aw (aG (.nm 1) (iC (.int 0))) (aw (il 1000000000000000000000000000000 dE gX) (bn (iV 1))))
noncomputable def m_many_on:Fn:=aJ 2 1 b_many_on
noncomputable def fU:Ef:=(iOp dIx (iV 1) (av m_many_on (ae (iV 0) ai)))
noncomputable def b_by_counts:Sf:=(bn (iCB eH (ae (aD (iLc 1 [0] (bw (ae (av m_power_of_two (ae (iOp gL (iCB bI (ae (iV 0) ai)) (iC (.int 1))) ai)) ai)) (.nm 0) cC fU)) ai)))
noncomputable def m_by_counts:Fn:=aJ 1 1 b_by_counts
noncomputable def ke:Ef:=(iV 0)
noncomputable def kn:Tf:=(bg dNe (iOp dIx (iV 1) (iV 0)) (iOp dIx (iV 1) (iOp dm (iV 0) (iC (.int 1)))))
noncomputable def b_ends_of:Sf:=(bn (aD (iLc 1 [0] (bw (ae (iOp gL (iCB bI (ae (iV 0) ai)) (iC (.int 1))) ai)) (.nm 0) kn ke)))
noncomputable def m_ends_of:Fn:=aJ 1 1 b_ends_of
noncomputable def b_changes_of:Sf:=(bn (iCB bI (ae (av m_ends_of (ae (iV 0) ai)) ai)))
noncomputable def m_changes_of:Fn:=aJ 1 1 b_changes_of
noncomputable def gw:Ef:=(iCB ph (ae (iOp gL (iV 1) (iV 0)) ai))
noncomputable def gy:Tf:=(bg dNe (iV 0) (iV 1))
noncomputable def b_share_of:Sf:=(bn (iOp cA (av m_multiplied (ae (aD (iLc 1 [2] (br (iV 1)) (.nm 0) gy gw)) ai)) (av m_how_many_choices (ae (iV 0) (ae (iV 2) ai)))))
noncomputable def m_share_of:Fn:=aJ 3 3 b_share_of
noncomputable def gQ:Sf:=(gW (iV 4) (iV 5) (iOp fk (av m_multiplied (ae (iV 3) ai)) (iV 6)))
noncomputable def lO:Sf:=(aw (aG (.nm 4) (lP (vz wl (aD (dF (ae (iC (.int 0)) ai))) (iCB bI (ae (iV 0) ai))))) (aw (gN (mz (ae (iV 2) (ae (iV 3) ai))) (.tp [5,6]) gQ) (bn (av m_lowered (ae (av m_by_counts (ae (iV 4) ai)) ai)))))
noncomputable def eP:Ef:=(av m_share_of (ae (iV 1) (ae (iV 2) (ae (iV 0) ai))))
noncomputable def b_counts_bar:Sf:=(aw (aG (.nm 1) (iOp gL (iCB bI (ae (iV 0) ai)) (iC (.int 1)))) (aw (eF (bg dEq (av m_changes_of (ae (iV 0) ai)) (iC (.int 0))) (bn (iC .non)) du) (aw (aG (.nm 2) (iOp dm (av m_ends_of (ae (iV 0) ai)) (aD (dF (ae (iV 1) ai))))) (aw (aG (.nm 3) (aD (iLc 1 [1,2] (br (iV 2)) (.nm 0) cC eP))) lO))))
noncomputable def m_counts_bar:Fn:=lI 7 1 b_counts_bar
noncomputable def b_signed_value:Sf:=(bn (iOp cA (av m_sign_at (ae (iV 0) (ae (iV 3) ai))) (av m_value_of (ae (iV 1) (ae (iV 2) (ae (iV 3) ai))))))
noncomputable def m_signed_value:Fn:=aJ 4 4 b_signed_value
noncomputable def gA:Ef:=(iOp cA (iOp dIx (iV 1) (iV 0)) (av m_signed_value (ae (iV 2) (ae (iV 3) (ae (iV 4) (ae (iV 0) ai))))))
noncomputable def b_weighted:Sf:=(bn (iCB jA (ae (aD (iLc 1 [3,0,1,2] (br (av m_told_rows (ae (iV 0) ai))) (.nm 0) cC gA)) ai)))
noncomputable def m_weighted:Fn:=aJ 4 4 b_weighted
noncomputable def gC:Ef:=(iOp dEq (iV 1) (iC (.int 0)))
noncomputable def gE:Tf:=(bg ml (iV 0) (iC .non))
noncomputable def b_are_weights:Sf:=(aw (eF (mX (t7 rJ (av m_are_amounts (ae (iV 1) (ae (iCB bI (ae (iV 0) ai)) ai))))) (bn (iC (.bl false))) du) (bn (iCB rA (ae (aD (iLc 2 [] (mz (ae (iV 0) (ae (iV 1) ai))) (.tp [0,1]) gE gC)) ai))))
noncomputable def m_are_weights:Fn:=aJ 2 2 b_are_weights
noncomputable def fX:Ef:=(iOp dEq (av m_weighted (ae (iV 1) (ae (iV 2) (ae (iV 0) (ae (iV 3) ai))))) (iC (.int 0)))
noncomputable def b_are_balanced:Sf:=(bn (iCB rA (ae (aD (iLc 1 [0,1,3] (br (iV 2)) (.nm 0) cC fX)) ai)))
noncomputable def m_are_balanced:Fn:=aJ 4 4 b_are_balanced
noncomputable def b_is_bar:Sf:=(bn (j6 (av m_are_weights (ae (iV 0) (ae (iV 3) ai))) (j6 (iCB zC (ae (iV 3) ai)) (av m_are_balanced (ae (iV 0) (ae (iV 1) (ae (iV 2) (ae (iV 3) ai))))))))
noncomputable def m_is_bar:Fn:=aJ 4 4 b_is_bar
noncomputable def iN:Ef:=(iCB bI (ae (iV 0) ai))
noncomputable def iF:Tf:=(bg dNe (av m_weighted (ae (iV 1) (ae (iC (.str "odd")) (ae (iV 0) (ae (iV 2) ai))))) (iC (.int 0)))
noncomputable def b_barred_to:Sf:=(aw (aG (.nm 2) (av m_switches_of (ae (iV 0) ai))) (bn (iCB dMi (ae (aD (iLc 1 [0,1] (br (av m_terms_to (ae (iV 2) (ae (iV 2) ai)))) (.nm 0) iF iN)) ai))))
noncomputable def m_barred_to:Fn:=aJ 3 2 b_barred_to
noncomputable def dw:Ef:=(iCB ph (ae (iV 0) ai))
noncomputable def dH:Tf:=(bg dGe (iCB ph (ae (iV 0) ai)) (iOp tV (iC (.int 10)) (iC (.int 18))))
noncomputable def ft:Sf:=(aG (.nm 1) (iOp eV (iOp dm (iOp cA (iV 1) (iC (.int 1000003))) (iV 2)) (iC (.int 2305843009213693951))))
noncomputable def b__law_spool:Sf:=(aw (aG (.nm 1) (iOp dm (iCB bI (ae (iV 0) ai)) (iC (.int 11)))) (aw (gN (br (iSl (iV 0) iPn (iPs (iC (.int 63))))) (.nm 2) ft) (bn (sv (ae (lP (iLc 1 [] (br (iSl (iV 0) iPn (iPs (iC (.int 63))))) (.nm 0) dH dw)) (ae (iV 1) (ae (iC (.int 0)) ai)))))))
noncomputable def m__law_spool:Fn:=aJ 3 1 b__law_spool
noncomputable def cI:Tf:=(jg (bg dNe (gu (iV 0) (iC (.int 0))) (aD (dF ai))) (bg dEq (iOp dIx (gu (iV 0) (iC (.int 0))) (iC (.int 0))) (iC (.int 0))))
noncomputable def fK:Sf:=(mo (jv vT (gu (iV 0) (iC (.int 0))) (ae (iC (.int 0)) ai)))
noncomputable def b__law_take:Sf:=(aw (il 1000000000000000000000000000000 cI fK) (aw (eF (bg dNe (gu (iV 0) (iC (.int 0))) (aD (dF ai))) (aw (aG (.nm 2) (iOp eV (iOp dIx (gu (iV 0) (iC (.int 0))) (iC (.int 0))) (iV 1))) (aw (gW (gu (iV 0) (iC (.int 0))) (iC (.int 0)) (iOp fk (iOp dIx (gu (iV 0) (iC (.int 0))) (iC (.int 0))) (iV 1))) (bn (iV 2)))) du) (aw (jB (iV 0) (iC (.int 2)) (iOp dm (gu (iV 0) (iC (.int 2))) (iC (.int 1)))) (aw (aG (.nm 3) (iOp eV (iOp cA (iOp dm (gu (iV 0) (iC (.int 1))) (iOp cA (iC (.int 104729)) (gu (iV 0) (iC (.int 2))))) (iC (.int 48271))) (iC (.int 2305843009213693951)))) (aw (aG (.nm 4) (iOp eV (iOp cA (iV 3) (iOp dm (iOp dm (iOp fk (iV 3) (iC (.int 1000003))) (iOp cA (gu (iV 0) (iC (.int 2))) (gu (iV 0) (iC (.int 2))))) (iC (.int 7)))) (iC (.int 2305843009213693921)))) (bn (iOp eV (iOp fk (iV 4) (iC (.int 8191))) (iV 1))))))))
noncomputable def m__law_take:Fn:=aJ 5 2 b__law_take
noncomputable def iP:Ef:=(iV 0)
noncomputable def iE:Tf:=(bg dEq (iOp xG (iOp xn (iV 1) (iV 0)) (iC (.int 1))) (iC (.int 1)))
noncomputable def b__law_term:Sf:=(aw (aG (.nm 3) (iCB bI (ae (aD (iLc 1 [2] (br (iV 1)) (.nm 0) iE iP)) ai))) (bn (kv (bg dEq (iV 0) (iC (.str "both"))) (iCB yG (ae (iOp dEq (iV 3) (iCB bI (ae (iV 1) ai))) ai)) (iOp gL (iC (.int 1)) (iOp cA (iC (.int 2)) (iOp eV (iV 3) (iC (.int 2))))))))
noncomputable def m__law_term:Fn:=aJ 4 3 b__law_term
noncomputable def eW:Ef:=(iV 0)
noncomputable def fj:Tf:=(bg dLe (iCB bI (ae (iV 0) ai)) (iV 1))
noncomputable def ig:Ef:=(iV 0)
noncomputable def ic:Tf:=(bg dEq (iOp xG (iOp xn (iV 1) (iV 0)) (iC (.int 1))) (iC (.int 1)))
noncomputable def iu:Ef:=(iCB eH (ae (aD (iLc 1 [0] (bw (ae (iV 1) ai)) (.nm 0) ic ig)) ai))
noncomputable def b__law_terms:Sf:=(aw (aG (.nm 2) (aD (iLc 1 [0] (bw (ae (iOp vd (iC (.int 1)) (iV 0)) ai)) (.nm 0) cC iu))) (bn (aD (iCL gB (ae (aD (iLc 1 [1] (br (iV 2)) (.nm 0) fj eW)) ai)))))
noncomputable def m__law_terms:Fn:=aJ 3 2 b__law_terms
noncomputable def b__law_sizes:Sf:=(aw (aG (.nm 1) (aD (dF (ae (av m__law_take (ae (iV 0) (ae (iC (.int 4)) ai))) (ae (av m__law_take (ae (iV 0) (ae (iC (.int 4)) ai))) ai))))) (aw (eF (bg dEq (av m__law_take (ae (iV 0) (ae (iC (.int 6)) ai))) (iC (.int 0))) (aw (aG (.nm 2) (av m__law_take (ae (iV 0) (ae (iC (.int 7)) ai)))) (aG (.nm 1) (aD (dF (ae (iV 2) (ae (iOp gL (iC (.int 6)) (iV 2)) ai)))))) du) (bn (iV 1))))
noncomputable def m__law_sizes:Fn:=aJ 3 1 b__law_sizes
noncomputable def dW:Ef:=(av m__law_take (ae (iV 1) (ae (iOp dIx (aD (dF (ae (iC (.int 2)) (ae (iC (.int 9)) (ae (iOp tV (iC (.int 10)) (iC (.int 9))) ai))))) (av m__law_take (ae (iV 1) (ae (iC (.int 3)) ai)))) ai)))
noncomputable def fT:Ef:=(av m__law_take (ae (iV 1) (ae (iC (.int 2)) ai)))
noncomputable def b__law_side:Sf:=(aw (aG (.nm 2) (iCB eH (ae (aD (iLc 1 [0] (bw (ae (iOp dm (iV 1) (iC (.int 1))) ai)) (.nm 0) cC fT)) ai))) (aw (aG (.nm 3) (av m_by_counts (ae (iV 2) ai))) (aw (aG (.nm 4) (av m_counts_bar (ae (iV 2) ai))) (aw (eF (nR (bg ml (iV 4) (iC .non)) (bg dEq (av m__law_take (ae (iV 0) (ae (iC (.int 3)) ai))) (iC (.int 0)))) (aG (.nm 4) (iCB eH (ae (aD (iLc 1 [0] (br (iV 3)) (.nm 0) cC dW)) ai))) du) (bn (kg (ae (iV 3) (ae (iV 4) ai))))))))
noncomputable def m__law_side:Fn:=aJ 5 2 b__law_side
noncomputable def fH:Ef:=(iV 0)
noncomputable def fI:Tf:=(bg dEq (iOp vd (iC (.int 1)) (iV 0)) (iCB bI (ae (iV 1) ai)))
noncomputable def b__law_switches:Sf:=(bn (iOp dIx (aD (iLc 1 [0] (bw (ae (iC (.int 7)) ai)) (.nm 0) fI fH)) (iC (.int 0))))
noncomputable def m__law_switches:Fn:=aJ 1 1 b__law_switches
noncomputable def de:Ef:=(iOp cA (iV 1) (av m__law_term (ae (iV 2) (ae (iV 3) (ae (iV 0) ai)))))
noncomputable def dg:Tf:=(bg dNe (iV 1) (iC (.int 0)))
noncomputable def dc:Sf:=(eF (bg dNe (iCB jA (ae (aD (iLc 2 [2,6] (io (ae (iV 4) ai)) (.tp [0,1]) dg de)) ai)) (iC (.int 0))) (mo (jv iw (iV 5) (ae (iCB bI (ae (iV 6) ai)) ai))) du)
noncomputable def ef:Ef:=(kv (bg ml (iOp dIx (iV 2) (iV 0)) (iC .non)) (iC (.int 0)) (iOp cA (iV 1) (iOp gL (iOp cA (iC (.int 2)) (iOp dIx (iV 2) (iV 0))) (iC (.int 1)))))
noncomputable def b__law_barred:Sf:=(aw (aG (.nm 3) (av m__law_switches (ae (iV 0) ai))) (aw (aG (.nm 4) (aD (iLc 2 [0] (io (ae (iV 1) ai)) (.tp [0,1]) cC ef))) (aw (aG (.nm 5) (lP (dF (ae (iOp dm (iV 3) (iC (.int 1))) ai)))) (aw (gN (br (av m__law_terms (ae (iV 3) (ae (iV 3) ai)))) (.nm 6) dc) (bn (iCB dMi (ae (iV 5) ai)))))))
noncomputable def m__law_barred:Fn:=lI 7 3 b__law_barred
noncomputable def b__law_both_right:Sf:=(aw (uS 5 6 (ae (av m_unlike (ae (iV 0) (ae (iV 1) ai))) (ae (iCB jA (ae (iV 4) ai)) ai))) (aw (aG (.nm 7) (iOp dm (av m__law_switches (ae (iV 0) ai)) (av m__law_switches (ae (iV 1) ai)))) (aw (aG (.nm 8) (av m__law_barred (ae (iV 5) (ae (iV 2) (ae (iV 3) ai))))) (aw (eF (nR (bg dLt (iV 8) (iV 6)) (bg dNe (iCB fS (ae (av m_barred_to (ae (iV 5) (ae (iV 2) ai))) ai)) (iCB fS (ae (iV 8) ai)))) (bn (iC (.bl false))) du) (aw (aG (.nm 9) (iCB eH (ae (av m__law_terms (ae (iV 7) (ae (iOp gL (iV 8) (iC (.int 1))) ai))) ai))) (bn (j6 (iOp A5 (av m_is_bar (ae (iV 5) (ae (iV 3) (ae (iV 9) (ae (iV 2) ai))))) (iC (.bl true))) (iOp A5 (av m_is_bar (ae (iV 5) (ae (iV 3) (ae (iCB eH (ae (av m__law_terms (ae (iV 7) (ae (iV 8) ai))) ai)) (ae (iV 2) ai))))) (iC (.bl false))))))))))
noncomputable def m__law_both_right:Fn:=aJ 10 5 b__law_both_right
noncomputable def sY:Sf:=(eF (jg (bg dGt (iCB ww (ae (iV 9) ai)) (iC (.int 0))) (mX (t7 rJ (av m__law_both_right (ae (iV 5) (ae (iV 7) (ae (iV 9) (ae (iV 11) (ae (iV 12) ai))))))))) (bn (iC (.bl false))) du)
noncomputable def oj:Ef:=(iOp cA (iOp dIx (iV 1) (iOp eV (iV 0) (iCB bI (ae (iV 2) ai)))) (iOp dIx (iV 3) (iOp fk (iV 0) (iCB bI (ae (iV 2) ai)))))
noncomputable def yx:Sf:=(aw (aG (.nm 10) (aD (iLc 1 [6,5,8] (bw (ae (iOp cA (iCB bI (ae (iV 5) ai)) (iCB bI (ae (iV 7) ai))) ai)) (.nm 0) cC oj))) (aw (eF (bg dNe (iCB fS (ae (iV 9) ai)) (iCB fS (ae (iCB eH (ae (iV 10) ai)) ai))) (bn (iC (.bl false))) du) (aw (aG (.nm 11) (iOp dIx (aD (dF (ae (iC (.str "both")) (ae (iC (.str "odd")) ai)))) (av m__law_take (ae (iV 1) (ae (iC (.int 2)) ai))))) (aw (aG (.nm 12) (aD (dF (ae (av m__law_barred (ae (iV 5) (ae (iV 6) (ae (iV 11) ai)))) (ae (av m__law_barred (ae (iV 7) (ae (iV 8) (ae (iV 11) ai)))) ai))))) sY))))
noncomputable def oQ:Sf:=(aw (aG (.tp [3,4]) (av m__law_sizes (ae (iV 1) ai))) (aw (aG (.tp [5,6]) (av m__law_side (ae (iV 1) (ae (iV 3) ai)))) (aw (aG (.tp [7,8]) (av m__law_side (ae (iV 1) (ae (iV 4) ai)))) (aw (aG (.nm 9) (av m_unlike_weights (ae (iV 6) (ae (iV 8) ai)))) yx))))
noncomputable def no:Sf:=(aw (aG (.nm 1) (av m__law_spool (ae (iV 0) ai))) (aw (gN (bw (ae (iC (.int 2)) ai)) (.nm 2) oQ) (bn (iC (.bl true)))))
noncomputable def m_law:Fn:=lI 13 1 no
end Own
section
set_option maxHeartbeats 2000000
namespace Own
open PySem L2
noncomputable def top (i:Nat):Stmt:=PySem.Challenge.pw_signpoly_k64_weights_beside.main.body.getD i (.Pass ⟨0,0,0,0⟩)
abbrev cz:Stmt:=top 1
abbrev bz:Stmt:=top 2
abbrev bB:Stmt:=top 3
abbrev eG:Stmt:=top 4
abbrev bu:Stmt:=top 5
abbrev cE:Stmt:=top 6
abbrev aT:Stmt:=top 7
abbrev bT:Stmt:=top 8
abbrev cm:Stmt:=top 10
abbrev cj:Stmt:=top 11
abbrev cb:Stmt:=top 13
abbrev cZ:Stmt:=top 14
abbrev ba:Stmt:=top 15
abbrev bM:Stmt:=top 17
abbrev bX:Stmt:=top 18
abbrev cU:Stmt:=top 19
abbrev cW:Stmt:=top 21
abbrev b0:Stmt:=top 22
abbrev cD:Stmt:=top 23
abbrev bV:Stmt:=top 24
abbrev cp:Stmt:=top 25
abbrev bL:Stmt:=top 26
abbrev bC:Stmt:=top 28
abbrev cn:Stmt:=top 30
abbrev bA:Stmt:=top 31
abbrev bq:Stmt:=top 32
abbrev dC:Stmt:=top 33
abbrev bZ:Stmt:=top 34
abbrev bK:Stmt:=top 36
abbrev cf:Stmt:=top 37
abbrev bY:Stmt:=top 38
abbrev bv:Stmt:=top 39
abbrev bW:Stmt:=top 40
abbrev bN:Stmt:=top 41
abbrev bf:Stmt:=top 42
abbrev bt:Stmt:=top 43
abbrev bb:Stmt:=top 44
abbrev iK:Stmt:=top 45
theorem qd:aB ["thing"] ["thing"] (ab cz):=⟨rfl,rfl,rfl,by decide +kernel,rfl,by decide +kernel,by decide +kernel⟩
theorem lF:aB ["thing","many"] ["thing","many"] (ab bz):=⟨rfl,rfl,rfl,by decide +kernel,rfl,by decide +kernel,by decide +kernel⟩
theorem di:aB ["k","power","step"] ["k"] (ab bB):=⟨rfl,rfl,rfl,by decide +kernel,rfl,by decide +kernel,by decide +kernel⟩
theorem wp:aB ["row","k"] ["row","k"] (ab eG):=⟨rfl,rfl,rfl,by decide +kernel,rfl,by decide +kernel,by decide +kernel⟩
theorem bJ:aB ["numbers","found","number","rest","over"] ["numbers"] (ab bu):=⟨rfl,rfl,rfl,by decide +kernel,rfl,by decide +kernel,by decide +kernel⟩
theorem lr:aB ["numbers","shared"] ["numbers"] (ab cE):=⟨rfl,rfl,rfl,by decide +kernel,rfl,by decide +kernel,by decide +kernel⟩
theorem cr:aB ["many","taken","ways","k"] ["many","taken"] (ab aT):=⟨rfl,rfl,rfl,by decide +kernel,rfl,by decide +kernel,by decide +kernel⟩
theorem dX:aB ["numbers","product","number"] ["numbers"] (ab bT):=⟨rfl,rfl,rfl,by decide +kernel,rfl,by decide +kernel,by decide +kernel⟩
theorem fA:aB ["n","size","terms","k"] ["n","size"] (ab cm):=⟨rfl,rfl,rfl,by decide +kernel,rfl,by decide +kernel,by decide +kernel⟩
theorem kc:aB ["kind","term","row","many"] ["kind","term","row"] (ab cj):=⟨rfl,rfl,rfl,by decide +kernel,rfl,by decide +kernel,by decide +kernel⟩
theorem oG:aB ["value","other"] ["value","other"] (ab cb):=⟨rfl,rfl,rfl,by decide +kernel,rfl,by decide +kernel,by decide +kernel⟩
theorem ug:aB ["f","g"] ["f","g"] (ab cZ):=⟨rfl,rfl,rfl,by decide +kernel,rfl,by decide +kernel,by decide +kernel⟩
theorem jo:aB ["one","other"] ["one","other"] (ab ba):=⟨rfl,rfl,rfl,by decide +kernel,rfl,by decide +kernel,by decide +kernel⟩
theorem cK:aB ["f","many","rows"] ["f"] (ab bM):=⟨rfl,rfl,rfl,by decide +kernel,rfl,by decide +kernel,by decide +kernel⟩
theorem nY:aB ["f"] ["f"] (ab bX):=⟨rfl,rfl,rfl,by decide +kernel,rfl,by decide +kernel,by decide +kernel⟩
theorem rV:aB ["f","row"] ["f","row"] (ab cU):=⟨rfl,rfl,rfl,by decide +kernel,rfl,by decide +kernel,by decide +kernel⟩
theorem gm:aB ["row","many"] ["row"] (ab cW):=⟨rfl,rfl,rfl,by decide +kernel,rfl,by decide +kernel,by decide +kernel⟩
theorem oP:aB ["row"] ["row"] (ab b0):=⟨rfl,rfl,rfl,by decide +kernel,rfl,by decide +kernel,by decide +kernel⟩
theorem rf:aB ["row"] ["row"] (ab cD):=⟨rfl,rfl,rfl,by decide +kernel,rfl,by decide +kernel,by decide +kernel⟩
theorem mI:aB ["row"] ["row"] (ab bV):=⟨rfl,rfl,rfl,by decide +kernel,rfl,by decide +kernel,by decide +kernel⟩
theorem pU:aB ["n","counts","count"] ["n","counts","count"] (ab cp):=⟨rfl,rfl,rfl,by decide +kernel,rfl,by decide +kernel,by decide +kernel⟩
theorem ck:aB ["row","n","counts","shares","weights","count","share"] ["row"] (ab bL):=⟨rfl,rfl,rfl,by decide +kernel,rfl,by decide +kernel,by decide +kernel⟩
theorem kF:aB ["f","kind","term","row"] ["f","kind","term","row"] (ab bC):=⟨rfl,rfl,rfl,by decide +kernel,rfl,by decide +kernel,by decide +kernel⟩
theorem pf:aB ["f","kind","term","weights"] ["f","kind","term","weights"] (ab cn):=⟨rfl,rfl,rfl,by decide +kernel,rfl,by decide +kernel,by decide +kernel⟩
theorem ll:aB ["f","thing"] ["f","thing"] (ab bA):=⟨rfl,rfl,rfl,by decide +kernel,rfl,by decide +kernel,by decide +kernel⟩
theorem kC:aB ["f","kind","terms","weights"] ["f","kind","terms","weights"] (ab bq):=⟨rfl,rfl,rfl,by decide +kernel,rfl,by decide +kernel,by decide +kernel⟩
theorem tX:aB ["f","kind","terms","thing"] ["f","kind","terms","thing"] (ab dC):=⟨rfl,rfl,rfl,by decide +kernel,rfl,by decide +kernel,by decide +kernel⟩
theorem jk:aB ["f","weights","n"] ["f","weights"] (ab bZ):=⟨rfl,rfl,rfl,by decide +kernel,rfl,by decide +kernel,by decide +kernel⟩
theorem d0:aB ["_law_script","_law_seed","_law_cell"] ["_law_script"] (ab bK):=⟨rfl,rfl,rfl,by decide +kernel,rfl,by decide +kernel,by decide +kernel⟩
theorem eB:aB ["_law_spool_here","_law_many","_law_digit","_law_once","_law_twice"] ["_law_spool_here","_law_many"] (ab cf):=⟨rfl,rfl,rfl,by decide +kernel,rfl,by decide +kernel,by decide +kernel⟩
theorem ju:aB ["_law_kind","_law_term_here","_law_row","_law_on"] ["_law_kind","_law_term_here","_law_row"] (ab bY):=⟨rfl,rfl,rfl,by decide +kernel,rfl,by decide +kernel,by decide +kernel⟩
theorem iL:aB ["_law_n","_law_size","_law_every"] ["_law_n","_law_size"] (ab bv):=⟨rfl,rfl,rfl,by decide +kernel,rfl,by decide +kernel,by decide +kernel⟩
theorem dU:aB ["_law_spool_here","_law_found","_law_first"] ["_law_spool_here"] (ab bW):=⟨rfl,rfl,rfl,by decide +kernel,rfl,by decide +kernel,by decide +kernel⟩
theorem dB:aB ["_law_spool_here","_law_n","_law_row","_law_f","_law_weights"] ["_law_spool_here","_law_n"] (ab bN):=⟨rfl,rfl,rfl,by decide +kernel,rfl,by decide +kernel,by decide +kernel⟩
theorem jF:aB ["_law_f"] ["_law_f"] (ab bf):=⟨rfl,rfl,rfl,by decide +kernel,rfl,by decide +kernel,by decide +kernel⟩
theorem cN:aB ["_law_f","_law_weights","_law_kind","_law_n","_law_shares","_law_sizes_here","_law_term_here"] ["_law_f","_law_weights","_law_kind"] (ab bt):=⟨rfl,rfl,rfl,by decide +kernel,rfl,by decide +kernel,by decide +kernel⟩
theorem b7:aB ["_law_f","_law_g","_law_found","_law_kind","_law_sizes_here","_law_both","_law_due","_law_n","_law_least","_law_terms_here"] ["_law_f","_law_g","_law_found","_law_kind","_law_sizes_here"] (ab bb):=⟨rfl,rfl,rfl,by decide +kernel,rfl,by decide +kernel,by decide +kernel⟩
theorem dM:aB ["_law_script","_law_spool_here","_law_turn","_law_n","_law_m","_law_f","_law_weights","_law_g","_law_others","_law_found","_law_due","_law_kind","_law_sizes_here"] ["_law_script"] (ab iK):=⟨rfl,rfl,rfl,by decide +kernel,rfl,by decide +kernel,by decide +kernel⟩
set_option genSizeOf false in
set_option genInjectivity false in
structure Adr where
 f_is_whole:Addr
 fd_is_whole:FuncData
 f_are_amounts:Addr
 fd_are_amounts:FuncData
 f_power_of_two:Addr
 fd_power_of_two:FuncData
 f_on_in:Addr
 fd_on_in:FuncData
 f_greatest_part:Addr
 fd_greatest_part:FuncData
 f_lowered:Addr
 fd_lowered:FuncData
 f_how_many_choices:Addr
 fd_how_many_choices:FuncData
 f_multiplied:Addr
 fd_multiplied:FuncData
 f_terms_to:Addr
 fd_terms_to:FuncData
 f_value_of:Addr
 fd_value_of:FuncData
 f_unlike_at:Addr
 fd_unlike_at:FuncData
 f_unlike:Addr
 fd_unlike:FuncData
 f_unlike_weights:Addr
 fd_unlike_weights:FuncData
 f_switches_of:Addr
 fd_switches_of:FuncData
 f_told_rows:Addr
 fd_told_rows:FuncData
 f_sign_at:Addr
 fd_sign_at:FuncData
 f_many_on:Addr
 fd_many_on:FuncData
 f_by_counts:Addr
 fd_by_counts:FuncData
 f_ends_of:Addr
 fd_ends_of:FuncData
 f_changes_of:Addr
 fd_changes_of:FuncData
 f_share_of:Addr
 fd_share_of:FuncData
 f_counts_bar:Addr
 fd_counts_bar:FuncData
 f_signed_value:Addr
 fd_signed_value:FuncData
 f_weighted:Addr
 fd_weighted:FuncData
 f_are_weights:Addr
 fd_are_weights:FuncData
 f_are_balanced:Addr
 fd_are_balanced:FuncData
 f_is_bar:Addr
 fd_is_bar:FuncData
 f_barred_to:Addr
 fd_barred_to:FuncData
 f__law_spool:Addr
 fd__law_spool:FuncData
 f__law_take:Addr
 fd__law_take:FuncData
 f__law_term:Addr
 fd__law_term:FuncData
 f__law_terms:Addr
 fd__law_terms:FuncData
 f__law_sizes:Addr
 fd__law_sizes:FuncData
 f__law_side:Addr
 fd__law_side:FuncData
 f__law_switches:Addr
 fd__law_switches:FuncData
 f__law_barred:Addr
 fd__law_barred:FuncData
 f__law_both_right:Addr
 fd__law_both_right:FuncData
 f_law:Addr
 fd_law:FuncData
structure Txt (K:PySem.W.Frag) (mg:Str->Option Value) (t:Adr):Prop where
 F_is_whole:Fun K "is_whole" "is_whole" cz t.f_is_whole t.fd_is_whole
 m_is_whole:mg "is_whole" = some (.ref t.f_is_whole)
 b_is_whole:bp K t.fd_is_whole ["thing"] []
 F_are_amounts:Fun K "are_amounts" "are_amounts" bz t.f_are_amounts t.fd_are_amounts
 m_are_amounts:mg "are_amounts" = some (.ref t.f_are_amounts)
 b_are_amounts:bp K t.fd_are_amounts ["thing","many"] []
 F_power_of_two:Fun K "power_of_two" "power_of_two" bB t.f_power_of_two t.fd_power_of_two
 m_power_of_two:mg "power_of_two" = some (.ref t.f_power_of_two)
 b_power_of_two:bp K t.fd_power_of_two ["k"] []
 F_on_in:Fun K "on_in" "on_in" eG t.f_on_in t.fd_on_in
 m_on_in:mg "on_in" = some (.ref t.f_on_in)
 b_on_in:bp K t.fd_on_in ["row","k"] []
 F_greatest_part:Fun K "greatest_part" "greatest_part" bu t.f_greatest_part t.fd_greatest_part
 m_greatest_part:mg "greatest_part" = some (.ref t.f_greatest_part)
 b_greatest_part:bp K t.fd_greatest_part ["numbers"] []
 F_lowered:Fun K "lowered" "lowered" cE t.f_lowered t.fd_lowered
 m_lowered:mg "lowered" = some (.ref t.f_lowered)
 b_lowered:bp K t.fd_lowered ["numbers"] []
 F_how_many_choices:Fun K "how_many_choices" "how_many_choices" aT t.f_how_many_choices t.fd_how_many_choices
 m_how_many_choices:mg "how_many_choices" = some (.ref t.f_how_many_choices)
 b_how_many_choices:bp K t.fd_how_many_choices ["many","taken"] []
 F_multiplied:Fun K "multiplied" "multiplied" bT t.f_multiplied t.fd_multiplied
 m_multiplied:mg "multiplied" = some (.ref t.f_multiplied)
 b_multiplied:bp K t.fd_multiplied ["numbers"] []
 F_terms_to:Fun K "terms_to" "terms_to" cm t.f_terms_to t.fd_terms_to
 m_terms_to:mg "terms_to" = some (.ref t.f_terms_to)
 b_terms_to:bp K t.fd_terms_to ["n","size"] []
 F_value_of:Fun K "value_of" "value_of" cj t.f_value_of t.fd_value_of
 m_value_of:mg "value_of" = some (.ref t.f_value_of)
 b_value_of:bp K t.fd_value_of ["kind","term","row"] []
 F_unlike_at:Fun K "unlike_at" "unlike_at" cb t.f_unlike_at t.fd_unlike_at
 m_unlike_at:mg "unlike_at" = some (.ref t.f_unlike_at)
 b_unlike_at:bp K t.fd_unlike_at ["value","other"] []
 F_unlike:Fun K "unlike" "unlike" cZ t.f_unlike t.fd_unlike
 m_unlike:mg "unlike" = some (.ref t.f_unlike)
 b_unlike:bp K t.fd_unlike ["f","g"] []
 F_unlike_weights:Fun K "unlike_weights" "unlike_weights" ba t.f_unlike_weights t.fd_unlike_weights
 m_unlike_weights:mg "unlike_weights" = some (.ref t.f_unlike_weights)
 b_unlike_weights:bp K t.fd_unlike_weights ["one","other"] []
 F_switches_of:Fun K "switches_of" "switches_of" bM t.f_switches_of t.fd_switches_of
 m_switches_of:mg "switches_of" = some (.ref t.f_switches_of)
 b_switches_of:bp K t.fd_switches_of ["f"] []
 F_told_rows:Fun K "told_rows" "told_rows" bX t.f_told_rows t.fd_told_rows
 m_told_rows:mg "told_rows" = some (.ref t.f_told_rows)
 b_told_rows:bp K t.fd_told_rows ["f"] []
 F_sign_at:Fun K "sign_at" "sign_at" cU t.f_sign_at t.fd_sign_at
 m_sign_at:mg "sign_at" = some (.ref t.f_sign_at)
 b_sign_at:bp K t.fd_sign_at ["f","row"] []
 F_many_on:Fun K "many_on" "many_on" cW t.f_many_on t.fd_many_on
 m_many_on:mg "many_on" = some (.ref t.f_many_on)
 b_many_on:bp K t.fd_many_on ["row"] []
 F_by_counts:Fun K "by_counts" "by_counts" b0 t.f_by_counts t.fd_by_counts
 m_by_counts:mg "by_counts" = some (.ref t.f_by_counts)
 b_by_counts:bp K t.fd_by_counts ["row"] []
 F_ends_of:Fun K "ends_of" "ends_of" cD t.f_ends_of t.fd_ends_of
 m_ends_of:mg "ends_of" = some (.ref t.f_ends_of)
 b_ends_of:bp K t.fd_ends_of ["row"] []
 F_changes_of:Fun K "changes_of" "changes_of" bV t.f_changes_of t.fd_changes_of
 m_changes_of:mg "changes_of" = some (.ref t.f_changes_of)
 b_changes_of:bp K t.fd_changes_of ["row"] []
 F_share_of:Fun K "share_of" "share_of" cp t.f_share_of t.fd_share_of
 m_share_of:mg "share_of" = some (.ref t.f_share_of)
 b_share_of:bp K t.fd_share_of ["n","counts","count"] []
 F_counts_bar:Fun K "counts_bar" "counts_bar" bL t.f_counts_bar t.fd_counts_bar
 m_counts_bar:mg "counts_bar" = some (.ref t.f_counts_bar)
 b_counts_bar:bp K t.fd_counts_bar ["row"] []
 F_signed_value:Fun K "signed_value" "signed_value" bC t.f_signed_value t.fd_signed_value
 m_signed_value:mg "signed_value" = some (.ref t.f_signed_value)
 b_signed_value:bp K t.fd_signed_value ["f","kind","term","row"] []
 F_weighted:Fun K "weighted" "weighted" cn t.f_weighted t.fd_weighted
 m_weighted:mg "weighted" = some (.ref t.f_weighted)
 b_weighted:bp K t.fd_weighted ["f","kind","term","weights"] []
 F_are_weights:Fun K "are_weights" "are_weights" bA t.f_are_weights t.fd_are_weights
 m_are_weights:mg "are_weights" = some (.ref t.f_are_weights)
 b_are_weights:bp K t.fd_are_weights ["f","thing"] []
 F_are_balanced:Fun K "are_balanced" "are_balanced" bq t.f_are_balanced t.fd_are_balanced
 m_are_balanced:mg "are_balanced" = some (.ref t.f_are_balanced)
 b_are_balanced:bp K t.fd_are_balanced ["f","kind","terms","weights"] []
 F_is_bar:Fun K "is_bar" "is_bar" dC t.f_is_bar t.fd_is_bar
 m_is_bar:mg "is_bar" = some (.ref t.f_is_bar)
 b_is_bar:bp K t.fd_is_bar ["f","kind","terms","thing"] []
 F_barred_to:Fun K "barred_to" "barred_to" bZ t.f_barred_to t.fd_barred_to
 m_barred_to:mg "barred_to" = some (.ref t.f_barred_to)
 b_barred_to:bp K t.fd_barred_to ["f","weights"] []
 F__law_spool:Fun K "_law_spool" "_law_spool" bK t.f__law_spool t.fd__law_spool
 m__law_spool:mg "_law_spool" = some (.ref t.f__law_spool)
 b__law_spool:bp K t.fd__law_spool ["_law_script"] []
 F__law_take:Fun K "_law_take" "_law_take" cf t.f__law_take t.fd__law_take
 m__law_take:mg "_law_take" = some (.ref t.f__law_take)
 b__law_take:bp K t.fd__law_take ["_law_spool_here","_law_many"] []
 F__law_term:Fun K "_law_term" "_law_term" bY t.f__law_term t.fd__law_term
 m__law_term:mg "_law_term" = some (.ref t.f__law_term)
 b__law_term:bp K t.fd__law_term ["_law_kind","_law_term_here","_law_row"] []
 F__law_terms:Fun K "_law_terms" "_law_terms" bv t.f__law_terms t.fd__law_terms
 m__law_terms:mg "_law_terms" = some (.ref t.f__law_terms)
 b__law_terms:bp K t.fd__law_terms ["_law_n","_law_size"] []
 F__law_sizes:Fun K "_law_sizes" "_law_sizes" bW t.f__law_sizes t.fd__law_sizes
 m__law_sizes:mg "_law_sizes" = some (.ref t.f__law_sizes)
 b__law_sizes:bp K t.fd__law_sizes ["_law_spool_here"] []
 F__law_side:Fun K "_law_side" "_law_side" bN t.f__law_side t.fd__law_side
 m__law_side:mg "_law_side" = some (.ref t.f__law_side)
 b__law_side:bp K t.fd__law_side ["_law_spool_here","_law_n"] []
 F__law_switches:Fun K "_law_switches" "_law_switches" bf t.f__law_switches t.fd__law_switches
 m__law_switches:mg "_law_switches" = some (.ref t.f__law_switches)
 b__law_switches:bp K t.fd__law_switches ["_law_f"] []
 F__law_barred:Fun K "_law_barred" "_law_barred" bt t.f__law_barred t.fd__law_barred
 m__law_barred:mg "_law_barred" = some (.ref t.f__law_barred)
 b__law_barred:bp K t.fd__law_barred ["_law_f","_law_weights","_law_kind"] []
 F__law_both_right:Fun K "_law_both_right" "_law_both_right" bb t.f__law_both_right t.fd__law_both_right
 m__law_both_right:mg "_law_both_right" = some (.ref t.f__law_both_right)
 b__law_both_right:bp K t.fd__law_both_right ["_law_f","_law_g","_law_found","_law_kind","_law_sizes_here"] []
 F_law:Fun K "law" "law" iK t.f_law t.fd_law
 m_law:mg "law" = some (.ref t.f_law)
 no:bp K t.fd_law ["_law_script"] []
 z_abs:mg "abs" = none
 z_all:mg "all" = none
 z_any:mg "any" = none
 z_bool:mg "bool" = none
 z_enumerate:mg "enumerate" = none
 z_int:mg "int" = none
 z_isinstance:mg "isinstance" = none
 z_len:mg "len" = none
 z_max:mg "max" = none
 z_min:mg "min" = none
 z_range:mg "range" = none
 z_repr:mg "repr" = none
 z_sorted:mg "sorted" = none
 z_sum:mg "sum" = none
 z_tuple:mg "tuple" = none
 z_zip:mg "zip" = none
section
variable {P:Program}{w:World}{K:PySem.W.Frag}{mg:Str->Option Value}{base:Heap}{t:Adr}
theorem mF (T:Txt K mg t) (cdv:Value) (A:Around) (outer:List Env) (s:Shared) (H:Hp) (E:XK) (hr:bh (0) (A.deeper (PyProof.Rows.envOfC "is_whole" (ab cz) s.heap.objs.size t.f_is_whole cdv))):ISs K (b9 CX0 P w K mg base ["thing"] "is_whole" (ab cz) t.f_is_whole cdv A outer s H E).nox (am cz) b_is_whole:=
 (ap (aE (li (aU (qY rfl) rfl T.z_isinstance qcM (aa (iv 0) (aa (u6 rfl T.z_int qd5 (by decide) (by decide)) ah rfl) rfl) (by decide) (by decide) rfl rfl) (nB (Aj (aU (qY rfl) rfl T.z_isinstance qcM (aa (iv 0) (aa (u6 rfl T.z_bool qgL (by decide) (by decide)) ah rfl) rfl) (by decide) (by decide) rfl rfl))))))
theorem pM (T:Txt K mg t):aH P w K mg base CX0 1 t.f_is_whole t.fd_is_whole ["thing"] (spI K m_is_whole):=
 show aH P w K mg base CX0 1 t.f_is_whole t.fd_is_whole ["thing"] (spI K (aJ (List.length (α:=Str) ["thing"]) (List.length (α:=Str) ["thing"]) b_is_whole)) from cJ (N:=["thing"]) (ps:=["thing"]) (b:=b_is_whole) T.F_is_whole qd (λcdv A outer s H E hr=>mF T cdv A outer s H E hr)
theorem jR (T:Txt K mg t) (cdv:Value) (A:Around) (outer:List Env) (s:Shared) (H:Hp) (E:XK) (hr:bh (1) (A.deeper (PyProof.Rows.envOfC "are_amounts" (ab bz) s.heap.objs.size t.f_are_amounts cdv))):ISs K (b9 CX0 P w K mg base ["thing","many"] "are_amounts" (ab bz) t.f_are_amounts cdv A outer s H E).nox (am bz) b_are_amounts:=
 (ak (ge (jH (nV (rZ (re (aU (qY rfl) rfl T.z_isinstance qcM (aa (iv 0) (aa (u6 rfl T.z_tuple qaR (by decide) (by decide)) ah rfl) rfl) (by decide) (by decide) rfl rfl) rfl rfl)) (kS (aW (gI hr rfl) (aU (bG rfl) rfl T.z_len qaK (aa (iv 0) ah rfl) (by decide) (by decide) rfl rfl) (iv 1) (aI _))))) (ap (aE ki)) cR) (ap (aE (aU (qI rfl rfl) rfl T.z_all qc8 (aa (aP (cX (cw (ab bz).names ["thing","many"] ["number"] 1 [] rfl rfl rfl (by decide +kernel)) rfl (by decide) (cO (iv 0) rfl) (λ_ _ _ _ _=>(aZ (aA (i:=0) (show List.Nodup (α:=Str) ["number"] by decide +kernel) rfl (by first | exact Or.inl rfl | exact Or.inr rfl)))) (λ_ _ _ _ _=>cG) (λ_ _ _ _ _=>(li (ar (pM T) (by decide) hr rfl T.m_is_whole T.F_is_whole.kp T.b_is_whole (aa (iv 0) ah rfl) (by decide) rfl rfl) (nB (jX yY (iv 0) aj (aI _))))) (λ_=>rfl))) ah rfl) (by decide) (by decide) rfl rfl))))
theorem lH (T:Txt K mg t):aH P w K mg base CX0 2 t.f_are_amounts t.fd_are_amounts ["thing","many"] (spI K m_are_amounts):=
 show aH P w K mg base CX0 2 t.f_are_amounts t.fd_are_amounts ["thing","many"] (spI K (aJ (List.length (α:=Str) ["thing","many"]) (List.length (α:=Str) ["thing","many"]) b_are_amounts)) from cJ (N:=["thing","many"]) (ps:=["thing","many"]) (b:=b_are_amounts) T.F_are_amounts lF (λcdv A outer s H E hr=>jR T cdv A outer s H E hr)
theorem jd (T:Txt K mg t) (cdv:Value) (A:Around) (outer:List Env) (s:Shared) (H:Hp) (E:XK) (hr:bh (0) (A.deeper (PyProof.Rows.envOfC "power_of_two" (ab bB) s.heap.objs.size t.f_power_of_two cdv))):ISs K (b9 CX0 P w K mg base ["k","power","step"] "power_of_two" (ab bB) t.f_power_of_two cdv A outer s H E).nox (am bB) b_power_of_two:=
 (ak (aF (i:=1) di.nd rfl (by first | exact Or.inl rfl | exact Or.inr rfl) aj rfl (by first | exact .inl rfl | exact .inr rfl)) (ak (gx (cQ rfl T.z_range (aa (iv 0) ah rfl) rfl) (aZ (aA (i:=2) di.nd rfl (by first | exact Or.inl rfl | exact Or.inr rfl))) (ap (aF (i:=1) di.nd rfl (by first | exact Or.inl rfl | exact Or.inr rfl) (ay (cq rfl) (iv 1) aj) rfl (by first | exact .inl rfl | exact .inr rfl))) qbp rfl (λ_=>rfl)) (ap (aE (iv 1)))))
theorem gF (T:Txt K mg t):aH P w K mg base CX0 1 t.f_power_of_two t.fd_power_of_two ["k"] (spI K m_power_of_two):=
 show aH P w K mg base CX0 1 t.f_power_of_two t.fd_power_of_two ["k"] (spI K (aJ (List.length (α:=Str) ["k","power","step"]) (List.length (α:=Str) ["k"]) b_power_of_two)) from cJ (N:=["k","power","step"]) (ps:=["k"]) (b:=b_power_of_two) T.F_power_of_two di (λcdv A outer s H E hr=>jd T cdv A outer s H E hr)
theorem rE (T:Txt K mg t) (cdv:Value) (A:Around) (outer:List Env) (s:Shared) (H:Hp) (E:XK) (hr:bh (1) (A.deeper (PyProof.Rows.envOfC "on_in" (ab eG) s.heap.objs.size t.f_on_in cdv))):ISs K (b9 CX0 P w K mg base ["row","k"] "on_in" (ab eG) t.f_on_in cdv A outer s H E).nox (am eG) b_on_in:=
 (ap (aE (ay dQ (ay dZ (iv 0) (ar (gF T) (by decide) hr rfl T.m_power_of_two T.F_power_of_two.kp T.b_power_of_two (aa (iv 1) ah rfl) (by decide) rfl rfl)) aj)))
theorem uO (T:Txt K mg t):aH P w K mg base CX0 2 t.f_on_in t.fd_on_in ["row","k"] (spI K m_on_in):=
 show aH P w K mg base CX0 2 t.f_on_in t.fd_on_in ["row","k"] (spI K (aJ (List.length (α:=Str) ["row","k"]) (List.length (α:=Str) ["row","k"]) b_on_in)) from cJ (N:=["row","k"]) (ps:=["row","k"]) (b:=b_on_in) T.F_on_in wp (λcdv A outer s H E hr=>rE T cdv A outer s H E hr)
theorem i3 (T:Txt K mg t) (cdv:Value) (A:Around) (outer:List Env) (s:Shared) (H:Hp) (E:XK) (hr:bh (0) (A.deeper (PyProof.Rows.envOfC "greatest_part" (ab bu) s.heap.objs.size t.f_greatest_part cdv))):ISs K (b9 CX0 P w K mg base ["numbers","found","number","rest","over"] "greatest_part" (ab bu) t.f_greatest_part cdv A outer s H E).nox (am bu) b_greatest_part:=
 (ak (aF (i:=1) bJ.nd rfl (by first | exact Or.inl rfl | exact Or.inr rfl) aj rfl (by first | exact .inl rfl | exact .inr rfl)) (ak (gx (cO (iv 0) rfl) (aZ (aA (i:=2) bJ.nd rfl (by first | exact Or.inl rfl | exact Or.inr rfl))) (ak (aF (i:=3) bJ.nd rfl (by first | exact Or.inl rfl | exact Or.inr rfl) (aU nI rfl T.z_abs qcD (aa (iv 2) ah rfl) (by decide) (by decide) rfl rfl) rfl (by first | exact .inl rfl | exact .inr rfl)) (ap (i7 1000000000000000000000000000000 (aW (gI hr rfl) (iv 3) aj (aI _)) (ak (aF (i:=4) bJ.nd rfl (by first | exact Or.inl rfl | exact Or.inr rfl) (ay dQ (iv 1) (iv 3)) rfl (by first | exact .inl rfl | exact .inr rfl)) (ak (aF (i:=1) bJ.nd rfl (by first | exact Or.inl rfl | exact Or.inr rfl) (iv 3) rfl (by first | exact .inl rfl | exact .inr rfl)) (ap (aF (i:=3) bJ.nd rfl (by first | exact Or.inl rfl | exact Or.inr rfl) (iv 4) rfl (by first | exact .inl rfl | exact .inr rfl))))) qbp))) qbp rfl (λ_=>rfl)) (ap (aE (iv 1)))))
theorem jN (T:Txt K mg t):aH P w K mg base CX0 1 t.f_greatest_part t.fd_greatest_part ["numbers"] (spI K m_greatest_part):=
 show aH P w K mg base CX0 1 t.f_greatest_part t.fd_greatest_part ["numbers"] (spI K (aJ (List.length (α:=Str) ["numbers","found","number","rest","over"]) (List.length (α:=Str) ["numbers"]) b_greatest_part)) from cJ (N:=["numbers","found","number","rest","over"]) (ps:=["numbers"]) (b:=b_greatest_part) T.F_greatest_part bJ (λcdv A outer s H E hr=>i3 T cdv A outer s H E hr)
theorem n8 (T:Txt K mg t) (cdv:Value) (A:Around) (outer:List Env) (s:Shared) (H:Hp) (E:XK) (hr:bh (1) (A.deeper (PyProof.Rows.envOfC "lowered" (ab cE) s.heap.objs.size t.f_lowered cdv))):ISs K (b9 CX0 P w K mg base ["numbers","shared"] "lowered" (ab cE) t.f_lowered cdv A outer s H E).nox (am cE) b_lowered:=
 (ak (aF (i:=1) lr.nd rfl (by first | exact Or.inl rfl | exact Or.inr rfl) (ar (jN T) (by decide) hr rfl T.m_greatest_part T.F_greatest_part.kp T.b_greatest_part (aa (iv 0) ah rfl) (by decide) rfl rfl) rfl (by first | exact .inl rfl | exact .inr rfl)) (ak (ge (aW (er hr rfl) (iv 1) aj (aI _)) (ap (aE (fB (dS rfl) rfl T.z_tuple qaR (aa (iv 0) ah rfl) (by decide) (by decide) rfl rfl))) cR) (ap (aE (fB (dS rfl) rfl T.z_tuple qaR (aa (aP (cX (cw (ab cE).names ["numbers","shared"] ["number","shared"] 1 [1] rfl rfl rfl (by decide +kernel)) rfl (by decide) (cO (iv 0) rfl) (λ_ _ _ _ _=>(aZ (aA (i:=0) (show List.Nodup (α:=Str) ["number","shared"] by decide +kernel) rfl (by first | exact Or.inl rfl | exact Or.inr rfl)))) (λ_ _ _ _ _=>cG) (λ_ _ _ _ _=>(ay zS (iv 0) (iv 1))) (λ_=>rfl))) ah rfl) (by decide) (by decide) rfl rfl)))))
theorem rT (T:Txt K mg t):aH P w K mg base CX0 2 t.f_lowered t.fd_lowered ["numbers"] (spI K m_lowered):=
 show aH P w K mg base CX0 2 t.f_lowered t.fd_lowered ["numbers"] (spI K (aJ (List.length (α:=Str) ["numbers","shared"]) (List.length (α:=Str) ["numbers"]) b_lowered)) from cJ (N:=["numbers","shared"]) (ps:=["numbers"]) (b:=b_lowered) T.F_lowered lr (λcdv A outer s H E hr=>n8 T cdv A outer s H E hr)
theorem gJ (T:Txt K mg t) (cdv:Value) (A:Around) (outer:List Env) (s:Shared) (H:Hp) (E:XK) (hr:bh (0) (A.deeper (PyProof.Rows.envOfC "how_many_choices" (ab aT) s.heap.objs.size t.f_how_many_choices cdv))):ISs K (b9 CX0 P w K mg base ["many","taken","ways","k"] "how_many_choices" (ab aT) t.f_how_many_choices cdv A outer s H E).nox (am aT) b_how_many_choices:=
 (ak (aF (i:=2) cr.nd rfl (by first | exact Or.inl rfl | exact Or.inr rfl) aj rfl (by first | exact .inl rfl | exact .inr rfl)) (ak (gx (cQ rfl T.z_range (aa (iv 1) ah rfl) rfl) (aZ (aA (i:=3) cr.nd rfl (by first | exact Or.inl rfl | exact Or.inr rfl))) (ap (aF (i:=2) cr.nd rfl (by first | exact Or.inl rfl | exact Or.inr rfl) (ay dZ (ay (cq rfl) (iv 2) (ay gh (iv 0) (iv 3))) (ay (cY rfl) (iv 3) aj)) rfl (by first | exact .inl rfl | exact .inr rfl))) qbp rfl (λ_=>rfl)) (ap (aE (iv 2)))))
theorem iA (T:Txt K mg t):aH P w K mg base CX0 1 t.f_how_many_choices t.fd_how_many_choices ["many","taken"] (spI K m_how_many_choices):=
 show aH P w K mg base CX0 1 t.f_how_many_choices t.fd_how_many_choices ["many","taken"] (spI K (aJ (List.length (α:=Str) ["many","taken","ways","k"]) (List.length (α:=Str) ["many","taken"]) b_how_many_choices)) from cJ (N:=["many","taken","ways","k"]) (ps:=["many","taken"]) (b:=b_how_many_choices) T.F_how_many_choices cr (λcdv A outer s H E hr=>gJ T cdv A outer s H E hr)
theorem kK (T:Txt K mg t) (cdv:Value) (A:Around) (outer:List Env) (s:Shared) (H:Hp) (E:XK) (hr:bh (0) (A.deeper (PyProof.Rows.envOfC "multiplied" (ab bT) s.heap.objs.size t.f_multiplied cdv))):ISs K (b9 CX0 P w K mg base ["numbers","product","number"] "multiplied" (ab bT) t.f_multiplied cdv A outer s H E).nox (am bT) b_multiplied:=
 (ak (aF (i:=1) dX.nd rfl (by first | exact Or.inl rfl | exact Or.inr rfl) aj rfl (by first | exact .inl rfl | exact .inr rfl)) (ak (gx (cO (iv 0) rfl) (aZ (aA (i:=2) dX.nd rfl (by first | exact Or.inl rfl | exact Or.inr rfl))) (ap (aF (i:=1) dX.nd rfl (by first | exact Or.inl rfl | exact Or.inr rfl) (ay (cq rfl) (iv 1) (iv 2)) rfl (by first | exact .inl rfl | exact .inr rfl))) qbp rfl (λ_=>rfl)) (ap (aE (iv 1)))))
theorem iG (T:Txt K mg t):aH P w K mg base CX0 1 t.f_multiplied t.fd_multiplied ["numbers"] (spI K m_multiplied):=
 show aH P w K mg base CX0 1 t.f_multiplied t.fd_multiplied ["numbers"] (spI K (aJ (List.length (α:=Str) ["numbers","product","number"]) (List.length (α:=Str) ["numbers"]) b_multiplied)) from cJ (N:=["numbers","product","number"]) (ps:=["numbers"]) (b:=b_multiplied) T.F_multiplied dX (λcdv A outer s H E hr=>kK T cdv A outer s H E hr)
theorem mK (T:Txt K mg t) (cdv:Value) (A:Around) (outer:List Env) (s:Shared) (H:Hp) (E:XK) (hr:bh (0) (A.deeper (PyProof.Rows.envOfC "terms_to" (ab cm) s.heap.objs.size t.f_terms_to cdv))):ISs K (b9 CX0 P w K mg base ["n","size","terms","k"] "terms_to" (ab cm) t.f_terms_to cdv A outer s H E).nox (am cm) b_terms_to:=
 (ak (aF (i:=2) fA.nd rfl (by first | exact Or.inl rfl | exact Or.inr rfl) (aP (fu (aa (rP ah) ah rfl))) rfl (by first | exact .inl rfl | exact .inr rfl)) (ak (gx (cQ rfl T.z_range (aa (iv 0) ah rfl) rfl) (aZ (aA (i:=3) fA.nd rfl (by first | exact Or.inl rfl | exact Or.inr rfl))) (ap (aF (i:=2) fA.nd rfl (by first | exact Or.inl rfl | exact Or.inr rfl) (ay (cY rfl) (iv 2) (aP (cX (cw (ab cm).names ["n","size","terms","k"] ["term","size","k"] 1 [1,3] rfl rfl rfl (by decide +kernel)) rfl (by decide) (cO (iv 2) rfl) (λ_ _ _ _ _=>(aZ (aA (i:=0) (show List.Nodup (α:=Str) ["term","size","k"] by decide +kernel) rfl (by first | exact Or.inl rfl | exact Or.inr rfl)))) (λ_ _ _ _ _=>(dh (aW wm (aU (bG rfl) rfl T.z_len qaK (aa (iv 0) ah rfl) (by decide) (by decide) rfl rfl) (iv 1) (aI _)))) (λ_ _ _ _ _=>(ay (cY rfl) (iv 0) (rP (aa (iv 2) ah rfl)))) (λ_=>rfl)))) rfl (by first | exact .inl rfl | exact .inr rfl))) qbp rfl (λ_=>rfl)) (ap (aE (fB (dS rfl) rfl T.z_tuple qaR (aa (aP (yT (qy hr rfl) rfl T.z_sorted qdX (aa (iv 2) ah rfl) (by decide) (by decide) rfl rfl)) ah rfl) (by decide) (by decide) rfl rfl)))))
theorem o0 (T:Txt K mg t):aH P w K mg base CX0 1 t.f_terms_to t.fd_terms_to ["n","size"] (spI K m_terms_to):=
 show aH P w K mg base CX0 1 t.f_terms_to t.fd_terms_to ["n","size"] (spI K (aJ (List.length (α:=Str) ["n","size","terms","k"]) (List.length (α:=Str) ["n","size"]) b_terms_to)) from cJ (N:=["n","size","terms","k"]) (ps:=["n","size"]) (b:=b_terms_to) T.F_terms_to fA (λcdv A outer s H E hr=>mK T cdv A outer s H E hr)
theorem mN (T:Txt K mg t) (cdv:Value) (A:Around) (outer:List Env) (s:Shared) (H:Hp) (E:XK) (hr:bh (2) (A.deeper (PyProof.Rows.envOfC "value_of" (ab cj) s.heap.objs.size t.f_value_of cdv))):ISs K (b9 CX0 P w K mg base ["kind","term","row","many"] "value_of" (ab cj) t.f_value_of cdv A outer s H E).nox (am cj) b_value_of:=
 (ak (aF (i:=3) kc.nd rfl (by first | exact Or.inl rfl | exact Or.inr rfl) (aU (ny rfl rfl) rfl T.z_sum qcC (aa (aP (cX (cw (ab cj).names ["kind","term","row","many"] ["k","row"] 1 [2] rfl rfl rfl (by decide +kernel)) rfl (by decide) (cO (iv 1) rfl) (λ_ _ _ _ _=>(aZ (aA (i:=0) (show List.Nodup (α:=Str) ["k","row"] by decide +kernel) rfl (by first | exact Or.inl rfl | exact Or.inr rfl)))) (λ_ _ _ _ _=>cG) (λ_ _ _ _ _=>(ar (uO T) (by decide) hr rfl T.m_on_in T.F_on_in.kp T.b_on_in (aa (iv 1) (aa (iv 0) ah rfl) rfl) (by decide) rfl rfl)) (λ_=>rfl))) ah rfl) (by decide) (by decide) rfl rfl) rfl (by first | exact .inl rfl | exact .inr rfl)) (ak (ge (aW (er hr rfl) (iv 0) lS (aI _)) (ap (aE (nu (aW (er hr rfl) (iv 3) (aU (bG rfl) rfl T.z_len qaK (aa (iv 1) ah rfl) (by decide) (by decide) rfl rfl) (aI _)) aj aj))) cR) (ap (aE (nu (aW (er hr rfl) (ay dQ (iv 3) aj) aj (aI _)) (vo aj) aj)))))
theorem pX (T:Txt K mg t):aH P w K mg base CX0 3 t.f_value_of t.fd_value_of ["kind","term","row"] (spI K m_value_of):=
 show aH P w K mg base CX0 3 t.f_value_of t.fd_value_of ["kind","term","row"] (spI K (aJ (List.length (α:=Str) ["kind","term","row","many"]) (List.length (α:=Str) ["kind","term","row"]) b_value_of)) from cJ (N:=["kind","term","row","many"]) (ps:=["kind","term","row"]) (b:=b_value_of) T.F_value_of kc (λcdv A outer s H E hr=>mN T cdv A outer s H E hr)
theorem lA (T:Txt K mg t) (cdv:Value) (A:Around) (outer:List Env) (s:Shared) (H:Hp) (E:XK) (hr:bh (0) (A.deeper (PyProof.Rows.envOfC "unlike_at" (ab cb) s.heap.objs.size t.f_unlike_at cdv))):ISs K (b9 CX0 P w K mg base ["value","other"] "unlike_at" (ab cb) t.f_unlike_at cdv A outer s H E).nox (am cb) b_unlike_at:=
 (ak (ge (jH (nV (aW lz (iv 0) gT (aI _)) (kS (aW lz (iv 1) gT (aI _))))) (ap (aE gT)) cR) (ap (aE (nu (aW (gI hr rfl) (iv 0) (iv 1) (aI _)) aj aj))))
theorem oR (T:Txt K mg t):aH P w K mg base CX0 1 t.f_unlike_at t.fd_unlike_at ["value","other"] (spI K m_unlike_at):=
 show aH P w K mg base CX0 1 t.f_unlike_at t.fd_unlike_at ["value","other"] (spI K (aJ (List.length (α:=Str) ["value","other"]) (List.length (α:=Str) ["value","other"]) b_unlike_at)) from cJ (N:=["value","other"]) (ps:=["value","other"]) (b:=b_unlike_at) T.F_unlike_at oG (λcdv A outer s H E hr=>lA T cdv A outer s H E hr)
theorem pT (T:Txt K mg t) (cdv:Value) (A:Around) (outer:List Env) (s:Shared) (H:Hp) (E:XK) (hr:bh (1) (A.deeper (PyProof.Rows.envOfC "unlike" (ab cZ) s.heap.objs.size t.f_unlike cdv))):ISs K (b9 CX0 P w K mg base ["f","g"] "unlike" (ab cZ) t.f_unlike cdv A outer s H E).nox (am cZ) b_unlike:=
 (ap (aE (fB (dS rfl) rfl T.z_tuple qaR (aa (aP (cX (cw (ab cZ).names ["f","g"] ["row","f","g"] 1 [0,1] rfl rfl rfl (by decide +kernel)) rfl (by decide) (cQ rfl T.z_range (aa (ay (cq rfl) (aU (bG rfl) rfl T.z_len qaK (aa (iv 0) ah rfl) (by decide) (by decide) rfl rfl) (aU (bG rfl) rfl T.z_len qaK (aa (iv 1) ah rfl) (by decide) (by decide) rfl rfl)) ah rfl) rfl) (λ_ _ _ _ _=>(aZ (aA (i:=0) (show List.Nodup (α:=Str) ["row","f","g"] by decide +kernel) rfl (by first | exact Or.inl rfl | exact Or.inr rfl)))) (λ_ _ _ _ _=>cG) (λ_ _ _ _ _=>(ar (oR T) (by decide) hr rfl T.m_unlike_at T.F_unlike_at.kp T.b_unlike_at (aa (dn (iv 1) (ay dQ (iv 0) (aU (bG rfl) rfl T.z_len qaK (aa (iv 1) ah rfl) (by decide) (by decide) rfl rfl)) rfl rfl) (aa (dn (iv 2) (ay dZ (iv 0) (aU (bG rfl) rfl T.z_len qaK (aa (iv 1) ah rfl) (by decide) (by decide) rfl rfl)) rfl rfl) ah rfl) rfl) (by decide) rfl rfl)) (λ_=>rfl))) ah rfl) (by decide) (by decide) rfl rfl)))
theorem um (T:Txt K mg t):aH P w K mg base CX0 2 t.f_unlike t.fd_unlike ["f","g"] (spI K m_unlike):=
 show aH P w K mg base CX0 2 t.f_unlike t.fd_unlike ["f","g"] (spI K (aJ (List.length (α:=Str) ["f","g"]) (List.length (α:=Str) ["f","g"]) b_unlike)) from cJ (N:=["f","g"]) (ps:=["f","g"]) (b:=b_unlike) T.F_unlike ug (λcdv A outer s H E hr=>pT T cdv A outer s H E hr)
theorem iz (T:Txt K mg t) (cdv:Value) (A:Around) (outer:List Env) (s:Shared) (H:Hp) (E:XK) (hr:bh (0) (A.deeper (PyProof.Rows.envOfC "unlike_weights" (ab ba) s.heap.objs.size t.f_unlike_weights cdv))):ISs K (b9 CX0 P w K mg base ["one","other"] "unlike_weights" (ab ba) t.f_unlike_weights cdv A outer s H E).nox (am ba) b_unlike_weights:=
 (ap (aE (fB (dS rfl) rfl T.z_tuple qaR (aa (aP (cX (cw (ab ba).names ["one","other"] ["row","one","other"] 1 [0,1] rfl rfl rfl (by decide +kernel)) rfl (by decide) (cQ rfl T.z_range (aa (ay (cq rfl) (aU (bG rfl) rfl T.z_len qaK (aa (iv 0) ah rfl) (by decide) (by decide) rfl rfl) (aU (bG rfl) rfl T.z_len qaK (aa (iv 1) ah rfl) (by decide) (by decide) rfl rfl)) ah rfl) rfl) (λ_ _ _ _ _=>(aZ (aA (i:=0) (show List.Nodup (α:=Str) ["row","one","other"] by decide +kernel) rfl (by first | exact Or.inl rfl | exact Or.inr rfl)))) (λ_ _ _ _ _=>cG) (λ_ _ _ _ _=>(ay (cq rfl) (dn (iv 1) (ay dQ (iv 0) (aU (bG rfl) rfl T.z_len qaK (aa (iv 1) ah rfl) (by decide) (by decide) rfl rfl)) rfl rfl) (dn (iv 2) (ay dZ (iv 0) (aU (bG rfl) rfl T.z_len qaK (aa (iv 1) ah rfl) (by decide) (by decide) rfl rfl)) rfl rfl))) (λ_=>rfl))) ah rfl) (by decide) (by decide) rfl rfl)))
theorem jm (T:Txt K mg t):aH P w K mg base CX0 1 t.f_unlike_weights t.fd_unlike_weights ["one","other"] (spI K m_unlike_weights):=
 show aH P w K mg base CX0 1 t.f_unlike_weights t.fd_unlike_weights ["one","other"] (spI K (aJ (List.length (α:=Str) ["one","other"]) (List.length (α:=Str) ["one","other"]) b_unlike_weights)) from cJ (N:=["one","other"]) (ps:=["one","other"]) (b:=b_unlike_weights) T.F_unlike_weights jo (λcdv A outer s H E hr=>iz T cdv A outer s H E hr)
theorem jJ (T:Txt K mg t) (cdv:Value) (A:Around) (outer:List Env) (s:Shared) (H:Hp) (E:XK) (hr:bh (0) (A.deeper (PyProof.Rows.envOfC "switches_of" (ab bM) s.heap.objs.size t.f_switches_of cdv))):ISs K (b9 CX0 P w K mg base ["f","many","rows"] "switches_of" (ab bM) t.f_switches_of cdv A outer s H E).nox (am bM) b_switches_of:=
 (ak (aF (i:=1) cK.nd rfl (by first | exact Or.inl rfl | exact Or.inr rfl) aj rfl (by first | exact .inl rfl | exact .inr rfl)) (ak (aF (i:=2) cK.nd rfl (by first | exact Or.inl rfl | exact Or.inr rfl) aj rfl (by first | exact .inl rfl | exact .inr rfl)) (ak (i7 1000000000000000000000000000000 (aW wm (iv 2) (aU (bG rfl) rfl T.z_len qaK (aa (iv 0) ah rfl) (by decide) (by decide) rfl rfl) (aI _)) (ak (aF (i:=2) cK.nd rfl (by first | exact Or.inl rfl | exact Or.inr rfl) (ay (cq rfl) (iv 2) aj) rfl (by first | exact .inl rfl | exact .inr rfl)) (ap (aF (i:=1) cK.nd rfl (by first | exact Or.inl rfl | exact Or.inr rfl) (ay (cY rfl) (iv 1) aj) rfl (by first | exact .inl rfl | exact .inr rfl)))) qbp) (ap (aE (iv 1))))))
theorem lC (T:Txt K mg t):aH P w K mg base CX0 1 t.f_switches_of t.fd_switches_of ["f"] (spI K m_switches_of):=
 show aH P w K mg base CX0 1 t.f_switches_of t.fd_switches_of ["f"] (spI K (aJ (List.length (α:=Str) ["f","many","rows"]) (List.length (α:=Str) ["f"]) b_switches_of)) from cJ (N:=["f","many","rows"]) (ps:=["f"]) (b:=b_switches_of) T.F_switches_of cK (λcdv A outer s H E hr=>jJ T cdv A outer s H E hr)
theorem lK (T:Txt K mg t) (cdv:Value) (A:Around) (outer:List Env) (s:Shared) (H:Hp) (E:XK) (hr:bh (0) (A.deeper (PyProof.Rows.envOfC "told_rows" (ab bX) s.heap.objs.size t.f_told_rows cdv))):ISs K (b9 CX0 P w K mg base ["f"] "told_rows" (ab bX) t.f_told_rows cdv A outer s H E).nox (am bX) b_told_rows:=
 (ap (aE (fB (dS rfl) rfl T.z_tuple qaR (aa (aP (cX (cw (ab bX).names ["f"] ["row","value"] 2 [] rfl rfl rfl (by decide +kernel)) rfl (by decide) (om rfl T.z_enumerate (aa (iv 0) ah rfl) rfl rfl) (λ_ _ _ _ _=>(h7 (bR (aA (i:=0) (show List.Nodup (α:=Str) ["row","value"] by decide +kernel) rfl (by first | exact Or.inl rfl | exact Or.inr rfl)) (bR (aA (i:=1) (show List.Nodup (α:=Str) ["row","value"] by decide +kernel) rfl (by first | exact Or.inl rfl | exact Or.inr rfl)) fJ)) rfl rfl rfl rfl rfl)) (λ_ _ _ _ _=>(dh (aW wZ (iv 1) gT (aI _)))) (λ_ _ _ _ _=>(iv 0)) (λ_=>rfl))) ah rfl) (by decide) (by decide) rfl rfl)))
theorem oN (T:Txt K mg t):aH P w K mg base CX0 1 t.f_told_rows t.fd_told_rows ["f"] (spI K m_told_rows):=
 show aH P w K mg base CX0 1 t.f_told_rows t.fd_told_rows ["f"] (spI K (aJ (List.length (α:=Str) ["f"]) (List.length (α:=Str) ["f"]) b_told_rows)) from cJ (N:=["f"]) (ps:=["f"]) (b:=b_told_rows) T.F_told_rows nY (λcdv A outer s H E hr=>lK T cdv A outer s H E hr)
theorem ou (T:Txt K mg t) (cdv:Value) (A:Around) (outer:List Env) (s:Shared) (H:Hp) (E:XK) (hr:bh (0) (A.deeper (PyProof.Rows.envOfC "sign_at" (ab cU) s.heap.objs.size t.f_sign_at cdv))):ISs K (b9 CX0 P w K mg base ["f","row"] "sign_at" (ab cU) t.f_sign_at cdv A outer s H E).nox (am cU) b_sign_at:=
 (ap (aE (nu (aW (er hr rfl) (dn (iv 0) (iv 1) rfl rfl) aj (aI _)) aj (vo aj))))
theorem rS (T:Txt K mg t):aH P w K mg base CX0 1 t.f_sign_at t.fd_sign_at ["f","row"] (spI K m_sign_at):=
 show aH P w K mg base CX0 1 t.f_sign_at t.fd_sign_at ["f","row"] (spI K (aJ (List.length (α:=Str) ["f","row"]) (List.length (α:=Str) ["f","row"]) b_sign_at)) from cJ (N:=["f","row"]) (ps:=["f","row"]) (b:=b_sign_at) T.F_sign_at rV (λcdv A outer s H E hr=>ou T cdv A outer s H E hr)
theorem oO (T:Txt K mg t) (cdv:Value) (A:Around) (outer:List Env) (s:Shared) (H:Hp) (E:XK) (hr:bh (0) (A.deeper (PyProof.Rows.envOfC "many_on" (ab cW) s.heap.objs.size t.f_many_on cdv))):ISs K (b9 CX0 P w K mg base ["row","many"] "many_on" (ab cW) t.f_many_on cdv A outer s H E).nox (am cW) b_many_on:=
 (ak (aF (i:=1) gm.nd rfl (by first | exact Or.inl rfl | exact Or.inr rfl) aj rfl (by first | exact .inl rfl | exact .inr rfl)) (ak (i7 1000000000000000000000000000000 (aW yZ (iv 0) aj (aI _)) (ak (aF (i:=1) gm.nd rfl (by first | exact Or.inl rfl | exact Or.inr rfl) (ay (cY rfl) (iv 1) (ay dQ (iv 0) aj)) rfl (by first | exact .inl rfl | exact .inr rfl)) (ap (aF (i:=0) gm.nd rfl (by first | exact Or.inl rfl | exact Or.inr rfl) (ay dZ (iv 0) aj) rfl (by first | exact .inl rfl | exact .inr rfl)))) qbp) (ap (aE (iv 1)))))
theorem qV (T:Txt K mg t):aH P w K mg base CX0 1 t.f_many_on t.fd_many_on ["row"] (spI K m_many_on):=
 show aH P w K mg base CX0 1 t.f_many_on t.fd_many_on ["row"] (spI K (aJ (List.length (α:=Str) ["row","many"]) (List.length (α:=Str) ["row"]) b_many_on)) from cJ (N:=["row","many"]) (ps:=["row"]) (b:=b_many_on) T.F_many_on gm (λcdv A outer s H E hr=>oO T cdv A outer s H E hr)
theorem lR (T:Txt K mg t) (cdv:Value) (A:Around) (outer:List Env) (s:Shared) (H:Hp) (E:XK) (hr:bh (1) (A.deeper (PyProof.Rows.envOfC "by_counts" (ab b0) s.heap.objs.size t.f_by_counts cdv))):ISs K (b9 CX0 P w K mg base ["row"] "by_counts" (ab b0) t.f_by_counts cdv A outer s H E).nox (am b0) b_by_counts:=
 (ap (aE (fB (dS rfl) rfl T.z_tuple qaR (aa (aP (cX (cw (ab b0).names ["row"] ["place","row"] 1 [0] rfl rfl rfl (by decide +kernel)) rfl (by decide) (cQ rfl T.z_range (aa (ar (gF T) (by decide) hr rfl T.m_power_of_two T.F_power_of_two.kp T.b_power_of_two (aa (ay gh (aU (bG rfl) rfl T.z_len qaK (aa (iv 0) ah rfl) (by decide) (by decide) rfl rfl) aj) ah rfl) (by decide) rfl rfl) ah rfl) rfl) (λ_ _ _ _ _=>(aZ (aA (i:=0) (show List.Nodup (α:=Str) ["place","row"] by decide +kernel) rfl (by first | exact Or.inl rfl | exact Or.inr rfl)))) (λ_ _ _ _ _=>cG) (λ_ _ _ _ _=>(dn (iv 1) (ar (qV T) (by decide) hr rfl T.m_many_on T.F_many_on.kp T.b_many_on (aa (iv 0) ah rfl) (by decide) rfl rfl) rfl rfl)) (λ_=>rfl))) ah rfl) (by decide) (by decide) rfl rfl)))
theorem jn (T:Txt K mg t):aH P w K mg base CX0 2 t.f_by_counts t.fd_by_counts ["row"] (spI K m_by_counts):=
 show aH P w K mg base CX0 2 t.f_by_counts t.fd_by_counts ["row"] (spI K (aJ (List.length (α:=Str) ["row"]) (List.length (α:=Str) ["row"]) b_by_counts)) from cJ (N:=["row"]) (ps:=["row"]) (b:=b_by_counts) T.F_by_counts oP (λcdv A outer s H E hr=>lR T cdv A outer s H E hr)
theorem oB (T:Txt K mg t) (cdv:Value) (A:Around) (outer:List Env) (s:Shared) (H:Hp) (E:XK) (hr:bh (0) (A.deeper (PyProof.Rows.envOfC "ends_of" (ab cD) s.heap.objs.size t.f_ends_of cdv))):ISs K (b9 CX0 P w K mg base ["row"] "ends_of" (ab cD) t.f_ends_of cdv A outer s H E).nox (am cD) b_ends_of:=
 (ap (aE (aP (cX (cw (ab cD).names ["row"] ["count","row"] 1 [0] rfl rfl rfl (by decide +kernel)) rfl (by decide) (cQ rfl T.z_range (aa (ay gh (aU (bG rfl) rfl T.z_len qaK (aa (iv 0) ah rfl) (by decide) (by decide) rfl rfl) aj) ah rfl) rfl) (λ_ _ _ _ _=>(aZ (aA (i:=0) (show List.Nodup (α:=Str) ["count","row"] by decide +kernel) rfl (by first | exact Or.inl rfl | exact Or.inr rfl)))) (λ_ _ _ _ _=>(dh (aW (gI hr rfl) (dn (iv 1) (iv 0) rfl rfl) (dn (iv 1) (ay (cY rfl) (iv 0) aj) rfl rfl) (aI _)))) (λ_ _ _ _ _=>(iv 0)) (λ_=>rfl)))))
theorem lc (T:Txt K mg t):aH P w K mg base CX0 1 t.f_ends_of t.fd_ends_of ["row"] (spI K m_ends_of):=
 show aH P w K mg base CX0 1 t.f_ends_of t.fd_ends_of ["row"] (spI K (aJ (List.length (α:=Str) ["row"]) (List.length (α:=Str) ["row"]) b_ends_of)) from cJ (N:=["row"]) (ps:=["row"]) (b:=b_ends_of) T.F_ends_of rf (λcdv A outer s H E hr=>oB T cdv A outer s H E hr)
theorem ky (T:Txt K mg t) (cdv:Value) (A:Around) (outer:List Env) (s:Shared) (H:Hp) (E:XK) (hr:bh (1) (A.deeper (PyProof.Rows.envOfC "changes_of" (ab bV) s.heap.objs.size t.f_changes_of cdv))):ISs K (b9 CX0 P w K mg base ["row"] "changes_of" (ab bV) t.f_changes_of cdv A outer s H E).nox (am bV) b_changes_of:=
 (ap (aE (aU (bG rfl) rfl T.z_len qaK (aa (ar (lc T) (by decide) hr rfl T.m_ends_of T.F_ends_of.kp T.b_ends_of (aa (iv 0) ah rfl) (by decide) rfl rfl) ah rfl) (by decide) (by decide) rfl rfl)))
theorem mL (T:Txt K mg t):aH P w K mg base CX0 2 t.f_changes_of t.fd_changes_of ["row"] (spI K m_changes_of):=
 show aH P w K mg base CX0 2 t.f_changes_of t.fd_changes_of ["row"] (spI K (aJ (List.length (α:=Str) ["row"]) (List.length (α:=Str) ["row"]) b_changes_of)) from cJ (N:=["row"]) (ps:=["row"]) (b:=b_changes_of) T.F_changes_of mI (λcdv A outer s H E hr=>ky T cdv A outer s H E hr)
theorem mR (T:Txt K mg t) (cdv:Value) (A:Around) (outer:List Env) (s:Shared) (H:Hp) (E:XK) (hr:bh (1) (A.deeper (PyProof.Rows.envOfC "share_of" (ab cp) s.heap.objs.size t.f_share_of cdv))):ISs K (b9 CX0 P w K mg base ["n","counts","count"] "share_of" (ab cp) t.f_share_of cdv A outer s H E).nox (am cp) b_share_of:=
 (ap (aE (ay (cq rfl) (ar (iG T) (by decide) hr rfl T.m_multiplied T.F_multiplied.kp T.b_multiplied (aa (aP (cX (cw (ab cp).names ["n","counts","count"] ["other","count"] 1 [2] rfl rfl rfl (by decide +kernel)) rfl (by decide) (cO (iv 1) rfl) (λ_ _ _ _ _=>(aZ (aA (i:=0) (show List.Nodup (α:=Str) ["other","count"] by decide +kernel) rfl (by first | exact Or.inl rfl | exact Or.inr rfl)))) (λ_ _ _ _ _=>(dh (aW (gI hr rfl) (iv 0) (iv 1) (aI _)))) (λ_ _ _ _ _=>(aU nI rfl T.z_abs qcD (aa (ay gh (iv 1) (iv 0)) ah rfl) (by decide) (by decide) rfl rfl)) (λ_=>rfl))) ah rfl) (by decide) rfl rfl) (ar (iA T) (by decide) hr rfl T.m_how_many_choices T.F_how_many_choices.kp T.b_how_many_choices (aa (iv 0) (aa (iv 2) ah rfl) rfl) (by decide) rfl rfl))))
theorem qe (T:Txt K mg t):aH P w K mg base CX0 2 t.f_share_of t.fd_share_of ["n","counts","count"] (spI K m_share_of):=
 show aH P w K mg base CX0 2 t.f_share_of t.fd_share_of ["n","counts","count"] (spI K (aJ (List.length (α:=Str) ["n","counts","count"]) (List.length (α:=Str) ["n","counts","count"]) b_share_of)) from cJ (N:=["n","counts","count"]) (ps:=["n","counts","count"]) (b:=b_share_of) T.F_share_of pU (λcdv A outer s H E hr=>mR T cdv A outer s H E hr)
theorem kA (T:Txt K mg t) (cdv:Value) (A:Around) (outer:List Env) (s:Shared) (H:Hp) (E:XK) (hr:bh (2) (A.deeper (PyProof.Rows.envOfC "counts_bar" (ab bL) s.heap.objs.size t.f_counts_bar cdv))):ISs K (b9 CX0 P w K mg base ["row","n","counts","shares","weights","count","share"] "counts_bar" (ab bL) t.f_counts_bar cdv A outer s H E).nox (am bL) b_counts_bar:=
 (ak (aF (i:=1) ck.nd rfl (by first | exact Or.inl rfl | exact Or.inr rfl) (ay gh (aU (bG rfl) rfl T.z_len qaK (aa (iv 0) ah rfl) (by decide) (by decide) rfl rfl) aj) rfl (by first | exact .inl rfl | exact .inr rfl)) (ak (ge (aW (er hr rfl) (ar (mL T) (by decide) hr rfl T.m_changes_of T.F_changes_of.kp T.b_changes_of (aa (iv 0) ah rfl) (by decide) rfl rfl) aj (aI _)) (ap (aE gT)) cR) (ak (aF (i:=2) ck.nd rfl (by first | exact Or.inl rfl | exact Or.inr rfl) (ay (cY rfl) (ar (lc T) (by decide) hr rfl T.m_ends_of T.F_ends_of.kp T.b_ends_of (aa (iv 0) ah rfl) (by decide) rfl rfl) (aP (fu (aa (iv 1) ah rfl)))) rfl (by first | exact .inl rfl | exact .inr rfl)) (ak (qfm (sk (i0:=3) ck.nd rfl (by first | exact Or.inl rfl | exact Or.inr rfl) (cw (ab bL).names ["row","n","counts","shares","weights","count","share"] ["count","n","counts"] 1 [1,2] rfl rfl rfl (by decide +kernel)) rfl (by decide) (cO (iv 2) rfl) (λ_ _ _ _ _=>(aZ (aA (i:=0) (show List.Nodup (α:=Str) ["count","n","counts"] by decide +kernel) rfl (by first | exact Or.inl rfl | exact Or.inr rfl)))) (λ_ _ _ _ _=>cG) (λ_ _ _ _ _=>(ar (qe T) (by decide) hr rfl T.m_share_of T.F_share_of.kp T.b_share_of (aa (iv 1) (aa (iv 2) (aa (iv 0) ah rfl) rfl) rfl) (by decide) rfl rfl)) rfl (by first | exact .inl rfl | exact .inr rfl) (λ_=>rfl))) (ak (aF (i:=4) ck.nd rfl (by first | exact Or.inl rfl | exact Or.inr rfl) (qQ (B2 zP (aP (fu (aa aj ah rfl))) (aU (bG rfl) rfl T.z_len qaK (aa (iv 0) ah rfl) (by decide) (by decide) rfl rfl))) rfl (by first | exact .inl rfl | exact .inr rfl)) (ak (gx (wk rfl T.z_zip (aa (iv 2) (aa (iv 3) ah rfl) rfl) rfl rfl rfl) (h7 (bR (aA (i:=5) ck.nd rfl (by first | exact Or.inl rfl | exact Or.inr rfl)) (bR (aA (i:=6) ck.nd rfl (by first | exact Or.inl rfl | exact Or.inr rfl)) fJ)) rfl rfl rfl rfl rfl) (ap (qk (iv 4) (iv 5) (ay dZ (ar (iG T) (by decide) hr rfl T.m_multiplied T.F_multiplied.kp T.b_multiplied (aa (iv 3) ah rfl) (by decide) rfl rfl) (iv 6)) rfl rfl rfl)) qbp rfl (λ_=>rfl)) (ap (aE (ar (rT T) (by decide) hr rfl T.m_lowered T.F_lowered.kp T.b_lowered (aa (ar (jn T) (by decide) hr rfl T.m_by_counts T.F_by_counts.kp T.b_by_counts (aa (iv 4) ah rfl) (by decide) rfl rfl) ah rfl) (by decide) rfl rfl)))))))))
theorem mG (T:Txt K mg t):aH P w K mg base CX0 3 t.f_counts_bar t.fd_counts_bar ["row"] (spI K m_counts_bar):=
 show aH P w K mg base CX0 3 t.f_counts_bar t.fd_counts_bar ["row"] (spI K (lI (List.length (α:=Str) ["row","n","counts","shares","weights","count","share"]) (List.length (α:=Str) ["row"]) b_counts_bar)) from zJ (N:=["row","n","counts","shares","weights","count","share"]) (ps:=["row"]) (b:=b_counts_bar) T.F_counts_bar ck (λcdv A outer s H E hr=>kA T cdv A outer s H E hr)
theorem jz (T:Txt K mg t) (cdv:Value) (A:Around) (outer:List Env) (s:Shared) (H:Hp) (E:XK) (hr:bh (3) (A.deeper (PyProof.Rows.envOfC "signed_value" (ab bC) s.heap.objs.size t.f_signed_value cdv))):ISs K (b9 CX0 P w K mg base ["f","kind","term","row"] "signed_value" (ab bC) t.f_signed_value cdv A outer s H E).nox (am bC) b_signed_value:=
 (ap (aE (ay (cq rfl) (ar (rS T) (by decide) hr rfl T.m_sign_at T.F_sign_at.kp T.b_sign_at (aa (iv 0) (aa (iv 3) ah rfl) rfl) (by decide) rfl rfl) (ar (pX T) (by decide) hr rfl T.m_value_of T.F_value_of.kp T.b_value_of (aa (iv 1) (aa (iv 2) (aa (iv 3) ah rfl) rfl) rfl) (by decide) rfl rfl))))
theorem kJ (T:Txt K mg t):aH P w K mg base CX0 4 t.f_signed_value t.fd_signed_value ["f","kind","term","row"] (spI K m_signed_value):=
 show aH P w K mg base CX0 4 t.f_signed_value t.fd_signed_value ["f","kind","term","row"] (spI K (aJ (List.length (α:=Str) ["f","kind","term","row"]) (List.length (α:=Str) ["f","kind","term","row"]) b_signed_value)) from cJ (N:=["f","kind","term","row"]) (ps:=["f","kind","term","row"]) (b:=b_signed_value) T.F_signed_value kF (λcdv A outer s H E hr=>jz T cdv A outer s H E hr)
theorem mD (T:Txt K mg t) (cdv:Value) (A:Around) (outer:List Env) (s:Shared) (H:Hp) (E:XK) (hr:bh (4) (A.deeper (PyProof.Rows.envOfC "weighted" (ab cn) s.heap.objs.size t.f_weighted cdv))):ISs K (b9 CX0 P w K mg base ["f","kind","term","weights"] "weighted" (ab cn) t.f_weighted cdv A outer s H E).nox (am cn) b_weighted:=
 (ap (aE (aU (ny rfl rfl) rfl T.z_sum qcC (aa (aP (cX (cw (ab cn).names ["f","kind","term","weights"] ["row","weights","f","kind","term"] 1 [3,0,1,2] rfl rfl rfl (by decide +kernel)) rfl (by decide) (cO (ar (oN T) (by decide) hr rfl T.m_told_rows T.F_told_rows.kp T.b_told_rows (aa (iv 0) ah rfl) (by decide) rfl rfl) rfl) (λ_ _ _ _ _=>(aZ (aA (i:=0) (show List.Nodup (α:=Str) ["row","weights","f","kind","term"] by decide +kernel) rfl (by first | exact Or.inl rfl | exact Or.inr rfl)))) (λ_ _ _ _ _=>cG) (λ_ _ _ _ _=>(ay (cq rfl) (dn (iv 1) (iv 0) rfl rfl) (ar (kJ T) (by decide) hr rfl T.m_signed_value T.F_signed_value.kp T.b_signed_value (aa (iv 2) (aa (iv 3) (aa (iv 4) (aa (iv 0) ah rfl) rfl) rfl) rfl) (by decide) rfl rfl))) (λ_=>rfl))) ah rfl) (by decide) (by decide) rfl rfl)))
theorem kh (T:Txt K mg t):aH P w K mg base CX0 5 t.f_weighted t.fd_weighted ["f","kind","term","weights"] (spI K m_weighted):=
 show aH P w K mg base CX0 5 t.f_weighted t.fd_weighted ["f","kind","term","weights"] (spI K (aJ (List.length (α:=Str) ["f","kind","term","weights"]) (List.length (α:=Str) ["f","kind","term","weights"]) b_weighted)) from cJ (N:=["f","kind","term","weights"]) (ps:=["f","kind","term","weights"]) (b:=b_weighted) T.F_weighted pf (λcdv A outer s H E hr=>mD T cdv A outer s H E hr)
theorem jW (T:Txt K mg t) (cdv:Value) (A:Around) (outer:List Env) (s:Shared) (H:Hp) (E:XK) (hr:bh (2) (A.deeper (PyProof.Rows.envOfC "are_weights" (ab bA) s.heap.objs.size t.f_are_weights cdv))):ISs K (b9 CX0 P w K mg base ["f","thing"] "are_weights" (ab bA) t.f_are_weights cdv A outer s H E).nox (am bA) b_are_weights:=
 (ak (ge (rZ (re (ar (lH T) (by decide) hr rfl T.m_are_amounts T.F_are_amounts.kp T.b_are_amounts (aa (iv 1) (aa (aU (bG rfl) rfl T.z_len qaK (aa (iv 0) ah rfl) (by decide) (by decide) rfl rfl) ah rfl) rfl) (by decide) rfl rfl) rfl rfl)) (ap (aE ki)) cR) (ap (aE (aU (qI rfl rfl) rfl T.z_all qc8 (aa (aP (cX (cw (ab bA).names ["f","thing"] ["value","weight"] 2 [] rfl rfl rfl (by decide +kernel)) rfl (by decide) (wk rfl T.z_zip (aa (iv 0) (aa (iv 1) ah rfl) rfl) rfl rfl rfl) (λ_ _ _ _ _=>(h7 (bR (aA (i:=0) (show List.Nodup (α:=Str) ["value","weight"] by decide +kernel) rfl (by first | exact Or.inl rfl | exact Or.inr rfl)) (bR (aA (i:=1) (show List.Nodup (α:=Str) ["value","weight"] by decide +kernel) rfl (by first | exact Or.inl rfl | exact Or.inr rfl)) fJ)) rfl rfl rfl rfl rfl)) (λ_ _ _ _ _=>(dh (aW lz (iv 0) gT (aI _)))) (λ_ _ _ _ _=>(jX (er hr rfl) (iv 1) aj (aI _))) (λ_=>rfl))) ah rfl) (by decide) (by decide) rfl rfl))))
theorem lG (T:Txt K mg t):aH P w K mg base CX0 3 t.f_are_weights t.fd_are_weights ["f","thing"] (spI K m_are_weights):=
 show aH P w K mg base CX0 3 t.f_are_weights t.fd_are_weights ["f","thing"] (spI K (aJ (List.length (α:=Str) ["f","thing"]) (List.length (α:=Str) ["f","thing"]) b_are_weights)) from cJ (N:=["f","thing"]) (ps:=["f","thing"]) (b:=b_are_weights) T.F_are_weights ll (λcdv A outer s H E hr=>jW T cdv A outer s H E hr)
theorem jt (T:Txt K mg t) (cdv:Value) (A:Around) (outer:List Env) (s:Shared) (H:Hp) (E:XK) (hr:bh (5) (A.deeper (PyProof.Rows.envOfC "are_balanced" (ab bq) s.heap.objs.size t.f_are_balanced cdv))):ISs K (b9 CX0 P w K mg base ["f","kind","terms","weights"] "are_balanced" (ab bq) t.f_are_balanced cdv A outer s H E).nox (am bq) b_are_balanced:=
 (ap (aE (aU (qI rfl rfl) rfl T.z_all qc8 (aa (aP (cX (cw (ab bq).names ["f","kind","terms","weights"] ["term","f","kind","weights"] 1 [0,1,3] rfl rfl rfl (by decide +kernel)) rfl (by decide) (cO (iv 2) rfl) (λ_ _ _ _ _=>(aZ (aA (i:=0) (show List.Nodup (α:=Str) ["term","f","kind","weights"] by decide +kernel) rfl (by first | exact Or.inl rfl | exact Or.inr rfl)))) (λ_ _ _ _ _=>cG) (λ_ _ _ _ _=>(jX (er hr rfl) (ar (kh T) (by decide) hr rfl T.m_weighted T.F_weighted.kp T.b_weighted (aa (iv 1) (aa (iv 2) (aa (iv 0) (aa (iv 3) ah rfl) rfl) rfl) rfl) (by decide) rfl rfl) aj (aI _))) (λ_=>rfl))) ah rfl) (by decide) (by decide) rfl rfl)))
theorem kz (T:Txt K mg t):aH P w K mg base CX0 6 t.f_are_balanced t.fd_are_balanced ["f","kind","terms","weights"] (spI K m_are_balanced):=
 show aH P w K mg base CX0 6 t.f_are_balanced t.fd_are_balanced ["f","kind","terms","weights"] (spI K (aJ (List.length (α:=Str) ["f","kind","terms","weights"]) (List.length (α:=Str) ["f","kind","terms","weights"]) b_are_balanced)) from cJ (N:=["f","kind","terms","weights"]) (ps:=["f","kind","terms","weights"]) (b:=b_are_balanced) T.F_are_balanced kC (λcdv A outer s H E hr=>jt T cdv A outer s H E hr)
theorem oY (T:Txt K mg t) (cdv:Value) (A:Around) (outer:List Env) (s:Shared) (H:Hp) (E:XK) (hr:bh (6) (A.deeper (PyProof.Rows.envOfC "is_bar" (ab dC) s.heap.objs.size t.f_is_bar cdv))):ISs K (b9 CX0 P w K mg base ["f","kind","terms","thing"] "is_bar" (ab dC) t.f_is_bar cdv A outer s H E).nox (am dC) b_is_bar:=
 (ap (aE (li (ar (lG T) (by decide) hr rfl T.m_are_weights T.F_are_weights.kp T.b_are_weights (aa (iv 0) (aa (iv 3) ah rfl) rfl) (by decide) rfl rfl) (li (aU (Ah rfl rfl) rfl T.z_any qgM (aa (iv 3) ah rfl) (by decide) (by decide) rfl rfl) (nB (ar (kz T) (by decide) hr rfl T.m_are_balanced T.F_are_balanced.kp T.b_are_balanced (aa (iv 0) (aa (iv 1) (aa (iv 2) (aa (iv 3) ah rfl) rfl) rfl) rfl) (by decide) rfl rfl))))))
theorem nh (T:Txt K mg t):aH P w K mg base CX0 7 t.f_is_bar t.fd_is_bar ["f","kind","terms","thing"] (spI K m_is_bar):=
 show aH P w K mg base CX0 7 t.f_is_bar t.fd_is_bar ["f","kind","terms","thing"] (spI K (aJ (List.length (α:=Str) ["f","kind","terms","thing"]) (List.length (α:=Str) ["f","kind","terms","thing"]) b_is_bar)) from cJ (N:=["f","kind","terms","thing"]) (ps:=["f","kind","terms","thing"]) (b:=b_is_bar) T.F_is_bar tX (λcdv A outer s H E hr=>oY T cdv A outer s H E hr)
theorem ly (T:Txt K mg t) (cdv:Value) (A:Around) (outer:List Env) (s:Shared) (H:Hp) (E:XK) (hr:bh (5) (A.deeper (PyProof.Rows.envOfC "barred_to" (ab bZ) s.heap.objs.size t.f_barred_to cdv))):ISs K (b9 CX0 P w K mg base ["f","weights","n"] "barred_to" (ab bZ) t.f_barred_to cdv A outer s H E).nox (am bZ) b_barred_to:=
 (ak (aF (i:=2) jk.nd rfl (by first | exact Or.inl rfl | exact Or.inr rfl) (ar (lC T) (by decide) hr rfl T.m_switches_of T.F_switches_of.kp T.b_switches_of (aa (iv 0) ah rfl) (by decide) rfl rfl) rfl (by first | exact .inl rfl | exact .inr rfl)) (ap (aE (aU (zb rfl) rfl T.z_min qd4 (aa (aP (cX (cw (ab bZ).names ["f","weights","n"] ["term","f","weights"] 1 [0,1] rfl rfl rfl (by decide +kernel)) rfl (by decide) (cO (ar (o0 T) (by decide) hr rfl T.m_terms_to T.F_terms_to.kp T.b_terms_to (aa (iv 2) (aa (iv 2) ah rfl) rfl) (by decide) rfl rfl) rfl) (λ_ _ _ _ _=>(aZ (aA (i:=0) (show List.Nodup (α:=Str) ["term","f","weights"] by decide +kernel) rfl (by first | exact Or.inl rfl | exact Or.inr rfl)))) (λ_ _ _ _ _=>(dh (aW (gI hr rfl) (ar (kh T) (by decide) hr rfl T.m_weighted T.F_weighted.kp T.b_weighted (aa (iv 1) (aa lS (aa (iv 0) (aa (iv 2) ah rfl) rfl) rfl) rfl) (by decide) rfl rfl) aj (aI _)))) (λ_ _ _ _ _=>(aU (bG rfl) rfl T.z_len qaK (aa (iv 0) ah rfl) (by decide) (by decide) rfl rfl)) (λ_=>rfl))) ah rfl) (by decide) (by decide) rfl rfl))))
theorem nK (T:Txt K mg t):aH P w K mg base CX0 6 t.f_barred_to t.fd_barred_to ["f","weights"] (spI K m_barred_to):=
 show aH P w K mg base CX0 6 t.f_barred_to t.fd_barred_to ["f","weights"] (spI K (aJ (List.length (α:=Str) ["f","weights","n"]) (List.length (α:=Str) ["f","weights"]) b_barred_to)) from cJ (N:=["f","weights","n"]) (ps:=["f","weights"]) (b:=b_barred_to) T.F_barred_to jk (λcdv A outer s H E hr=>ly T cdv A outer s H E hr)
theorem kE (T:Txt K mg t) (cdv:Value) (A:Around) (outer:List Env) (s:Shared) (H:Hp) (E:XK) (hr:bh (0) (A.deeper (PyProof.Rows.envOfC "_law_spool" (ab bK) s.heap.objs.size t.f__law_spool cdv))):ISs K (b9 CX0 P w K mg base ["_law_script","_law_seed","_law_cell"] "_law_spool" (ab bK) t.f__law_spool cdv A outer s H E).nox (am bK) b__law_spool:=
 (ak (aF (i:=1) d0.nd rfl (by first | exact Or.inl rfl | exact Or.inr rfl) (ay (cY rfl) (aU (bG rfl) rfl T.z_len qaK (aa (iv 0) ah rfl) (by decide) (by decide) rfl rfl) aj) rfl (by first | exact .inl rfl | exact .inr rfl)) (ak (gx (cO (yP (iv 0) sR (sH aj) rfl) rfl) (aZ (aA (i:=2) d0.nd rfl (by first | exact Or.inl rfl | exact Or.inr rfl))) (ap (aF (i:=1) d0.nd rfl (by first | exact Or.inl rfl | exact Or.inr rfl) (ay dQ (ay (cY rfl) (ay (cq rfl) (iv 1) aj) (iv 2)) aj) rfl (by first | exact .inl rfl | exact .inr rfl))) qbp rfl (λ_=>rfl)) (ap (aE (xE (aa (qQ (cX (cw (ab bK).names ["_law_script","_law_seed","_law_cell"] ["_law_cell"] 1 [] rfl rfl rfl (by decide +kernel)) rfl (by decide) (cO (yP (iv 0) sR (sH aj) rfl) rfl) (λ_ _ _ _ _=>(aZ (aA (i:=0) (show List.Nodup (α:=Str) ["_law_cell"] by decide +kernel) rfl (by first | exact Or.inl rfl | exact Or.inr rfl)))) (λ_ _ _ _ _=>(dh (aW yY (aU nI rfl T.z_abs qcD (aa (iv 0) ah rfl) (by decide) (by decide) rfl rfl) (ay wF aj aj) (aI _)))) (λ_ _ _ _ _=>(aU nI rfl T.z_abs qcD (aa (iv 0) ah rfl) (by decide) (by decide) rfl rfl)) (λ_=>rfl))) (aa (iv 1) (aa aj ah rfl) rfl) rfl))))))
theorem mP (T:Txt K mg t):aH P w K mg base CX0 1 t.f__law_spool t.fd__law_spool ["_law_script"] (spI K m__law_spool):=
 show aH P w K mg base CX0 1 t.f__law_spool t.fd__law_spool ["_law_script"] (spI K (aJ (List.length (α:=Str) ["_law_script","_law_seed","_law_cell"]) (List.length (α:=Str) ["_law_script"]) b__law_spool)) from cJ (N:=["_law_script","_law_seed","_law_cell"]) (ps:=["_law_script"]) (b:=b__law_spool) T.F__law_spool d0 (λcdv A outer s H E hr=>kE T cdv A outer s H E hr)
theorem lQ (T:Txt K mg t) (cdv:Value) (A:Around) (outer:List Env) (s:Shared) (H:Hp) (E:XK) (hr:bh (0) (A.deeper (PyProof.Rows.envOfC "_law_take" (ab cf) s.heap.objs.size t.f__law_take cdv))):ISs K (b9 CX0 P w K mg base ["_law_spool_here","_law_many","_law_digit","_law_once","_law_twice"] "_law_take" (ab cf) t.f__law_take cdv A outer s H E).nox (am cf) b__law_take:=
 (ak (i7 1000000000000000000000000000000 (jH (sJ (aW (gI hr rfl) (eh (iv 0) aj rfl rfl) (aP (fu ah)) (aI _)) (pv (aW (er hr rfl) (dn (eh (iv 0) aj rfl rfl) aj rfl rfl) aj (aI _))))) (ap (si (zN (eh (iv 0) aj rfl rfl) (aa aj ah rfl) rfl rfl (by decide) rfl rfl) rfl)) qbp) (ak (ge (aW (gI hr rfl) (eh (iv 0) aj rfl rfl) (aP (fu ah)) (aI _)) (ak (aF (i:=2) eB.nd rfl (by first | exact Or.inl rfl | exact Or.inr rfl) (ay dQ (dn (eh (iv 0) aj rfl rfl) aj rfl rfl) (iv 1)) rfl (by first | exact .inl rfl | exact .inr rfl)) (ak (qk (eh (iv 0) aj rfl rfl) aj (ay dZ (dn (eh (iv 0) aj rfl rfl) aj rfl rfl) (iv 1)) rfl rfl rfl) (ap (aE (iv 2))))) cR) (ak (uy (iv 0) aj (ay (cY rfl) (eh (iv 0) aj rfl rfl) aj) rfl rfl rfl) (ak (aF (i:=3) eB.nd rfl (by first | exact Or.inl rfl | exact Or.inr rfl) (ay dQ (ay (cq rfl) (ay (cY rfl) (eh (iv 0) aj rfl rfl) (ay (cq rfl) aj (eh (iv 0) aj rfl rfl))) aj) aj) rfl (by first | exact .inl rfl | exact .inr rfl)) (ak (aF (i:=4) eB.nd rfl (by first | exact Or.inl rfl | exact Or.inr rfl) (ay dQ (ay (cq rfl) (iv 3) (ay (cY rfl) (ay (cY rfl) (ay dZ (iv 3) aj) (ay (cq rfl) (eh (iv 0) aj rfl rfl) (eh (iv 0) aj rfl rfl))) aj)) aj) rfl (by first | exact .inl rfl | exact .inr rfl)) (ap (aE (ay dQ (ay dZ (iv 4) aj) (iv 1)))))))))
theorem bU (T:Txt K mg t):aH P w K mg base CX0 1 t.f__law_take t.fd__law_take ["_law_spool_here","_law_many"] (spI K m__law_take):=
 show aH P w K mg base CX0 1 t.f__law_take t.fd__law_take ["_law_spool_here","_law_many"] (spI K (aJ (List.length (α:=Str) ["_law_spool_here","_law_many","_law_digit","_law_once","_law_twice"]) (List.length (α:=Str) ["_law_spool_here","_law_many"]) b__law_take)) from cJ (N:=["_law_spool_here","_law_many","_law_digit","_law_once","_law_twice"]) (ps:=["_law_spool_here","_law_many"]) (b:=b__law_take) T.F__law_take eB (λcdv A outer s H E hr=>lQ T cdv A outer s H E hr)
theorem kY (T:Txt K mg t) (cdv:Value) (A:Around) (outer:List Env) (s:Shared) (H:Hp) (E:XK) (hr:bh (0) (A.deeper (PyProof.Rows.envOfC "_law_term" (ab bY) s.heap.objs.size t.f__law_term cdv))):ISs K (b9 CX0 P w K mg base ["_law_kind","_law_term_here","_law_row","_law_on"] "_law_term" (ab bY) t.f__law_term cdv A outer s H E).nox (am bY) b__law_term:=
 (ak (aF (i:=3) ju.nd rfl (by first | exact Or.inl rfl | exact Or.inr rfl) (aU (bG rfl) rfl T.z_len qaK (aa (aP (cX (cw (ab bY).names ["_law_kind","_law_term_here","_law_row","_law_on"] ["_law_k","_law_row"] 1 [2] rfl rfl rfl (by decide +kernel)) rfl (by decide) (cO (iv 1) rfl) (λ_ _ _ _ _=>(aZ (aA (i:=0) (show List.Nodup (α:=Str) ["_law_k","_law_row"] by decide +kernel) rfl (by first | exact Or.inl rfl | exact Or.inr rfl)))) (λ_ _ _ _ _=>(dh (aW (er hr rfl) (ay vD (ay vQ (iv 1) (iv 0)) aj) aj (aI _)))) (λ_ _ _ _ _=>(iv 0)) (λ_=>rfl))) ah rfl) (by decide) (by decide) rfl rfl) rfl (by first | exact .inl rfl | exact .inr rfl)) (ap (aE (nu (aW (er hr rfl) (iv 0) lS (aI _)) (fB Ad rfl T.z_int qd5 (aa (jX (er hr rfl) (iv 3) (aU (bG rfl) rfl T.z_len qaK (aa (iv 1) ah rfl) (by decide) (by decide) rfl rfl) (aI _)) ah rfl) (by decide) (by decide) rfl rfl) (ay gh aj (ay (cq rfl) aj (ay dQ (iv 3) aj)))))))
theorem nL (T:Txt K mg t):aH P w K mg base CX0 1 t.f__law_term t.fd__law_term ["_law_kind","_law_term_here","_law_row"] (spI K m__law_term):=
 show aH P w K mg base CX0 1 t.f__law_term t.fd__law_term ["_law_kind","_law_term_here","_law_row"] (spI K (aJ (List.length (α:=Str) ["_law_kind","_law_term_here","_law_row","_law_on"]) (List.length (α:=Str) ["_law_kind","_law_term_here","_law_row"]) b__law_term)) from cJ (N:=["_law_kind","_law_term_here","_law_row","_law_on"]) (ps:=["_law_kind","_law_term_here","_law_row"]) (b:=b__law_term) T.F__law_term ju (λcdv A outer s H E hr=>kY T cdv A outer s H E hr)
theorem kM (T:Txt K mg t) (cdv:Value) (A:Around) (outer:List Env) (s:Shared) (H:Hp) (E:XK) (hr:bh (0) (A.deeper (PyProof.Rows.envOfC "_law_terms" (ab bv) s.heap.objs.size t.f__law_terms cdv))):ISs K (b9 CX0 P w K mg base ["_law_n","_law_size","_law_every"] "_law_terms" (ab bv) t.f__law_terms cdv A outer s H E).nox (am bv) b__law_terms:=
 (ak (qfm (sk (i0:=2) iL.nd rfl (by first | exact Or.inl rfl | exact Or.inr rfl) (cw (ab bv).names ["_law_n","_law_size","_law_every"] ["_law_at","_law_n"] 1 [0] rfl rfl rfl (by decide +kernel)) rfl (by decide) (cQ rfl T.z_range (aa (ay uR aj (iv 0)) ah rfl) rfl) (λ_ _ _ _ _=>(aZ (aA (i:=0) (show List.Nodup (α:=Str) ["_law_at","_law_n"] by decide +kernel) rfl (by first | exact Or.inl rfl | exact Or.inr rfl)))) (λ_ _ _ _ _=>cG) (λ_ _ _ _ _=>(fB (dS rfl) rfl T.z_tuple qaR (aa (aP (cX (cw _ ["_law_at","_law_n"] ["_law_k","_law_at"] 1 [0] (xT (ns:=(ab bv).names) rfl rfl) rfl rfl (by decide +kernel)) rfl (by decide) (cQ rfl T.z_range (aa (iv 1) ah rfl) rfl) (λ_ _ _ _ _=>(aZ (aA (i:=0) (show List.Nodup (α:=Str) ["_law_k","_law_at"] by decide +kernel) rfl (by first | exact Or.inl rfl | exact Or.inr rfl)))) (λ_ _ _ _ _=>(dh (aW (er hr rfl) (ay vD (ay vQ (iv 1) (iv 0)) aj) aj (aI _)))) (λ_ _ _ _ _=>(iv 0)) (λ_=>rfl))) ah rfl) (by decide) (by decide) rfl rfl)) rfl (by first | exact .inl rfl | exact .inr rfl) (λ_=>rfl))) (ap (aE (aP (yT (qy hr rfl) rfl T.z_sorted qdX (aa (aP (cX (cw (ab bv).names ["_law_n","_law_size","_law_every"] ["_law_term_here","_law_size"] 1 [1] rfl rfl rfl (by decide +kernel)) rfl (by decide) (cO (iv 2) rfl) (λ_ _ _ _ _=>(aZ (aA (i:=0) (show List.Nodup (α:=Str) ["_law_term_here","_law_size"] by decide +kernel) rfl (by first | exact Or.inl rfl | exact Or.inr rfl)))) (λ_ _ _ _ _=>(dh (aW A7 (aU (bG rfl) rfl T.z_len qaK (aa (iv 0) ah rfl) (by decide) (by decide) rfl rfl) (iv 1) (aI _)))) (λ_ _ _ _ _=>(iv 0)) (λ_=>rfl))) ah rfl) (by decide) (by decide) rfl rfl)))))
theorem fR (T:Txt K mg t):aH P w K mg base CX0 1 t.f__law_terms t.fd__law_terms ["_law_n","_law_size"] (spI K m__law_terms):=
 show aH P w K mg base CX0 1 t.f__law_terms t.fd__law_terms ["_law_n","_law_size"] (spI K (aJ (List.length (α:=Str) ["_law_n","_law_size","_law_every"]) (List.length (α:=Str) ["_law_n","_law_size"]) b__law_terms)) from cJ (N:=["_law_n","_law_size","_law_every"]) (ps:=["_law_n","_law_size"]) (b:=b__law_terms) T.F__law_terms iL (λcdv A outer s H E hr=>kM T cdv A outer s H E hr)
theorem ku (T:Txt K mg t) (cdv:Value) (A:Around) (outer:List Env) (s:Shared) (H:Hp) (E:XK) (hr:bh (1) (A.deeper (PyProof.Rows.envOfC "_law_sizes" (ab bW) s.heap.objs.size t.f__law_sizes cdv))):ISs K (b9 CX0 P w K mg base ["_law_spool_here","_law_found","_law_first"] "_law_sizes" (ab bW) t.f__law_sizes cdv A outer s H E).nox (am bW) b__law_sizes:=
 (ak (aF (i:=1) dU.nd rfl (by first | exact Or.inl rfl | exact Or.inr rfl) (aP (fu (aa (ar (bU T) (by decide) hr rfl T.m__law_take T.F__law_take.kp T.b__law_take (aa (iv 0) (aa aj ah rfl) rfl) (by decide) rfl rfl) (aa (ar (bU T) (by decide) hr rfl T.m__law_take T.F__law_take.kp T.b__law_take (aa (iv 0) (aa aj ah rfl) rfl) (by decide) rfl rfl) ah rfl) rfl))) rfl (by first | exact .inl rfl | exact .inr rfl)) (ak (ge (aW (er hr rfl) (ar (bU T) (by decide) hr rfl T.m__law_take T.F__law_take.kp T.b__law_take (aa (iv 0) (aa aj ah rfl) rfl) (by decide) rfl rfl) aj (aI _)) (ak (aF (i:=2) dU.nd rfl (by first | exact Or.inl rfl | exact Or.inr rfl) (ar (bU T) (by decide) hr rfl T.m__law_take T.F__law_take.kp T.b__law_take (aa (iv 0) (aa aj ah rfl) rfl) (by decide) rfl rfl) rfl (by first | exact .inl rfl | exact .inr rfl)) (ap (aF (i:=1) dU.nd rfl (by first | exact Or.inl rfl | exact Or.inr rfl) (aP (fu (aa (iv 2) (aa (ay gh aj (iv 2)) ah rfl) rfl))) rfl (by first | exact .inl rfl | exact .inr rfl)))) cR) (ap (aE (iv 1)))))
theorem mH (T:Txt K mg t):aH P w K mg base CX0 2 t.f__law_sizes t.fd__law_sizes ["_law_spool_here"] (spI K m__law_sizes):=
 show aH P w K mg base CX0 2 t.f__law_sizes t.fd__law_sizes ["_law_spool_here"] (spI K (aJ (List.length (α:=Str) ["_law_spool_here","_law_found","_law_first"]) (List.length (α:=Str) ["_law_spool_here"]) b__law_sizes)) from cJ (N:=["_law_spool_here","_law_found","_law_first"]) (ps:=["_law_spool_here"]) (b:=b__law_sizes) T.F__law_sizes dU (λcdv A outer s H E hr=>ku T cdv A outer s H E hr)
theorem lV (T:Txt K mg t) (cdv:Value) (A:Around) (outer:List Env) (s:Shared) (H:Hp) (E:XK) (hr:bh (3) (A.deeper (PyProof.Rows.envOfC "_law_side" (ab bN) s.heap.objs.size t.f__law_side cdv))):ISs K (b9 CX0 P w K mg base ["_law_spool_here","_law_n","_law_row","_law_f","_law_weights"] "_law_side" (ab bN) t.f__law_side cdv A outer s H E).nox (am bN) b__law_side:=
 (ak (aF (i:=2) dB.nd rfl (by first | exact Or.inl rfl | exact Or.inr rfl) (fB (dS rfl) rfl T.z_tuple qaR (aa (aP (cX (cw (ab bN).names ["_law_spool_here","_law_n","_law_row","_law_f","_law_weights"] ["_law_k","_law_spool_here"] 1 [0] rfl rfl rfl (by decide +kernel)) rfl (by decide) (cQ rfl T.z_range (aa (ay (cY rfl) (iv 1) aj) ah rfl) rfl) (λ_ _ _ _ _=>(aZ (aA (i:=0) (show List.Nodup (α:=Str) ["_law_k","_law_spool_here"] by decide +kernel) rfl (by first | exact Or.inl rfl | exact Or.inr rfl)))) (λ_ _ _ _ _=>cG) (λ_ _ _ _ _=>(ar (bU T) (by decide) hr rfl T.m__law_take T.F__law_take.kp T.b__law_take (aa (iv 1) (aa aj ah rfl) rfl) (by decide) rfl rfl)) (λ_=>rfl))) ah rfl) (by decide) (by decide) rfl rfl) rfl (by first | exact .inl rfl | exact .inr rfl)) (ak (aF (i:=3) dB.nd rfl (by first | exact Or.inl rfl | exact Or.inr rfl) (ar (jn T) (by decide) hr rfl T.m_by_counts T.F_by_counts.kp T.b_by_counts (aa (iv 2) ah rfl) (by decide) rfl rfl) rfl (by first | exact .inl rfl | exact .inr rfl)) (ak (aF (i:=4) dB.nd rfl (by first | exact Or.inl rfl | exact Or.inr rfl) (ar (mG T) (by decide) hr rfl T.m_counts_bar T.F_counts_bar.kp T.b_counts_bar (aa (iv 2) ah rfl) (by decide) rfl rfl) rfl (by first | exact .inl rfl | exact .inr rfl)) (ak (ge (jH (nV (aW lz (iv 4) gT (aI _)) (kS (aW (er hr rfl) (ar (bU T) (by decide) hr rfl T.m__law_take T.F__law_take.kp T.b__law_take (aa (iv 0) (aa aj ah rfl) rfl) (by decide) rfl rfl) aj (aI _))))) (ap (aF (i:=4) dB.nd rfl (by first | exact Or.inl rfl | exact Or.inr rfl) (fB (dS rfl) rfl T.z_tuple qaR (aa (aP (cX (cw (ab bN).names ["_law_spool_here","_law_n","_law_row","_law_f","_law_weights"] ["_law_value","_law_spool_here"] 1 [0] rfl rfl rfl (by decide +kernel)) rfl (by decide) (cO (iv 3) rfl) (λ_ _ _ _ _=>(aZ (aA (i:=0) (show List.Nodup (α:=Str) ["_law_value","_law_spool_here"] by decide +kernel) rfl (by first | exact Or.inl rfl | exact Or.inr rfl)))) (λ_ _ _ _ _=>cG) (λ_ _ _ _ _=>(ar (bU T) (by decide) hr rfl T.m__law_take T.F__law_take.kp T.b__law_take (aa (iv 1) (aa (dn (aP (fu (aa aj (aa aj (aa (ay wF aj aj) ah rfl) rfl) rfl))) (ar (bU T) (by decide) hr rfl T.m__law_take T.F__law_take.kp T.b__law_take (aa (iv 1) (aa aj ah rfl) rfl) (by decide) rfl rfl) rfl rfl) ah rfl) rfl) (by decide) rfl rfl)) (λ_=>rfl))) ah rfl) (by decide) (by decide) rfl rfl) rfl (by first | exact .inl rfl | exact .inr rfl))) cR) (ap (aE (rP (aa (iv 3) (aa (iv 4) ah rfl) rfl))))))))
theorem ji (T:Txt K mg t):aH P w K mg base CX0 4 t.f__law_side t.fd__law_side ["_law_spool_here","_law_n"] (spI K m__law_side):=
 show aH P w K mg base CX0 4 t.f__law_side t.fd__law_side ["_law_spool_here","_law_n"] (spI K (aJ (List.length (α:=Str) ["_law_spool_here","_law_n","_law_row","_law_f","_law_weights"]) (List.length (α:=Str) ["_law_spool_here","_law_n"]) b__law_side)) from cJ (N:=["_law_spool_here","_law_n","_law_row","_law_f","_law_weights"]) (ps:=["_law_spool_here","_law_n"]) (b:=b__law_side) T.F__law_side dB (λcdv A outer s H E hr=>lV T cdv A outer s H E hr)
theorem i4 (T:Txt K mg t) (cdv:Value) (A:Around) (outer:List Env) (s:Shared) (H:Hp) (E:XK) (hr:bh (0) (A.deeper (PyProof.Rows.envOfC "_law_switches" (ab bf) s.heap.objs.size t.f__law_switches cdv))):ISs K (b9 CX0 P w K mg base ["_law_f"] "_law_switches" (ab bf) t.f__law_switches cdv A outer s H E).nox (am bf) b__law_switches:=
 (ap (aE (dn (aP (cX (cw (ab bf).names ["_law_f"] ["_law_k","_law_f"] 1 [0] rfl rfl rfl (by decide +kernel)) rfl (by decide) (cQ rfl T.z_range (aa aj ah rfl) rfl) (λ_ _ _ _ _=>(aZ (aA (i:=0) (show List.Nodup (α:=Str) ["_law_k","_law_f"] by decide +kernel) rfl (by first | exact Or.inl rfl | exact Or.inr rfl)))) (λ_ _ _ _ _=>(dh (aW (er hr rfl) (ay uR aj (iv 0)) (aU (bG rfl) rfl T.z_len qaK (aa (iv 1) ah rfl) (by decide) (by decide) rfl rfl) (aI _)))) (λ_ _ _ _ _=>(iv 0)) (λ_=>rfl))) aj rfl rfl)))
theorem dR (T:Txt K mg t):aH P w K mg base CX0 1 t.f__law_switches t.fd__law_switches ["_law_f"] (spI K m__law_switches):=
 show aH P w K mg base CX0 1 t.f__law_switches t.fd__law_switches ["_law_f"] (spI K (aJ (List.length (α:=Str) ["_law_f"]) (List.length (α:=Str) ["_law_f"]) b__law_switches)) from cJ (N:=["_law_f"]) (ps:=["_law_f"]) (b:=b__law_switches) T.F__law_switches jF (λcdv A outer s H E hr=>i4 T cdv A outer s H E hr)
theorem jC (T:Txt K mg t) (cdv:Value) (A:Around) (outer:List Env) (s:Shared) (H:Hp) (E:XK) (hr:bh (1) (A.deeper (PyProof.Rows.envOfC "_law_barred" (ab bt) s.heap.objs.size t.f__law_barred cdv))):ISs K (b9 CX0 P w K mg base ["_law_f","_law_weights","_law_kind","_law_n","_law_shares","_law_sizes_here","_law_term_here"] "_law_barred" (ab bt) t.f__law_barred cdv A outer s H E).nox (am bt) b__law_barred:=
 (ak (aF (i:=3) cN.nd rfl (by first | exact Or.inl rfl | exact Or.inr rfl) (ar (dR T) (by decide) hr rfl T.m__law_switches T.F__law_switches.kp T.b__law_switches (aa (iv 0) ah rfl) (by decide) rfl rfl) rfl (by first | exact .inl rfl | exact .inr rfl)) (ak (qfm (sk (i0:=4) cN.nd rfl (by first | exact Or.inl rfl | exact Or.inr rfl) (cw (ab bt).names ["_law_f","_law_weights","_law_kind","_law_n","_law_shares","_law_sizes_here","_law_term_here"] ["_law_at","_law_weight","_law_f"] 2 [0] rfl rfl rfl (by decide +kernel)) rfl (by decide) (om rfl T.z_enumerate (aa (iv 1) ah rfl) rfl rfl) (λ_ _ _ _ _=>(h7 (bR (aA (i:=0) (show List.Nodup (α:=Str) ["_law_at","_law_weight","_law_f"] by decide +kernel) rfl (by first | exact Or.inl rfl | exact Or.inr rfl)) (bR (aA (i:=1) (show List.Nodup (α:=Str) ["_law_at","_law_weight","_law_f"] by decide +kernel) rfl (by first | exact Or.inl rfl | exact Or.inr rfl)) fJ)) rfl rfl rfl rfl rfl)) (λ_ _ _ _ _=>cG) (λ_ _ _ _ _=>(nu (aW lz (dn (iv 2) (iv 0) rfl rfl) gT (aI _)) aj (ay (cq rfl) (iv 1) (ay gh (ay (cq rfl) aj (dn (iv 2) (iv 0) rfl rfl)) aj)))) rfl (by first | exact .inl rfl | exact .inr rfl) (λ_=>rfl))) (ak (aF (i:=5) cN.nd rfl (by first | exact Or.inl rfl | exact Or.inr rfl) (qQ (fu (aa (ay (cY rfl) (iv 3) aj) ah rfl))) rfl (by first | exact .inl rfl | exact .inr rfl)) (ak (gx (cO (ar (fR T) (by decide) hr rfl T.m__law_terms T.F__law_terms.kp T.b__law_terms (aa (iv 3) (aa (iv 3) ah rfl) rfl) (by decide) rfl rfl) rfl) (aZ (aA (i:=6) cN.nd rfl (by first | exact Or.inl rfl | exact Or.inr rfl))) (ap (ge (aW (gI hr rfl) (aU (ny rfl rfl) rfl T.z_sum qcC (aa (aP (cX (cw (ab bt).names ["_law_f","_law_weights","_law_kind","_law_n","_law_shares","_law_sizes_here","_law_term_here"] ["_law_at","_law_share","_law_kind","_law_term_here"] 2 [2,6] rfl rfl rfl (by decide +kernel)) rfl (by decide) (om rfl T.z_enumerate (aa (iv 4) ah rfl) rfl rfl) (λ_ _ _ _ _=>(h7 (bR (aA (i:=0) (show List.Nodup (α:=Str) ["_law_at","_law_share","_law_kind","_law_term_here"] by decide +kernel) rfl (by first | exact Or.inl rfl | exact Or.inr rfl)) (bR (aA (i:=1) (show List.Nodup (α:=Str) ["_law_at","_law_share","_law_kind","_law_term_here"] by decide +kernel) rfl (by first | exact Or.inl rfl | exact Or.inr rfl)) fJ)) rfl rfl rfl rfl rfl)) (λ_ _ _ _ _=>(dh (aW (gI hr rfl) (iv 1) aj (aI _)))) (λ_ _ _ _ _=>(ay (cq rfl) (iv 1) (ar (nL T) (by decide) hr rfl T.m__law_term T.F__law_term.kp T.b__law_term (aa (iv 2) (aa (iv 3) (aa (iv 0) ah rfl) rfl) rfl) (by decide) rfl rfl))) (λ_=>rfl))) ah rfl) (by decide) (by decide) rfl rfl) aj (aI _)) (ap (si (tJ (iv 5) (aa (aU (bG rfl) rfl T.z_len qaK (aa (iv 6) ah rfl) (by decide) (by decide) rfl rfl) ah rfl) rfl rfl (by decide) rfl rfl) rfl)) cR)) qbp rfl (λ_=>rfl)) (ap (aE (aU (zb rfl) rfl T.z_min qd4 (aa (iv 5) ah rfl) (by decide) (by decide) rfl rfl)))))))
theorem eU (T:Txt K mg t):aH P w K mg base CX0 2 t.f__law_barred t.fd__law_barred ["_law_f","_law_weights","_law_kind"] (spI K m__law_barred):=
 show aH P w K mg base CX0 2 t.f__law_barred t.fd__law_barred ["_law_f","_law_weights","_law_kind"] (spI K (lI (List.length (α:=Str) ["_law_f","_law_weights","_law_kind","_law_n","_law_shares","_law_sizes_here","_law_term_here"]) (List.length (α:=Str) ["_law_f","_law_weights","_law_kind"]) b__law_barred)) from zJ (N:=["_law_f","_law_weights","_law_kind","_law_n","_law_shares","_law_sizes_here","_law_term_here"]) (ps:=["_law_f","_law_weights","_law_kind"]) (b:=b__law_barred) T.F__law_barred cN (λcdv A outer s H E hr=>jC T cdv A outer s H E hr)
theorem g9 (T:Txt K mg t) (cdv:Value) (A:Around) (outer:List Env) (s:Shared) (H:Hp) (E:XK) (hr:bh (7) (A.deeper (PyProof.Rows.envOfC "_law_both_right" (ab bb) s.heap.objs.size t.f__law_both_right cdv))):ISs K (b9 CX0 P w K mg base ["_law_f","_law_g","_law_found","_law_kind","_law_sizes_here","_law_both","_law_due","_law_n","_law_least","_law_terms_here"] "_law_both_right" (ab bb) t.f__law_both_right cdv A outer s H E).nox (am bb) b__law_both_right:=
 (ak (xt (i:=5) (j:=6) (λ_ h=>AI rfl b7.nd rfl rfl (by decide) rfl rfl h rfl) (aa (ar (um T) (by decide) hr rfl T.m_unlike T.F_unlike.kp T.b_unlike (aa (iv 0) (aa (iv 1) ah rfl) rfl) (by decide) rfl rfl) (aa (aU (ny rfl rfl) rfl T.z_sum qcC (aa (iv 4) ah rfl) (by decide) (by decide) rfl rfl) ah rfl) rfl)) (ak (aF (i:=7) b7.nd rfl (by first | exact Or.inl rfl | exact Or.inr rfl) (ay (cY rfl) (ar (dR T) (by decide) hr rfl T.m__law_switches T.F__law_switches.kp T.b__law_switches (aa (iv 0) ah rfl) (by decide) rfl rfl) (ar (dR T) (by decide) hr rfl T.m__law_switches T.F__law_switches.kp T.b__law_switches (aa (iv 1) ah rfl) (by decide) rfl rfl)) rfl (by first | exact .inl rfl | exact .inr rfl)) (ak (aF (i:=8) b7.nd rfl (by first | exact Or.inl rfl | exact Or.inr rfl) (ar (eU T) (by decide) hr rfl T.m__law_barred T.F__law_barred.kp T.b__law_barred (aa (iv 5) (aa (iv 2) (aa (iv 3) ah rfl) rfl) rfl) (by decide) rfl rfl) rfl (by first | exact .inl rfl | exact .inr rfl)) (ak (ge (jH (nV (aW wm (iv 8) (iv 6) (aI _)) (kS (aW (gI hr rfl) (aU (jh hr rfl) rfl T.z_repr qcx (aa (ar (nK T) (by decide) hr rfl T.m_barred_to T.F_barred_to.kp T.b_barred_to (aa (iv 5) (aa (iv 2) ah rfl) rfl) (by decide) rfl rfl) ah rfl) (by decide) (by decide) rfl rfl) (aU (jh hr rfl) rfl T.z_repr qcx (aa (iv 8) ah rfl) (by decide) (by decide) rfl rfl) (aI _))))) (ap (aE ki)) cR) (ak (aF (i:=9) b7.nd rfl (by first | exact Or.inl rfl | exact Or.inr rfl) (fB (dS rfl) rfl T.z_tuple qaR (aa (ar (fR T) (by decide) hr rfl T.m__law_terms T.F__law_terms.kp T.b__law_terms (aa (iv 7) (aa (ay gh (iv 8) aj) ah rfl) rfl) (by decide) rfl rfl) ah rfl) (by decide) (by decide) rfl rfl) rfl (by first | exact .inl rfl | exact .inr rfl)) (ap (aE (li (jX wj (ar (nh T) (by decide) hr rfl T.m_is_bar T.F_is_bar.kp T.b_is_bar (aa (iv 5) (aa (iv 3) (aa (iv 9) (aa (iv 2) ah rfl) rfl) rfl) rfl) (by decide) rfl rfl) ki (aI _)) (nB (jX wj (ar (nh T) (by decide) hr rfl T.m_is_bar T.F_is_bar.kp T.b_is_bar (aa (iv 5) (aa (iv 3) (aa (fB (dS rfl) rfl T.z_tuple qaR (aa (ar (fR T) (by decide) hr rfl T.m__law_terms T.F__law_terms.kp T.b__law_terms (aa (iv 7) (aa (iv 8) ah rfl) rfl) (by decide) rfl rfl) ah rfl) (by decide) (by decide) rfl rfl) (aa (iv 2) ah rfl) rfl) rfl) rfl) (by decide) rfl rfl) ki (aI _)))))))))))
theorem i6 (T:Txt K mg t):aH P w K mg base CX0 8 t.f__law_both_right t.fd__law_both_right ["_law_f","_law_g","_law_found","_law_kind","_law_sizes_here"] (spI K m__law_both_right):=
 show aH P w K mg base CX0 8 t.f__law_both_right t.fd__law_both_right ["_law_f","_law_g","_law_found","_law_kind","_law_sizes_here"] (spI K (aJ (List.length (α:=Str) ["_law_f","_law_g","_law_found","_law_kind","_law_sizes_here","_law_both","_law_due","_law_n","_law_least","_law_terms_here"]) (List.length (α:=Str) ["_law_f","_law_g","_law_found","_law_kind","_law_sizes_here"]) b__law_both_right)) from cJ (N:=["_law_f","_law_g","_law_found","_law_kind","_law_sizes_here","_law_both","_law_due","_law_n","_law_least","_law_terms_here"]) (ps:=["_law_f","_law_g","_law_found","_law_kind","_law_sizes_here"]) (b:=b__law_both_right) T.F__law_both_right b7 (λcdv A outer s H E hr=>g9 T cdv A outer s H E hr)
theorem vC (T:Txt K mg t) (cdv:Value) (A:Around) (outer:List Env) (s:Shared) (H:Hp) (E:XK) (hr:bh (8) (A.deeper (PyProof.Rows.envOfC "law" (ab iK) s.heap.objs.size t.f_law cdv))):ISs K (b9 CX0 P w K mg base ["_law_script","_law_spool_here","_law_turn","_law_n","_law_m","_law_f","_law_weights","_law_g","_law_others","_law_found","_law_due","_law_kind","_law_sizes_here"] "law" (ab iK) t.f_law cdv A outer s H E).nox (am iK) no:=
 (ak (aF (i:=1) dM.nd rfl (by first | exact Or.inl rfl | exact Or.inr rfl) (ar (mP T) (by decide) hr rfl T.m__law_spool T.F__law_spool.kp T.b__law_spool (aa (iv 0) ah rfl) (by decide) rfl rfl) rfl (by first | exact .inl rfl | exact .inr rfl)) (ak (gx (cQ rfl T.z_range (aa aj ah rfl) rfl) (aZ (aA (i:=2) dM.nd rfl (by first | exact Or.inl rfl | exact Or.inr rfl))) (ak (qS (ar (mH T) (by decide) hr rfl T.m__law_sizes T.F__law_sizes.kp T.b__law_sizes (aa (iv 1) ah rfl) (by decide) rfl rfl) (h7 (bR (aA (i:=3) dM.nd rfl (by first | exact Or.inl rfl | exact Or.inr rfl)) (bR (aA (i:=4) dM.nd rfl (by first | exact Or.inl rfl | exact Or.inr rfl)) fJ)) rfl rfl rfl rfl rfl) rfl rfl rfl) (ak (qS (ar (ji T) (by decide) hr rfl T.m__law_side T.F__law_side.kp T.b__law_side (aa (iv 1) (aa (iv 3) ah rfl) rfl) (by decide) rfl rfl) (h7 (bR (aA (i:=5) dM.nd rfl (by first | exact Or.inl rfl | exact Or.inr rfl)) (bR (aA (i:=6) dM.nd rfl (by first | exact Or.inl rfl | exact Or.inr rfl)) fJ)) rfl rfl rfl rfl rfl) rfl rfl rfl) (ak (qS (ar (ji T) (by decide) hr rfl T.m__law_side T.F__law_side.kp T.b__law_side (aa (iv 1) (aa (iv 4) ah rfl) rfl) (by decide) rfl rfl) (h7 (bR (aA (i:=7) dM.nd rfl (by first | exact Or.inl rfl | exact Or.inr rfl)) (bR (aA (i:=8) dM.nd rfl (by first | exact Or.inl rfl | exact Or.inr rfl)) fJ)) rfl rfl rfl rfl rfl) rfl rfl rfl) (ak (aF (i:=9) dM.nd rfl (by first | exact Or.inl rfl | exact Or.inr rfl) (ar (jm T) (by decide) hr rfl T.m_unlike_weights T.F_unlike_weights.kp T.b_unlike_weights (aa (iv 6) (aa (iv 8) ah rfl) rfl) (by decide) rfl rfl) rfl (by first | exact .inl rfl | exact .inr rfl)) (ak (qfm (sk (i0:=10) dM.nd rfl (by first | exact Or.inl rfl | exact Or.inr rfl) (cw (ab iK).names ["_law_script","_law_spool_here","_law_turn","_law_n","_law_m","_law_f","_law_weights","_law_g","_law_others","_law_found","_law_due","_law_kind","_law_sizes_here"] ["_law_at","_law_weights","_law_f","_law_others"] 1 [6,5,8] rfl rfl rfl (by decide +kernel)) rfl (by decide) (cQ rfl T.z_range (aa (ay (cq rfl) (aU (bG rfl) rfl T.z_len qaK (aa (iv 5) ah rfl) (by decide) (by decide) rfl rfl) (aU (bG rfl) rfl T.z_len qaK (aa (iv 7) ah rfl) (by decide) (by decide) rfl rfl)) ah rfl) rfl) (λ_ _ _ _ _=>(aZ (aA (i:=0) (show List.Nodup (α:=Str) ["_law_at","_law_weights","_law_f","_law_others"] by decide +kernel) rfl (by first | exact Or.inl rfl | exact Or.inr rfl)))) (λ_ _ _ _ _=>cG) (λ_ _ _ _ _=>(ay (cq rfl) (dn (iv 1) (ay dQ (iv 0) (aU (bG rfl) rfl T.z_len qaK (aa (iv 2) ah rfl) (by decide) (by decide) rfl rfl)) rfl rfl) (dn (iv 3) (ay dZ (iv 0) (aU (bG rfl) rfl T.z_len qaK (aa (iv 2) ah rfl) (by decide) (by decide) rfl rfl)) rfl rfl))) rfl (by first | exact .inl rfl | exact .inr rfl) (λ_=>rfl))) (ak (ge (aW (gI hr rfl) (aU (jh hr rfl) rfl T.z_repr qcx (aa (iv 9) ah rfl) (by decide) (by decide) rfl rfl) (aU (jh hr rfl) rfl T.z_repr qcx (aa (fB (dS rfl) rfl T.z_tuple qaR (aa (iv 10) ah rfl) (by decide) (by decide) rfl rfl) ah rfl) (by decide) (by decide) rfl rfl) (aI _)) (ap (aE ki)) cR) (ak (aF (i:=11) dM.nd rfl (by first | exact Or.inl rfl | exact Or.inr rfl) (dn (aP (fu (aa lS (aa lS ah rfl) rfl))) (ar (bU T) (by decide) hr rfl T.m__law_take T.F__law_take.kp T.b__law_take (aa (iv 1) (aa aj ah rfl) rfl) (by decide) rfl rfl) rfl rfl) rfl (by first | exact .inl rfl | exact .inr rfl)) (ak (aF (i:=12) dM.nd rfl (by first | exact Or.inl rfl | exact Or.inr rfl) (aP (fu (aa (ar (eU T) (by decide) hr rfl T.m__law_barred T.F__law_barred.kp T.b__law_barred (aa (iv 5) (aa (iv 6) (aa (iv 11) ah rfl) rfl) rfl) (by decide) rfl rfl) (aa (ar (eU T) (by decide) hr rfl T.m__law_barred T.F__law_barred.kp T.b__law_barred (aa (iv 7) (aa (iv 8) (aa (iv 11) ah rfl) rfl) rfl) (by decide) rfl rfl) ah rfl) rfl))) rfl (by first | exact .inl rfl | exact .inr rfl)) (ap (ge (jH (sJ (aW yZ (aU (zW rfl) rfl T.z_max qgK (aa (iv 9) ah rfl) (by decide) (by decide) rfl rfl) aj (aI _)) (pv (rZ (re (ar (i6 T) (by decide) hr rfl T.m__law_both_right T.F__law_both_right.kp T.b__law_both_right (aa (iv 5) (aa (iv 7) (aa (iv 9) (aa (iv 11) (aa (iv 12) ah rfl) rfl) rfl) rfl) rfl) (by decide) rfl rfl) rfl rfl))))) (ap (aE ki)) cR)))))))))) qbp rfl (λ_=>rfl)) (ap (aE ki))))
theorem Au (T:Txt K mg t):aH P w K mg base CX0 9 t.f_law t.fd_law ["_law_script"] (spI K m_law):=
 show aH P w K mg base CX0 9 t.f_law t.fd_law ["_law_script"] (spI K (lI (List.length (α:=Str) ["_law_script","_law_spool_here","_law_turn","_law_n","_law_m","_law_f","_law_weights","_law_g","_law_others","_law_found","_law_due","_law_kind","_law_sizes_here"]) (List.length (α:=Str) ["_law_script"]) no)) from zJ (N:=["_law_script","_law_spool_here","_law_turn","_law_n","_law_m","_law_f","_law_weights","_law_g","_law_others","_law_found","_law_due","_law_kind","_law_sizes_here"]) (ps:=["_law_script"]) (b:=no) T.F_law dM (λcdv A outer s H E hr=>vC T cdv A outer s H E hr)
end
end Own
end
namespace L2
open PySem
end L2
namespace L2
noncomputable def da:Nat->List (List Int)
 | 0=>[[]]
 | n+1=>da n++(da n).map λt=>t++[(n:Int)]
noncomputable def oF (n:Nat):List (List Int):=fg (da n)
theorem hX:∀ n,(da n).length=2 ^ n
 | 0=>rfl
 | n+1=>by rw [da,qaV,qaf,hX n,qdu];lia
theorem wW (n:Nat):(oF n).length=2 ^ n:=by rw [oF,(dk _).length_eq,hX]
noncomputable def Trm (n:Nat) (t:List Int):Prop:=t.Pairwise (· < ·)/\∀ k ∈ t,0<=k/\k < n
theorem Trm.mono {n m:Nat}{t:List Int} (h:Trm n t) (hn:n<=m):Trm m t:=⟨h.1,λk hk=>⟨(h.2 k hk).1,by have:=(h.2 k hk).2;lia⟩⟩
theorem ie:∀ (n:Nat) {t:List Int},t ∈ da n->Trm n t
 | 0,t,h=>by
  rw [da,qaz] at h
  subst h
  exact⟨List.Pairwise.nil,λk hk=>by cases hk⟩
 | n+1,t,h=>by
  rcases qbg.mp h with h | h
  ·exact (ie n h).mono (qcB n)
  ·obtain⟨u,hu,rfl⟩:=qaD.mp h
   have:=ie n hu
   refine⟨qcr.mpr ⟨this.1,qeI _ _,λa ha b hb=>?_⟩,λk hk=>?_⟩
   ·rw [qaz.mp hb];exact (this.2 a ha).2
   ·rcases qbg.mp hk with hk | hk
    ·exact⟨(this.2 k hk).1,by have:=(this.2 k hk).2;lia⟩
    ·rw [qaz.mp hk];lia
theorem jj {n:Nat}{t:List Int} (h:Trm n t):t.length<=n:=by
 have key:∀ (t:List Int) (a:Int),t.Pairwise (· < ·)->(∀ k ∈ t,a<=k/\k < n)->(t.length:Int)<=max 0 ((n:Int) - a):=by
  intro t
  induction t with
  | nil=>intro a _ _;simp;lia
  | cons x t ih=>
   intro a hp hm
   have h1:=hm x qai
   have:=ih (x+1) (qa9.mp hp).2 λk hk=>⟨(qa9.mp hp).1 k hk,(hm k (qah _ hk)).2⟩
   rw [qaj];push_cast;lia
 have:=key t 0 h.1 h.2
 lia
theorem iJ (p:List Int->Bool) (l:List (List Int)):fg (l.filter p)=(fg l).filter p:=
 jw ((dk _).trans ((dk l).symm.filter p)) (dY _) ((dY l).filter p)
noncomputable def dJ (m:Int):Nat->List (List Int)
 | 0=>[[]]
 | n+1=>dJ m n++((dJ m n).filter λt=>decide ((t.length:Int) < m)).map λt=>t++[(n:Int)]
theorem kR (m:Int) (h0:0<=m):∀ n,dJ m n=(da n).filter λt=>decide ((t.length:Int)<=m)
 | 0=>by simp [dJ,da,h0]
 | n+1=>by
  rw [dJ,da,qdT,kR m h0 n,List.filter_filter,qbL]
  congr 2
  refine qdf λt _=>?_
  rw [qcd]
  simp
  lia
theorem qc (m:Int) (h0:0<=m) (n:Nat):(dJ m n).length<=2 ^ n:=by
 rw [kR m h0,<-hX n];exact qbK _ _
noncomputable def onI (row k:Int):Int:=row / 2 ^ k.toNat % 2
noncomputable def d5 (row:Int):List Int->Int
 | []=>0
 | k::t=>onI row k+d5 row t
theorem mW (row k:Int):onI row k=0\/onI row k=1:=by unfold onI;lia
theorem lE (row:Int):∀ t:List Int,(t.map (onI row)).sum=d5 row t
 | []=>rfl
 | k::t=>by rw [qal,qbm,lE row t];rfl
theorem sZ (row:Int):∀ t:List Int,0<=d5 row t/\d5 row t<=t.length
 | []=>by simp [d5]
 | k::t=>by
  have ih:=sZ row t
  rcases mW row k with e | e<;>(simp only [d5,e,qaj];push_cast;lia)
theorem ln:∀ (ls:List (List Int)),ni (ls.map ag)=some ((fg ls).map ag)
 | []=>rfl
 | t::r=>by
  have e:bQ ((t::r).map ag)=none:=rfl
  unfold ni
  rw [e,lT];rfl
noncomputable def vw (u:D):Prop:=u=.non\/u=.int 0\/u=.int 1
noncomputable def db:Nat->List D->List Int
 | _,[]=>[]
 | i,.non::r=>db (i+1) r
 | i,_::r=>(i:Int)::db (i+1) r
noncomputable def sgD:D->Int
 | .int v=>if v=1 then 1 else -1
 | _=>1
theorem m4:∀ (r:List D) (i:Nat) {j:Int},j ∈ db i r->∃ m:Nat,j=((i+m:Nat):Int)/\m < r.length/\r[m]?≠some .non
 | [],i,j,h=>by cases h
 | d::r,i,j,h=>by
  have up:j ∈ db (i+1) r->∃ m:Nat,j=((i+m:Nat):Int)/\m < (d::r).length/\(d::r)[m]?≠some .non:=λh=>by
   obtain⟨m,e,hm,hn⟩:=m4 r (i+1) h
   exact⟨m+1,by rw [e];congr 1;lia,by simpa using hm,by simpa using hn⟩
  cases d with
  | non=>exact up h
  | _=>
   rcases qaF.mp h with rfl | h
   ·exact⟨0,by simp,by simp,by simp⟩
   ·exact up h
noncomputable def wn:D->Bool
 | .tup [_,v]=>!qD v
 | _=>false
noncomputable def zU:D->D
 | .tup [j,_]=>j
 | d=>d
theorem ms:∀ (r:List D) (i:Nat),((b8 i r).filter wn).map zU=(db i r).map D.int
 | [],i=>rfl
 | d::r,i=>by
  have ih:=ms r (i+1)
  have e0:b8 i (d::r)=.tup [.int (i:Int),d]::b8 (i+1) r:=rfl
  rw [e0,qd9]
  cases d<;>first
   | (rw [if_neg (show ¬ wn (.tup [.int (i:Int),.non])=true from (λh=>by cases h))];exact ih)
   | (rw [if_pos (show wn (.tup [.int (i:Int),_])=true from rfl),qal,ih];rfl)
theorem nc:∀ (r:List D) (i:Nat),(db i r).length<=r.length
 | [],i=>qaq _
 | d::r,i=>by
  have ih:=nc r (i+1)
  cases d<;>first
   | (show (db (i+1) r).length<=r.length+1;lia)
   | (show (db (i+1) r).length+1<=r.length+1;lia)
noncomputable def ek (b:Bool) (on:Int):Int:=if b=true then on else 1 - 2*on
end L2
namespace L2
open PySem
abbrev Prt:=List Int×Int
noncomputable def ip:Nat->List Int->Nat
 | g,[]=>g
 | g,n::ns=>ip (Nat.gcd g n.natAbs) ns
theorem qp (n:Int):∀ (g:Nat) (ns:List Int),ip g (ns++[n])=Nat.gcd (ip g ns) n.natAbs
 | g,[]=>rfl
 | g,m::ns=>qp n _ ns
theorem pz:∀ (g:Nat) (ns:List Int),ip g ns∣g/\∀ n ∈ ns,ip g ns∣n.natAbs
 | g,[]=>⟨Nat.dvd_refl _,λ_ h=>by cases h⟩
 | g,m::ns=>by
  have ih:=pz (Nat.gcd g m.natAbs) ns
  refine⟨qf3 ih.1 (Nat.gcd_dvd_left _ _),λn hn=>?_⟩
  rcases qaF.mp hn with rfl | hn
  ·exact qf3 ih.1 (Nat.gcd_dvd_right _ _)
  ·exact ih.2 n hn
theorem wC {ns:List Int}{n:Int} (hn:n ∈ ns) (h0:n≠0):0 < ip 0 ns/\ip 0 ns<=n.natAbs:=by
 have h:=(pz 0 ns).2 n hn
 have hp:0 < n.natAbs:=by lia
 exact⟨Nat.pos_of_dvd_of_pos h hp,Nat.le_of_dvd hp h⟩
theorem ax {g:Sto->W->W->Option D}{a b:Ef}{env:Ev}{st s1 s2:Sto}{x y:W}{d:D} (ha:a env st=some (x,s1)) (hb:b env s1=some (y,s2)) (hg:g s2 x y=some d):iOp g a b env st=some (.d d,s2):=by
 simp only [iOp,ha,hb,hg,qad,qak]
theorem aY {g:Sto->W->W->Option D}{a b:Ef}{env:Ev}{st s1 s2:Sto}{x y:W}{k:Bool} (ha:a env st=some (x,s1)) (hb:b env s1=some (y,s2)) (hg:g s2 x y=some (.bl k)):bg g a b env st=some (k,s2):=by
 simp only [bg,ha,hb,hg,qad,ii,qak]
theorem aq {a b:Sf}{env e:Ev}{st s:Sto}{r:Fl} (ha:a env st=some (.nx e s)) (hb:b e s=some r):aw a b env st=some r:=by
 simp only [aw,ha,hb,qad]
theorem xC {a b:Sf}{env:Ev}{st s:Sto}{w:W} (ha:a env st=some (.rt w s)):aw a b env st=some (.rt w s):=by
 simp only [aw,ha,qad]
theorem aO {i:Nat}{f:Ef}{env:Ev}{st s:Sto}{w:W} (h:f env st=some (w,s)):aG (.nm i) f env st=some (.nx (env.set i (some w)) s):=by
 simp only [aG,h,qad,d7,qak]
theorem ao {m:Fn}{a:Af}{env:Ev}{st s:Sto}{ws:List W}{r:W×Sto} (ha:a env st=some (ws,s)) (hm:m ws s=some r):av m a env st=some r:=by
 simp only [av,ha,hm,qad]
theorem az {g:Sto->List W->Option D}{a:Af}{env:Ev}{st s:Sto}{ws:List W}{d:D} (ha:a env st=some (ws,s)) (hm:g s ws=some d):iCB g a env st=some (.d d,s):=by
 simp only [iCB,ha,hm,qad,qak]
theorem au {a:Ef}{b:Af}{env:Ev}{st s1 s2:Sto}{x:W}{y:List W} (ha:a env st=some (x,s1)) (hb:b env s1=some (y,s2)):ae a b env st=some (x::y,s2):=by
 simp only [ae,ha,hb,qad,qak]
theorem jc {fi:Lf}{g:Tg}{b:Sf}{env:Ev}{st s:Sto}{ds:List D}{r:Fl} (h:fi env st=some (ds,s)) (hf:kB g b ds env s=some r):gN fi g b env st=some r:=by
 simp only [gN,h,hf,qad]
theorem aX {f:Ef}{env:Ev}{st s:Sto}{w:W} (h:f env st=some (w,s)):bn f env st=some (.rt w s):=by
 simp only [bn,h,qak]
theorem qw {c:Tf}{a b:Sf}{env:Ev}{st s:Sto}{r:Option Fl} (h:c env st=some (true,s)) (ha:a env s=r):eF c a b env st=r:=by
 simp only [eF,h,qad,if_true,ha]
theorem ir {c:Tf}{a b:Sf}{env:Ev}{st s:Sto}{r:Option Fl} (h:c env st=some (false,s)) (hb:b env s=r):eF c a b env st=r:=by
 simp only [eF,h,qad,qaM,if_false,hb]
theorem b6 {k:Nat}{js:List Nat}{fi:Lf}{g:Tg}{tt:Tf}{te:Ef}{env:Ev}{st s s2:Sto}{ds ys:List D} (h:fi env st=some (ds,s)) (hl:ds.length<=1000000) (hc:lcI g tt te (gS k js env) ds s=some (ys,s2)):iLc k js fi g tt te env st=some (ys,s2):=by
 simp only [iLc,h,hc,hl,qad,if_true]
theorem aQ {a:Lf}{env:Ev}{st s:Sto}{ds:List D} (h:a env st=some (ds,s)):aD a env st=some (.d (.lst ds),s):=by
 simp only [aD,h,qak]
theorem aM {n k:Nat}{b:Sf}{ws:List W}{st s:Sto}{w:W} (hl:ws.length=k) (h:b (ws.map some++List.replicate (n - k) none) st=some (.rt w s)):aJ n k b ws st=some (w,s):=by
 simp only [aJ,hl,if_true,h,qad]
theorem jl {n k:Nat}{b:Sf}{ws:List W}{st s:Sto}{x:D} (hl:ws.length=k) (h:b (ws.map some++List.replicate (n - k) none) st=some (.rt (.d x) s)):lI n k b ws st=some (.d x,s.take st.length):=by
 simp only [lI,hl,if_true,h,qad,xM]
structure Spo where
 xs:List Int
 s:Int
 c:Int
noncomputable def spo (p:Spo) (rest:Sto):Sto:=.l (p.xs.map D.int)::.n [.h 0,.d (.int p.s),.d (.int p.c)]::rest
noncomputable def okP (p:Spo) (Z:Int):Prop:=(∀ x ∈ p.xs,0<=x)/\p.xs.length<=63/\0<=p.c/\p.c<=Z
theorem okP.mono {p:Spo}{Z Z':Int} (h:okP p Z) (hz:Z<=Z'):okP p Z':=⟨h.1,h.2.1,h.2.2.1,qed h.2.2.2 hz⟩
theorem pA (p:Spo) (rest:Sto):(spo p rest)[0]?=some (.l (p.xs.map D.int)):=rfl
theorem pi (p:Spo) (rest:Sto):(spo p rest)[1]?=some (.n [.h 0,.d (.int p.s),.d (.int p.c)]):=rfl
theorem pH (p:Spo) (rest:Sto) (ys:List Int):(spo p rest).set 0 (.l (ys.map D.int))=spo { p with xs:=ys } rest:=rfl
theorem u9 (p:Spo) (rest:Sto) (a b:Int):(spo p rest).set 1 (.n [.h 0,.d (.int a),.d (.int b)])=spo { p with s:=a,c:=b } rest:=rfl
theorem me (st:Sto) (ds:List D):lg (st++[.l ds]) st.length=some ds:=by
 unfold lg
 rw [qbj (qaq _),qgO]
 rfl
theorem sG (st:Sto) (c c':C):(st++[c]).set st.length c'=st++[c']:=by
 rw [List.set_append_right _ _ (qaq _),qgO]
 rfl
theorem pW (st u:Sto):(st++u).take st.length=st:=List.take_left
end L2
section
set_option maxHeartbeats 1000000
namespace Own
open PySem L2
theorem Cq:oW 10 18:=p18
theorem zc {many:Int}:∀ (xs:List Int) (p:Spo) (rest:Sto) (f:Nat),p.xs=xs->xs.length < f->(∀ x ∈ xs,0<=x)->
  ∃ ys:List Int,ys.length<=xs.length/\(∀ x ∈ ys,0<=x)/\(∀ x l,ys=x::l->x≠0)/\
   ∀ rest:Sto,cv cI fK f [some (.h 1),some (.d (.int many)),none,none,none] (spo p rest)=some (.nx [some (.h 1),some (.d (.int many)),none,none,none] (spo { p with xs:=ys } rest))
 | [],p,_,f+1,h,_,_=>by
  refine⟨[],qaq _,(λx hx=>nomatch hx),(λx l e=>nomatch e),λrest=>?_⟩
  obtain⟨pxs,ps,pc⟩:=p
  dsimp only at h;subst h
  unfold cv
  simp only [cI,iV,iC,iOp,bg,jg,ai,dF,aD,kG,ii,eX,dIx,dEq,dNe,dL,eqK,fM,qad,qak,qap,qba,qa4,if_true,if_false,qaM,qdU,ud,qdp,and_self,gu,lg,qaZ,pA,pi,qba,qdU]
 | x::xs,p,rest0,f+1,h,hf,h0=>by
  obtain⟨pxs,ps,pc⟩:=p
  dsimp only at h;subst h
  by_cases hx:x=0
  ·subst hx
   obtain⟨ys,a1,a2,a3,a4⟩:=zc (many:=many) xs ⟨xs,ps,pc⟩ rest0 f rfl (by simp at hf;lia) λy hy=>h0 y (qah _ hy)
   refine⟨ys,by simp;lia,a2,a3,λrest=>?_⟩
   have a5:=a4 rest
   unfold cv
   have e:=pH ⟨0::xs,ps,pc⟩ rest xs
   simp only [cI,fK,iV,iC,iOp,bg,jg,ai,ae,dF,aD,mo,jv,kG,ii,eX,dIx,dEq,dNe,dL,eqK,eqD,fM,eY,qad,qak,qap,qal,qaj,qa4,if_true,if_false,qdc,ud,Bs,List.getElem?_cons_zero,qb3,qdp,and_self,gu,vT,lg,qaZ,qdN,pA,pi,show ((0:Int)==0)=true from rfl,List.eraseIdx_cons_zero,show ((-(2 ^ 62):Int)<=0) by decide,show ((0:Int) < 2 ^ 62) by decide,e]
   exact a5
  ·refine⟨x::xs,qaq _,h0,λy l e=>by cases e;exact hx,λrest=>?_⟩
   unfold cv
   have hb:(x==0)=false:=by rw [beq_eq_false_iff_ne];exact hx
   simp only [cI,iV,iC,iOp,bg,jg,ai,dF,aD,kG,ii,eX,dIx,dEq,dNe,dL,eqK,eqD,fM,qad,qak,qap,qal,qaj,qa4,if_true,if_false,qaM,qdc,ud,qb3,qdp,gu,lg,qaZ,qdN,pA,pi,hb]
theorem eA {p:Spo}{m Z:Int} (h:okP p Z) (hZ:Z < 1000000000) (m0:0 < m) (m1:m < 1073741824):∃ r p',0<=r/\r < m/\okP p' (Z+1)/\∀ rest,m__law_take [.h 1,.d (.int m)] (spo p rest)=some (.d (.int r),spo p' rest):=by
 obtain⟨h0,h63,c0,c1⟩:=h
 obtain⟨ys,y1,y2,y3,y4⟩:=zc (many:=m) p.xs p [] 1000000000000000000000000000000 rfl (by lia) h0
 obtain⟨pxs,ps,pc⟩:=p
 dsimp only at h0 h63 c0 c1 y1 y4
 cases ys with
 | cons x l=>
  refine⟨x % m,⟨x / m::l,ps,pc⟩,qes _ (by lia),qdY _ m0,⟨λz hz=>?_,by simp at y1 ⊢;lia,c0,by dsimp only;lia⟩,λrest=>?_⟩
  ·rcases qaF.mp hz with hz | hz
   ·subst hz;exact qet (y2 x qai) (by lia)
   ·exact y2 z (qah _ hz)
  ·have e:=pH ⟨x::l,ps,pc⟩ rest (x / m::l)
   have y5:=y4 rest
   simp only [qal] at e
   simp only [m__law_take,b__law_take,il,iV,iC,iOp,bg,ai,dF,aD,du,aw,aG,lp,gW,bn,eF,aJ,d7,kG,ii,eX,lsD,dIx,dm,cA,fk,eV,dNe,dL,eqK,fM,qad,qak,qap,qaE,qaP,qa5,qal,qba,qaj,qa4,qaL,qa2,qaU,qaW,Nat.reduceAdd,Nat.reduceSub,if_true,if_false,qdc,ud,Bs,qaQ,qb3,qdp,and_self,gu,jB,lg,qaZ,qdN,Int.reduceNeg,y5,pA,pi,m0,m1,e]
 | nil=>
  obtain⟨u,hu⟩:∃ u,(ps+104729*(pc+1))*48271 % 2305843009213693951=u:=⟨_,rfl⟩
  have u0:0<=u:=by rw [<-hu];exact qes _ (by decide)
  have u1:u < 2305843009213693951:=by rw [<-hu];exact qdY _ (by decide)
  have k1:∀ q,PySem.IntMulOk 104729 q:=λq=>n5 (by decide)
  have k2:∀ q,PySem.IntMulOk q 48271:=λq=>gk (by decide)
  have k3:PySem.IntMulOk (pc+1) (pc+1):=gk ⟨by lia,by lia⟩
  have k4:∀ q,PySem.IntMulOk u q:=λq=>n5 ⟨by lia,by lia⟩
  refine⟨u*(u / 1000003+(pc+1)*(pc+1)+7) % 2305843009213693921 / 8191 % m,⟨[],ps,pc+1⟩,qes _ (by lia),qdY _ m0,⟨λz hz=>(nomatch hz),by simp,by dsimp only;lia,by dsimp only;lia⟩,λrest=>?_⟩
  have y5:=y4 rest
  have e:=u9 ⟨[],ps,pc⟩ rest ps (pc+1)
  simp only [m__law_take,b__law_take,il,iV,iC,iOp,bg,ai,dF,aD,du,aw,aG,lp,gW,bn,eF,aJ,d7,kG,ii,eX,lsD,dIx,dm,cA,fk,eV,dNe,dL,eqK,fM,qad,qak,qap,qaE,qaP,qa5,qal,qba,qaj,qa4,qaL,qa2,qaU,qaW,Nat.reduceAdd,Nat.reduceSub,if_true,if_false,qaM,qdU,ud,Ch,Cw,Ck,qaQ,qdp,and_self,gu,jB,lg,qaZ,Int.reduceNeg,y5,pA,pi,m0,e,k1,k2,k3,k4,hu,show (0:Int) < 2305843009213693921 by decide,show (0:Int) < 2305843009213693951 by decide,show (0:Int) < 1000003 by decide,show (1000003:Int) < 1073741824 by decide,show (0:Int) < 8191 by decide,show (8191:Int) < 1073741824 by decide]
theorem uU (ns:List Int) (hn:ns.length<=63):∃ p,okP p 0/\m__law_spool [.d (.scr ns)] []=some (.h 1,spo p []):=by
 have ec:mB (ns.map D.int) none (some 63)=ns.map D.int:=by
  unfold mB
  have e1:HT.sIx (ns.map D.int).length 0 none=0:=rfl
  have e2:HT.sIx (ns.map D.int).length (ns.map D.int).length (some 63)=(ns.map D.int).length:=by
   unfold HT.sIx;simp;lia
  rw [e1,e2,qew,qgN,qcg]
 have k1:∀ q,PySem.IntMulOk q 1000003:=λq=>gk (by decide)
 have hF:∀ (l:List Int) (sd:Int) (last:Option W) ,∃ sd' last',kB (.nm 2) ft (l.map D.int) [some (.d (.scr ns)),some (.d (.int sd)),last] []=some (.nx [some (.d (.scr ns)),some (.d (.int sd')),last'] []):=by
  intro l
  induction l with
  | nil=>exact λsd last=>⟨sd,last,rfl⟩
  | cons x l ih=>
   intro sd last
   obtain⟨a,b,e⟩:=ih ((sd*1000003+x) % 2305843009213693951) (some (.d (.int x)))
   refine⟨a,b,?_⟩
   rw [qal]
   unfold kB
   simp only [ft,iV,iC,iOp,aG,d7,lsD,dm,cA,eV,qad,qak,qap,qaE,qaP,qa5,if_true,lg,Int.reduceNeg,k1,show (0:Int) < 2305843009213693951 by decide]
   exact e
 have hL:lcI (.nm 0) dH dw [none] (ns.map D.int) []=some (((ns.filter λx=>decide (x.natAbs>=10 ^ 18)).map λx:Int=>(x.natAbs:Int)).map D.int,[]):=by
  have:=ce (g:=.nm 0) (tt:=dH) (te:=dw) (env:=[none]) (st:=[]) (λd=>match d with | .int x=>decide (x.natAbs>=10 ^ 18) | _=>false) (λd=>match d with | .int x=>.int (x.natAbs:Int) | d=>d) (ds:=ns.map D.int) λd hd=>by
   obtain⟨x,_,rfl⟩:=qaD.mp hd
   have ea:(if x < 0 then -x else x)=(x.natAbs:Int):=by split<;>lia
   refine⟨[some (.d (.int x))],rfl,?_,λ_=>?_⟩
   ·have eb:decide ((x.natAbs:Int)>=10 ^ Int.toNat 18)=decide (x.natAbs>=10 ^ 18):=by
     rw [show Int.toNat 18=18 from rfl]
     rw [qcd];simp;lia
    simp only [dH,iV,iC,iOp,bg,ai,ae,iCB,ii,tV,dGe,ph,qad,qak,qap,if_true,ea,Cq,eb]
   ·simp only [dw,iV,ai,ae,iCB,ph,qad,qak,qap,ea]
  rw [this]
  rw [qbL,qaN,qaN]
  rfl
 obtain⟨sd',last',e1⟩:=hF ns ((ns.length:Int)+11) none
 refine⟨⟨(ns.filter λx=>decide (x.natAbs>=10 ^ 18)).map λx:Int=>(x.natAbs:Int),sd',0⟩,⟨λx hx=>?_,?_,qfa 0,qfa 0⟩,?_⟩
 ·obtain⟨y,_,rfl⟩:=qaD.mp hx;lia
 ·rw [qaf];exact qaX (qbK _ _) hn
 ·have hlen:ns.length<=1000000:=by lia
  simp only [m__law_spool,b__law_spool,iV,iC,iOp,ai,ae,iCB,lP,aw,aG,bn,gN,iLc,br,iSl,iPn,iPs,aJ,d7,zx,gS,eX,lsD,dm,bI,dSl,qad,qak,qap,qaE,qaP,qa5,qal,qba,qaj,qa4,qaL,qa2,qaU,qaW,Nat.reduceAdd,Nat.reduceSub,if_true,qaQ,sv,lg,ec,qaf,e1,hlen,hL,show (3:Nat)<=1000 by decide]
  rfl
end Own
end
section
set_option maxHeartbeats 1000000
namespace Own
open PySem L2
theorem my {st:Sto}{k:Int} (hk0:0<=k) (hk:k<=60):m_power_of_two [.d (.int k)] st=some (.d (.int (2 ^ k.toNat)),st):=by
 obtain⟨env',s2,e2,o,rfl,rfl⟩:=dz (g:=.nm 2) (body:=dP) (ds:=bF 0 k.toNat) (λi env s=>∃ o,env=[some (.d (.int k)),some (.d (.int (2 ^ i))),o]/\s=st) (env:=[some (.d (.int k)),some (.d (.int 1)),none]) (st:=st)
  ⟨none,rfl,rfl⟩ (λi d env s hd ⟨o,e,es⟩=>by
   subst e es
   obtain⟨rfl,hi⟩:=cF hd
   have km:PySem.IntMulOk (2 ^ i:Int) 2:=gk (by decide)
   have e1:(2 ^ i:Int)*2=2 ^ (i+1):=by rw [qdw]
   refine⟨_,[some (.d (.int k)),some (.d (.int (2 ^ (i+1)))),some (.d (.int i))],s,rfl,.inl ?_,_,rfl,rfl⟩
   generalize (2 ^ i:Int)=p at km e1
   simp only [dP,iV,iC,iOp,aG,d7,cA,qad,qak,qap,qaE,qaP,qa5,if_true,Int.reduceNeg,km,e1])
 rw [cc] at e2
 have hb:-(2 ^ 62)<=k/\k < 2 ^ 62:=by lia
 generalize (2 ^ k.toNat:Int)=q at e2 ⊢
 simp only [m_power_of_two,b_power_of_two,iV,iC,ai,ae,aw,aG,bn,gN,bw,aJ,d7,qad,qak,qap,qaE,qaP,qa5,qal,qba,qaj,qa4,qaL,qa2,qaU,qaW,Nat.reduceSub,if_true,qaQ,and_self,hb,e2]
theorem tM {j:Nat} (h:j<=20):(0:Int) < 2 ^ j/\(2:Int) ^ j < 1073741824:=by
 have h1:∀ m:Nat,m<=20->2 ^ m<=2 ^ 20:=λm hm=>qbx (by decide) hm
 have h2:(2:Nat) ^ 20=1048576:=by decide
 have h3:=h1 j h
 have h4:((2 ^ j:Nat):Int)=(2:Int) ^ j:=by push_cast;rfl
 have h5:0 < 2 ^ j:=qcA (by decide)
 lia
theorem yf {st:Sto}{row k:Int} (k0:0<=k) (k1:k<=20):m_on_in [.d (.int row),.d (.int k)] st=some (.d (.int (onI row k)),st):=by
 have h:=tM (j:=k.toNat) (by lia)
 have e:=my (st:=st) k0 (by lia)
 unfold onI
 generalize (2 ^ k.toNat:Int)=q at h e ⊢
 simp only [m_on_in,b_on_in,iV,iC,iOp,ai,ae,av,bn,aJ,fk,eV,qad,qak,qap,qaE,qal,qba,qaj,qa4,qa2,qaU,qaW,Nat.reduceAdd,Nat.reduceSub,if_true,qaQ,and_self,e,h.1,h.2,show (0:Int) < 2 by decide]
noncomputable def aR (b:Bool) (t:List Int) (row:Int):Int:=if b=true then (if d5 row t=(t.length:Int) then 1 else 0) else (if d5 row t % 2=1 then -1 else 1)
noncomputable def bP (b:Bool):Str:=if b=true then "both" else "odd"
theorem uC (b:Bool):(bP b==("both" : Str))=b:=by cases b<;>decide
theorem wA {st:Sto}{b:Bool}{t:List Int}{row:Int} (ht:∀ k ∈ t,0<=k/\k<=20) (hl:t.length<=1000):m_value_of [.d (.str (bP b)),.d (ag t),.d (.int row)] st=some (.d (.int (aR b t row)),st):=by
 have key:lcI (.nm 0) cC gn [none,some (.d (.int row))] (t.map D.int) st=some ((t.map D.int).map λd=>match d with | .int k=>.int (onI row k) | d=>d,st):=cS _ λd hd=>by
  obtain⟨k,hk,rfl⟩:=qaD.mp hd
  exact⟨_,rfl,by simp only [gn,iV,ai,ae,av,qad,qak,qap,qaE,qaP,yf (st:=st) (row:=row) (ht k hk).1 (ht k hk).2]⟩
 have e1:((t.map D.int).map λd=>match d with | .int k=>.int (onI row k) | d=>d)=(t.map (onI row)).map D.int:=by rw [qaN,qaN];rfl
 rw [e1] at key
 have hs:bQ ((t.map (onI row)).map D.int)=some (t.map (onI row)):=ci _
 have hlm:(t.map D.int).length<=1000000:=by rw [qaf];lia
 have e2:((t.map D.int).length:Int)=(t.length:Int):=by rw [qaf]
 have kb:=uC b
 have hv:aR b t row=if b=true then (if (d5 row t==(t.length:Int))=true then 1 else 0) else (if (d5 row t % 2==(1:Int))=true then -1 else 1):=by simp only [aR,beq_iff_eq]
 rw [hv]
 generalize bP b=kd at kb ⊢
 cases b with
 | true=>cases hq:(d5 row t==(t.length:Int))<;>simp only [m_value_of,b_value_of,ag,iV,iC,iOp,bg,iUn,kv,ai,ae,iCB,aD,du,aw,aG,bn,eF,iLc,br,aJ,d7,ii,gS,eX,eV,dEq,dL,eqK,eqD,rX,bI,jA,qad,qak,qap,qaE,qaP,qa5,qal,qba,qaj,qa4,qaL,qa2,qaU,qaW,Nat.reduceAdd,Nat.reduceSub,if_true,if_false,qaM,qaQ,lg,Int.reduceNeg,key,hs,hlm,lE,kb,e2,hq]
 | false=>cases hq:(d5 row t % 2==(1:Int))<;>simp only [m_value_of,b_value_of,ag,iV,iC,iOp,bg,iUn,kv,ai,ae,iCB,aD,du,aw,aG,bn,eF,iLc,br,aJ,d7,ii,gS,eX,eV,dEq,dL,eqK,eqD,rX,bI,jA,qad,qak,qap,qaE,qaP,qa5,qal,qba,qaj,qa4,qaL,qa2,qaU,qaW,Nat.reduceAdd,Nat.reduceSub,if_true,if_false,qaM,qaQ,lg,Int.reduceNeg,key,hs,hlm,lE,kb,hq,show (0:Int) < 2 by decide]
noncomputable def kr (l:List Int):Prop:=∀ x ∈ l,x=0\/x=1
theorem kr.getD {l:List Int} (h:kr l) (i:Nat):l.getD i 0=0\/l.getD i 0=1:=by
 rw [List.getD]
 cases e:l[i]? with
 | none=>exact .inl rfl
 | some d=>exact h d (qbf e)
theorem uf {o:Ef}{a:Af}{env:Ev}{st:Sto}{ds:List D}{x:D} (ho:o env (st++[.l ds])=some (.h st.length,st++[.l ds])) (ha:a env (st++[.l ds])=some ([.d x],st++[.l ds])) (hl:ds.length < 1000000):mo (jv iw o a) env (st++[.l ds])=some (.nx env (st++[.l (ds++[x])])):=by
 have al:=me st ds
 simp only [mo,jv,ho,ha,al,iw,hl,sG,qad,qak,if_true]
theorem wa {c:Tf}{b:Sf}{n:Nat}{env:Ev}{st s:Sto} (h:c env st=some (false,s)):cv c b (n+1) env st=some (.nx env s):=by
 unfold cv
 rw [h,qad,if_neg qaB]
theorem zh {c:Tf}{b:Sf}{n:Nat}{env e:Ev}{st s s2:Sto} (h:c env st=some (true,s)) (hb:b env s=some (.nx e s2)):cv c b (n+1) env st=cv c b n e s2:=by
 rw [cv,h,qad,if_pos rfl,hb,qad]
theorem Cu {x:Int} (h:0<=x):Builtin.bitAnd x 1=x % 2:=by
 unfold Builtin.bitAnd
 rw [decide_eq_true h,show decide ((0:Int)<=1)=true from rfl]
 show ((x.toNat &&& (1:Int).toNat:Nat):Int)=x % 2
 rw [show (1:Int).toNat=1 from rfl,Nat.and_one_is_mod]
 lia
noncomputable def pcF:Nat->Nat->Nat
 | 0,_=>0
 | f+1,r=>r % 2+pcF f (r / 2)
theorem pP:∀ f,pcF f 0=0
 | 0=>rfl
 | f+1=>by unfold pcF;rw [Nat.zero_div,pP f]
theorem uA {st:Sto}:∀ (f r:Nat) (many:Int) (fuel:Nat),r < 2 ^ f->f < fuel->cv dE gX fuel [some (.d (.int r)),some (.d (.int many))] st=some (.nx [some (.d (.int 0)),some (.d (.int (many+pcF f r)))] st):=by
 intro f
 induction f with
 | zero=>
  intro r many fuel hr hf
  obtain⟨k,rfl⟩:∃ k,fuel=k+1:=⟨fuel - 1,by lia⟩
  have e:r=0:=by simpa using hr
  subst e
  have hc:dE [some (.d (.int ((0:Nat):Int))),some (.d (.int many))] st=some (false,st):=rfl
  rw [wa hc]
  simp [pcF]
 | succ f ih=>
  intro r many fuel hr hf
  obtain⟨k,rfl⟩:∃ k,fuel=k+1:=⟨fuel - 1,by lia⟩
  by_cases h0:r=0
  ·subst h0
   have hc:dE [some (.d (.int ((0:Nat):Int))),some (.d (.int many))] st=some (false,st):=rfl
   rw [wa hc,pP]
   simp
  ·have e:=ih (r / 2) (many+(r:Int) % 2) k (by rw [qdu] at hr;lia) (by lia)
   have hd:decide ((r:Int) > 0)=true:=by simp;lia
   have hc:dE [some (.d (.int r)),some (.d (.int many))] st=some (true,st):=aY rfl rfl (congrArg (λb=>some (D.bl b)) hd)
   have e2:((r / 2:Nat):Int)=(r:Int) / 2:=qfz ..
   have hb:gX [some (.d (.int r)),some (.d (.int many))] st=some (.nx [some (.d (.int ((r / 2:Nat):Int))),some (.d (.int (many+(r:Int) % 2)))] st):=by
    rw [e2];rfl
   rw [zh hc hb,e]
   rw [show pcF (f+1) r=r % 2+pcF f (r / 2) from rfl]
   have e3:((r % 2+pcF f (r / 2):Nat):Int)=(r:Int) % 2+(pcF f (r / 2):Nat):=by push_cast;rfl
   rw [e3,Int.add_assoc]
theorem sf {st:Sto}{r:Nat} (h:r < 64):m_many_on [.d (.int r)] st=some (.d (.int (pcF 6 r)),st):=by
 have e:=uA (st:=st) 6 r 0 1000000000000000000000000000000 h (by decide)
 rw [qbl] at e
 exact aM rfl (aq (e:=[some (.d (.int r)),some (.d (.int 0))]) (s:=st) rfl (aq e rfl))
theorem zg:∀ n:Fin 7,∀ r:Fin 64,r.val < 2 ^ n.val->pcF 6 r.val<=n.val:=by decide +kernel
theorem xP:∀ n:Fin 7,pcF 6 (2 ^ n.val - 1)=n.val:=by decide +kernel
noncomputable def bcL (row:List Int):List Int:=(List.range (2 ^ (row.length - 1))).map λr=>row.getD (pcF 6 r) 0
noncomputable def Row (row:List Int):Prop:=kr row/\1<=row.length/\row.length<=7
theorem bO {n:Nat} (h:n<=6):2 ^ n<=64:=qaX (qbx (by decide) h) (by decide)
theorem z0 {row:List Int} (h:Row row) {r:Nat} (hr:r < 2 ^ (row.length - 1)):atI (row.map D.int) ((pcF 6 r:Nat):Int)=some (.int (row.getD (pcF 6 r) 0)):=by
 have h2:=h.2
 have h64:=bO (n:=row.length - 1) (by lia)
 have:=zg ⟨row.length - 1,by lia⟩ ⟨r,by lia⟩ hr
 dsimp only at this
 refine fF ?_
 rw [qaI,List.getD,qaG (by lia:pcF 6 r < row.length)]
 rfl
noncomputable def bcF (row:List Int):D->D
 | .int r=>.int (row.getD (pcF 6 r.toNat) 0)
 | d=>d
theorem Av (row:List Int) (q:Int) (hq:q.toNat=2 ^ (row.length - 1)):((bF 0 q.toNat).map (bcF row))=(bcL row).map D.int:=by
 unfold bF bcL
 rw [hq,qaN,qaN]
 refine qas λk _=>?_
 show D.int (row.getD (pcF 6 (0+(k:Int)).toNat) 0)=_
 rw [qbl,qat];rfl
theorem xJ {row:List Int} (h:Row row):∃ q:Int,(2:Int) ^ (row.length - 1)=q/\q.toNat=2 ^ (row.length - 1)/\(-(2 ^ 62)<=q/\q < 2 ^ 62)/\(bF 0 q.toNat).length<=1000000:=by
 have h64:=bO (n:=row.length - 1) (by have:=h.2;lia)
 have e:(2:Int) ^ (row.length - 1)=((2 ^ (row.length - 1):Nat):Int):=by push_cast;rfl
 have h6:((2 ^ (row.length - 1):Nat):Int)<=64:=by lia
 refine⟨_,e,qat _,⟨qed (by decide) (qfk _),qfl h6 (by decide)⟩,?_⟩
 rw [cc,qat];lia
theorem pI {st:Sto}{row:List Int} (h:Row row):m_by_counts [.d (ag row)] st=some (.d (ag (bcL row)),st):=by
 obtain⟨q,q0,q1,q2,q3⟩:=xJ h
 have h2:=h.2
 have h64:=bO (n:=row.length - 1) (by lia)
 have hL:lcI (.nm 0) cC fU [none,some (.d (ag row))] (bF 0 q.toNat) st=some ((bF 0 q.toNat).map (bcF row),st):=by
  refine cS _ λd hd=>?_
  obtain⟨i,hi'⟩:=qa3.mp hd
  obtain⟨rfl,hi⟩:=cF hi'
  rw [q1] at hi
  refine⟨_,rfl,ax (x:=.d (ag row)) rfl (ao rfl (sf (st:=st) (r:=i) (by lia))) ?_⟩
  show atI (row.map D.int) _=some (D.int (row.getD (pcF 6 (i:Int).toNat) 0))
  rw [qat]
  exact z0 h hi
 rw [Av row q q1] at hL
 have e1:=my (st:=st) (k:=((row.map D.int).length:Int) - 1) (by rw [qaf];lia) (by rw [qaf];lia)
 have e2:(((row.map D.int).length:Int) - 1).toNat=row.length - 1:=by rw [qaf];lia
 rw [e2,q0] at e1
 have hrg:bw (ae (av m_power_of_two (ae (iOp gL (iCB bI (ae (iV 0) ai)) (iC (.int 1))) ai)) ai) [some (.d (ag row))] st=some (bF 0 q.toNat,st):=by
  have h1:av m_power_of_two (ae (iOp gL (iCB bI (ae (iV 0) ai)) (iC (.int 1))) ai) [some (.d (ag row))] st=some (.d (.int q),st):=ao rfl e1
  simp only [bw,ae,h1,ai,qad,qak,q2,and_self,if_true]
 exact aM rfl (aX (az (au (aQ (b6 hrg q3 hL)) rfl) rfl))
theorem yd {st:Sto}{f:D}{L:Int}{n:Nat} (hL:L=((2 ^ n:Nat):Int)) (hf:∀ s,bI s [.d f]=some (.int L)):∀ (g j fuel:Nat) (many:Int),j+g=n->n<=60->g < fuel->cv cV ed fuel [some (.d f),some (.d (.int many)),some (.d (.int ((2 ^ j:Nat):Int)))] st=some (.nx [some (.d f),some (.d (.int (many+g))),some (.d (.int ((2 ^ n:Nat):Int)))] st):=by
 intro g
 induction g with
 | zero=>
  intro j fuel many hj hn hf'
  obtain⟨k,rfl⟩:∃ k,fuel=k+1:=⟨fuel - 1,by lia⟩
  have e:j=n:=by lia
  subst e
  have hc:cV [some (.d f),some (.d (.int many)),some (.d (.int ((2 ^ j:Nat):Int)))] st=some (false,st):=by
   refine aY rfl (az rfl (hf st)) ?_
   show some (D.bl (decide (((2 ^ j:Nat):Int) < L)))=_
   rw [hL];simp
  rw [wa hc]
  simp
 | succ g ih=>
  intro j fuel many hj hn hf'
  obtain⟨k,rfl⟩:∃ k,fuel=k+1:=⟨fuel - 1,by lia⟩
  have e:=ih (j+1) k (many+1) (by lia) hn (by lia)
  have hlt:2 ^ j < 2 ^ n:=Nat.pow_lt_pow_right (by decide) (by lia)
  have hc:cV [some (.d f),some (.d (.int many)),some (.d (.int ((2 ^ j:Nat):Int)))] st=some (true,st):=by
   refine aY rfl (az rfl (hf st)) ?_
   show some (D.bl (decide (((2 ^ j:Nat):Int) < L)))=_
   rw [hL,decide_eq_true (by lia)]
  have e2:((2 ^ (j+1):Nat):Int)=((2 ^ j:Nat):Int)*2:=by rw [qdu];push_cast;rfl
  have km:PySem.IntMulOk (((2 ^ j:Nat):Int)) 2:=gk (by decide)
  have hb:ed [some (.d f),some (.d (.int many)),some (.d (.int ((2 ^ j:Nat):Int)))] st=some (.nx [some (.d f),some (.d (.int (many+1))),some (.d (.int ((2 ^ (j+1):Nat):Int)))] st):=by
   rw [e2]
   refine aq (aO (ax rfl rfl ?_)) rfl
   show (if IntMulOk _ 2 then some (D.int (((2 ^ j:Nat):Int)*2)) else none)=_
   rw [if_pos km]
  rw [zh hc hb,e]
  have e3:many+1+(g:Int)=many+((g+1:Nat):Int):=by push_cast;lia
  rw [e3]
theorem ql {st:Sto}{f:List Int}{n:Nat} (hf:f.length=2 ^ n) (hn:n<=6):m_switches_of [.d (ag f)] st=some (.d (.int n),st):=by
 have e:=yd (st:=st) (f:=ag f) (L:=((2 ^ n:Nat):Int)) (n:=n) rfl (λs=>by
  show some (D.int ((f.map D.int).length:Int))=_
  rw [qaf,hf]) n 0 1000000000000000000000000000000 0 (by lia) (by lia) (by lia)
 rw [qbl] at e
 exact aM rfl (aq (e:=[some (.d (ag f)),some (.d (.int 0)),none]) (s:=st) rfl (aq (e:=[some (.d (ag f)),some (.d (.int 0)),some (.d (.int 1))]) (s:=st) rfl (aq e rfl)))
end Own
end
section
set_option maxHeartbeats 1000000
namespace Own
open PySem L2
theorem xa {st:Sto}{fs:List D} (hl:fs.length<=1000):m_told_rows [.d (.tup fs)] st=some (.d (.tup ((db 0 fs).map D.int)),st):=by
 have key:lcI (.tp [0,1]) fV fP [none,none] (b8 0 fs) st=some (((b8 0 fs).filter wn).map zU,st):=ce _ _ λd hd=>by
  obtain⟨i,hi⟩:=qa3.mp hd
  rw [eL] at hi
  obtain⟨e,he,rfl⟩:=qac.mp hi
  exact⟨_,rfl,by simp only [fV,wn,iV,iC,bg,ka,ii,sT,qD,qad,qak,qap,qaE,qaP,qa5,qaQ],λ_=>by simp only [fP,zU,iV,ka,qak,qap,qaP,qa5,qaQ]⟩
 rw [ms] at key
 have hz:(b8 0 fs).length<=1000000:=by rw [eK];lia
 simp only [m_told_rows,b_told_rows,iV,ai,ae,iCB,aD,bn,iLc,io,aJ,gS,eX,eH,qad,qak,qap,qal,qba,qaj,qa4,qaL,qa2,qaU,qaW,Nat.reduceSub,if_true,qaQ,lg,key,hz]
theorem yk {st:Sto}{fs:List D}{j:Nat}{d:D} (hd:fs[j]?=some d) (hv:vw d) (hn:d≠.non):m_sign_at [.d (.tup fs),.d (.int (j:Int))] st=some (.d (.int (sgD d)),st):=by
 have e:atI fs (j:Int)=some d:=fF hd
 rcases hv with rfl | rfl | rfl
 ·exact absurd rfl hn
 ·simp only [m_sign_at,b_sign_at,iV,iC,iOp,bg,iUn,kv,bn,aJ,ii,eX,dIx,dEq,dL,eqK,eqD,rX,qad,qak,qap,qaE,qal,qba,qaj,qa4,qa2,qaU,qaW,Nat.reduceAdd,Nat.reduceSub,if_true,if_false,qaM,qaQ,lg,Int.reduceNeg,e,sgD,show ((0:Int)==1)=false by decide,show ¬ (0:Int)=1 by decide]
 ·simp only [m_sign_at,b_sign_at,iV,iC,iOp,bg,iUn,kv,bn,aJ,ii,eX,dIx,dEq,dL,eqK,eqD,rX,qad,qak,qap,qaE,qal,qba,qaj,qa4,qa2,qaU,qaW,Nat.reduceAdd,Nat.reduceSub,if_true,qaQ,lg,Int.reduceNeg,e,sgD,show ((1:Int)==1)=true by decide]
theorem sg1 {d:D}:sgD d=1\/sgD d=-1:=by
 unfold sgD
 split
 ·split
  ·exact .inl rfl
  ·exact .inr rfl
 ·exact .inl rfl
theorem uk {st:Sto}{fs:List D}{j:Nat}{d:D}{b:Bool}{t:List Int} (hd:fs[j]?=some d) (hv:vw d) (hn:d≠.non) (ht:∀ k ∈ t,0<=k/\k<=20) (hl:t.length<=1000) :
  m_signed_value [.d (.tup fs),.d (.str (bP b)),.d (ag t),.d (.int (j:Int))] st=some (.d (.int (sgD d*aR b t j)),st):=by
 have e1:=yk (st:=st) hd hv hn
 have e2:=wA (st:=st) (b:=b) (row:=j) ht hl
 have km:PySem.IntMulOk (sgD d) (aR b t j):=n5 (by rcases sg1 (d:=d) with h | h<;>(rw [h];decide))
 generalize bP b=kd at e2 ⊢
 generalize ag t=tt at e2 ⊢
 simp only [m_signed_value,b_signed_value,iV,iOp,ai,ae,av,bn,aJ,cA,qad,qak,qap,qaE,qal,qba,qaj,qa4,qa2,qaU,qaW,Nat.reduceAdd,Nat.reduceSub,if_true,qaQ,Int.reduceNeg,e1,e2,km]
theorem qZ {st:Sto}{n m:Int} (n0:0<=n) (n1:n<=6) (m0:0<=m):m_terms_to [.d (.int n),.d (.int m)] st=some (.d (.tup (((oF n.toNat).filter λt=>decide ((t.length:Int)<=m)).map ag)),st):=by
 obtain⟨env',s2,e2,o,rfl,rfl⟩:=dz (g:=.nm 3) (body:=gr) (ds:=bF 0 n.toNat) (λi env s=>∃ o,env=[some (.d (.int n)),some (.d (.int m)),some (.d (.lst ((dJ m i).map ag))),o]/\s=st) (env:=[some (.d (.int n)),some (.d (.int m)),some (.d (.lst [.tup []])),none]) (st:=st)
  ⟨none,rfl,rfl⟩ (λi d env s hd ⟨o,e,es⟩=>by
   subst e es
   obtain⟨rfl,hi⟩:=cF hd
   have hl:(dJ m i).length<=64:=qaX (qc m m0 i) (qaX (qbx (by decide) (by lia:i<=6)) (by decide))
   have ht:∀ t ∈ dJ m i,t.length<=i:=λt ht=>by
    rw [kR m m0] at ht
    exact jj (ie i (qaY.mp ht).1)
   have key:lcI (.nm 0) gz gv [none,some (.d (.int m)),some (.d (.int i))] ((dJ m i).map ag) s =
     some ((((dJ m i).map ag).filter λd=>match d with | .tup ds=>decide ((ds.length:Int) < m) | _=>false).map λd=>match d with | .tup ds=>.tup (ds++[.int i]) | d=>d,s):=ce _ _ λd hd=>by
    obtain⟨t,htm,rfl⟩:=qaD.mp hd
    have htl:=ht t htm
    have hk:(t.map D.int).length+1<=1000000:=by rw [qaf];lia
    exact⟨_,rfl,by simp only [gz,ag,iV,bg,ai,ae,iCB,ii,eX,dLt,bI,qad,qak,qap,qaE,qaP,lg],λ_=>by simp only [gv,ag,iV,iOp,ai,ae,kg,kG,lsD,dm,qad,qak,qap,qaE,qaP,qaj,qa4,if_true,qaQ,lg,hk,show (1:Nat)<=1000 by decide]⟩
   have e1:((((dJ m i).map ag).filter λd=>match d with | .tup ds=>decide ((ds.length:Int) < m) | _=>false).map λd=>match d with | .tup ds=>.tup (ds++[.int i]) | d=>d) =
     (((dJ m i).filter λt=>decide ((t.length:Int) < m)).map λt=>t++[(i:Int)]).map ag:=by
    rw [qbL,qaN,qaN]
    have e0:((λd=>match d with | .tup ds=>decide ((ds.length:Int) < m) | _=>false) ∘ ag)=λt:List Int=>decide ((t.length:Int) < m):=by
     funext t
     show decide (((t.map D.int).length:Int) < m)=_
     rw [qaf]
    rw [e0]
    refine qas λt _=>?_
    show D.tup (t.map D.int++[.int i])=D.tup ((t++[(i:Int)]).map D.int)
    rw [qbs];rfl
   rw [e1] at key
   have e3:(dJ m (i+1)).map ag=(dJ m i).map ag++(((dJ m i).filter λt=>decide ((t.length:Int) < m)).map λt=>t++[(i:Int)]).map ag:=by rw [dJ,qbs]
   have h1:((dJ m i).map ag).length<=1000000:=by rw [qaf];lia
   have h2:((dJ m i).map ag).length+((((dJ m i).filter λt=>decide ((t.length:Int) < m)).map λt=>t++[(i:Int)]).map ag).length<=1000000:=by
    have:=qbK (λt:List Int=>decide ((t.length:Int) < m)) (dJ m i)
    simp only [qaf];lia
   refine⟨_,[some (.d (.int n)),some (.d (.int m)),some (.d (.lst ((dJ m (i+1)).map ag))),some (.d (.int i))],s,rfl,.inl ?_,_,rfl,rfl⟩
   rw [e3]
   generalize (((dJ m i).filter λt=>decide ((t.length:Int) < m)).map λt=>t++[(i:Int)]).map ag=B at key h2 ⊢
   generalize (dJ m i).map ag=A at key h1 h2 ⊢
   simp only [gr,iV,iOp,aD,aG,iLc,br,d7,gS,lsD,dm,qad,qak,qap,qaE,qaP,qa5,qal,qba,qaL,qa2,qaU,qaW,if_true,lg,key,h1,h2])
 rw [cc] at e2
 have hb:-(2 ^ 62)<=n/\n < 2 ^ 62:=by lia
 have hl:((dJ m n.toNat).map ag).length<=64:=by
  rw [qaf]
  exact qaX (qc m m0 _) (qaX (qbx (by decide) (by lia:n.toNat<=6)) (by decide))
 have hs:ni ((dJ m n.toNat).map ag)=some (((oF n.toNat).filter λt=>decide ((t.length:Int)<=m)).map ag):=by
  have e9:fg (dJ m n.toNat)=(oF n.toNat).filter λt=>decide ((t.length:Int)<=m):=by rw [kR m m0,iJ];rfl
  rw [ln,e9]
 generalize (dJ m n.toNat).map ag=A at e2 hl hs
 generalize ((oF n.toNat).filter λt=>decide ((t.length:Int)<=m)).map ag=B at hs ⊢
 simp only [m_terms_to,b_terms_to,gB,iV,ai,ae,iCB,iCL,kg,dF,aD,aw,aG,bn,gN,bw,aJ,d7,kG,eX,lsD,gB,eH,qad,qak,qap,qaE,qaP,qa5,qal,qba,qaj,qa4,qaL,qa2,qaU,qaW,Nat.reduceAdd,Nat.reduceSub,if_true,qaQ,and_self,lg,hb,e2,hl,hs,show (1:Nat)<=1000 by decide,show (0:Nat)<=1000 by decide]
noncomputable def wS (g:Int->Int):Nat->List Int->List D->Int
 | i,_::ws,.non::r=>wS g (i+1) ws r
 | i,w::ws,d::r=>w*(sgD d*g i)+wS g (i+1) ws r
 | _,_,_=>0
theorem yL (g:Int->Int) (fs:List D) (ws:List Int):∀ (r:List D) (wr:List Int) (i:Nat),wr.length=r.length->(∀ u ∈ r,vw u)->fs.drop i=r->ws.drop i=wr->((db i r).map λj=>ws.getD j.toNat 0*(sgD (fs.getD j.toNat .non)*g j)).sum=wS g i wr r
 | [],wr,i,hl,_,_,_=>by cases wr<;>rfl
 | d::r,[],i,hl,_,_,_=>by simp at hl
 | d::r,w::wr,i,hl,hv,h,h'=>by
  have hd:fs[i]?=some d:=by
   have:=congrArg (λl=>l[0]?) h
   simpa using this
  have hr:fs.drop (i+1)=r:=by
   have:=congrArg (List.drop 1) h
   simpa [qda,qcE] using this
  have hd':ws[i]?=some w:=by
   have:=congrArg (λl=>l[0]?) h'
   simpa using this
  have hr':ws.drop (i+1)=wr:=by
   have:=congrArg (List.drop 1) h'
   simpa [qda,qcE] using this
  have ih:=yL g fs ws r wr (i+1) (by simpa using hl) (λu hu=>hv u (qah _ hu)) hr hr'
  rcases hv d qai with rfl | rfl | rfl
  ·exact ih
  ·show ((_::db (i+1) r).map _).sum=w*(sgD (.int 0)*g i)+wS g (i+1) wr r
   rw [qal,qbm,ih,qat,qbu,qbu,hd,hd'];rfl
  ·show ((_::db (i+1) r).map _).sum=w*(sgD (.int 1)*g i)+wS g (i+1) wr r
   rw [qal,qbm,ih,qat,qbu,qbu,hd,hd'];rfl
theorem oV (b:Bool) (t:List Int) (row:Int):-1<=aR b t row/\aR b t row<=1:=by
 unfold aR
 split<;>split<;>lia
theorem oU {st:Sto}{fs:List D}{b:Bool}{t ws:List Int} (hf:fs.length<=1000) (hv:∀ u ∈ fs,vw u) (hw:ws.length=fs.length) (ht:∀ k ∈ t,0<=k/\k<=20) (hl:t.length<=1000) :
  m_weighted [.d (.tup fs),.d (.str (bP b)),.d (ag t),.d (.tup (ws.map D.int))] st=some (.d (.int (wS (aR b t) 0 ws fs)),st):=by
 have key:lcI (.nm 0) cC gA [none,some (.d (.tup (ws.map D.int))),some (.d (.tup fs)),some (.d (.str (bP b))),some (.d (ag t))] ((db 0 fs).map D.int) st =
   some (((db 0 fs).map D.int).map λd=>match d with | .int j=>.int (ws.getD j.toNat 0*(sgD (fs.getD j.toNat .non)*aR b t j)) | d=>d,st):=cS _ λd hd=>by
  obtain⟨j,hj,rfl⟩:=qaD.mp hd
  obtain⟨m,rfl,hm,hn⟩:=m4 fs 0 hj
  rw [qaQ]
  have he:=qaG hm
  have hmw:m < ws.length:=by lia
  have e:=uk (st:=st) (b:=b) he (hv _ (qa8 hm)) (λq=>hn (by rw [he,q])) ht hl
  have eg:fs.getD m .non=fs[m]:=by rw [qbu,he];rfl
  have ew:ws.getD m 0=ws[m]:=by rw [qbu,qaG hmw];rfl
  have ea:atI (ws.map D.int) (m:Int)=some (.int ws[m]):=fF (by rw [qaI,qaG hmw];rfl)
  have km:PySem.IntMulOk ws[m] (sgD fs[m]*aR b t m):=gk (by
   have:=oV b t m
   rcases sg1 (d:=fs[m]) with h | h<;>(rw [h];lia))
  refine⟨_,rfl,?_⟩
  show _=some (W.d (D.int (ws.getD ((m:Int)).toNat 0*(sgD (fs.getD ((m:Int)).toNat .non)*aR b t m))),st)
  rw [qat,eg,ew]
  generalize bP b=kd at e ⊢
  generalize ag t=tt at e ⊢
  generalize sgD fs[m]*aR b t m=q at e km ⊢
  generalize ws.map D.int=WD at ea
  simp only [gA,iV,iOp,ai,ae,av,eX,dIx,cA,qad,qak,qap,qaE,qaP,if_true,lg,Int.reduceNeg,ea,e,km]
 have e1:(((db 0 fs).map D.int).map λd=>match d with | .int j=>.int (ws.getD j.toNat 0*(sgD (fs.getD j.toNat .non)*aR b t j)) | d=>d)=((db 0 fs).map λj=>ws.getD j.toNat 0*(sgD (fs.getD j.toNat .non)*aR b t j)).map D.int:=by rw [qaN,qaN];rfl
 rw [e1] at key
 have hs:bQ (((db 0 fs).map λj=>ws.getD j.toNat 0*(sgD (fs.getD j.toNat .non)*aR b t j)).map D.int)=some ((db 0 fs).map λj=>ws.getD j.toNat 0*(sgD (fs.getD j.toNat .non)*aR b t j)):=ci _
 have hsum:=yL (aR b t) fs ws fs ws 0 hw hv rfl rfl
 have hz:((db 0 fs).map D.int).length<=1000000:=by rw [qaf];have:=nc fs 0;lia
 have e2:=xa (st:=st) hf
 generalize wS (aR b t) 0 ws fs=R0 at hsum ⊢
 generalize bP b=kd at key ⊢
 generalize ag t=tt at key ⊢
 generalize ws.map D.int=WD at key ⊢
 generalize ((db 0 fs).map λj=>ws.getD j.toNat 0*(sgD (fs.getD j.toNat .non)*aR b t j))=L at key hs hsum
 generalize (db 0 fs).map D.int=R at key hz e2
 simp only [m_weighted,b_weighted,iV,ai,ae,iCB,av,aD,bn,iLc,br,aJ,gS,jA,qad,qak,qap,qaE,qal,qba,qaj,qa4,qaL,qa2,qaU,qaW,Nat.reduceAdd,Nat.reduceSub,if_true,qaQ,e2,key,hz,hs,hsum]
end Own
end
section
set_option maxHeartbeats 1000000
namespace Own
open PySem L2
theorem iO (s:Sto) {a b:Int} (h:-(2 ^ 64) < b/\b < 2 ^ 64):cA s (.d (.int a)) (.d (.int b))=some (.int (a*b)):=by
 show (if PySem.IntMulOk a b then some (D.int (a*b)) else none)=_
 rw [if_pos (gk h)]
theorem lN (s:Sto) {a b:Int} (h:0 < b/\b < 1073741824):fk s (.d (.int a)) (.d (.int b))=some (.int (a / b)):=by
 show (if 0 < b/\b < 1073741824 then some (D.int (a / b)) else none)=_
 rw [if_pos h]
theorem ij {e:Ef}{z:Int}{m:Nat}{env:Ev}{st:Sto} (he:e env st=some (.d (.int z),st)) (h0:0<=z) (h1:z<=1000) (hm:z.toNat=m):bw (ae e ai) env st=some (bF 0 m,st):=by
 have hb:-(2 ^ 62)<=z/\z < 2 ^ 62:=⟨qed (by decide) h0,qfl h1 (by decide)⟩
 have h2:=au (b:=ai) he rfl
 simp only [bw,h2,qad,hb,and_self,if_true,hm]
theorem fW {f:Ef}{env:Ev}{st s:Sto}{ds:List D} (h:f env st=some (.d (.lst ds),s)):br f env st=some (ds,s):=by
 simp only [br,h,qad]
theorem eJ {f:Ef}{env:Ev}{st s:Sto}{ds:List D} (h:f env st=some (.d (.tup ds),s)):br f env st=some (ds,s):=by
 simp only [br,h,qad]
noncomputable def chF (n:Int):Nat->Int
 | 0=>1
 | i+1=>chF n i*(n - i) / (i+1)
theorem rM {st:Sto}{n c:Nat} (hn:n<=6) (hc:c<=n):m_how_many_choices [.d (.int n),.d (.int c)] st=some (.d (.int (chF n c)),st):=by
 obtain⟨e',s',hF,o,rfl,rfl⟩:=dz (g:=.nm 3) (body:=d6) (ds:=bF 0 c) (λi env s=>∃ o,env=[some (.d (.int n)),some (.d (.int c)),some (.d (.int (chF n i))),o]/\s=st)
  (env:=[some (.d (.int n)),some (.d (.int c)),some (.d (.int 1)),none]) (st:=st) ⟨none,rfl,rfl⟩ (by
  rintro i d env s hd ⟨o,rfl,rfl⟩
  obtain⟨rfl,hi⟩:=cF hd
  refine⟨_,_,_,rfl,.inl (aO (i:=2) (ax (ax rfl (ax rfl rfl rfl) (iO _ ⟨by lia,by lia⟩)) (ax rfl rfl rfl) (lN _ ⟨by lia,by lia⟩))),some (.d (.int i)),rfl,rfl⟩)
 rw [cc] at hF
 have hrg:=ij (e:=iV 1) (z:=(c:Int)) (m:=c) (env:=[some (.d (.int n)),some (.d (.int c)),some (.d (.int 1)),none]) (st:=s') rfl (by lia) (by lia) (by lia)
 exact aM (n:=4) (k:=2) (b:=b_how_many_choices) rfl (aq (aO (i:=2) (w:=.d (.int 1)) rfl) (aq (jc hrg hF) (aX rfl)))
noncomputable def fm (ns:List Int):Int:=ns.foldl (λa x=>a*x) 1
theorem qW {ns:List Int}{i:Nat}{x:Int} (h:ns[i]?=some x):fm (ns.take (i+1))=fm (ns.take i)*x:=by
 unfold fm
 rw [qd0,h,qde];rfl
theorem iQ {st:Sto}{ns:List Int} (hb:∀ x ∈ ns,-(2 ^ 64) < x/\x < 2 ^ 64):m_multiplied [.d (.lst (ns.map D.int))] st=some (.d (.int (fm ns)),st):=by
 obtain⟨e',s',hF,o,rfl,rfl⟩:=dz (g:=.nm 2) (body:=iq) (ds:=ns.map D.int) (λi env s=>∃ o,env=[some (.d (.lst (ns.map D.int))),some (.d (.int (fm (ns.take i)))),o]/\s=st)
  (env:=[some (.d (.lst (ns.map D.int))),some (.d (.int 1)),none]) (st:=st) ⟨none,rfl,rfl⟩ (by
  rintro i d env s hd ⟨o,rfl,rfl⟩
  rw [qaI,qac] at hd
  obtain⟨x,hx,rfl⟩:=hd
  refine⟨_,_,_,rfl,.inl (aO (i:=1) (ax rfl rfl (iO _ (hb x (qbf hx))))),some (.d (.int x)),?_,rfl⟩
  rw [qW hx];rfl)
 rw [qaf,qcg] at hF
 generalize ns.map D.int=L at *
 exact aM (n:=3) (k:=1) (b:=b_multiplied) rfl (aq (aO (i:=1) (w:=.d (.int 1)) rfl) (aq (jc (fW rfl) hF) (aX rfl)))
noncomputable def b5 (l:List Nat):List D:=l.map λk=>.int (k:Nat)
noncomputable def b4 (row:List Int):List Nat:=(List.range (row.length - 1)).filter λk=>decide (row.getD k 0≠row.getD (k+1) 0)
theorem iY {st:Sto}{row:List Int}{k:Nat} (h:k < row.length):dIx st (.d (ag row)) (.d (.int (k:Nat)))=some (.int (row.getD k 0)):=by
 show (eX st (.d (ag row))).bind (λds=>atI ds (k:Nat))=_
 refine fF ?_
 rw [qaI,List.getD,qaG h];rfl
theorem gO (s:Sto) (a b:Int):dNe s (.d (.int a)) (.d (.int b))=some (.bl (!(a==b))):=by
 simp only [dNe,dL,eqK,eqD,qad,qak]
theorem fL (s:Sto) (a b:Int):dEq s (.d (.int a)) (.d (.int b))=some (.bl (a==b)):=by
 simp only [dEq,dL,eqK,eqD,qad,qak]
theorem kU (a b:Int):(!(a==b))=decide (a≠b):=by
 by_cases h:a=b
 ·subst h;simp
 ·rw [decide_eq_true h];simp [h]
theorem uw (row:List Int) (n:Nat) (hn:n=row.length - 1):(((bF 0 n).filter λd=>match d with | .int k=>decide (row.getD k.toNat 0≠row.getD (k.toNat+1) 0) | _=>false).map id)=b5 (b4 row):=by
 subst hn
 unfold bF b5 b4
 rw [qcR,qbL]
 have e:((λd:D=>match d with | .int k=>decide (row.getD k.toNat 0≠row.getD (k.toNat+1) 0) | _=>false) ∘ λk:Nat=>D.int (0+(k:Int)))=λk:Nat=>decide (row.getD k 0≠row.getD (k+1) 0):=by
  funext k
  show decide (row.getD ((0:Int)+(k:Int)).toNat 0≠row.getD (((0:Int)+(k:Int)).toNat+1) 0)=_
  rw [qbl,qat]
 rw [e]
 refine qas λk _=>?_
 rw [qbl]
theorem xp {st:Sto}{row:List Int}{n:Nat} (hn:row.length=n+1) {tt:Tf}{te:Ef} (htt:tt=kn) (hte:te=ke):lcI (.nm 0) tt te [none,some (.d (ag row))] (bF 0 n) st=some (b5 (b4 row),st):=by
 subst htt hte
 rw [<-uw row n (by lia)]
 refine ce _ _ λd hd=>?_
 obtain⟨k,hk⟩:=qa3.mp hd
 obtain⟨rfl,hk'⟩:=cF hk
 refine⟨_,rfl,?_,λ_=>rfl⟩
 refine aY (ax rfl rfl (iY (k:=k) (by lia))) (ax rfl (ax (d:=.int ((k+1:Nat):Int)) rfl rfl rfl) (iY (k:=k+1) (by lia))) ?_
 rw [gO,kU]
 show some (D.bl _)=some (D.bl (decide (row.getD ((k:Int)).toNat 0≠row.getD (((k:Int)).toNat+1) 0)))
 rw [qat]
theorem cu {st:Sto} (row:List Int):bI st [.d (ag row)]=some (.int (row.length:Int)):=by
 show some (D.int (((row.map D.int).length:Nat):Int))=_
 rw [qaf]
theorem su {st:Sto}{row:List Int}{n:Nat} (hn:row.length=n+1) (hn6:n<=6):m_ends_of [.d (ag row)] st=some (.d (.lst (b5 (b4 row))),st):=by
 have key:=xp (st:=st) hn rfl rfl
 have hz:(bF 0 n).length<=1000000:=by rw [cc];lia
 have hrg:bw (ae (iOp gL (iCB bI (ae (iV 0) ai)) (iC (.int 1))) ai) [some (.d (ag row))] st=some (bF 0 n,st):=ij (z:=(row.length:Int) - 1) (ax (az rfl (cu row)) rfl rfl) (by lia) (by lia) (by lia)
 generalize b5 (b4 row)=E at *
 exact aM (n:=1) (k:=1) (b:=b_ends_of) rfl (aX (aQ (b6 hrg hz key)))
theorem sU {st:Sto} (ds:List D):bI st [.d (.lst ds)]=some (.int (ds.length:Int)):=rfl
theorem kW {st:Sto}{row:List Int}{n:Nat} (hn:row.length=n+1) (hn6:n<=6):m_changes_of [.d (ag row)] st=some (.d (.int ((b4 row).length:Int)),st):=by
 have e:=su (st:=st) hn hn6
 have hl:(b5 (b4 row)).length=(b4 row).length:=by unfold b5;rw [qaf]
 rw [<-hl]
 generalize b5 (b4 row)=E at *
 exact aM (n:=1) (k:=1) (b:=b_changes_of) rfl (aX (az (au (ao rfl e) rfl) (sU E)))
noncomputable def shI (n:Nat) (cs:List Nat) (c:Nat):Int:=fm ((cs.filter λo=>decide (o≠c)).map λo:Nat=>(((c:Int) - (o:Int)).natAbs:Int))*chF n c
theorem vm {st:Sto}{n c:Nat}{cs:List Nat} (hn:n<=6) (hc:c<=n) (hcs:∀ o ∈ cs,o<=6) (hl:cs.length<=1000) (hch:-(2 ^ 64) < chF n c/\chF n c < 2 ^ 64):m_share_of [.d (.int n),.d (.lst (b5 cs)),.d (.int c)] st=some (.d (.int (shI n cs c)),st):=by
 have key:lcI (.nm 0) gy gw [none,some (.d (.int c))] (b5 cs) st=some (((cs.filter λo=>decide (o≠c)).map λo:Nat=>(((c:Int) - (o:Int)).natAbs:Int)).map D.int,st):=by
  have h:=ce (g:=.nm 0) (tt:=gy) (te:=gw) (env:=[none,some (.d (.int (c:Nat)))]) (st:=st) (λd=>match d with | .int o=>decide (o≠(c:Int)) | _=>false) (λd=>match d with | .int o=>.int ((((c:Int) - o).natAbs:Nat):Int) | d=>d) (ds:=b5 cs) λd hd=>by
   obtain⟨o,ho,rfl⟩:=qaD.mp hd
   refine⟨_,rfl,?_,λ_=>?_⟩
   ·exact aY rfl rfl (by rw [gO,kU])
   ·refine az (au (ax rfl rfl rfl) rfl) ?_
    show some (D.int (if (c:Int) - (o:Int) < 0 then -((c:Int) - (o:Int)) else (c:Int) - (o:Int)))=_
    congr 2
    split<;>lia
  rw [h]
  congr 2
  unfold b5
  rw [qbL,qaN,qaN]
  have e:((λd:D=>match d with | .int o=>decide (o≠(c:Int)) | _=>false) ∘ λk:Nat=>D.int (k:Int))=λo:Nat=>decide (o≠c):=by
   funext o
   show decide ((o:Int)≠(c:Int))=_
   exact decide_eq_decide.mpr ⟨λh z=>h (by rw [z]),λh z=>h (by lia)⟩
  rw [e];rfl
 have hm:=iQ (st:=st) (ns:=(cs.filter λo=>decide (o≠c)).map λo:Nat=>(((c:Int) - (o:Int)).natAbs:Int)) λx hx=>by
  obtain⟨o,ho,rfl⟩:=qaD.mp hx
  have:=hcs o (qaY.mp ho).1
  constructor<;>lia
 have hch':=rM (st:=st) hn hc
 have hz:(b5 cs).length<=1000000:=by unfold b5;rw [qaf];lia
 unfold shI
 generalize ((cs.filter λo=>decide (o≠c)).map λo:Nat=>(((c:Int) - (o:Int)).natAbs:Int))=NS at *
 generalize b5 cs=CS at *
 generalize NS.map D.int=ND at *
 exact aM (n:=3) (k:=3) (b:=b_share_of) rfl (aX (ax (ao (au (aQ (b6 (fW rfl) hz key)) rfl) hm) (ao rfl hch') (iO _ hch)))
end Own
end
section
set_option maxHeartbeats 1000000
namespace Own
open PySem L2
theorem j9 {st:Sto}{a0 a2:Option W}:∀ (n a b:Nat) (o:Option W),b < n->∃ o',cv cx dD n [a0,some (.d (.int (a:Int))),a2,some (.d (.int (b:Int))),o] st=some (.nx [a0,some (.d (.int ((Nat.gcd a b:Nat):Int))),a2,some (.d (.int 0)),o'] st)
 | 0,a,b,o,h=>by lia
 | n+1,a,b,o,h=>by
  by_cases hb:b=0
  ·subst hb
   refine⟨o,?_⟩
   rw [Nat.gcd_zero_right,cv]
   simp only [cx,iV,iC,bg,ii,dNe,dL,eqK,eqD,qad,qak,qap,qaE,if_false,qaM,qdU,lg,beq_self_eq_true,Int.cast_ofNat_Int]
  ·have hf:(((b:Int))==(0:Int))=false:=by simp;lia
   obtain⟨o',ih⟩:=j9 n b (a % b) (some (.d (.int ((a % b:Nat):Int)))) (by have:=qcq a (Nat.pos_of_ne_zero hb);lia)
   refine⟨o',?_⟩
   have eg:Nat.gcd a b=Nat.gcd b (a % b):=by rw [qgS a b,Nat.gcd_rec b a,qgS]
   have hp:(0:Int) < (b:Int):=by lia
   have em:(a:Int) % (b:Int)=((a % b:Nat):Int):=by push_cast;rfl
   rw [eg,<-ih,cv]
   simp only [cx,dD,iV,iC,iOp,bg,aw,aG,d7,ii,eV,dNe,dL,eqK,eqD,qad,qak,qap,qaE,qaP,qa5,if_true,qdc,lg,hf,hp,em]
theorem wV {st:Sto}{ns:List Int} (hn:∀ n ∈ ns,n.natAbs < 1000000000000000000000):m_greatest_part [.d (.tup (ns.map D.int))] st=some (.d (.int ((ip 0 ns:Nat):Int)),st):=by
 obtain⟨env',s2,e2,⟨o2,o3,o4,rfl⟩,rfl⟩:=dz (g:=.nm 2) (body:=dv) (ds:=ns.map D.int) (λi env s=>(∃ o2 o3 o4,env=[some (.d (.tup (ns.map D.int))),some (.d (.int ((ip 0 (ns.take i):Nat):Int))),o2,o3,o4])/\s=st)
  (env:=[some (.d (.tup (ns.map D.int))),some (.d (.int 0)),none,none,none]) (st:=st) ⟨⟨_,_,_,rfl⟩,rfl⟩ (λi d env s hd ⟨⟨o2,o3,o4,e⟩,es⟩=>by
   subst e es
   rw [qaI,qac] at hd
   obtain⟨n,hk,rfl⟩:=hd
   obtain⟨hi,hk'⟩:=qan.mp hk
   have hb:=hn n (qbf hk)
   have ea:(if n < 0 then -n else n)=((n.natAbs:Nat):Int):=by split<;>lia
   have eg:ip 0 (ns.take (i+1))=Nat.gcd (ip 0 (ns.take i)) n.natAbs:=by
    rw [qb7 hi,hk',qp]
   obtain⟨o',ew⟩:=j9 (st:=s) (a0:=some (.d (.tup (ns.map D.int)))) (a2:=some (.d (.int n))) 1000000000000000000000000000000 (ip 0 (ns.take i)) n.natAbs o4 (by lia)
   refine⟨_,[some (.d (.tup (ns.map D.int))),some (.d (.int ((ip 0 (ns.take (i+1)):Nat):Int))),some (.d (.int n)),some (.d (.int 0)),o'],s,rfl,.inl ?_,⟨_,_,_,rfl⟩,rfl⟩
   rw [eg]
   generalize ns.map D.int=L at ew ⊢
   simp only [dv,il,iV,ai,ae,iCB,aw,aG,d7,ph,qad,qak,qap,qaE,qaP,qa5,ea,ew])
 rw [qaf,qcg] at e2
 generalize ns.map D.int=L at e2 ⊢
 simp only [m_greatest_part,b_greatest_part,iV,iC,aw,aG,bn,gN,br,aJ,d7,qad,qak,qap,qaE,qaP,qa5,qal,qba,qaj,qa4,qaL,qa2,qaU,qaW,Nat.reduceSub,if_true,qaQ,e2]
theorem qL {st:Sto}{L:List Int}{a:Nat} (v:Int) (h:a < L.length):lp (st++[.l (L.map D.int)]) (.h st.length) (.d (.int a)) (.d (.int v))=some (st++[.l ((L.set a v).map D.int)]):=by
 have e:(L.map D.int).set a (.int v)=(L.set a v).map D.int:=by rw [List.map_set]
 show (lg (st++[.l (L.map D.int)]) st.length).bind (λds=>(ixN ds.length (a:Int)).map λj=>(st++[C.l (L.map D.int)]).set st.length (.l (ds.set j (.int v))))=_
 rw [me,qad,og (by rw [qaf];exact h),qak,sG,e]
theorem xz {st:Sto}{L:List Int}{a:Nat}{v:Int} (h:L[a]?=some v):dIx (st++[.l (L.map D.int)]) (.h st.length) (.d (.int a))=some (.int v):=by
 show (lg (st++[.l (L.map D.int)]) st.length).bind (λds=>atI ds (a:Int))=_
 rw [me,qad]
 exact fF (by rw [qaI,h];rfl)
theorem tq {o i v:Ef}{env:Ev}{st s1 s2 s3 s4:Sto}{x wo wi:W} (h:v env st=some (x,s1)) (h1:o env s1=some (wo,s2)) (h2:i env s2=some (wi,s3)) (h3:lp s3 wo wi x=some s4):gW o i v env st=some (.nx env s4):=by
 simp only [gW,h,h1,h2,h3,qad,qak]
noncomputable def bcW (L:List Int) (n:Nat):List Int:=(List.range (2 ^ n)).map λr=>L.getD (pcF 6 r) 0
theorem vB {st:Sto}{L:List Int}:bI (st++[.l (L.map D.int)]) [.h st.length]=some (.int (L.length:Int)):=by
 show (lg (st++[.l (L.map D.int)]) st.length).map (λds=>D.int (ds.length:Int))=_
 rw [me,qak,qaf]
theorem oS {st:Sto}{L:List Int}{n:Nat} (hl:L.length=n+1) (hn:n<=6):m_by_counts [.h st.length] (st++[.l (L.map D.int)])=some (.d (ag (bcW L n)),st++[.l (L.map D.int)]):=by
 have h64:2 ^ n<=64:=bO hn
 have key:lcI (.nm 0) cC fU [none,some (.h st.length)] (bF 0 (2 ^ n)) (st++[.l (L.map D.int)])=some ((bF 0 (2 ^ n)).map λd=>match d with | .int r=>.int (L.getD (pcF 6 r.toNat) 0) | d=>d,st++[.l (L.map D.int)]):=cS _ λd hd=>by
  obtain⟨r,hr⟩:=qa3.mp hd
  obtain⟨rfl,hr'⟩:=cF hr
  have hp:=zg ⟨n,by lia⟩ ⟨r,by lia⟩ hr'
  dsimp only at hp
  have e1:=sf (st:=st++[.l (L.map D.int)]) (r:=r) (by lia)
  refine⟨_,rfl,ax rfl (ao rfl e1) ?_⟩
  exact xz (a:=pcF 6 r) (by rw [show ((r:Int)).toNat=r from qat r,List.getD,qaG (by lia)];rfl)
 have e2:((bF 0 (2 ^ n)).map λd=>match d with | .int r=>.int (L.getD (pcF 6 r.toNat) 0) | d=>d)=(bcW L n).map D.int:=by
  unfold bF bcW
  rw [qaN,qaN]
  refine qas λr _=>?_
  show D.int (L.getD (pcF 6 ((0:Int)+(r:Int)).toNat) 0)=_
  rw [qbl,qat];rfl
 rw [e2] at key
 have hz:(bF 0 (2 ^ n)).length<=1000000:=by rw [cc];lia
 have e3:=my (st:=st++[.l (L.map D.int)]) (k:=(n:Int)) (by lia) (by lia)
 rw [qat] at e3
 have e4:((2:Int) ^ n)=((2 ^ n:Nat):Int):=by push_cast;rfl
 have hrg:bw (ae (av m_power_of_two (ae (iOp gL (iCB bI (ae (iV 0) ai)) (iC (.int 1))) ai)) ai) [some (.h st.length)] (st++[.l (L.map D.int)])=some (bF 0 (2 ^ n),st++[.l (L.map D.int)]):=by
  refine ij (z:=(2:Int) ^ n) (ao (au (ax (d:=.int (n:Int)) (az rfl vB) rfl ?_) rfl) e3) (by rw [e4];lia) (by rw [e4];lia) (by rw [e4];lia)
  show some (D.int ((L.length:Int) - 1))=_
  rw [show (L.length:Int) - 1=(n:Int) by lia]
 unfold ag
 generalize (bcW L n).map D.int=G at *
 exact aM (n:=1) (k:=1) (b:=b_by_counts) rfl (aX (az (au (aQ (b6 hrg hz key)) rfl) rfl))
theorem qP {st:Sto}{ns:List Int} (hb:∀ x ∈ ns,x.natAbs < 1000000000000000000000) (hp:∃ x ∈ ns,x≠0) (hl:ns.length<=1000):m_lowered [.d (ag ns)] st=some (.d (ag (ns.map λx=>x / ((ip 0 ns:Nat):Int))),st):=by
 obtain⟨x,hx,x0⟩:=hp
 have e1:=wV (st:=st) hb
 obtain⟨g0,g1⟩:=wC hx x0
 have hbx:=hb x hx
 obtain⟨g,hg⟩:∃ g:Int,((ip 0 ns:Nat):Int)=g:=⟨_,rfl⟩
 rw [hg] at e1 ⊢
 have g0':0 < g:=by lia
 have g1':g < 1000000000000000000000000000000000000000000000000000000000000:=by lia
 have f0:(g==(0:Int))=false:=by simp;lia
 have key:lcI (.nm 0) cC im [none,some (.d (.int g))] (ns.map D.int) st=some ((ns.map λx=>x / g).map D.int,st):=by
  have h:=cS (g:=.nm 0) (te:=im) (env:=[none,some (.d (.int g))]) (st:=st) (λd=>match d with | .int x=>.int (x / g) | d=>d) (ds:=ns.map D.int) λd hd=>by
   obtain⟨y,hy,rfl⟩:=qaD.mp hd
   refine⟨_,rfl,ax rfl rfl ?_⟩
   simp only [zX,g0',g1',and_self,if_true]
  rw [h,qaN,qaN];rfl
 have hz:(ns.map D.int).length<=1000000:=by rw [qaf];lia
 unfold ag at *
 generalize (ns.map λx=>x / g).map D.int=G at *
 generalize ns.map D.int=N at *
 exact aM (n:=2) (k:=1) (b:=b_lowered) rfl (aq (aO (i:=1) (ao rfl e1)) (aq (ir (aY rfl rfl (by rw [fL,f0])) rfl) (aX (az (au (aQ (b6 (eJ rfl) hz key)) rfl) rfl))))
noncomputable def bH (row:List Int) (n:Nat):List Nat:=b4 row++[n]
noncomputable def cH (row:List Int) (n:Nat):List Int:=(bH row n).map (shI n (bH row n))
noncomputable def nX (P:Int) (W:List Int) (p:Nat×Int):List Int:=W.set p.1 (P / p.2)
noncomputable def eO (row:List Int) (n:Nat):List Int:=((bH row n).zip (cH row n)).foldl (nX (fm (cH row n))) (List.replicate (n+1) 0)
noncomputable def cbL (row:List Int) (n:Nat):List Int:=(bcW (eO row n) n).map λx=>x / ((ip 0 (bcW (eO row n) n):Nat):Int)
theorem mn (P:Int):∀ (l:List (Nat×Int)) (W:List Int),(l.foldl (nX P) W).length=W.length
 | [],_=>rfl
 | p::l,W=>by rw [qbF,mn P l];unfold nX;rw [qbW]
theorem s0 (row:List Int) (n:Nat):(eO row n).length=n+1:=by unfold eO;rw [mn,qbJ]
theorem wD (k:Nat):(List.replicate k [D.int 0]).flatten=(List.replicate k (0:Int)).map D.int:=by
 induction k with
 | zero=>rfl
 | succ k ih=>rw [qaL,qcc,ih,qaL,qal];rfl
theorem xZ {row:List Int}{n k:Nat} (hn:row.length=n+1) (h:k ∈ b4 row):k < n:=by
 have:=qa7.mp (qaY.mp h).1
 lia
theorem nW {row:List Int}{n k:Nat} (hn:row.length=n+1) (h:k ∈ bH row n):k<=n:=by
 rcases qbg.mp h with h | h
 ·have:=xZ hn h;lia
 ·rw [qaz.mp h];exact qaq _
theorem vO:∀ n:Fin 7,∀ c:Fin 7,-(2 ^ 64) < chF n.val c.val/\chF n.val c.val < 2 ^ 64:=by decide +kernel
theorem yw {st:Sto}{row:List Int}{n:Nat} (hn:row.length=n+1) (hn6:n<=6) (hd:(b4 row).length≠0) (hs:∀ x ∈ cH row n,0 < x/\x < 1073741824) (hw:∀ x ∈ eO row n,x.natAbs < 1000000000000000000000) (hp:∃ c,c<=n/\(eO row n).getD c 0≠0) :
  m_counts_bar [.d (ag row)] st=some (.d (ag (cbL row n)),st):=by
 have hch:(((b4 row).length:Int)==0)=false:=by
  rw [beq_eq_false_iff_ne]
  intro h
  exact hd (by lia)
 have e1:=kW (st:=st) hn hn6
 have e2:=su (st:=st) hn hn6
 have hle:(b4 row).length<=7:=by
  unfold b4
  refine qaX (qbK _ _) ?_
  rw [qbB];lia
 have hcl:(bH row n).length<=8:=by unfold bH;rw [qaV,qcW];lia
 have ecs:b5 (b4 row)++[.int (n:Nat)]=b5 (bH row n):=by unfold b5 bH;rw [qbs];rfl
 have kSh:lcI (.nm 0) cC eP [none,some (.d (.int n)),some (.d (.lst (b5 (bH row n))))] (b5 (bH row n)) st=some ((cH row n).map D.int,st):=by
  have h:=cS (g:=.nm 0) (te:=eP) (env:=[none,some (.d (.int n)),some (.d (.lst (b5 (bH row n))))]) (st:=st) (λd=>match d with | .int c=>.int (shI n (bH row n) c.toNat) | d=>d) (ds:=b5 (bH row n)) λd hd=>by
   obtain⟨c,hc,rfl⟩:=qaD.mp hd
   have hcn:=nW hn hc
   have:=vm (st:=st) (n:=n) (c:=c) (cs:=bH row n) hn6 hcn (λo ho=>by have:=nW hn ho;lia) (by lia) (vO ⟨n,by lia⟩ ⟨c,by lia⟩)
   refine⟨_,rfl,?_⟩
   show _=some (W.d (.int (shI n (bH row n) ((c:Nat):Int).toNat)),st)
   rw [qat]
   exact ao rfl this
  rw [h]
  congr 2
  unfold b5 cH
  rw [qaN,qaN]
  refine qas λc _=>?_
  show D.int (shI n (bH row n) ((c:Nat):Int).toNat)=_
  rw [qat];rfl
 have hmul:=λs=>iQ (st:=s) (ns:=cH row n) λx hx=>by have:=hs x hx;constructor<;>lia
 have hzip:∀ i d,(fO (b5 (bH row n)) ((cH row n).map D.int))[i]?=some d->∃ c x,((bH row n).zip (cH row n))[i]?=some (c,x)/\d=D.tup [.int (c:Nat),.int x]/\c<=n/\0 < x/\x < 1073741824:=λi d hd=>by
  rw [jf] at hd
  obtain⟨a,ha,hd⟩:=qab.mp hd
  obtain⟨b,hb,rfl⟩:=qac.mp hd
  unfold b5 at ha
  rw [qaI,qac] at ha hb
  obtain⟨c,hc,rfl⟩:=ha
  obtain⟨x,hx,rfl⟩:=hb
  have:=hs x (qbf hx)
  refine⟨c,x,?_,rfl,nW hn (qbf hc),this.1,this.2⟩
  rw [List.getElem?_zip_eq_some]
  exact⟨hc,hx⟩
 have hzl:(fO (b5 (bH row n)) ((cH row n).map D.int)).length=((bH row n).zip (cH row n)).length:=by
  rw [jy,List.length_zip];unfold b5;rw [qaf,qaf]
 obtain⟨e',s',hF,o5,o6,rfl,rfl⟩:=dz (g:=.tp [5,6]) (body:=gQ) (ds:=fO (b5 (bH row n)) ((cH row n).map D.int)) (λi env s=>∃ o5 o6,env=[some (.d (ag row)),some (.d (.int n)),some (.d (.lst (b5 (bH row n)))),some (.d (.lst ((cH row n).map D.int))),some (.h st.length),o5,o6]/\s=st++[.l (((((bH row n).zip (cH row n)).take i).foldl (nX (fm (cH row n))) (List.replicate (n+1) 0)).map D.int)])
  (env:=[some (.d (ag row)),some (.d (.int n)),some (.d (.lst (b5 (bH row n)))),some (.d (.lst ((cH row n).map D.int))),some (.h st.length),none,none]) (st:=st++[.l ((List.replicate (n+1) (0:Int)).map D.int)]) ⟨none,none,rfl,rfl⟩ (by
  rintro i d env s hd ⟨o5,o6,rfl,rfl⟩
  obtain⟨c,x,hz,rfl,hc,x0,x1⟩:=hzip i d hd
  have htk:(((bH row n).zip (cH row n)).take (i+1)).foldl (nX (fm (cH row n))) (List.replicate (n+1) 0)=((((bH row n).zip (cH row n)).take i).foldl (nX (fm (cH row n))) (List.replicate (n+1) 0)).set c (fm (cH row n) / x):=by
   rw [qd0,hz,qde];rfl
  have hlen:c < ((((bH row n).zip (cH row n)).take i).foldl (nX (fm (cH row n))) (List.replicate (n+1) 0)).length:=by rw [mn,qbJ];lia
  rw [htk]
  generalize (((bH row n).zip (cH row n)).take i).foldl (nX (fm (cH row n))) (List.replicate (n+1) 0)=WW at *
  have hm:=hmul (st++[C.l (WW.map D.int)])
  generalize fm (cH row n)=PP at *
  generalize (cH row n).map D.int=SS at *
  generalize b5 (bH row n)=CC at *
  generalize ag row=TR at *
  exact⟨[some (.d TR),some (.d (.int n)),some (.d (.lst CC)),some (.d (.lst SS)),some (.h st.length),some (.d (.int c)),some (.d (.int x))],_,_,rfl,.inl (tq (ax (ao rfl hm) rfl (lN _ ⟨x0,x1⟩)) rfl rfl (qL _ hlen)),_,_,rfl,rfl⟩)
 rw [hzl,qcg] at hF
 have hW:((bH row n).zip (cH row n)).foldl (nX (fm (cH row n))) (List.replicate (n+1) 0)=eO row n:=rfl
 rw [hW] at hF
 have hb:=oS (st:=st) (L:=eO row n) (s0 row n) hn6
 have h64:2 ^ n<=64:=bO hn6
 have hlow:=qP (st:=st++[.l ((eO row n).map D.int)]) (ns:=bcW (eO row n) n) (λx hx=>by
   obtain⟨r,hr,rfl⟩:=qaD.mp hx
   rw [List.getD]
   cases e:(eO row n)[pcF 6 r]? with
   | none=>decide
   | some y=>exact hw y (qbf e)) (by
   obtain⟨c,hc,h0⟩:=hp
   have hpl:=xP ⟨c,by lia⟩
   dsimp only at hpl
   refine⟨(eO row n).getD c 0,qaD.mpr ⟨2 ^ c - 1,qa7.mpr ?_,by rw [hpl]⟩,h0⟩
   have h1:2 ^ c<=2 ^ n:=qbx (by decide) hc
   have h2:0 < 2 ^ c:=qcA (by decide)
   lia) (by unfold bcW;rw [qaf,qbB];lia)
 have hl2:(b5 (b4 row)).length+1<=1000000:=by unfold b5;rw [qaf];lia
 have hadd:dm st (.d (.lst (b5 (b4 row)))) (.d (.lst [.int (n:Nat)]))=some (.lst (b5 (bH row n))):=by
  rw [<-ecs]
  show (if (b5 (b4 row)).length+[D.int (n:Nat)].length<=1000000 then some (D.lst (b5 (b4 row)++[.int (n:Nat)])) else none)=_
  rw [if_pos (show (b5 (b4 row)).length+[D.int (n:Nat)].length<=1000000 from hl2)]
 have hz1:(b5 (bH row n)).length<=1000000:=by unfold b5;rw [qaf];lia
 have hsub:gL st (.d (.int (row.length:Int))) (.d (.int 1))=some (.int (n:Nat)):=by
  show some (D.int ((row.length:Int) - 1))=_
  rw [show (row.length:Int) - 1=(n:Int) by lia]
 have hmulL:wl st (.d (.lst [.int 0])) (.d (.int (row.length:Int)))=some ((List.replicate (n+1) (0:Int)).map D.int):=by
  show (if ([D.int 0]:List D).length<=1000/\-1000<=(row.length:Int)/\(row.length:Int) < 1000 then some ((List.replicate ((row.length:Int)).toNat [D.int 0]).flatten) else none)=_
  rw [if_pos ⟨by show 1<=1000;decide,by lia,by lia⟩,qat,wD,hn]
 unfold cbL
 have hlt:=cu (st:=st) row
 generalize (bcW (eO row n) n).map (λx=>x / ((ip 0 (bcW (eO row n) n):Nat):Int))=OUT at *
 generalize bcW (eO row n) n=BW at *
 generalize ((eO row n).map D.int)=WD at *
 generalize (List.replicate (n+1) (0:Int)).map D.int=RP at *
 generalize hZ:fO (b5 (bH row n)) ((cH row n).map D.int)=ZZ at *
 have hzz:∀ (env:Ev) (s:Sto),env.getD 2 none=some (.d (.lst (b5 (bH row n))))->env.getD 3 none=some (.d (.lst ((cH row n).map D.int)))->mz (ae (iV 2) (ae (iV 3) ai)) env s=some (ZZ,s):=λenv s h2 h3=>by
  rw [<-hZ]
  simp only [mz,ae,ai,iV,h2,h3,qak,qad,xI]
 have hnew:lP (vz wl (aD (dF (ae (iC (.int 0)) ai))) (iCB bI (ae (iV 0) ai))) [some (.d (ag row)),some (.d (.int n)),some (.d (.lst (b5 (bH row n)))),some (.d (.lst ((cH row n).map D.int))),none,none,none] st=some (.h st.length,st++[.l RP]):=by
  have q1:aD (dF (ae (iC (.int 0)) ai)) [some (.d (ag row)),some (.d (.int n)),some (.d (.lst (b5 (bH row n)))),some (.d (.lst ((cH row n).map D.int))),none,none,none] st=some (.d (.lst [.int 0]),st):=rfl
  have q2:iCB bI (ae (iV 0) ai) [some (.d (ag row)),some (.d (.int n)),some (.d (.lst (b5 (bH row n)))),some (.d (.lst ((cH row n).map D.int))),none,none,none] st=some (.d (.int (row.length:Int)),st):=az rfl hlt
  simp only [lP,vz,q1,q2,hmulL,qad,qak]
 generalize (cH row n).map D.int=SS at *
 generalize b5 (bH row n)=CC at *
 generalize b5 (b4 row)=EE at *
 generalize ag row=TR at *
 have hq:=jl (n:=7) (k:=1) (b:=b_counts_bar) (ws:=[.d TR]) (st:=st) (x:=ag OUT) rfl
  (aq (aO (i:=1) (ax (az rfl hlt) rfl hsub)) (aq (ir (aY (ao rfl e1) rfl (by rw [fL,hch])) rfl) (aq (aO (i:=2) (ax (ao rfl e2) rfl hadd)) (aq (aO (i:=3) (aQ (b6 (fW rfl) hz1 kSh))) (aq (aO (i:=4) hnew) (aq (jc (hzz _ _ rfl rfl) hF) (aX (ao (au (ao rfl hb) rfl) hlow))))))))
 rw [pW] at hq
 exact hq
end Own
end
section
set_option maxHeartbeats 1000000
namespace Own
open PySem L2
noncomputable def fv (b:Bool) (ps:List Prt) (row:Int):Int:=(ps.map λp=>p.2*aR b p.1 row).sum
theorem yQ {n:Nat}{t:List Int} (h:Trm n t) (hn:n<=6):∀ k ∈ t,0<=k/\k<=20:=λk hk=>⟨(h.2 k hk).1,by have:=(h.2 k hk).2;lia⟩
theorem d3 (b:Bool) (row:Int):∀ (t:List Int) (a:Int),(t.foldl (λv k=>v*ek b (onI row k)) a)=a*aR b t row
 | [],a=>by cases b<;>simp [aR,d5]
 | k::t,a=>by
  rw [qbF,d3 b row t]
  have hc:=sZ row t
  rw [qbq]
  congr 1
  cases b with
  | true=>
   simp only [ek,if_true,aR,d5,qaj]
   rcases mW row k with e | e
   ·simp only [e,qcF]
    split
    ·push_cast at *;lia
    ·rfl
   ·simp only [e,qcf]
    split<;>split<;>first | rfl | (push_cast at *;lia)
  | false=>
   simp only [ek,qaM,if_false,aR,d5]
   rcases mW row k with e | e
   ·simp only [e,qbl]
    split<;>rfl
   ·simp only [e]
    split<;>split<;>first | rfl | lia
noncomputable def spF (s k:Int) (q:Prt):Prt:=(q.1++[k],q.2*s)
noncomputable def spS (s:Int) (L:List Prt) (k:Int):List Prt:=L++L.map (spF s k)
noncomputable def spL (s c:Int) (t:List Int):List Prt:=t.foldl (spS s) [(([]:List Int),c)]
theorem v6 (b:Bool) (row:Int) (a c:List Prt):fv b (a++c) row=fv b a row+fv b c row:=by unfold fv;rw [qbs,qc2]
theorem nk (b:Bool) (row:Int) (q:Prt) (L:List Prt):fv b (q::L) row=q.2*aR b q.1 row+fv b L row:=by unfold fv;rw [qal,qbm]
theorem jY (b:Bool) (t:List Int) (k row:Int):aR b (t++[k]) row=aR b t row*ek b (onI row k):=by
 have h1:=d3 b row (t++[k]) 1
 have h2:=d3 b row t 1
 rw [qde,h2,qcf,qcf] at h1
 exact h1.symm
theorem tQ (b:Bool) (t:List Int) (k row:Int):aR b (k::t) row=ek b (onI row k)*aR b t row:=by
 have h1:=d3 b row (k::t) 1
 rw [qbF,d3,qcf,qcf] at h1
 exact h1.symm
theorem nj (b:Bool) (row s k:Int):∀ L:List Prt,fv b (L.map (spF s k)) row=fv b L row*(s*ek b (onI row k))
 | []=>by show (0:Int)=0*_;rw [qcF]
 | q::L=>by
  have ih:=nj b row s k L
  rw [qal,nk,nk,ih,qg0]
  congr 1
  show q.2*s*aR b (q.1++[k]) row=_
  rw [jY,qbq,qbq]
  congr 1
  rw [<-qbq,qec s,qbq]
theorem vK (b:Bool) (row s k:Int) (L:List Prt):fv b (spS s L k) row=fv b L row*(1+s*ek b (onI row k)):=by
 unfold spS
 rw [v6,nj,qe9,qe8]
theorem nC (b:Bool) (row s:Int):∀ (t:List Int) (L:List Prt),fv b (t.foldl (spS s) L) row=t.foldl (λv k=>v*(1+s*ek b (onI row k))) (fv b L row)
 | [],_=>rfl
 | k::t,L=>by rw [qbF,qbF,nC b row s t,vK]
theorem wz (c row:Int) (t:List Int):fv true (spL (-2) c t) row=c*aR false t row:=by
 unfold spL
 rw [nC,<-d3]
 have e:fv true [(([]:List Int),c)] row=c:=by simp [fv,aR,d5]
 have h:∀ k,(1+-2*ek true (onI row k))=ek false (onI row k):=λk=>by
  simp only [ek,if_true,qaM,if_false];lia
 simp only [h,e]
theorem zf (row:Int):∀ (t:List Int) (a:Int),t.foldl (λv k=>v*(2*ek true (onI row k))) a=a*(2 ^ t.length*aR true t row)
 | [],a=>by simp [aR,d5]
 | k::t,a=>by
  rw [qbF,zf row t,tQ,qaj,qdw,qbq]
  congr 1
  generalize ek true (onI row k)=f
  generalize aR true t row=v
  generalize (2:Int) ^ t.length=p
  rw [qbq 2 f,qcV f p v,<-qbq 2 p,qec 2 p]
theorem yF (c row:Int) (t:List Int):fv false (spL (-1) c t) row=c*(2 ^ t.length*aR true t row):=by
 unfold spL
 rw [nC,<-zf]
 have e:fv false [(([]:List Int),c)] row=c:=by simp [fv,aR,d5]
 have h:∀ k,(1+-1*ek false (onI row k))=2*ek true (onI row k):=λk=>by
  simp only [ek,if_true,qaM,if_false];lia
 simp only [h,e]
theorem hJ {α:Type}:∀ l:List α,(l.map λ_=>(0:Int)).sum=0
 | []=>rfl
 | x::l=>by rw [qal,qbm,hJ l];rfl
theorem sB {α:Type} (f g:α->Int):∀ l:List α,(l.map λx=>f x+g x).sum=(l.map f).sum+(l.map g).sum
 | []=>rfl
 | x::l=>by rw [qal,qal,qal,qbm,qbm,qbm,sB f g l];lia
theorem i9 {α:Type} (a:α->Int) (c:Int):∀ l:List α,(l.map λx=>a x*c).sum=(l.map a).sum*c
 | []=>by show (0:Int)=0*c;rw [qcF]
 | x::l=>by rw [qal,qal,qbm,qbm,i9 a c l,qg0]
theorem d8 {α:Type} (a:α->Int) (c:Int):∀ l:List α,(l.map λx=>c*a x).sum=c*(l.map a).sum
 | []=>by show (0:Int)=c*0;rw [qce]
 | x::l=>by rw [qal,qal,qbm,qbm,d8 a c l,qe9]
theorem lJ {α β:Type} (F:α->β->Int) (m:List β):∀ l:List α,(l.map λt=>(m.map λr=>F t r).sum).sum=(m.map λr=>(l.map λt=>F t r).sum).sum
 | []=>by
  show (0:Int)=(m.map λ_=>(0:Int)).sum
  rw [hJ]
 | t::l=>by
  rw [qal,qbm,lJ F m l,<-sB]
  rfl
theorem ng (s:Nat->Int) (C:Int) (x:Nat):∀ l:List Nat,l.Nodup->x ∈ l->(l.map λr=>s r*(if r=x then C else 0)).sum=s x*C
 | [],_,h=>by cases h
 | r::l,hn,h=>by
  rw [qal,qbm]
  rw [qcI] at hn
  by_cases e:r=x
  ·subst e
   have:(l.map λy=>s y*(if y=r then C else 0))=l.map λ_=>(0:Int):=qas λy hy=>by
    rw [if_neg (λz:y=r=>hn.1 (z ▸ hy)),qce]
   rw [this,hJ,if_pos rfl,qdy]
  ·rw [if_neg e,qce,qbl]
   exact ng s C x l hn.2 ((qaF.mp h).resolve_left λz=>e z.symm)
noncomputable def orP (r q:Int):Nat->Int
 | 0=>1
 | n+1=>orP r q n*(1+ek false (onI r n)*ek false (onI q n))
theorem zQ (r q:Int):∀ n:Nat,((da n).map λt=>aR false t r*aR false t q).sum=orP r q n
 | 0=>by simp [da,orP,aR,d5]
 | n+1=>by
  rw [da,qbs,qc2,qaN,zQ r q n,orP,qe9,qe8]
  congr 1
  rw [<-zQ r q n,<-i9]
  congr 1
  refine qas λt _=>?_
  show aR false (t++[(n:Int)]) r*aR false (t++[(n:Int)]) q=_
  rw [jY,jY]
  generalize aR false t r=a
  generalize aR false t q=b
  generalize ek false (onI r n)=c
  generalize ek false (onI q n)=d
  rw [qbq,qcV c b d,<-qbq]
theorem uH (r q k:Int):ek false (onI r k)*ek false (onI q k)=if onI r k=onI q k then 1 else -1:=by
 rcases mW r k with a | a<;>rcases mW q k with b | b<;>rw [a,b]<;>decide
theorem p5 (r q:Int) {k:Nat} (h:onI r k≠onI q k):∀ n:Nat,k < n->orP r q n=0
 | 0,hk=>by lia
 | n+1,hk=>by
  rw [orP]
  by_cases e:k=n
  ·subst e
   rw [uH,if_neg h];show _*(0:Int)=0;rw [qce]
  ·rw [p5 r q h n (by lia),qcF]
theorem qt (r:Int):∀ n:Nat,orP r r n=2 ^ n
 | 0=>rfl
 | n+1=>by rw [orP,qt r n,uH,if_pos rfl,qdw];rfl
theorem gj (r k:Nat):onI (r:Int) (k:Int)=((r / 2 ^ k % 2:Nat):Int):=by
 unfold onI
 rw [qat];push_cast;rfl
theorem qC {n r q:Nat} (hr:r < 2 ^ n) (hq:q < 2 ^ n) (h:r≠q):∃ k,k < n/\onI (r:Int) (k:Int)≠onI (q:Int) (k:Int):=by
 apply qbY
 intro hc
 refine h (Nat.eq_of_testBit_eq λk=>?_)
 by_cases hk:k < n
 ·have:onI (r:Int) (k:Int)=onI (q:Int) (k:Int):=qbY λz=>hc ⟨k,hk,z⟩
  rw [gj,gj] at this
  have h2:r / 2 ^ k % 2=q / 2 ^ k % 2:=by lia
  rw [qcO,qcO,h2]
 ·have hp:2 ^ n<=2 ^ k:=qbx (by decide) (by lia)
  rw [qcj (qaH hr hp),qcj (qaH hq hp)]
theorem vH {n r q:Nat} (hr:r < 2 ^ n) (hq:q < 2 ^ n):((da n).map λt=>aR false t (r:Int)*aR false t (q:Int)).sum=if r=q then 2 ^ n else 0:=by
 rw [zQ]
 by_cases e:r=q
 ·subst e;rw [if_pos rfl,qt]
 ·obtain⟨k,hk,hd⟩:=qC hr hq e
  rw [if_neg e,p5 _ _ hd n hk]
theorem uz (s:Nat->Int) {n row:Nat} (h:row < 2 ^ n):((da n).map λt=>((List.range (2 ^ n)).map λr:Nat=>s r*aR false t (r:Int)).sum*aR false t (row:Int)).sum=2 ^ n*s row:=by
 have e1:((da n).map λt=>((List.range (2 ^ n)).map λr:Nat=>s r*aR false t (r:Int)).sum*aR false t (row:Int))=(da n).map λt=>((List.range (2 ^ n)).map λr:Nat=>s r*aR false t (r:Int)*aR false t (row:Int)).sum:=qas λt _=>(i9 _ _ _).symm
 rw [e1,lJ]
 have e2:((List.range (2 ^ n)).map λr:Nat=>((da n).map λt=>s r*aR false t (r:Int)*aR false t (row:Int)).sum)=(List.range (2 ^ n)).map λr:Nat=>s r*(if r=row then 2 ^ n else 0):=qas λr hr=>by
  rw [<-vH (qa7.mp hr) h,<-d8]
  congr 1
  refine qas λt _=>?_
  rw [qbq]
 rw [e2,ng s (2 ^ n) row _ List.nodup_range (qa7.mpr h),qec]
theorem Ae (r k:Nat):onI (r:Int) (k:Int)=if r.testBit k=true then 1 else 0:=by
 rw [gj,qcO]
 by_cases h:r / 2 ^ k % 2=1
 ·rw [h,if_pos (decide_eq_true rfl)];rfl
 ·have h0:r / 2 ^ k % 2=0:=by lia
  rw [h0];rfl
noncomputable def tmO (k m:Nat):List Int:=((List.range k).filter λi=>m.testBit i).map λi=>((i:Nat):Int)
theorem lh (k m:Nat):tmO (k+1) m=tmO k m++if m.testBit k=true then [(k:Int)] else []:=by
 unfold tmO
 rw [qfy,qdT,qbs]
 congr 1
 by_cases h:m.testBit k=true
 ·rw [if_pos h,qbS (by simpa using h)];rfl
 ·rw [if_neg h,qbT (by simpa using h)];rfl
theorem tN {k m m':Nat} (h:∀ i,i < k->m.testBit i=m'.testBit i):tmO k m=tmO k m':=by
 unfold tmO
 congr 1
 exact qdf λi hi=>h i (qa7.mp hi)
noncomputable def SU (u:Nat->Int) (n:Nat) (b:Bool) (t:List Int):Int:=((List.range (2 ^ n)).map λr:Nat=>u r*aR b t (r:Int)).sum
theorem so {u:Nat->Int}{n:Nat}{b:Bool} (L:List Prt):((List.range (2 ^ n)).map λr:Nat=>u r*fv b L (r:Int)).sum=(L.map λq:Prt=>q.2*SU u n b q.1).sum:=by
 have e:((List.range (2 ^ n)).map λr:Nat=>u r*fv b L (r:Int))=(List.range (2 ^ n)).map λr:Nat=>(L.map λq:Prt=>q.2*(u r*aR b q.1 (r:Int))).sum:=qas λr _=>by
  unfold fv
  rw [<-d8]
  congr 1
  refine qas λq _=>?_
  rw [qcV]
 rw [e,lJ (λ(r:Nat) (q:Prt)=>q.2*(u r*aR b q.1 (r:Int))) L (List.range (2 ^ n))]
 congr 1
 refine qas λq _=>?_
 unfold SU
 rw [<-d8]
theorem oI (F:List Int->Int) (s:Int):∀ (t:List Int) (L:List Prt),(∀ q ∈ L,∀ v:List Int,v.Sublist t->v.length < t.length->F (q.1++v)=0)->((t.foldl (spS s) L).map λq:Prt=>q.2*F q.1).sum=s ^ t.length*(L.map λq:Prt=>q.2*F (q.1++t)).sum
 | [],L,_=>by
  rw [List.foldl_nil,qa4,qgU,qcf]
  congr 1
  exact qas λq _=>by rw [qbG]
 | k::t,L,h=>by
  rw [qbF,oI F s t (spS s L k) ?_]
  ·unfold spS
   rw [qbs,qc2,qaN]
   have e1:(L.map λq:Prt=>q.2*F (q.1++t))=L.map λ_=>(0:Int):=qas λq hq=>by
    rw [h q hq t (qeL k t) (by rw [qaj];lia),qce]
   have e2:(L.map ((λq:Prt=>q.2*F (q.1++t)) ∘ spF s k))=L.map λq:Prt=>s*(q.2*F (q.1++(k::t))):=qas λq _=>by
    show q.2*s*F (q.1++[k]++t)=_
    rw [qbC,qeP,Int.mul_right_comm,qec]
   rw [e1,hJ,qbl,e2,d8,qaj,qdw,qbq]
  ·intro q hq v hv hl
   rcases qbg.mp hq with hq | hq
   ·exact h q hq v (hv.trans (qeL k t)) (by rw [qaj];lia)
   ·obtain⟨p,hp,rfl⟩:=qaD.mp hq
    show F (p.1++[k]++v)=0
    rw [qbC,qeP]
    exact h p hp (k::v) (hv.cons₂ k) (by rw [qaj,qaj];lia)
noncomputable def Van (u:Nat->Int) (n:Nat) (b:Bool) (m:Nat):Prop:=∀ t,Trm n t->t.length < m->SU u n b t=0
theorem pV {n:Nat}{t v:List Int} (h:Trm n t) (hs:v.Sublist t):Trm n v:=⟨h.1.sublist hs,λk hk=>h.2 k (hs.subset hk)⟩
theorem vi (m:Nat):(2:Int) ^ m≠0:=by
 have:(0:Int) < 2 ^ m:=qgZ (by decide)
 lia
theorem iW {a:Int} (h:a≠0):∀ m:Nat,a ^ m≠0
 | 0=>by rw [qgU];decide
 | m+1=>by rw [qdw];exact qdx (iW h m) h
theorem vZ {u:Nat->Int}{n:Nat}{t:List Int} (ht:Trm n t) (h:Van u n true t.length):SU u n false t=(-2) ^ t.length*SU u n true t:=by
 have e:SU u n false t=((spL (-2) 1 t).map λq:Prt=>q.2*SU u n true q.1).sum:=by
  rw [<-so]
  unfold SU
  congr 1
  refine qas λr _=>?_
  rw [wz,qcf]
 rw [e]
 unfold spL
 rw [oI (SU u n true) (-2) t [([],1)] λq hq v hv hl=>by
  rw [qaz.mp hq]
  exact h v (pV ht hv) hl]
 show (-2) ^ t.length*((1:Int)*SU u n true ([]++t)+0)=_
 rw [qaW,qcf,qdy]
theorem sj {u:Nat->Int}{n:Nat}{t:List Int} (ht:Trm n t) (h:Van u n false t.length):2 ^ t.length*SU u n true t=(-1) ^ t.length*SU u n false t:=by
 have e:2 ^ t.length*SU u n true t=((spL (-1) 1 t).map λq:Prt=>q.2*SU u n false q.1).sum:=by
  rw [<-so]
  unfold SU
  rw [<-d8]
  congr 1
  refine qas λr _=>?_
  rw [yF,qcf,qcV]
 rw [e]
 unfold spL
 rw [oI (SU u n false) (-1) t [([],1)] λq hq v hv hl=>by
  rw [qaz.mp hq]
  exact h v (pV ht hv) hl]
 show (-1) ^ t.length*((1:Int)*SU u n false ([]++t)+0)=_
 rw [qaW,qcf,qdy]
theorem vM {u:Nat->Int}{n:Nat}{b:Bool}{m k:Nat} (h:Van u n b m) (hk:k<=m):Van u n b k:=λt ht hl=>h t ht (by lia)
theorem xr {u:Nat->Int}{n:Nat}{m:Nat} (h:Van u n true m):Van u n false m:=λt ht hl=>by
 rw [vZ ht (vM h (by lia)),h t ht hl,qce]
theorem uP {u:Nat->Int}{n:Nat}:∀ {m:Nat},Van u n false m->Van u n true m
 | 0,_=>λt _ hl=>absurd hl (by lia)
 | m+1,h=>λt ht hl=>by
  have e:=sj ht (vM h (by lia))
  rw [h t ht hl,qce] at e
  exact (qer.mp e).resolve_left (vi _)
noncomputable def Lst (u:Nat->Int) (n:Nat) (b:Bool) (e:Nat):Prop:=Van u n b e/\∃ t,Trm n t/\t.length=e/\SU u n b t≠0
theorem Lst.kind {u:Nat->Int}{n e:Nat}{b:Bool} (h:Lst u n b e):Lst u n (!b) e:=by
 obtain⟨h1,t,t1,t2,t3⟩:=h
 cases b with
 | true=>
  refine⟨xr h1,t,t1,t2,?_⟩
  show SU u n false t≠0
  rw [vZ t1 (by rw [t2];exact h1)]
  exact qdx (iW (by decide) _) t3
 | false=>
  refine⟨uP h1,t,t1,t2,λz=>?_⟩
  have e':=sj t1 (by rw [t2];exact h1)
  have z':SU u n true t=0:=z
  rw [z',qce] at e'
  exact t3 ((qer.mp e'.symm).resolve_left (iW (by decide) _))
theorem Lst.any {u:Nat->Int}{n e:Nat}{b c:Bool} (h:Lst u n b e):Lst u n c e:=by
 by_cases z:c=b
 ·rw [z];exact h
 ·have:c=!b:=by cases b<;>cases c<;>simp_all
  rw [this];exact h.kind
theorem zB {u:Nat->Int}{n r0:Nat} (hr:r0 < 2 ^ n) (hu:u r0≠0):∃ e,Lst u n false e:=by
 have hex:∃ t,Trm n t/\SU u n false t≠0:=qbY λhc=>by
  have h0:∀ t,Trm n t->SU u n false t=0:=λt ht=>qbY λz=>hc ⟨t,ht,z⟩
  have e:=uz u hr
  have e1:((da n).map λt=>((List.range (2 ^ n)).map λr:Nat=>u r*aR false t (r:Int)).sum*aR false t (r0:Int))=(da n).map λ_=>(0:Int):=qas λt ht=>by
   have:=h0 t (ie n ht)
   unfold SU at this
   rw [this,qcF]
  rw [e1,hJ] at e
  exact hu ((qer.mp e.symm).resolve_left (vi n))
 obtain⟨t,ht,hne⟩:=hex
 have key:∀ m:Nat,Van u n false m\/∃ e,Lst u n false e:=λm=>by
  induction m with
  | zero=>exact .inl λt _ hl=>absurd hl (by lia)
  | succ m ih=>
   rcases ih with ih | ih
   ·by_cases hc:∃ t,Trm n t/\t.length=m/\SU u n false t≠0
    ·exact .inr ⟨m,ih,hc⟩
    ·refine .inl λt ht hl=>?_
     by_cases hlt:t.length < m
     ·exact ih t ht hlt
     ·exact qbY λz=>hc ⟨t,ht,by lia,z⟩
   ·exact .inr ih
 rcases key (t.length+1) with h | h
 ·exact absurd (h t ht (by lia)) hne
 ·exact h
theorem lD (F:Nat->Int) (N:Nat):∀ M:Nat,((List.range (N*M)).map F).sum=((List.range M).map λq=>((List.range N).map λr=>F (r+N*q)).sum).sum
 | 0=>rfl
 | M+1=>by
  rw [Nat.mul_succ,List.range_add,qbs,qc2,lD F N M,qfy,qbs,qc2,qaN]
  congr 1
  show _=_+0
  rw [qdy]
  congr 1
  refine qas λr _=>?_
  show F (N*M+r)=_
  rw [qcE]
theorem iy (b:Bool) (t:List Int) (row:Int):aR b t row=t.foldl (λv k=>v*ek b (onI row k)) 1:=by rw [d3,qcf]
theorem wc (b:Bool) (t u:List Int) (row:Int):aR b (t++u) row=aR b t row*aR b u row:=by
 rw [iy b (t++u),qde,d3,<-iy]
theorem lb (b:Bool) (row row':Int) (g:Int->Int):∀ (t:List Int) (a:Int),(∀ k ∈ t,onI row (g k)=onI row' k)->(t.map g).foldl (λv k=>v*ek b (onI row k)) a=t.foldl (λv k=>v*ek b (onI row' k)) a
 | [],_,_=>rfl
 | k::t,a,h=>by
  rw [qal,qbF,qbF,h k qai]
  exact lb b row row' g t _ λj hj=>h j (qah _ hj)
theorem mx (b:Bool) {row row':Int} (g:Int->Int) {t:List Int} (h:∀ k ∈ t,onI row (g k)=onI row' k):aR b (t.map g) row=aR b t row':=by
 rw [iy,iy]
 exact lb b row row' g t 1 h
theorem AE {n r q k:Nat} (hk:k < n):onI ((r+2 ^ n*q:Nat):Int) (k:Int)=onI (r:Int) (k:Int):=by
 rw [gj,gj]
 obtain⟨d,rfl⟩:∃ d,n=k+1+d:=⟨n - (k+1),by lia⟩
 have e:2 ^ (k+1+d)*q=2 ^ k*(2*(2 ^ d*q)):=by
  rw [qc5,qdu];simp only [Nat.mul_assoc]
 rw [e,qdC _ _ (qcA (by decide)),qeC]
theorem ye {n r q k:Nat} (hr:r < 2 ^ n):onI ((r+2 ^ n*q:Nat):Int) ((k:Int)+(n:Int))=onI (q:Int) (k:Int):=by
 have e:((k:Int)+(n:Int))=((n+k:Nat):Int):=by push_cast;lia
 rw [e,gj,gj,qc5,<-Nat.div_div_eq_div_mul,qdC _ _ (qcA (by decide)),qfw hr,qaQ]
theorem w6 {n m:Nat}{t:List Int} (h:Trm (n+m) t):∃ t1 t2,Trm n t1/\Trm m t2/\t=t1++t2.map λk=>k+(n:Int):=by
 have key:∀ l:List Int,l.Pairwise (· < ·)->l.filter (λk=>decide (k < (n:Int)))++l.filter (λk=>!decide (k < (n:Int)))=l:=λl=>by
  induction l with
  | nil=>intro _;rfl
  | cons k l ih=>
   intro hp
   have hp':=qa9.mp hp
   by_cases hk:k < (n:Int)
   ·rw [qbS (by simpa using hk),qbT (by simpa using hk),qaU,ih hp'.2]
   ·have e:l.filter (λk=>decide (k < (n:Int)))=[]:=qeM.mpr λx hx=>by have:=hp'.1 x hx;simp;lia
    have e2:l.filter (λk=>!decide (k < (n:Int)))=l:=qeY.mpr λx hx=>by have:=hp'.1 x hx;simp;lia
    rw [qbT (by simpa using hk),qbS (by simpa using hk),e,e2];rfl
 refine⟨t.filter λk=>decide (k < (n:Int)),(t.filter λk=>!decide (k < (n:Int))).map λk=>k - (n:Int),⟨h.1.filter _,λk hk=>?_⟩,⟨?_,λk hk=>?_⟩,?_⟩
 ·have h1:=qaY.mp hk
  exact⟨(h.2 k h1.1).1,of_decide_eq_true h1.2⟩
 ·refine qcQ.mpr ((h.1.filter _).imp λhab=>?_)
  lia
 ·obtain⟨j,hj,rfl⟩:=qaD.mp hk
  have h1:=qaY.mp hj
  have h2:=h.2 j h1.1
  have h3:¬ j < (n:Int):=by simpa using h1.2
  constructor<;>lia
 ·have e:((t.filter λk=>!decide (k < (n:Int))).map λk=>k - (n:Int)).map (λk=>k+(n:Int))=t.filter λk=>!decide (k < (n:Int)):=by
   rw [qaN]
   refine (qas λk _=>?_).trans (qcR _)
   show k - (n:Int)+(n:Int)=k
   lia
  rw [e,key t h.1]
theorem vh {n m:Nat}{t1 t2:List Int} (h1:Trm n t1) (h2:Trm m t2):Trm (n+m) (t1++t2.map λk=>k+(n:Int)):=by
 refine⟨qcr.mpr ⟨h1.1,qcQ.mpr (h2.1.imp λhab=>by lia),λa ha b hb=>?_⟩,λk hk=>?_⟩
 ·obtain⟨j,hj,rfl⟩:=qaD.mp hb
  have:=h1.2 a ha
  have:=h2.2 j hj
  lia
 ·rcases qbg.mp hk with hk | hk
  ·have:=h1.2 k hk
   constructor<;>lia
  ·obtain⟨j,hj,rfl⟩:=qaD.mp hk
   have:=h2.2 j hj
   constructor<;>lia
theorem uM {n m r q:Nat}{b:Bool}{t1 t2:List Int} (h1:Trm n t1) (h2:Trm m t2) (hr:r < 2 ^ n):aR b (t1++t2.map λk=>k+(n:Int)) ((r+2 ^ n*q:Nat):Int)=aR b t1 (r:Int)*aR b t2 (q:Int):=by
 rw [wc]
 congr 1
 ·have:=mx b (row:=((r+2 ^ n*q:Nat):Int)) (row':=(r:Int)) id (t:=t1) λk hk=>by
   have hk':=h1.2 k hk
   obtain⟨j,rfl⟩:=qbU hk'.1
   exact AE (by lia)
  rwa [qcR] at this
 ·refine mx b _ λk hk=>?_
  have hk':=h2.2 k hk
  obtain⟨j,rfl⟩:=qbU hk'.1
  exact ye hr
noncomputable def uB (u v:Nat->Int) (n i:Nat):Int:=-(u (i % 2 ^ n)*v (i / 2 ^ n))
theorem nv {u v:Nat->Int}{n m:Nat}{b:Bool}{t1 t2:List Int} (h1:Trm n t1) (h2:Trm m t2):SU (uB u v n) (n+m) b (t1++t2.map λk=>k+(n:Int))=-(SU u n b t1*SU v m b t2):=by
 unfold SU
 rw [qc5,lD]
 have e:((List.range (2 ^ m)).map λq=>((List.range (2 ^ n)).map λr=>uB u v n (r+2 ^ n*q)*aR b (t1++t2.map λk=>k+(n:Int)) ((r+2 ^ n*q:Nat):Int)).sum)=(List.range (2 ^ m)).map λq=>-((List.range (2 ^ n)).map λr:Nat=>u r*aR b t1 (r:Int)).sum*(v q*aR b t2 (q:Int)):=qas λq _=>by
  rw [<-qfG,<-d8,<-i9]
  congr 1
  refine qas λr hr=>?_
  have hr':=qa7.mp hr
  rw [uM h1 h2 hr']
  unfold uB
  rw [qeC,Nat.mod_eq_of_lt hr',qdC _ _ (qcA (by decide)),qfw hr',qaQ]
  generalize u r=a
  generalize v q=c
  generalize aR b t1 (r:Int)=x
  generalize aR b t2 (q:Int)=y
  rw [qeq,qfG,qeq,qbq a c,qcV c x y,<-qbq a x]
 rw [e,d8,qeq]
theorem Lst.beside {u v:Nat->Int}{n m e1 e2:Nat}{b:Bool} (h1:Lst u n b e1) (h2:Lst v m b e2):Lst (uB u v n) (n+m) b (e1+e2):=by
 obtain⟨v1,t1,a1,l1,z1⟩:=h1
 obtain⟨v2,t2,a2,l2,z2⟩:=h2
 refine⟨λt ht hl=>?_,t1++t2.map λk=>k+(n:Int),vh a1 a2,by rw [qaV,qaf,l1,l2],?_⟩
 ·obtain⟨s1,s2,c1,c2,rfl⟩:=w6 ht
  rw [qaV,qaf] at hl
  rw [nv c1 c2]
  by_cases h:s1.length < e1
  ·rw [v1 s1 c1 h,qcF];rfl
  ·rw [v2 s2 c2 (by lia),qce];rfl
 ·rw [nv a1 a2]
  exact λz=>qdx z1 z2 (Int.neg_eq_zero.mp z)
end Own
end
section
set_option maxHeartbeats 1000000
namespace Own
open PySem L2
noncomputable def ux:Nat->List (List Int)
 | 0=>[[]]
 | m+1=>(ux m).map (λl=>0::l)++(ux m).map λl=>1::l
theorem mh:∀ (row:List Int),kr row->row ∈ ux row.length
 | [],_=>qaz.mpr rfl
 | x::l,h=>by
  have ih:=mh l λy hy=>h y (qah _ hy)
  rw [qaj,ux]
  rcases h x qai with rfl | rfl
  ·exact qbH _ (qaD.mpr ⟨l,ih,rfl⟩)
  ·exact qau _ (qaD.mpr ⟨l,ih,rfl⟩)
noncomputable def tbI (n k c:Nat):Int:=if k<=c then chF ((n:Int) - (k:Int)) (c - k) else 0
noncomputable def Bx (row:List Int):Bool:=
 (b4 row).length==0 || ((cH row (row.length - 1)).all (λx=>decide (0 < x) && decide (x < 1073741824)) && (eO row (row.length - 1)).all (λx=>decide (0<=x) && decide (x < 1000000000000000000000)) && (eO row (row.length - 1)).any (λx=>decide (0 < x)) &&
  (List.range (b4 row).length).all λk=>((List.range row.length).map λc=>(eO row (row.length - 1)).getD c 0*(2*row.getD c 0 - 1)*tbI (row.length - 1) k c).sum==0)
theorem yp:∀ m:Fin 8,(ux m.val).all Bx=true:=by decide +kernel
structure BK (row:List Int) (n:Nat):Prop where
 sh:∀ x ∈ cH row n,0 < x/\x < 1073741824
 w:∀ x ∈ eO row n,0<=x/\x < 1000000000000000000000
 p:∃ c,c<=n/\0 < (eO row n).getD c 0
 z:∀ k,k < (b4 row).length->((List.range (n+1)).map λc=>(eO row n).getD c 0*(2*row.getD c 0 - 1)*tbI n k c).sum=0
theorem ul {row:List Int}{n:Nat} (h01:kr row) (hn:row.length=n+1) (hn6:n<=6) (hd:(b4 row).length≠0):BK row n:=by
 have h:=qaJ.mp (yp ⟨row.length,by lia⟩) row (mh row h01)
 have e:row.length - 1=n:=by lia
 have hd':((b4 row).length==0)=false:=by rw [beq_eq_false_iff_ne];exact hd
 unfold Bx at h
 rw [e,hd',qfV,qa0,qa0,qa0,qaJ,qaJ,qdk,qaJ,hn] at h
 obtain⟨⟨⟨a,b⟩,c⟩,d⟩:=h
 refine⟨λx hx=>?_,λx hx=>?_,?_,λk hk=>?_⟩
 ·have:=a x hx
  rw [qa0,decide_eq_true_eq,decide_eq_true_eq] at this
  exact this
 ·have:=b x hx
  rw [qa0,decide_eq_true_eq,decide_eq_true_eq] at this
  exact this
 ·obtain⟨x,hx,h0⟩:=c
  obtain⟨i,hi,rfl⟩:=qdI hx
  have hl:=s0 row n
  refine⟨i,by lia,?_⟩
  rw [List.getD,qaG hi]
  exact of_decide_eq_true h0
 ·exact eq_of_beq (d k (qa7.mpr hk))
theorem kT:∀ (n:Nat) (t:List Int),Trm n t->∃ m,m < 2 ^ n/\t=tmO n m
 | 0,t,h=>by
  cases t with
  | nil=>exact⟨0,by decide,rfl⟩
  | cons x l=>have:=h.2 x qai;lia
 | n+1,t,h=>by
  rcases List.eq_nil_or_concat t with rfl | ⟨l,x,rfl⟩
  ·obtain⟨m,hm,e⟩:=kT n [] ⟨List.Pairwise.nil,λk hk=>nomatch hk⟩
   refine⟨m,qaH hm (qbx (by decide) (by lia)),?_⟩
   rw [lh,if_neg (by rw [qcj hm];decide),qbG,<-e]
  ·rw [List.concat_eq_append] at h ⊢
   have hx:=h.2 x (qau _ (qaz.mpr rfl))
   have hpw:=qcr.mp h.1
   by_cases e:x=(n:Int)
   ·subst e
    have hl:Trm n l:=⟨hpw.1,λk hk=>⟨(h.2 k (qbH _ hk)).1,hpw.2.2 k hk _ (qaz.mpr rfl)⟩⟩
    obtain⟨m,hm,e⟩:=kT n l hl
    refine⟨2 ^ n+m,by rw [qdu];lia,?_⟩
    rw [lh,if_pos (by rw [Nat.testBit_two_pow_add_eq,qcj hm];rfl),e,tN (m:=2 ^ n+m) (m':=m) λi hi=>Nat.testBit_two_pow_add_gt hi m]
   ·have hl:Trm n (l++[x]):=⟨h.1,λk hk=>by
     have h0:=h.2 k hk
     refine⟨h0.1,?_⟩
     rcases qbg.mp hk with z | z
     ·have:=hpw.2.2 k z x (qaz.mpr rfl);lia
     ·rw [qaz.mp z];lia⟩
    obtain⟨m,hm,e2⟩:=kT n (l++[x]) hl
    refine⟨m,qaH hm (qbx (by decide) (by lia)),?_⟩
    rw [lh,if_neg (by rw [qcj hm];decide),qbG,<-e2]
theorem BY {row:List Int}{n:Nat} (F:BK row n):∀ x ∈ cbL row n,0<=x:=λx hx=>by
 unfold cbL at hx
 obtain⟨y,hy,rfl⟩:=qaD.mp hx
 unfold bcW at hy
 obtain⟨r,_,rfl⟩:=qaD.mp hy
 refine qet ?_ (by lia)
 rw [List.getD]
 cases e:(eO row n)[pcF 6 r]? with
 | none=>decide
 | some z=>exact (F.w z (qbf e)).1
theorem z9 (row:List Int) (n:Nat):(cbL row n).length=2 ^ n:=by unfold cbL bcW;rw [qaf,qaf,qbB]
end Own
end
section
set_option maxHeartbeats 1000000
namespace Own
open PySem L2
theorem wQ {st:Sto}{r k:Int} (r0:0<=r) (k0:0<=k) {env:Ev}{a b:Ef} (ha:a env st=some (.d (.int r),st)) (hb:b env st=some (.d (.int k),st)):bg dEq (iOp xG (iOp xn a b) (iC (.int 1))) (iC (.int 1)) env st=some (onI r k==1,st):=by
 have h0:0<=r / 2 ^ k.toNat:=qet r0 (Int.le_of_lt (qgZ (by decide)))
 refine aY (x:=.d (.int (onI r k))) (y:=.d (.int 1)) (ax (x:=.d (.int (r / 2 ^ k.toNat))) (ax ha hb ?_) rfl ?_) rfl (fL _ _ _)
 ·show (if (0:Int)<=k then some (D.int (r / 2 ^ k.toNat)) else none)=_
  rw [if_pos k0]
 ·show some (D.int (Builtin.bitAnd (r / 2 ^ k.toNat) 1))=_
  rw [Cu h0];rfl
theorem mj (row:Int):∀ t:List Int,((t.filter λk=>onI row k==1).length:Int)=d5 row t
 | []=>rfl
 | k::t=>by
  have ih:=mj row t
  rcases mW row k with h | h
  ·rw [qbT (by rw [h];decide),ih,d5,h,qbl]
  ·rw [qbS (by rw [h];decide),qaj,d5,h,<-ih];push_cast;rw [Int.add_comm]
noncomputable def wd (r:Int) (d:D):Bool:=match d with | .int k=>onI r k==1 | _=>false
theorem wq (r:Int) (t:List Int):((t.map D.int).filter (wd r)).map id=(t.filter λk=>onI r k==1).map D.int:=by
 rw [qcR,qbL];rfl
theorem vE {st:Sto}{b:Bool}{t:List Int}{row:Int} (h0:0<=row) (ht:∀ k ∈ t,0<=k/\k<=20) (hl:t.length<=1000):m__law_term [.d (.str (bP b)),.d (ag t),.d (.int row)] st=some (.d (.int (aR b t row)),st):=by
 have key:lcI (.nm 0) iE iP [none,some (.d (.int row))] (t.map D.int) st=some (((t.map D.int).filter (wd row)).map id,st):=ce _ _ λd hd=>by
  obtain⟨k,hk,rfl⟩:=qaD.mp hd
  exact⟨_,rfl,wQ h0 (ht k hk).1 rfl rfl,λ_=>rfl⟩
 rw [wq] at key
 have hlm:(t.map D.int).length<=1000000:=by rw [qaf];lia
 have e3:bI st [.d (.lst ((t.filter λk=>onI row k==1).map D.int))]=some (.int (d5 row t)):=by
  rw [sU,qaf,mj]
 have e4:=cu (st:=st) t
 have kb:dEq st (.d (.str (bP b))) (.d (.str "both"))=some (.bl b):=by cases b<;>rfl
 have hv:aR b t row=if b=true then (if (d5 row t==(t.length:Int))=true then 1 else 0) else 1 - 2*(d5 row t % 2):=by
  unfold aR
  simp only [beq_iff_eq]
  split
  ·rfl
  ·split<;>lia
 rw [hv]
 unfold ag at *
 generalize (t.filter λk=>onI row k==1).map D.int=Q at *
 generalize t.map D.int=T at *
 generalize d5 row t=c at *
 generalize bP b=kd at *
 refine aM (n:=4) (k:=3) (b:=b__law_term) rfl (aq (aO (i:=3) (az (au (aQ (b6 (eJ rfl) hlm key)) rfl) e3)) (aX ?_))
 have hc:bg dEq (iV 0) (iC (.str "both")) [some (.d (.str kd)),some (.d (.tup T)),some (.d (.int row)),some (.d (.int c))] st=some (b,st):=aY rfl rfl kb
 cases b with
 | true=>
  have h2:iCB yG (ae (iOp dEq (iV 3) (iCB bI (ae (iV 1) ai))) ai) [some (.d (.str kd)),some (.d (.tup T)),some (.d (.int row)),some (.d (.int c))] st=some (.d (.int (if (c==(t.length:Int))=true then 1 else 0)),st):=az (au (ax rfl (az rfl e4) (fL _ _ _)) rfl) rfl
  show ((bg dEq (iV 0) (iC (.str "both")) [some (.d (.str kd)),some (.d (.tup T)),some (.d (.int row)),some (.d (.int c))] st).bind λr=>if r.1=true then _ else _)=_
  rw [hc]
  exact h2
 | false=>
  have h2:iOp gL (iC (.int 1)) (iOp cA (iC (.int 2)) (iOp eV (iV 3) (iC (.int 2)))) [some (.d (.str kd)),some (.d (.tup T)),some (.d (.int row)),some (.d (.int c))] st=some (.d (.int (1 - 2*(c % 2))),st):=ax rfl (ax rfl (ax rfl rfl (d:=.int (c % 2)) rfl) (iO _ ⟨by lia,by lia⟩)) rfl
  show ((bg dEq (iV 0) (iC (.str "both")) [some (.d (.str kd)),some (.d (.tup T)),some (.d (.int row)),some (.d (.int c))] st).bind λr=>if r.1=true then _ else _)=_
  rw [hc]
  exact h2
theorem qs:∀ n:Fin 7,da n.val=(List.range (2 ^ n.val)).map (tmO n.val):=by decide +kernel
theorem BF (r k:Nat):(onI (r:Int) (k:Int)==1)=r.testBit k:=by
 rw [Ae]
 cases r.testBit k<;>rfl
theorem wt (n m:Nat):((bF 0 n).filter (wd m)).map id=(tmO n m).map D.int:=by
 unfold bF tmO
 rw [qcR,qbL,qaN]
 have e:(wd (m:Int) ∘ λk:Nat=>D.int (0+(k:Int)))=λk:Nat=>m.testBit k:=by
  funext k
  show (onI (m:Int) (0+(k:Int))==1)=_
  rw [qbl,BF]
 rw [e]
 refine qas λk _=>?_
 rw [qbl];rfl
theorem yM {n:Nat} (h:n<=6) (s:Sto):vd s (.d (.int 1)) (.d (.int (n:Nat)))=some (.int ((2 ^ n:Nat):Int)):=by
 have:n=0\/n=1\/n=2\/n=3\/n=4\/n=5\/n=6:=by lia
 rcases this with rfl | rfl | rfl | rfl | rfl | rfl | rfl<;>rfl
theorem dG {n:Nat} (h:n<=6) {t:List Int}:t ∈ oF n↔Trm n t:=by
 unfold oF
 rw [(dk _).mem_iff]
 constructor
 ·exact ie n
 ·intro ht
  obtain⟨m,hm,rfl⟩:=kT n t ht
  have:=qs ⟨n,by lia⟩
  dsimp only at this
  rw [this]
  exact qaD.mpr ⟨m,qa7.mpr hm,rfl⟩
noncomputable def tlT (n:Nat) (m:Int):List (List Int):=(oF n).filter λt=>decide ((t.length:Int)<=m)
theorem rY {n:Nat} (h:n<=6) (m:Int):(tlT n m).length<=64:=qaX (qbK _ _) (by rw [wW];exact bO h)
theorem jO {st:Sto}{n:Nat} (hn:n<=6) (m:Int):m__law_terms [.d (.int (n:Nat)),.d (.int m)] st=some (.d (.lst ((tlT n m).map ag)),st):=by
 have h64:=bO hn
 have k1:lcI (.nm 0) cC iu [none,some (.d (.int (n:Nat)))] (bF 0 (2 ^ n)) st=some ((bF 0 (2 ^ n)).map λd=>match d with | .int c=>ag (tmO n c.toNat) | d=>d,st):=cS _ λd hd=>by
  obtain⟨c,hc⟩:=qa3.mp hd
  obtain⟨rfl,hc'⟩:=cF hc
  have k2:lcI (.nm 0) ic ig [none,some (.d (.int (c:Nat)))] (bF 0 n) st=some (((bF 0 n).filter (wd (c:Nat))).map id,st):=ce _ _ λd hd=>by
   obtain⟨k,hk⟩:=qa3.mp hd
   obtain⟨rfl,hk'⟩:=cF hk
   exact⟨_,rfl,wQ (by lia) (by lia) rfl rfl,λ_=>rfl⟩
  rw [wt] at k2
  refine⟨_,rfl,?_⟩
  show _=some (W.d (ag (tmO n ((c:Nat):Int).toNat)),st)
  rw [qat]
  exact az (au (aQ (b6 (ij (z:=(n:Int)) rfl (by lia) (by lia) (by lia)) (by rw [cc];lia) k2)) rfl) rfl
 have e1:((bF 0 (2 ^ n)).map λd=>match d with | .int c=>ag (tmO n c.toNat) | d=>d)=(da n).map ag:=by
  have:=qs ⟨n,by lia⟩
  dsimp only at this
  rw [this]
  unfold bF
  rw [qaN,qaN]
  refine qas λk _=>?_
  show ag (tmO n ((0:Int)+(k:Int)).toNat)=_
  rw [qbl,qat];rfl
 rw [e1] at k1
 have k3:lcI (.nm 0) fj eW [none,some (.d (.int m))] ((da n).map ag) st=some ((((da n).map ag).filter λd=>match d with | .tup ds=>decide ((ds.length:Int)<=m) | _=>false).map id,st):=ce _ _ λd hd=>by
  obtain⟨t,ht,rfl⟩:=qaD.mp hd
  exact⟨_,rfl,aY (az rfl rfl) rfl rfl,λ_=>rfl⟩
 have e3:((((da n).map ag).filter λd=>match d with | .tup ds=>decide ((ds.length:Int)<=m) | _=>false).map id)=((da n).filter λt=>decide ((t.length:Int)<=m)).map ag:=by
  rw [qcR,qbL]
  congr 1
  refine qdf λt _=>?_
  show decide (((t.map D.int).length:Int)<=m)=_
  rw [qaf]
 rw [e3] at k3
 have hg:((da n).map ag).length<=1000000:=by rw [qaf,hX];lia
 have hrg:∀ env,iV 0 env st=some (.d (.int (n:Nat)),st)->bw (ae (iOp vd (iC (.int 1)) (iV 0)) ai) env st=some (bF 0 (2 ^ n),st):=λenv he=>ij (z:=((2 ^ n:Nat):Int)) (ax rfl he (yM hn st)) (by lia) (by lia) (by lia)
 have hso:gB st [.d (.lst (((da n).filter λt=>decide ((t.length:Int)<=m)).map ag))]=some ((tlT n m).map ag):=by
  show (if (((da n).filter λt=>decide ((t.length:Int)<=m)).map ag).length<=64 then ni (((da n).filter λt=>decide ((t.length:Int)<=m)).map ag) else none)=_
  rw [if_pos (by rw [qaf];exact qaX (qbK _ _) (by rw [hX];exact h64)),ln,iJ]
  rfl
 generalize (tlT n m).map ag=R at *
 generalize ((da n).filter λt=>decide ((t.length:Int)<=m)).map ag=F at *
 generalize (da n).map ag=G at *
 have h9:iCL gB (ae (aD (iLc 1 [1] (br (iV 2)) (.nm 0) fj eW)) ai) [some (.d (.int (n:Nat))),some (.d (.int m)),some (.d (.lst G))] st=some (R,st):=by
  have:=au (b:=ai) (aQ (b6 (k:=1) (js:=[1]) (env:=[some (.d (.int (n:Nat))),some (.d (.int m)),some (.d (.lst G))]) (fW (f:=iV 2) rfl) hg k3)) rfl
  show ((ae _ ai _ st).bind λr=>(gB r.2 r.1).map λd=>(d,r.2))=_
  rw [this,qad,hso];rfl
 exact aM (n:=3) (k:=2) (b:=b__law_terms) rfl (aq (aO (i:=2) (aQ (b6 (hrg _ rfl) (by rw [cc];lia) k1))) (aX (aQ h9)))
noncomputable def sh (g:Int->Int):Nat->List Int->Int
 | _,[]=>0
 | k,s::S=>s*g k+sh g (k+1) S
theorem p8 (g:Int->Int) (u:Nat->Int):∀ (N k:Nat),sh g k ((List.range' k N).map u)=((List.range' k N).map λr:Nat=>u r*g (r:Int)).sum
 | 0,_=>rfl
 | N+1,k=>by rw [List.range'_succ,qal,sh,p8 g u N (k+1),qal,qbm]
theorem ze (u:Nat->Int) (n:Nat) (b:Bool) (t:List Int):sh (aR b t) 0 ((List.range (2 ^ n)).map u)=SU u n b t:=by
 unfold SU
 rw [List.range_eq_range',p8]
noncomputable def shP (d:D):Bool:=match d with | .tup [.int _,.int s]=>decide (s≠0) | _=>false
noncomputable def shF (g:Int->Int) (d:D):D:=match d with | .tup [.int i,.int s]=>.int (s*g i) | d=>d
theorem sA (g:Int->Int):∀ (S:List Int) (k:Nat),∃ L:List Int,((b8 k (S.map D.int)).filter shP).map (shF g)=L.map D.int/\L.sum=sh g k S
 | [],_=>⟨[],rfl,rfl⟩
 | s::S,k=>by
  obtain⟨L,h1,h2⟩:=sA g S (k+1)
  rw [qal,b8]
  by_cases h:s=0
  ·refine⟨L,?_,?_⟩
   ·rw [qbT (by show ¬ decide (s≠0)=true;simp [h]),h1]
   ·rw [sh,h2,h,qcF,qbl]
  ·refine⟨s*g k::L,?_,?_⟩
   ·rw [qbS (by show decide (s≠0)=true;simp [h]),qal,h1];rfl
   ·rw [qbm,h2];rfl
theorem yW (g:Int->Int):∀ (ws xs:List Int) (k:Nat),kr xs->wS g k ws (xs.map D.int)=sh g k (List.zipWith (λw x=>w*(2*x - 1)) ws xs)
 | [],_,_,_=>by rw [List.zipWith_nil_left,sh];unfold wS;rfl
 | w::ws,[],_,_=>by rw [qba,List.zipWith_nil_right,sh];unfold wS;rfl
 | w::ws,x::xs,k,h=>by
  have ih:=yW g ws xs (k+1) λy hy=>h y (qah _ hy)
  rw [List.zipWith_cons_cons,sh,<-ih]
  show w*(sgD (.int x)*g k)+_=_
  rcases h x qai with rfl | rfl
  ·show w*(-1*g k)+_=w*(-1)*g k+_
   rw [qbq]
  ·show w*(1*g k)+_=w*1*g k+_
   rw [qbq]
theorem Bo {row:List Int} (h:kr row):kr (bcL row):=λx hx=>by
 obtain⟨r,_,rfl⟩:=qaD.mp hx
 exact h.getD _
theorem nP {e:Int}:∀ (ns:List Int) (m:Int),(e ∈ ns\/e=m)->(∀ x ∈ ns,e<=x)->e<=m->kH ns m=e
 | [],m,h,_,_=>by
  rcases h with h | h
  ·cases h
  ·exact h.symm
 | n::ns,m,h,ha,hm=>by
  have hn:=ha n qai
  rw [kH]
  refine nP ns _ ?_ (λx hx=>ha x (qah _ hx)) (by split<;>lia)
  rcases h with h | h
  ·rcases qaF.mp h with h | h
   ·right;split<;>lia
   ·exact .inl h
  ·right;split<;>lia
theorem wy {ns:List Int}{e:Int} (h:e ∈ ns) (ha:∀ x ∈ ns,e<=x):mZ ns none=some e:=by
 cases ns with
 | nil=>cases h
 | cons n r=>
  show some (kH r n)=_
  rw [nP r n (by rcases qaF.mp h with z | z;exact .inr z;exact .inl z) (λx hx=>ha x (qah _ hx)) (ha n qai)]
theorem r8:∀ (ns:List Int) (m x:Int),(x ∈ ns\/x<=m)->x<=gM ns m
 | [],m,x,h=>by
  rcases h with h | h
  ·cases h
  ·exact h
 | n::ns,m,x,h=>by
  rw [gM]
  refine r8 ns _ x ?_
  rcases h with h | h
  ·rcases qaF.mp h with h | h
   ·right;split<;>lia
   ·exact .inl h
  ·right;split<;>lia
theorem wJ {ns:List Int}{x:Int} (h:x ∈ ns):∃ M,pp ns none=some M/\x<=M:=by
 cases ns with
 | nil=>cases h
 | cons n r=>exact⟨gM r n,rfl,r8 r n x (by rcases qaF.mp h with z | z;exact .inr (by lia);exact .inl z)⟩
noncomputable def eQ (u:Nat->Int) (n:Nat) (b:Bool) (l:List (List Int)):List Int:=(l.filter λt=>decide (SU u n b t≠0)).map λt=>(t.length:Int)
theorem rp {n:Nat}{t:List Int} (h:Trm n t):(t.length:Int)<=n:=by have:=jj h;lia
theorem vb {u:Nat->Int}{n e:Nat}{b:Bool} (hn:n<=6) (h:Lst u n b e):mZ (eQ u n b (tlT n n)) none=some (e:Int):=by
 obtain⟨h1,t,t1,t2,t3⟩:=h
 refine wy ?_ λx hx=>?_
 ·unfold eQ tlT
  refine qaD.mpr ⟨t,qaY.mpr ⟨qaY.mpr ⟨(dG hn).mpr t1,decide_eq_true (rp t1)⟩,decide_eq_true t3⟩,by rw [t2]⟩
 ·unfold eQ tlT at hx
  obtain⟨v,hv,rfl⟩:=qaD.mp hx
  have h4:=qaY.mp hv
  have h5:=(dG hn).mp (qaY.mp h4.1).1
  have h6:=of_decide_eq_true h4.2
  by_cases hlt:v.length < e
  ·exact absurd (h1 v h5 hlt) h6
  ·lia
end Own
end
section
set_option maxHeartbeats 1000000
namespace Own
open PySem L2
theorem mm {a b:Ef}{env:Ev}{st s:Sto}{r:Option (W×Sto)} (h:a env st=some (.d (.bl true),s)) (hb:b env s=r):j6 a b env st=r:=by
 subst hb
 show ((a env st).bind λx=>(blW x.1).bind λk=>if k=true then b env x.2 else some (.d (.bl false),x.2))=_
 rw [h];rfl
theorem Aa {a:Ef}{env:Ev}{st s:Sto}{k:Bool} (h:a env st=some (.d (.bl k),s)):sr a env st=some (.d (.bl (!k)),s):=by
 show ((a env st).bind λx=>(blW x.1).map λk=>(W.d (D.bl (!k)),x.2))=_
 rw [h];rfl
theorem vq {a:Ef}{env:Ev}{st s:Sto}{k:Bool} (h:a env st=some (.d (.bl k),s)):t7 rJ a env st=some (k,s):=by
 show ((a env st).bind λx=>(rJ x.2 x.1).map λk=>(k,x.2))=_
 rw [h];rfl
theorem rH {a:Tf}{env:Ev}{st s:Sto}{k:Bool} (h:a env st=some (k,s)):mX a env st=some (!k,s):=by
 show ((a env st).map λr=>(!r.1,r.2))=_
 rw [h];rfl
theorem sW {a b:Tf}{env:Ev}{st s:Sto}{r:Option (Bool×Sto)} (h:a env st=some (false,s)) (hb:b env s=r):nR a b env st=r:=by
 subst hb
 show ((a env st).bind λr=>if r.1=true then some (true,r.2) else b env r.2)=_
 rw [h];rfl
theorem yg {st:Sto} (ds:List D):rA st [.d (.lst (ds.map λ_=>D.bl true))]=some (.bl true):=by
 have e:ds.map (λ_=>D.bl true)=(ds.map λ_=>true).map D.bl:=by rw [qaN];rfl
 show ((iS (ds.map λ_=>D.bl true)).map λns=>D.bl (ns.all id))=_
 rw [e,iX]
 show some (D.bl ((ds.map λ_=>true).all id))=_
 have:(ds.map λ_=>true).all id=true:=by rw [qaJ];intro x hx;obtain⟨_,_,rfl⟩:=qaD.mp hx;rfl
 rw [this]
theorem ge0 {st:Sto}{x:Int} (h:0<=x):dGe st (.d (.int x)) (.d (.int 0))=some (.bl true):=by
 show some (D.bl (decide (0<=x)))=_
 rw [decide_eq_true h]
theorem wf {st:Sto} (x:Int):m_is_whole [.d (.int x)] st=some (.d (.bl true),st):=
 aM (n:=1) (k:=1) (b:=b_is_whole) rfl (aX (mm (az rfl rfl) (Aa (k:=false) (az rfl rfl))))
theorem yi {st:Sto} (a:Int):dNe st (.d (.int a)) (.d (.int a))=some (.bl false):=by rw [gO,beq_self_eq_true];rfl
theorem qT {st:Sto}{ws:List Int} (hw:∀ x ∈ ws,0<=x) (hl:ws.length<=1000):m_are_amounts [.d (ag ws),.d (.int (ws.length:Int))] st=some (.d (.bl true),st):=by
 have key:lcI (.nm 0) cC gH [none] (ws.map D.int) st=some ((ws.map D.int).map λ_=>D.bl true,st):=cS _ λd hd=>by
  obtain⟨x,hx,rfl⟩:=qaD.mp hd
  exact⟨_,rfl,mm (ao rfl (wf x)) (ax rfl rfl (ge0 (hw x hx)))⟩
 have hz:(ws.map D.int).length<=1000000:=by rw [qaf];lia
 have e1:=yg (st:=st) (ws.map D.int)
 have e2:=cu (st:=st) ws
 unfold ag at *
 generalize ws.map D.int=WD at *
 exact aM (n:=2) (k:=2) (b:=b_are_amounts) rfl (aq (ir (sW (rH (k:=true) (vq (az rfl rfl))) (aY (az rfl e2) rfl (yi _))) rfl) (aX (az (au (aQ (b6 (eJ rfl) hz key)) rfl) e1)))
theorem rO {st:Sto}{ws xs:List Int} (hw:∀ x ∈ ws,0<=x) (hl:ws.length<=1000) (hx:xs.length=ws.length):m_are_weights [.d (ag xs),.d (ag ws)] st=some (.d (.bl true),st):=by
 have e1:=qT (st:=st) hw hl
 have e2:=cu (st:=st) xs
 rw [hx] at e2
 have key:lcI (.tp [0,1]) gE gC [none,none] (fO (xs.map D.int) (ws.map D.int)) st=some (((fO (xs.map D.int) (ws.map D.int)).filter λ_=>false).map id,st):=ce _ _ λd hd=>by
  obtain⟨i,hi⟩:=qa3.mp hd
  rw [jf] at hi
  obtain⟨a,ha,hi⟩:=qab.mp hi
  obtain⟨c,hc,rfl⟩:=qac.mp hi
  rw [qaI,qac] at ha
  obtain⟨x,_,rfl⟩:=ha
  exact⟨_,rfl,aY rfl rfl rfl,λh=>nomatch h⟩
 rw [qeM.mpr λ_ _=>qaB] at key
 have hz:(fO (xs.map D.int) (ws.map D.int)).length<=1000000:=by rw [jy,qaf,qaf];lia
 have hzz:mz (ae (iV 0) (ae (iV 1) ai)) [some (.d (ag xs)),some (.d (ag ws))] st=some (fO (xs.map D.int) (ws.map D.int),st):=rfl
 generalize fO (xs.map D.int) (ws.map D.int)=ZZ at *
 unfold ag at *
 generalize ws.map D.int=WD at *
 generalize xs.map D.int=XD at *
 exact aM (n:=2) (k:=2) (b:=b_are_weights) rfl (aq (ir (rH (k:=true) (vq (ao (au rfl (au (az rfl e2) rfl)) e1))) rfl) (aX (az (au (aQ (b6 hzz hz key)) rfl) rfl)))
theorem tR (u:Nat->Int) (n:Nat) (b:Bool) (l:List (List Int)) {p:D->Bool}{F:D->D} (hp:∀ t ∈ l,p (ag t)=decide (SU u n b t≠0)) (hF:∀ t ∈ l,F (ag t)=.int (t.length:Int)):((l.map ag).filter p).map F=(eQ u n b l).map D.int:=by
 unfold eQ
 rw [qbL,qaN,qaN]
 have e:l.filter (p ∘ ag)=l.filter λt=>decide (SU u n b t≠0):=qdf λt ht=>hp t ht
 rw [e]
 exact qas λt ht=>hF t (qaY.mp ht).1
noncomputable def suP (u:Nat->Int) (n:Nat) (b:Bool) (d:D):Bool:=match d with | .tup ds=>(match bQ ds with | some t=>decide (SU u n b t≠0) | none=>false) | _=>false
theorem vX (u:Nat->Int) (n:Nat) (b:Bool) (t:List Int):suP u n b (ag t)=decide (SU u n b t≠0):=by
 show (match bQ (t.map D.int) with | some t=>decide (SU u n b t≠0) | none=>false)=_
 rw [ci]
structure FW (f ws:List Int) (n:Nat):Prop where
 f01:kr f
 lf:f.length=2 ^ n
 lw:ws.length=2 ^ n
 nn:∀ x ∈ ws,0<=x
 n6:n<=6
noncomputable def uG (f ws:List Int) (r:Nat):Int:=ws.getD r 0*(2*f.getD r 0 - 1)
theorem df {l:List Int}{i:Nat} (h:i < l.length):l.getD i 0=l[i]:=by rw [List.getD,qaG h];rfl
theorem A3 {f ws:List Int}{n:Nat} (h:FW f ws n):List.zipWith (λw x=>w*(2*x - 1)) ws f=(List.range (2 ^ n)).map (uG f ws):=by
 refine List.ext_getElem (by rw [List.length_zipWith,h.lf,h.lw,qaf,qbB];exact qgP _) λr h1 h2=>?_
 have hr:r < 2 ^ n:=by simpa using h2
 rw [List.getElem_zipWith,List.getElem_map,List.getElem_range]
 unfold uG
 rw [df (by rw [h.lw];exact hr),df (by rw [h.lf];exact hr)]
theorem FW.val {f ws:List Int}{n:Nat} (h:FW f ws n):∀ u ∈ f.map D.int,vw u:=λu hu=>by
 obtain⟨x,hx,rfl⟩:=qaD.mp hu
 rcases h.f01 x hx with rfl | rfl
 ·exact .inr (.inl rfl)
 ·exact .inr (.inr rfl)
theorem yX {st:Sto}{f ws:List Int}{n:Nat}{b:Bool}{t:List Int} (h:FW f ws n) (ht:Trm n t):m_weighted [.d (ag f),.d (.str (bP b)),.d (ag t),.d (ag ws)] st=some (.d (.int (SU (uG f ws) n b t)),st):=by
 have h64:=bO h.n6
 have hl:=jj ht
 have hn:=h.n6
 have e:=oU (st:=st) (fs:=f.map D.int) (b:=b) (t:=t) (ws:=ws) (by rw [qaf,h.lf];lia) h.val (by rw [h.lw,qaf,h.lf]) (yQ ht h.n6) (by lia)
 rw [yW _ _ _ _ h.f01,A3 h,ze] at e
 exact e
noncomputable def suQ (u:Nat->Int) (n:Nat) (b:Bool) (d:D):D:=match d with | .tup ds=>(match bQ ds with | some t=>.bl (SU u n b t==0) | none=>.non) | d=>d
theorem v4 (u:Nat->Int) (n:Nat) (b:Bool) (t:List Int):suQ u n b (ag t)=.bl (SU u n b t==0):=by
 show (match bQ (t.map D.int) with | some t=>D.bl (SU u n b t==0) | none=>.non)=_
 rw [ci]
noncomputable def oT (u:Nat->Int) (n:Nat) (b:Bool) (m:Int):Bool:=(tlT n m).all λt=>SU u n b t==0
theorem qE {st:Sto}{f ws:List Int}{n:Nat}{b:Bool}{m:Int} (h:FW f ws n):m_are_balanced [.d (ag f),.d (.str (bP b)),.d (.tup ((tlT n m).map ag)),.d (ag ws)] st=some (.d (.bl (oT (uG f ws) n b m)),st):=by
 have key:lcI (.nm 0) cC fX [none,some (.d (ag f)),some (.d (.str (bP b))),some (.d (ag ws))] ((tlT n m).map ag) st=some (((tlT n m).map ag).map (suQ (uG f ws) n b),st):=cS _ λd hd=>by
  obtain⟨t,ht,rfl⟩:=qaD.mp hd
  have h2:=(dG h.n6).mp (qaY.mp ht).1
  have e:=yX (st:=st) (b:=b) h h2
  rw [v4]
  exact⟨_,rfl,ax (ao rfl e) rfl (fL _ _ _)⟩
 have hz:((tlT n m).map ag).length<=1000000:=by rw [qaf];have:=rY h.n6 m;lia
 have e1:rA st [.d (.lst (((tlT n m).map ag).map (suQ (uG f ws) n b)))]=some (.bl (oT (uG f ws) n b m)):=by
  have e:((tlT n m).map ag).map (suQ (uG f ws) n b)=((tlT n m).map λt=>SU (uG f ws) n b t==0).map D.bl:=by
   rw [qaN,qaN]
   exact qas λt _=>v4 _ _ _ t
  show ((iS (((tlT n m).map ag).map (suQ (uG f ws) n b))).map λns=>D.bl (ns.all id))=_
  rw [e,iX]
  show some (D.bl _)=_
  unfold oT
  rw [qd2];rfl
 generalize ((tlT n m).map ag).map (suQ (uG f ws) n b)=QQ at *
 generalize (tlT n m).map ag=TT at *
 generalize ag f=F at *
 generalize ag ws=WD at *
 generalize bP b=kd at *
 exact aM (n:=4) (k:=4) (b:=b_are_balanced) rfl (aX (az (au (aQ (b6 (eJ rfl) hz key)) rfl) e1))
theorem sM {st:Sto}{f ws:List Int}{n:Nat}{b:Bool}{m:Int} (h:FW f ws n) (hp:∃ x ∈ ws,0 < x):m_is_bar [.d (ag f),.d (.str (bP b)),.d (.tup ((tlT n m).map ag)),.d (ag ws)] st=some (.d (.bl (oT (uG f ws) n b m)),st):=by
 have h64:=bO h.n6
 have e1:=rO (st:=st) (xs:=f) h.nn (by rw [h.lw];lia) (by rw [h.lf,h.lw])
 have e2:=qE (st:=st) (b:=b) (m:=m) h
 have e3:zC st [.d (ag ws)]=some (.bl true):=by
  show ((bQ (ws.map D.int)).map λns=>D.bl (ns.any λn=>decide (n≠0)))=_
  rw [ci]
  obtain⟨x,hx,x0⟩:=hp
  have:(ws.any λn=>decide (n≠0))=true:=qdk.mpr ⟨x,hx,decide_eq_true (by lia)⟩
  show some (D.bl _)=_
  rw [this]
 generalize (tlT n m).map ag=TT at *
 generalize ag f=F at *
 generalize ag ws=WD at *
 generalize bP b=kd at *
 exact aM (n:=4) (k:=4) (b:=b_is_bar) rfl (aX (mm (ao rfl e1) (mm (az rfl e3) (ao rfl e2))))
theorem qN {st:Sto}{f ws:List Int}{n e:Nat} (h:FW f ws n) (hL:Lst (uG f ws) n false e):m_barred_to [.d (ag f),.d (ag ws)] st=some (.d (.int (e:Int)),st):=by
 have hn6:=h.n6
 have e1:=ql (st:=st) h.lf hn6
 have e2:=qZ (st:=st) (n:=(n:Int)) (m:=(n:Int)) (by lia) (by lia) (by lia)
 rw [qat] at e2
 have e2':m_terms_to [.d (.int (n:Nat)),.d (.int (n:Nat))] st=some (.d (.tup ((tlT n n).map ag)),st):=e2
 have key:lcI (.nm 0) iF iN [none,some (.d (ag f)),some (.d (ag ws))] ((tlT n n).map ag) st=some ((((tlT n n).map ag).filter (suP (uG f ws) n false)).map (λd=>match d with | .tup ds=>.int (ds.length:Int) | d=>d),st):=ce _ _ λd hd=>by
  obtain⟨t,ht,rfl⟩:=qaD.mp hd
  have h2:=(dG hn6).mp (qaY.mp ht).1
  have e:=yX (st:=st) (b:=false) h h2
  refine⟨_,rfl,?_,λ_=>az rfl rfl⟩
  rw [vX]
  exact aY (ao rfl e) rfl (by rw [gO,kU])
 rw [tR (uG f ws) n false (tlT n n) (λt _=>vX _ _ _ t) (λt _=>by
   show D.int (((t.map D.int).length:Nat):Int)=_
   rw [qaf])] at key
 have hz:((tlT n n).map ag).length<=1000000:=by rw [qaf];have:=rY hn6 n;lia
 have hm:dMi st [.d (.lst ((eQ (uG f ws) n false (tlT n n)).map D.int))]=some (.int (e:Int)):=by
  show ((bQ ((eQ (uG f ws) n false (tlT n n)).map D.int)).bind λns=>(mZ ns none).map D.int)=_
  rw [ci,qad,vb hn6 hL];rfl
 generalize (eQ (uG f ws) n false (tlT n n)).map D.int=LL at *
 generalize (tlT n n).map ag=TT at *
 generalize ag f=F at *
 generalize ag ws=WD at *
 exact aM (n:=3) (k:=2) (b:=b_barred_to) rfl (aq (aO (i:=2) (ao rfl e1)) (aX (az (au (aQ (b6 (eJ (ao rfl e2')) hz key)) rfl) hm)))
noncomputable def swP (L:Int) (d:D):Bool:=match d with | .int k=>(((2 ^ k.toNat:Nat):Int)==L) | _=>false
theorem wX:∀ n:Fin 7,((List.range 7).filter λk=>2 ^ k==2 ^ n.val)=[n.val]:=by decide +kernel
theorem zO {n:Nat} (hn:n<=6):((bF 0 7).filter (swP ((2 ^ n:Nat):Int))).map id=[.int (n:Int)]:=by
 have e:=wX ⟨n,by lia⟩
 dsimp only at e
 unfold bF
 rw [qcR,qbL]
 have e1:(swP ((2 ^ n:Nat):Int) ∘ λk:Nat=>D.int (0+(k:Int)))=λk:Nat=>2 ^ k==2 ^ n:=by
  funext k
  show (((2 ^ ((0:Int)+(k:Int)).toNat:Nat):Int)==((2 ^ n:Nat):Int))=_
  rw [qbl,qat,qcd,beq_iff_eq,beq_iff_eq]
  exact⟨Int.ofNat.inj,λh=>by rw [h]⟩
 rw [e1,e]
 show [D.int (0+(n:Int))]=_
 rw [qbl]
theorem iZ {st:Sto}{f:List Int}{n:Nat} (hf:f.length=2 ^ n) (hn:n<=6):m__law_switches [.d (ag f)] st=some (.d (.int (n:Nat)),st):=by
 have hlt:=cu (st:=st) f
 rw [hf] at hlt
 have key:lcI (.nm 0) fI fH [none,some (.d (ag f))] (bF 0 7) st=some (((bF 0 7).filter (swP ((2 ^ n:Nat):Int))).map id,st):=ce _ _ λd hd=>by
  obtain⟨i,hi'⟩:=qa3.mp hd
  obtain⟨rfl,hi⟩:=cF hi'
  refine⟨_,rfl,?_,λ_=>rfl⟩
  show _=some (((2 ^ ((i:Nat):Int).toNat:Nat):Int)==((2 ^ n:Nat):Int),st)
  rw [qat]
  exact aY (ax rfl rfl (yM (by lia) st)) (az rfl hlt) (fL _ _ _)
 rw [zO hn] at key
 generalize ag f=F at *
 exact aM (n:=1) (k:=1) (b:=b__law_switches) rfl (aX (ax (aQ (b6 (ij (z:=7) rfl (by decide) (by decide) (by decide)) (by decide) key)) rfl (show atI [D.int (n:Int)] 0=_ from ud _ _)))
end Own
end
section
set_option maxHeartbeats 1000000
namespace Own
open PySem L2
noncomputable def unl (f g:List Int):List Int:=(List.range (f.length*g.length)).map λi=>if f.getD (i % f.length) 0=g.getD (i / f.length) 0 then 0 else 1
noncomputable def uwt (f g:List Int):List Int:=(List.range (f.length*g.length)).map λi=>f.getD (i % f.length) 0*g.getD (i / f.length) 0
theorem lj {n m:Nat} (h:n+m<=6):2 ^ n*2 ^ m<=64:=by rw [<-qc5];exact bO h
theorem wv {st:Sto}{f:List Int}{i:Nat} (hf:0 < f.length):dIx st (.d (ag f)) (.d (.int ((i:Int) % (f.length:Int))))=some (.int (f.getD (i % f.length) 0)):=by
 have:=iY (st:=st) (row:=f) (k:=i % f.length) (qcq _ hf)
 rw [<-this]
 congr 3
theorem vU {st:Sto}{g:List Int}{i N:Nat} (h:i / N < g.length):dIx st (.d (ag g)) (.d (.int ((i:Int) / (N:Int))))=some (.int (g.getD (i / N) 0)):=by
 have:=iY (st:=st) (row:=g) (k:=i / N) h
 rw [<-this]
 congr 3
theorem wb (s:Sto) {a b:Int} (h:0 < b/\b < 1073741824):eV s (.d (.int a)) (.d (.int b))=some (.int (a % b)):=by
 first
 | (show (if 0 < b/\b < 1073741824 then some (D.int (a % b)) else none)=_;rw [if_pos h])
 | (show (if 0 < b then some (D.int (a % b)) else none)=_;rw [if_pos h.1])
theorem nG {st:Sto}{env:Ev}{a b:Ef}{N M:Nat} (ha:a env st=some (.d (.int (N:Int)),st)) (hb:b env st=some (.d (.int (M:Int)),st)) (hN:N<=64) (hM:M<=64) (h:N*M<=64):bw (ae (iOp cA a b) ai) env st=some (bF 0 (N*M),st):=
 ij (z:=(N:Int)*(M:Int)) (ax ha hb (iO _ ⟨by lia,by lia⟩)) (qfP (by lia) (by lia)) (by rw [<-qfH];lia) (by rw [<-qfH,qat])
theorem dO {i N M:Nat} (h:i < N*M):i / N < M:=Nat.div_lt_of_lt_mul h
theorem oJ {N:Nat}{F:D->D}{G:Nat->Int} (h:∀ i,i < N->F (.int (i:Int))=.int (G i)):(bF 0 N).map F=((List.range N).map G).map D.int:=by
 unfold bF
 rw [qaN,qaN]
 refine qas λi hi=>?_
 show F (.int (0+(i:Int)))=_
 rw [qbl]
 exact h i (qa7.mp hi)
theorem Ay {st:Sto} (a b:Int):m_unlike_at [.d (.int a),.d (.int b)] st=some (.d (.int (if a=b then 0 else 1)),st):=by
 have hc:bg dNe (iV 0) (iV 1) [some (.d (.int a)),some (.d (.int b))] st=some (!(a==b),st):=aY rfl rfl (gO _ _ _)
 refine aM (n:=2) (k:=2) (b:=b_unlike_at) rfl (aq (ir (sW (aY rfl rfl rfl) (aY rfl rfl rfl)) rfl) (aX ?_))
 show ((bg dNe (iV 0) (iV 1) [some (.d (.int a)),some (.d (.int b))] st).bind λr=>if r.1=true then some (W.d (D.int 1),r.2) else some (W.d (D.int 0),r.2))=_
 rw [hc]
 by_cases h:a=b
 ·subst h;rw [beq_self_eq_true,if_pos rfl];rfl
 ·rw [beq_eq_false_iff_ne.mpr h,if_neg h];rfl
theorem uc {st:Sto}{f g:List Int} (hf:0 < f.length) (hf64:f.length<=64) (hg64:g.length<=64) (h64:f.length*g.length<=64):m_unlike [.d (ag f),.d (ag g)] st=some (.d (ag (unl f g)),st):=by
 have e1:=cu (st:=st) f
 have e2:=cu (st:=st) g
 have key:lcI (.nm 0) cC lu [none,some (.d (ag f)),some (.d (ag g))] (bF 0 (f.length*g.length)) st=some ((unl f g).map D.int,st):=by
  unfold unl
  rw [<-oJ (F:=λd=>match d with | .int i=>.int (if f.getD (i.toNat % f.length) 0=g.getD (i.toNat / f.length) 0 then 0 else 1) | d=>d) λi _=>by
   show D.int (if f.getD (((i:Nat):Int).toNat % f.length) 0=g.getD (((i:Nat):Int).toNat / f.length) 0 then 0 else 1)=_
   rw [qat]]
  refine cS _ λd hd=>?_
  obtain⟨i,hi'⟩:=qa3.mp hd
  obtain⟨rfl,hi⟩:=cF hi'
  refine⟨_,rfl,?_⟩
  show _=some (W.d (D.int (if f.getD (((i:Nat):Int).toNat % f.length) 0=g.getD (((i:Nat):Int).toNat / f.length) 0 then 0 else 1)),st)
  rw [qat]
  exact ao (au (ax rfl (ax rfl (az rfl e1) (wb _ ⟨by lia,by lia⟩)) (wv hf)) (au (ax rfl (ax rfl (az rfl e1) (lN _ ⟨by lia,by lia⟩)) (vU (dO hi))) rfl)) (Ay _ _)
 have hz:(bF 0 (f.length*g.length)).length<=1000000:=by rw [cc];lia
 have hrg:bw (ae (iOp cA (iCB bI (ae (iV 0) ai)) (iCB bI (ae (iV 1) ai))) ai) [some (.d (ag f)),some (.d (ag g))] st=some (bF 0 (f.length*g.length),st):=nG (az rfl e1) (az rfl e2) hf64 hg64 h64
 have hd:eH st [.d (.lst ((unl f g).map D.int))]=some (ag (unl f g)):=rfl
 generalize (unl f g).map D.int=U at *
 generalize ag (unl f g)=UT at *
 generalize ag f=F at *
 generalize ag g=G at *
 exact aM (n:=2) (k:=2) (b:=b_unlike) rfl (aX (az (au (aQ (b6 hrg hz key)) rfl) hd))
theorem qr {st:Sto}{f g:List Int} (hf:0 < f.length) (hf64:f.length<=64) (hg:∀ x ∈ g,0<=x/\x < 2 ^ 62) {te:Ef} (hte:te=eZ):lcI (.nm 0) cC te [none,some (.d (ag f)),some (.d (ag g))] (bF 0 (f.length*g.length)) st=some ((uwt f g).map D.int,st):=by
 subst hte
 have e1:=cu (st:=st) f
 unfold uwt
 rw [<-oJ (F:=λd=>match d with | .int i=>.int (f.getD (i.toNat % f.length) 0*g.getD (i.toNat / f.length) 0) | d=>d) λi _=>by
  show D.int (f.getD (((i:Nat):Int).toNat % f.length) 0*g.getD (((i:Nat):Int).toNat / f.length) 0)=_
  rw [qat]]
 refine cS _ λd hd=>?_
 obtain⟨i,hi'⟩:=qa3.mp hd
 obtain⟨rfl,hi⟩:=cF hi'
 have hq:=hg _ (qa8 (dO hi))
 rw [<-df (dO hi)] at hq
 refine⟨_,rfl,?_⟩
 show _=some (W.d (D.int (f.getD (((i:Nat):Int).toNat % f.length) 0*g.getD (((i:Nat):Int).toNat / f.length) 0)),st)
 rw [qat]
 exact ax (ax rfl (ax rfl (az rfl e1) (wb _ ⟨by lia,by lia⟩)) (wv hf)) (ax rfl (ax rfl (az rfl e1) (lN _ ⟨by lia,by lia⟩)) (vU (dO hi))) (iO _ ⟨by lia,by lia⟩)
theorem pJ {st:Sto}{f g:List Int} (hf:0 < f.length) (hf64:f.length<=64) (hg64:g.length<=64) (h64:f.length*g.length<=64) (hg:∀ x ∈ g,0<=x/\x < 2 ^ 62):m_unlike_weights [.d (ag f),.d (ag g)] st=some (.d (ag (uwt f g)),st):=by
 have e1:=cu (st:=st) f
 have e2:=cu (st:=st) g
 have key:=qr (st:=st) hf hf64 hg rfl
 have hz:(bF 0 (f.length*g.length)).length<=1000000:=by rw [cc];lia
 have hrg:bw (ae (iOp cA (iCB bI (ae (iV 0) ai)) (iCB bI (ae (iV 1) ai))) ai) [some (.d (ag f)),some (.d (ag g))] st=some (bF 0 (f.length*g.length),st):=nG (az rfl e1) (az rfl e2) hf64 hg64 h64
 have hd:eH st [.d (.lst ((uwt f g).map D.int))]=some (ag (uwt f g)):=rfl
 generalize (uwt f g).map D.int=U at *
 generalize ag (uwt f g)=UT at *
 generalize ag f=F at *
 generalize ag g=G at *
 exact aM (n:=2) (k:=2) (b:=b_unlike_weights) rfl (aX (az (au (aQ (b6 hrg hz key)) rfl) hd))
theorem qx {N i:Nat} (G:Nat->Int) (h:i < N):((List.range N).map G).getD i 0=G i:=by
 rw [List.getD,qaI,qdJ h];rfl
theorem FW.beside {f g ws vs:List Int}{n m:Nat} (h1:FW f ws n) (h2:FW g vs m) (h:n+m<=6):FW (unl f g) (uwt ws vs) (n+m):=by
 refine⟨λx hx=>?_,?_,?_,λx hx=>?_,h⟩
 ·obtain⟨i,_,rfl⟩:=qaD.mp hx
  split
  ·exact .inl rfl
  ·exact .inr rfl
 ·unfold unl;rw [qaf,qbB,h1.lf,h2.lf,qc5]
 ·unfold uwt;rw [qaf,qbB,h1.lw,h2.lw,qc5]
 ·obtain⟨i,hi,rfl⟩:=qaD.mp hx
  have hi':=qa7.mp hi
  have hp:0 < ws.length:=by rw [h1.lw];exact qcA (by decide)
  rw [df (qcq _ hp),df (dO hi')]
  exact qfP (h1.nn _ (qa8 _)) (h2.nn _ (qa8 _))
theorem uE {f g ws vs:List Int}{n m i:Nat} (h1:FW f ws n) (h2:FW g vs m) (hi:i < 2 ^ (n+m)):uG (unl f g) (uwt ws vs) i=uB (uG f ws) (uG g vs) n i:=by
 have hi':i < 2 ^ n*2 ^ m:=by rw [<-qc5];exact hi
 show (uwt ws vs).getD i 0*(2*(unl f g).getD i 0 - 1)=-((ws.getD (i % 2 ^ n) 0*(2*f.getD (i % 2 ^ n) 0 - 1))*(vs.getD (i / 2 ^ n) 0*(2*g.getD (i / 2 ^ n) 0 - 1)))
 unfold unl uwt
 rw [h1.lf,h2.lf,h1.lw,h2.lw,qx _ hi',qx _ hi']
 have ha:=h1.f01.getD (i % 2 ^ n)
 have hb:=h2.f01.getD (i / 2 ^ n)
 generalize f.getD (i % 2 ^ n) 0=a at *
 generalize g.getD (i / 2 ^ n) 0=b at *
 generalize ws.getD (i % 2 ^ n) 0=w
 generalize vs.getD (i / 2 ^ n) 0=v
 rcases ha with rfl | rfl<;>rcases hb with rfl | rfl<;>simp [qeq,Int.mul_neg]
theorem qq {u v:Nat->Int}{n:Nat}{b:Bool}{t:List Int} (h:∀ r,r < 2 ^ n->u r=v r):SU u n b t=SU v n b t:=by
 unfold SU
 congr 1
 exact qas λr hr=>by rw [h r (qa7.mp hr)]
theorem Lst.congr {u v:Nat->Int}{n e:Nat}{b:Bool} (h:∀ r,r < 2 ^ n->u r=v r) (k:Lst v n b e):Lst u n b e:=by
 obtain⟨k1,t,t1,t2,t3⟩:=k
 exact⟨λs hs hl=>by rw [qq h];exact k1 s hs hl,t,t1,t2,by rw [qq h];exact t3⟩
theorem FW.lst {f ws:List Int}{n:Nat} (h:FW f ws n) (hp:∃ x ∈ ws,0 < x) (b:Bool):∃ e,Lst (uG f ws) n b e:=by
 obtain⟨x,hx,x0⟩:=hp
 obtain⟨r,hr,rfl⟩:=qdI hx
 have:uG f ws r≠0:=by
  unfold uG
  rw [df hr]
  refine qdx (by lia) ?_
  rcases h.f01.getD r with e | e<;>rw [e]<;>decide
 obtain⟨e,he⟩:=zB (n:=n) (by rw [<-h.lw];exact hr) this
 exact⟨e,he.any⟩
end Own
end
section
set_option maxHeartbeats 1000000
namespace Own
open PySem L2
theorem zG {st:Sto}{u:Nat->Int}{n:Nat}{b:Bool}{t:List Int} (hn6:n<=6) (ht:Trm n t):lcI (.tp [0,1]) dg de [none,none,some (.d (.str (bP b))),some (.d (ag t))] (b8 0 (((List.range (2 ^ n)).map u).map D.int)) st=some (((b8 0 (((List.range (2 ^ n)).map u).map D.int)).filter shP).map (shF (aR b t)),st):=ce _ _ λd hd=>by
 obtain⟨i,hi⟩:=qa3.mp hd
 rw [eL,qaI] at hi
 obtain⟨d',hd',rfl⟩:=qac.mp hi
 obtain⟨s,_,rfl⟩:=qac.mp hd'
 have hl:=jj ht
 have e:=vE (st:=st) (b:=b) (t:=t) (row:=((0+i:Nat):Int)) (by lia) (yQ ht hn6) (by lia)
 have hv:=oV b t ((0+i:Nat):Int)
 refine⟨_,rfl,?_,λ_=>?_⟩
 ·refine aY rfl rfl ?_
  rw [gO,kU];rfl
 ·exact ax rfl (ao rfl e) (iO _ ⟨by lia,by lia⟩)
theorem yj {f ws:List Int}{n:Nat} (h:FW f ws n):((b8 0 (ws.map D.int)).map λd=>match d with | .tup [.int i,.int w]=>.int (w*(2*f.getD i.toNat 0 - 1)) | d=>d)=((List.range (2 ^ n)).map (uG f ws)).map D.int:=by
 refine List.ext_getElem? λi=>?_
 rw [qaI,eL,qaI,qaI,qaI]
 by_cases hi:i < 2 ^ n
 ·have hc:i < ws.length:=by rw [h.lw];exact hi
  rw [qaG hc,qdJ hi]
  show some (D.int (ws[i]*(2*f.getD ((0+i:Nat):Int).toNat 0 - 1)))=some (D.int (uG f ws i))
  unfold uG
  rw [df hc,qaQ,qat]
 ·rw [qdo (by rw [h.lw];lia),qdo (by rw [qbB];lia)];rfl
theorem vF {st:Sto}{f ws:List Int}{n:Nat} (h:FW f ws n):lcI (.tp [0,1]) cC ef [none,none,some (.d (ag f))] (b8 0 (ws.map D.int)) st=some (((List.range (2 ^ n)).map (uG f ws)).map D.int,st):=by
 have h64:2 ^ n<=64:=bO h.n6
 rw [<-yj h]
 refine cS _ λd hd=>?_
 obtain⟨i,hi⟩:=qa3.mp hd
 have hi2:=(qan.mp hi).1
 rw [eK,qaf,h.lw] at hi2
 rw [eL,qaI] at hi
 obtain⟨d',hd',rfl⟩:=qac.mp hi
 obtain⟨w,_,rfl⟩:=qac.mp hd'
 rw [qaQ]
 have g:=iY (st:=st) (row:=f) (k:=i) (by rw [h.lf];exact hi2)
 have hb01:=h.f01.getD i
 refine⟨_,rfl,?_⟩
 show _=some (W.d (D.int (w*(2*f.getD ((i:Nat):Int).toNat 0 - 1))),st)
 rw [qat]
 have hc:bg ml (iOp dIx (iV 2) (iV 0)) (iC .non) [some (.d (.int (i:Nat))),some (.d (.int w)),some (.d (ag f))] st=some (false,st):=aY (ax rfl rfl g) rfl rfl
 have h2:iOp cA (iV 1) (iOp gL (iOp cA (iC (.int 2)) (iOp dIx (iV 2) (iV 0))) (iC (.int 1))) [some (.d (.int (i:Nat))),some (.d (.int w)),some (.d (ag f))] st=some (.d (.int (w*(2*f.getD i 0 - 1))),st):=ax rfl (ax (ax rfl (ax rfl rfl g) (iO _ ⟨by lia,by lia⟩)) rfl rfl) (iO _ ⟨by lia,by lia⟩)
 show ((bg ml (iOp dIx (iV 2) (iV 0)) (iC .non) [some (.d (.int (i:Nat))),some (.d (.int w)),some (.d (ag f))] st).bind λr=>if r.1=true then _ else _)=_
 rw [hc]
 exact h2
theorem xN {st:Sto}{u:Nat->Int}{n:Nat}{b:Bool}{F WD:D}{SD:List D} (hn6:n<=6) (hzs:(b8 0 SD).length<=1000000)
  (hsum:∀ (s:Sto) (t:List Int),Trm n t->∃ L,lcI (.tp [0,1]) dg de [none,none,some (.d (.str (bP b))),some (.d (ag t))] (b8 0 SD) s=some (L,s)/\jA s [.d (.lst L)]=some (.int (SU u n b t))) :
  ∃ o6,kB (.nm 6) dc ((tlT n n).map ag) [some (.d F),some (.d WD),some (.d (.str (bP b))),some (.d (.int (n:Nat))),some (.d (.lst SD)),some (.h st.length),none] (st++[.l [.int ((n:Int)+1)]])=some (.nx [some (.d F),some (.d WD),some (.d (.str (bP b))),some (.d (.int (n:Nat))),some (.d (.lst SD)),some (.h st.length),o6] (st++[.l ((((n:Int)+1)::eQ u n b (tlT n n)).map D.int)])):=by
 have tll:=rY hn6 (n:Int)
 obtain⟨env',s',hF,o6,rfl,rfl⟩:=dz (g:=.nm 6) (body:=dc) (ds:=(tlT n n).map ag) (λi env s=>∃ o6,env=[some (.d F),some (.d WD),some (.d (.str (bP b))),some (.d (.int (n:Nat))),some (.d (.lst SD)),some (.h st.length),o6]/\s=st++[.l ((((n:Int)+1)::eQ u n b ((tlT n n).take i)).map D.int)])
  (env:=[some (.d F),some (.d WD),some (.d (.str (bP b))),some (.d (.int (n:Nat))),some (.d (.lst SD)),some (.h st.length),none]) (st:=st++[.l [.int ((n:Int)+1)]]) ⟨none,rfl,rfl⟩ (by
  rintro i d env s hd ⟨o6,rfl,rfl⟩
  rw [qaI] at hd
  obtain⟨t,hti,rfl⟩:=qac.mp hd
  have hi:=(qan.mp hti).1
  have ht:=(dG hn6).mp (qaY.mp (qbf hti)).1
  obtain⟨L,l1,l2⟩:=hsum (st++[.l ((((n:Int)+1)::eQ u n b ((tlT n n).take i)).map D.int)]) t ht
  have hln:((((n:Int)+1)::eQ u n b ((tlT n n).take i)).map D.int).length < 1000000:=by
   rw [qaf,qaj]
   unfold eQ
   rw [qaf]
   have:=qbK (λt=>decide (SU u n b t≠0)) ((tlT n n).take i)
   rw [qcY] at this
   lia
  have htk:eQ u n b ((tlT n n).take (i+1))=eQ u n b ((tlT n n).take i)++(if SU u n b t≠0 then [(t.length:Int)] else []):=by
   unfold eQ
   rw [qd0,hti,qdT,qbs]
   congr 1
   by_cases z:SU u n b t≠0
   ·rw [if_pos z];show ([t].filter _).map _=_;rw [qbS (by exact decide_eq_true z)];rfl
   ·rw [if_neg z];show ([t].filter _).map _=_;rw [qbT (by simpa using z)];rfl
  have hlti:=cu (st:=st++[.l ((((n:Int)+1)::eQ u n b ((tlT n n).take i)).map D.int)]) t
  rw [htk,<-qaU]
  generalize ((n:Int)+1)::eQ u n b ((tlT n n).take i)=LL at *
  generalize bP b=kd at *
  by_cases z:SU u n b t=0
  ·rw [if_neg (by simpa using z),qbG]
   rw [z] at l2
   exact⟨_,[some (.d F),some (.d WD),some (.d (.str kd)),some (.d (.int (n:Nat))),some (.d (.lst SD)),some (.h st.length),some (.d (ag t))],_,rfl,.inl (ir (aY (az (au (aQ (b6 rfl hzs l1)) rfl) l2) rfl (by rw [gO];rfl)) rfl),_,rfl,rfl⟩
  ·rw [if_pos z,qbs]
   have hne:(!(SU u n b t==0))=true:=by simpa using z
   exact⟨_,[some (.d F),some (.d WD),some (.d (.str kd)),some (.d (.int (n:Nat))),some (.d (.lst SD)),some (.h st.length),some (.d (ag t))],_,rfl,.inl (qw (aY (az (au (aQ (b6 rfl hzs l1)) rfl) l2) rfl (by rw [gO,hne])) (uf rfl (au (az rfl hlti) rfl) hln)),_,rfl,rfl⟩)
 rw [qaf,qcg] at hF
 exact⟨o6,hF⟩
noncomputable def lbI (u:Nat->Int) (n:Nat) (b:Bool):Int:=kH (eQ u n b (tlT n n)) ((n:Int)+1)
theorem rQ {u:Nat->Int}{n e:Nat}{b:Bool} (hn:n<=6) (h:Lst u n b e):lbI u n b=(e:Int):=by
 obtain⟨h1,t,t1,t2,t3⟩:=h
 have hle:=rp t1
 unfold lbI
 refine nP _ _ (.inl ?_) (λx hx=>?_) (by lia)
 ·unfold eQ tlT
  refine qaD.mpr ⟨t,qaY.mpr ⟨qaY.mpr ⟨(dG hn).mpr t1,decide_eq_true (rp t1)⟩,decide_eq_true t3⟩,by rw [t2]⟩
 ·unfold eQ tlT at hx
  obtain⟨v,hv,rfl⟩:=qaD.mp hx
  have h4:=qaY.mp hv
  have h5:=(dG hn).mp (qaY.mp h4.1).1
  have h6:=of_decide_eq_true h4.2
  by_cases hlt:v.length < e
  ·exact absurd (h1 v h5 hlt) h6
  ·lia
theorem jG {st:Sto}{f ws:List Int}{n:Nat}{b:Bool} (h:FW f ws n):m__law_barred [.d (ag f),.d (ag ws),.d (.str (bP b))] st=some (.d (.int (lbI (uG f ws) n b)),st):=by
 have hn6:=h.n6
 have h64:2 ^ n<=64:=bO hn6
 have e1:=iZ (st:=st) h.lf hn6
 have k3:=vF (st:=st) h
 have hz3:(b8 0 (ws.map D.int)).length<=1000000:=by rw [eK,qaf,h.lw];lia
 have e4:=jO (st:=st++[.l [.int ((n:Int)+1)]]) hn6 (n:Int)
 obtain⟨SD,hSD⟩:∃ SD,((List.range (2 ^ n)).map (uG f ws)).map D.int=SD:=⟨_,rfl⟩
 have hzs:(b8 0 SD).length<=1000000:=by rw [<-hSD,eK,qaf,qaf,qbB];lia
 have hsum:∀ (s:Sto) (t:List Int),Trm n t->∃ L,lcI (.tp [0,1]) dg de [none,none,some (.d (.str (bP b))),some (.d (ag t))] (b8 0 SD) s=some (L,s)/\jA s [.d (.lst L)]=some (.int (SU (uG f ws) n b t)):=λs t ht=>by
  have k:=zG (st:=s) (u:=uG f ws) (b:=b) hn6 ht
  obtain⟨L,l1,l2⟩:=sA (aR b t) ((List.range (2 ^ n)).map (uG f ws)) 0
  rw [l1,hSD] at k
  refine⟨_,k,?_⟩
  show ((bQ (L.map D.int)).map λns=>D.int ns.sum)=_
  rw [ci,qak,l2,ze]
 rw [hSD] at k3
 obtain⟨o6,hF⟩:=xN (st:=st) (F:=ag f) (WD:=ag ws) hn6 hzs hsum
 obtain⟨SZ,hSZ⟩:∃ SZ,st++[C.l ((((n:Int)+1)::eQ (uG f ws) n b (tlT n n)).map D.int)]=SZ:=⟨_,rfl⟩
 have hmi:dMi SZ [.h st.length]=some (.int (lbI (uG f ws) n b)):=by
  rw [<-hSZ]
  show ((lg (st++[C.l ((((n:Int)+1)::eQ (uG f ws) n b (tlT n n)).map D.int)]) st.length).bind bQ).bind (λns=>(mZ ns none).map D.int)=_
  rw [me,qad,ci,qad];rfl
 have htake:SZ.take st.length=st:=by rw [<-hSZ,pW]
 rw [hSZ] at hF
 have hen:∀ env s,iV 1 env s=some (.d (ag ws),s)->io (ae (iV 1) ai) env s=some (b8 0 (ws.map D.int),s):=λenv s he=>by
  have:=au (b:=ai) he rfl
  show ((ae (iV 1) ai env s).bind λr=>match r.1 with | [.d (.tup ds)]=>some (b8 0 ds,r.2) | [.d (.lst ds)]=>some (b8 0 ds,r.2) | _=>none)=_
  rw [this];rfl
 clear hSZ hSD hsum
 generalize b8 0 (ws.map D.int)=EN at *
 generalize (tlT n n).map ag=TT at *
 generalize lbI (uG f ws) n b=LB at *
 generalize ag f=FD at *
 generalize ag ws=WD at *
 generalize bP b=kd at *
 have q3:aG (.nm 3) (av m__law_switches (ae (iV 0) ai)) [some (.d FD),some (.d WD),some (.d (.str kd)),none,none,none,none] st=some (.nx [some (.d FD),some (.d WD),some (.d (.str kd)),some (.d (.int (n:Nat))),none,none,none] st):=aO (i:=3) (ao rfl e1)
 have q4:aG (.nm 4) (aD (iLc 2 [0] (io (ae (iV 1) ai)) (.tp [0,1]) cC ef)) [some (.d FD),some (.d WD),some (.d (.str kd)),some (.d (.int (n:Nat))),none,none,none] st=some (.nx [some (.d FD),some (.d WD),some (.d (.str kd)),some (.d (.int (n:Nat))),some (.d (.lst SD)),none,none] st):=aO (i:=4) (aQ (b6 (hen _ _ rfl) hz3 k3))
 have q5:aG (.nm 5) (lP (dF (ae (iOp dm (iV 3) (iC (.int 1))) ai))) [some (.d FD),some (.d WD),some (.d (.str kd)),some (.d (.int (n:Nat))),some (.d (.lst SD)),none,none] st=some (.nx [some (.d FD),some (.d WD),some (.d (.str kd)),some (.d (.int (n:Nat))),some (.d (.lst SD)),some (.h st.length),none] (st++[.l [.int ((n:Int)+1)]])):=rfl
 have q6:gN (br (av m__law_terms (ae (iV 3) (ae (iV 3) ai)))) (.nm 6) dc [some (.d FD),some (.d WD),some (.d (.str kd)),some (.d (.int (n:Nat))),some (.d (.lst SD)),some (.h st.length),none] (st++[.l [.int ((n:Int)+1)]])=some (.nx [some (.d FD),some (.d WD),some (.d (.str kd)),some (.d (.int (n:Nat))),some (.d (.lst SD)),some (.h st.length),o6] SZ):=jc (fW (ao rfl e4)) hF
 have hq:=jl (n:=7) (k:=3) (b:=b__law_barred) (ws:=[.d FD,.d WD,.d (.str kd)]) (st:=st) (s:=SZ) (x:=.int LB) rfl (aq q3 (aq q4 (aq q5 (aq q6 (aX (az rfl hmi))))))
 rw [htake] at hq
 exact hq
end Own
end
section
set_option maxHeartbeats 1000000
namespace Own
open PySem L2
theorem BO {u:Nat->Int}{n e:Nat}{b:Bool} (hn:n<=6) (h:Lst u n b e):oT u n b ((e:Int) - 1)=true:=by
 unfold oT
 rw [qaJ]
 intro t ht
 have h1:=qaY.mp ht
 have h2:=of_decide_eq_true h1.2
 rw [h.1 t ((dG hn).mp h1.1) (by lia)];rfl
theorem Bh {u:Nat->Int}{n e:Nat}{b:Bool} (hn:n<=6) (h:Lst u n b e):oT u n b (e:Int)=false:=by
 obtain⟨_,t,t1,t2,t3⟩:=h
 rw [Bool.eq_false_iff]
 intro z
 unfold oT at z
 rw [qaJ] at z
 exact t3 (eq_of_beq (z t (qaY.mpr ⟨(dG hn).mpr t1,decide_eq_true (by rw [t2];exact qfa _)⟩)))
theorem rc {ws vs:List Int} (h1:∀ x ∈ ws,0<=x) (h2:∀ x ∈ vs,0<=x) (hl:0 < ws.length) (h:∃ x ∈ uwt ws vs,0 < x):(∃ x ∈ ws,0 < x)/\∃ x ∈ vs,0 < x:=by
 obtain⟨x,hx,x0⟩:=h
 obtain⟨i,hi,rfl⟩:=qaD.mp hx
 have hi':=qa7.mp hi
 rw [df (qcq _ hl),df (dO hi')] at x0
 have a:=h1 _ (qa8 (qcq i hl))
 have c:=h2 _ (qa8 (dO hi'))
 refine⟨⟨_,qa8 (qcq i hl),?_⟩,⟨_,qa8 (dO hi'),?_⟩⟩
 ·by_cases z:ws[i % ws.length]'(qcq i hl)=0
  ·rw [z,qcF] at x0;exact absurd x0 (by decide)
  ·lia
 ·by_cases z:vs[i / ws.length]'(dO hi')=0
  ·rw [z,qce] at x0;exact absurd x0 (by decide)
  ·lia
theorem uh {st:Sto}{f g ws vs:List Int}{n m:Nat}{b:Bool} (h1:FW f ws n) (h2:FW g vs m) (h:n+m<=6) (hp:∃ x ∈ uwt ws vs,0 < x) :
  m__law_both_right [.d (ag f),.d (ag g),.d (ag (uwt ws vs)),.d (.str (bP b)),.d (.lst [.int (lbI (uG f ws) n b),.int (lbI (uG g vs) m b)])] st=some (.d (.bl true),st):=by
 have hB:=h1.beside h2 h
 have n6:=h1.n6
 have m6:=h2.n6
 have p0:0 < 2 ^ n:=qcA (by decide)
 have p64:=lj h
 have pn:=bO n6
 have pm:=bO m6
 obtain⟨hp1,hp2⟩:=rc h1.nn h2.nn (by rw [h1.lw];exact p0) hp
 obtain⟨a1,L1⟩:=h1.lst hp1 b
 obtain⟨a2,L2⟩:=h2.lst hp2 b
 have LB:Lst (uG (unl f g) (uwt ws vs)) (n+m) b (a1+a2):=(L1.beside L2).congr λr hr=>uE h1 h2 hr
 have LF:Lst (uG (unl f g) (uwt ws vs)) (n+m) false (a1+a2):=LB.any
 rw [rQ n6 L1,rQ m6 L2]
 have e5:=uc (st:=st) (f:=f) (g:=g) (by rw [h1.lf];exact p0) (by rw [h1.lf];exact pn) (by rw [h2.lf];exact pm) (by rw [h1.lf,h2.lf];exact p64)
 have s1:=iZ (st:=st) h1.lf n6
 have s2:=iZ (st:=st) h2.lf m6
 have e8:=jG (st:=st) (b:=b) hB
 rw [rQ h LB] at e8
 have e9:=qN (st:=st) hB LF
 have t1:=jO (st:=st) h (((a1+a2:Nat):Int) - 1)
 have t2:=jO (st:=st) h ((a1+a2:Nat):Int)
 have i1:=sM (st:=st) (b:=b) (m:=((a1+a2:Nat):Int) - 1) hB hp
 have i2':=sM (st:=st) (b:=b) (m:=((a1+a2:Nat):Int)) hB hp
 rw [BO h LB] at i1
 rw [Bh h LB] at i2'
 have he6:a1+a2<=6:=by
  obtain⟨_,t,x1,x2,_⟩:=LB
  have:=jj x1
  lia
 have hadd:dm st (.d (.int (n:Nat))) (.d (.int (m:Nat)))=some (.int ((n+m:Nat):Int)):=by
  show some (D.int ((n:Int)+(m:Int)))=_
  rw [<-qfI]
 have hsm:jA st [.d (.lst [.int (a1:Nat),.int (a2:Nat)])]=some (.int ((a1+a2:Nat):Int)):=by
  show some (D.int ((a1:Int)+((a2:Int)+0)))=_
  rw [qdy,<-qfI]
 generalize a1+a2=e at *
 obtain⟨R,hR⟩:∃ R,fS st [.d (.int (e:Int))]=some (.str R):=by
  refine⟨_,if_pos ?_⟩
  have:e=0\/e=1\/e=2\/e=3\/e=4\/e=5\/e=6:=by lia
  rcases this with rfl | rfl | rfl | rfl | rfl | rfl | rfl<;>decide
 have hRR:dNe st (.d (.str R)) (.d (.str R))=some (.bl false):=by
  show some (D.bl (!(R==R)))=_
  rw [beq_self_eq_true];rfl
 have hlt:dLt st (.d (.int (e:Int))) (.d (.int (e:Int)))=some (.bl false):=by
  show some (D.bl (decide ((e:Int) < (e:Int))))=_
  rw [decide_eq_false (Int.lt_irrefl _)]
 clear LB LF L1 L2 hB
 generalize (tlT (n+m) ((e:Int) - 1)).map ag=T1 at *
 generalize (tlT (n+m) (e:Int)).map ag=T2 at *
 generalize ag (unl f g)=UD at *
 generalize ag (uwt ws vs)=WD at *
 generalize ag f=FD at *
 generalize ag g=GD at *
 generalize bP b=kd at *
 generalize D.lst [.int (a1:Nat),.int (a2:Nat)]=SL at *
 have q5:uS 5 6 (ae (av m_unlike (ae (iV 0) (ae (iV 1) ai))) (ae (iCB jA (ae (iV 4) ai)) ai)) [some (.d FD),some (.d GD),some (.d WD),some (.d (.str kd)),some (.d SL),none,none,none,none,none] st=some (.nx [some (.d FD),some (.d GD),some (.d WD),some (.d (.str kd)),some (.d SL),some (.d UD),some (.d (.int (e:Nat))),none,none,none] st):=by
  have:=au (a:=av m_unlike (ae (iV 0) (ae (iV 1) ai))) (b:=ae (iCB jA (ae (iV 4) ai)) ai) (env:=[some (.d FD),some (.d GD),some (.d WD),some (.d (.str kd)),some (.d SL),none,none,none,none,none]) (st:=st) (ao rfl e5) (au (az rfl hsm) rfl)
  simp only [uS,this,qad]
  rfl
 have q7:aG (.nm 7) (iOp dm (av m__law_switches (ae (iV 0) ai)) (av m__law_switches (ae (iV 1) ai))) [some (.d FD),some (.d GD),some (.d WD),some (.d (.str kd)),some (.d SL),some (.d UD),some (.d (.int (e:Nat))),none,none,none] st=some (.nx [some (.d FD),some (.d GD),some (.d WD),some (.d (.str kd)),some (.d SL),some (.d UD),some (.d (.int (e:Nat))),some (.d (.int ((n+m:Nat):Int))),none,none] st):=aO (i:=7) (ax (ao rfl s1) (ao rfl s2) hadd)
 have q8:aG (.nm 8) (av m__law_barred (ae (iV 5) (ae (iV 2) (ae (iV 3) ai)))) [some (.d FD),some (.d GD),some (.d WD),some (.d (.str kd)),some (.d SL),some (.d UD),some (.d (.int (e:Nat))),some (.d (.int ((n+m:Nat):Int))),none,none] st=some (.nx [some (.d FD),some (.d GD),some (.d WD),some (.d (.str kd)),some (.d SL),some (.d UD),some (.d (.int (e:Nat))),some (.d (.int ((n+m:Nat):Int))),some (.d (.int (e:Nat))),none] st):=aO (i:=8) (ao rfl e8)
 have q9:aG (.nm 9) (iCB eH (ae (av m__law_terms (ae (iV 7) (ae (iOp gL (iV 8) (iC (.int 1))) ai))) ai)) [some (.d FD),some (.d GD),some (.d WD),some (.d (.str kd)),some (.d SL),some (.d UD),some (.d (.int (e:Nat))),some (.d (.int ((n+m:Nat):Int))),some (.d (.int (e:Nat))),none] st=some (.nx [some (.d FD),some (.d GD),some (.d WD),some (.d (.str kd)),some (.d SL),some (.d UD),some (.d (.int (e:Nat))),some (.d (.int ((n+m:Nat):Int))),some (.d (.int (e:Nat))),some (.d (.tup T1))] st):=aO (i:=9) (az (d:=.tup T1) (au (ao (au rfl (au (ax rfl rfl rfl) rfl)) t1) rfl) rfl)
 exact aM (n:=10) (k:=5) (b:=b__law_both_right) rfl (aq q5 (aq q7 (aq q8 (aq (ir (sW (aY rfl rfl hlt) (aY (az (au (ao rfl e9) rfl) hR) (az rfl hR) hRR)) rfl) (aq q9 (aX (mm (ax (ao rfl i1) rfl rfl) (ax (ao (au rfl (au rfl (au (az (d:=.tup T2) (au (ao rfl t2) rfl) rfl) rfl))) i2') rfl rfl))))))))
end Own
end
section
set_option maxHeartbeats 1000000
namespace Own
open PySem L2
theorem wT {te:Ef}{m:Int} (N:Nat) (hte:∀ (d:D) (s:Sto),te [some (.d d),some (.h 1)] s=m__law_take [.h 1,.d (.int m)] s) (m0:0 < m) (m1:m<=100) {p:Spo}{Z:Int} (h:okP p Z) (hZ:Z+N < 900000000) (rest:Sto) :
  ∃ (l:List Int) (p':Spo),l.length=N/\(∀ x ∈ l,0<=x/\x < m)/\okP p' (Z+N)/\lcI (.nm 0) cC te [none,some (.h 1)] (bF 0 N) (spo p rest)=some (l.map D.int,spo p' rest):=by
 obtain⟨ys,s',hL,p3,l,rfl,rfl,h3,hv,hl⟩:=kO (g:=.nm 0) (tt:=cC) (te:=te) (env:=[none,some (.h 1)]) (ds:=bF 0 N)
  (λi ys s=>∃ p l,ys=l.map D.int/\s=spo p rest/\okP p (Z+i)/\(∀ x ∈ l,0<=x/\x < m)/\l.length=i) (st:=spo p rest) (ys0:=[]) ⟨p,[],rfl,rfl,h.mono (by lia),(λx hx=>nomatch hx),rfl⟩ (by
  rintro i d ys s hd ⟨p,l,rfl,rfl,hp,hv,hl⟩
  obtain⟨rfl,hi⟩:=cF hd
  obtain⟨r,p',r0,r1,hp',e⟩:=eA hp (by lia) (m:=m) m0 (by lia)
  refine⟨_,rfl,.inl ⟨_,_,_,rfl,(hte _ _).trans (e rest),p',l++[r],by rw [qbs];rfl,rfl,hp'.mono (by push_cast;lia),λz hz=>?_,by simp [hl]⟩⟩
  rcases qbg.mp hz with hz | hz
  ·exact hv z hz
  ·rw [qaz.mp hz];exact⟨r0,r1⟩)
 rw [cc] at hl h3
 exact⟨l,p3,hl,hv,h3,hL⟩
theorem wG {st:Sto}{row:List Int}{n:Nat} (hn:row.length=n+1) (hn6:n<=6) (hd:(b4 row).length=0):m_counts_bar [.d (ag row)] st=some (.d .non,st):=by
 have e1:=kW (st:=st) hn hn6
 rw [hd] at e1
 have hlt:=cu (st:=st) row
 generalize ag row=TR at *
 have hq:=jl (n:=7) (k:=1) (b:=b_counts_bar) (ws:=[.d TR]) (st:=st) (x:=.non) rfl
  (aq (aO (i:=1) (ax (d:=.int ((row.length:Int) - 1)) (az rfl hlt) rfl rfl)) (xC (qw (aY (ao rfl e1) rfl (fL _ _ _)) (aX rfl))))
 rw [qcg] at hq
 exact hq
noncomputable def B4 (row:List Int):Bool:=(b4 row).length==0 || (cbL row (row.length - 1)).all λx=>decide (x < 4611686018427387904)
theorem wx:∀ m:Fin 8,(ux m.val).all B4=true:=by decide +kernel
theorem BA {row:List Int}{n:Nat} (h01:kr row) (hn:row.length=n+1) (hn6:n<=6) (hd:(b4 row).length≠0):∀ x ∈ cbL row n,x < 4611686018427387904:=λx hx=>by
 have h:=qaJ.mp (wx ⟨row.length,by lia⟩) row (mh row h01)
 have e:row.length - 1=n:=by lia
 have hd':((b4 row).length==0)=false:=by rw [beq_eq_false_iff_ne];exact hd
 unfold B4 at h
 rw [e,hd',qfV,qaJ] at h
 exact of_decide_eq_true (h x hx)
theorem t8 {p:Spo}{Z:Int} (rest:Sto) (h:okP p Z) (hZ:Z < 800000000):∃ (n m:Nat) (p':Spo),n+m<=6/\okP p' (Z+4)/\m__law_sizes [.h 1] (spo p rest)=some (.d (.lst [.int (n:Nat),.int (m:Nat)]),spo p' rest):=by
 obtain⟨a,p1,a0,a1,h1,e1⟩:=eA h (by lia) (m:=4) (by decide) (by decide)
 obtain⟨c,p2,c0,c1,h2,e2⟩:=eA h1 (by lia) (m:=4) (by decide) (by decide)
 obtain⟨k,p3,k0,k1,h3,e3⟩:=eA h2 (by lia) (m:=6) (by decide) (by decide)
 have e1':=e1 rest
 have e2':=e2 rest
 have e3':=e3 rest
 have q1:aG (.nm 1) (aD (dF (ae (av m__law_take (ae (iV 0) (ae (iC (.int 4)) ai))) (ae (av m__law_take (ae (iV 0) (ae (iC (.int 4)) ai))) ai)))) [some (.h 1),none,none] (spo p rest)=some (.nx [some (.h 1),some (.d (.lst [.int a,.int c])),none] (spo p2 rest)):=by
  have:=au (a:=av m__law_take (ae (iV 0) (ae (iC (.int 4)) ai))) (b:=ae (av m__law_take (ae (iV 0) (ae (iC (.int 4)) ai))) ai) (env:=[some (.h 1),none,none]) (st:=spo p rest) (ao rfl e1') (au (ao rfl e2') rfl)
  refine aO (i:=1) (aQ ?_)
  simp only [dF,this,qad]
  rfl
 by_cases hk:k=0
 ·obtain⟨x,p4,x0,x1,h4,e4⟩:=eA h3 (by lia) (m:=7) (by decide) (by decide)
  have e4':=e4 rest
  obtain⟨y,rfl⟩:=qbU x0
  refine⟨y,6 - y,p4,by lia,h4.mono (by lia),?_⟩
  have hs:(6:Int) - (y:Int)=((6 - y:Nat):Int):=by lia
  rw [<-hs]
  exact aM (n:=3) (k:=1) (b:=b__law_sizes) rfl (aq q1 (aq (qw (aY (ao rfl e3') rfl (by rw [fL,hk];rfl)) (aq (aO (i:=2) (ao rfl e4')) (aO (i:=1) (w:=.d (.lst [.int (y:Nat),.int (6 - (y:Int))])) rfl))) (aX rfl)))
 ·have hk':(k==0)=false:=by rw [beq_eq_false_iff_ne];exact hk
  obtain⟨x,rfl⟩:=qbU a0
  obtain⟨y,rfl⟩:=qbU c0
  refine⟨x,y,p3,by lia,h3.mono (by lia),?_⟩
  exact aM (n:=3) (k:=1) (b:=b__law_sizes) rfl (aq q1 (aq (ir (aY (ao rfl e3') rfl (by rw [fL,hk'])) rfl) (aX rfl)))
theorem wu {p:Spo}{Z:Int}{f:List Int} (h:okP p Z) (hf:f.length<=64) (hZ:Z < 700000000) (rest:Sto):∃ (l:List Int) (p':Spo),l.length=f.length/\(∀ x ∈ l,0<=x/\x < 1000000000)/\okP p' (Z+2*64)/\lcI (.nm 0) cC dW [none,some (.h 1)] (f.map D.int) (spo p rest)=some (l.map D.int,spo p' rest):=by
 obtain⟨ys,s',hL,p3,l,rfl,rfl,h3,hv,hl⟩:=kO (g:=.nm 0) (tt:=cC) (te:=dW) (env:=[none,some (.h 1)]) (ds:=f.map D.int)
  (λi ys s=>∃ p l,ys=l.map D.int/\s=spo p rest/\okP p (Z+2*i)/\(∀ x ∈ l,0<=x/\x < 1000000000)/\l.length=i) (st:=spo p rest) (ys0:=[]) ⟨p,[],rfl,rfl,h.mono (by lia),(λx hx=>nomatch hx),rfl⟩ (by
  rintro i d ys s hd ⟨p,l,rfl,rfl,hp,hv,hl⟩
  have hi:=(qan.mp hd).1
  rw [qaf] at hi
  obtain⟨r,p1,r0,r1,hp1,e1⟩:=eA hp (by lia) (m:=3) (by decide) (by decide)
  have e1':=e1 rest
  obtain⟨M,M0,M1,hM⟩:∃ M:Int,0 < M/\M<=1000000000/\∀ s,dIx s (.d (.lst [.int 2,.int 9,.int 1000000000])) (.d (.int r))=some (.int M):=by
   have:r=0\/r=1\/r=2:=by lia
   rcases this with rfl | rfl | rfl
   ·exact⟨2,by decide,by decide,λs=>rfl⟩
   ·exact⟨9,by decide,by decide,λs=>rfl⟩
   ·exact⟨1000000000,by decide,by decide,λs=>rfl⟩
  obtain⟨x,p2,x0,x1,hp2,e2⟩:=eA hp1 (by lia) (m:=M) M0 (by lia)
  have e2':=e2 rest
  have hl3:aD (dF (ae (iC (.int 2)) (ae (iC (.int 9)) (ae (iOp tV (iC (.int 10)) (iC (.int 9))) ai)))) [some (.d d),some (.h 1)] (spo p rest)=some (.d (.lst [.int 2,.int 9,.int 1000000000]),spo p rest):=by
   refine aQ ?_
   have hpw:iOp tV (iC (.int 10)) (iC (.int 9)) [some (.d d),some (.h 1)] (spo p rest)=some (.d (.int 1000000000),spo p rest):=ax rfl rfl (by rfl)
   simp only [dF,ae,ai,iC,hpw,qad,qak]
   rfl
  refine⟨_,rfl,.inl ⟨_,_,_,rfl,ao (au rfl (au (ax hl3 (ao rfl e1') (hM _)) rfl)) e2',p2,l++[x],by rw [qbs];rfl,rfl,hp2.mono (by push_cast;lia),λz hz=>?_,by simp [hl]⟩⟩
  rcases qbg.mp hz with hz | hz
  ·exact hv z hz
  ·rw [qaz.mp hz];exact⟨x0,by lia⟩)
 rw [qaf] at hl h3
 exact⟨l,p3,hl,hv,h3.mono (by lia),hL⟩
end Own
end
section
set_option maxHeartbeats 1000000
namespace Own
open PySem L2
theorem xl {i:Int} (h:i.natAbs < 2 ^ 200):decide (i.natAbs.log2 < 1920)=true:=by
 refine decide_eq_true ?_
 rcases Nat.eq_zero_or_pos i.natAbs with h0 | hp
 ·rw [h0];decide
 ·exact qgQ ((qe5 (qb4 hp)).mpr h) (by decide)
theorem qf:∀ {t:List Int},(∀ k ∈ t,k.natAbs < 2 ^ 200)->kI (t.map D.int)=true/\nS (t.map D.int)<=2002*t.length/\oy (t.map D.int)<=1
 | [],_=>by rw [qba,kI,nS,oy];exact⟨rfl,qaZ _,qaZ _⟩
 | k::t,h=>by
  obtain⟨a,b,c⟩:=qf (t:=t) λx hx=>h x (qah _ hx)
  rw [qal,kI,nS,oy,rpD,wtD,dpD,xl (h k qai),a,qaj]
  ·exact⟨rfl,by lia,by lia⟩
  all_goals (intro _ e;cases e)
theorem AM {t:List Int} (h:∀ k ∈ t,k.natAbs < 2 ^ 200) (hl:t.length<=64):∃ R,∀ s,fS s [.d (ag t)]=some (.str R):=by
 obtain⟨a,b,c⟩:=qf h
 refine⟨_,λs=>if_pos ⟨?_,?_,?_⟩⟩
 ·rw [rpD];exact a
 ·rw [wtD];lia
 ·rw [dpD];lia
theorem sX {p:Spo}{Z:Int}{n:Nat} (hn:n<=6) (h:okP p Z) (hZ:Z < 600000000) (rest:Sto):∃ (f ws:List Int) (p':Spo),FW f ws n/\(∀ x ∈ ws,0<=x/\x < 2 ^ 62)/\okP p' (Z+200)/\m__law_side [.h 1,.d (.int (n:Nat))] (spo p rest)=some (.d (.tup [ag f,ag ws]),spo p' rest):=by
 have h64:=bO hn
 obtain⟨row,p1,hrl,hrv,h1,e1⟩:=wT (te:=fT) (m:=2) (n+1) (λd s=>rfl) (by decide) (by decide) h (by lia) rest
 have h01:kr row:=λx hx=>by have:=hrv x hx;lia
 have hrow:Row row:=⟨h01,by lia,by lia⟩
 have e2:=pI (st:=spo p1 rest) hrow
 have hbl:(bcL row).length=2 ^ n:=by unfold bcL;simp [hrl]
 have hb01:kr (bcL row):=Bo h01
 have hrg:bw (ae (iOp dm (iV 1) (iC (.int 1))) ai) [some (.h 1),some (.d (.int (n:Nat))),none,none,none] (spo p rest)=some (bF 0 (n+1),spo p rest):=ij (z:=(n:Int)+1) (ax rfl rfl rfl) (by lia) (by lia) (by lia)
 have q2:aG (.nm 2) (iCB eH (ae (aD (iLc 1 [0] (bw (ae (iOp dm (iV 1) (iC (.int 1))) ai)) (.nm 0) cC fT)) ai)) [some (.h 1),some (.d (.int (n:Nat))),none,none,none] (spo p rest)=some (.nx [some (.h 1),some (.d (.int (n:Nat))),some (.d (ag row)),none,none] (spo p1 rest)):=aO (i:=2) (az (au (aQ (b6 hrg (by rw [cc];lia) e1)) rfl) rfl)
 have q3:aG (.nm 3) (av m_by_counts (ae (iV 2) ai)) [some (.h 1),some (.d (.int (n:Nat))),some (.d (ag row)),none,none] (spo p1 rest)=some (.nx [some (.h 1),some (.d (.int (n:Nat))),some (.d (ag row)),some (.d (ag (bcL row))),none] (spo p1 rest)):=aO (i:=3) (ao rfl e2)
 have fin:∀ (ws:List Int) (s:Sto),kg (ae (iV 3) (ae (iV 4) ai)) [some (.h 1),some (.d (.int (n:Nat))),some (.d (ag row)),some (.d (ag (bcL row))),some (.d (ag ws))] s=some (.d (.tup [ag (bcL row),ag ws]),s):=λws s=>rfl
 have drawn:∀ (p2:Spo) (w4:D),okP p2 (Z+20)->∃ (ws:List Int) (p3:Spo),ws.length=2 ^ n/\(∀ x ∈ ws,0<=x/\x < 1000000000)/\okP p3 (Z+200)/\aG (.nm 4) (iCB eH (ae (aD (iLc 1 [0] (br (iV 3)) (.nm 0) cC dW)) ai)) [some (.h 1),some (.d (.int (n:Nat))),some (.d (ag row)),some (.d (ag (bcL row))),some (.d w4)] (spo p2 rest)=some (.nx [some (.h 1),some (.d (.int (n:Nat))),some (.d (ag row)),some (.d (ag (bcL row))),some (.d (ag ws))] (spo p3 rest)):=λp2 w4 h2=>by
  obtain⟨ws,p3,w1,w2,h3,e3⟩:=wu (f:=bcL row) h2 (by rw [hbl];exact h64) (by lia) rest
  refine⟨ws,p3,by rw [w1,hbl],w2,h3.mono (by lia),aO (i:=4) (az (au (aQ (b6 (eJ rfl) (by rw [qaf,hbl];lia) e3)) rfl) rfl)⟩
 by_cases hd:(b4 row).length=0
 ·have e4:=wG (st:=spo p1 rest) hrl hn hd
  obtain⟨ws,p3,w1,w2,h3,e3⟩:=drawn p1 .non (h1.mono (by push_cast;lia))
  refine⟨bcL row,ws,p3,⟨hb01,hbl,w1,λx hx=>(w2 x hx).1,hn⟩,λx hx=>by have:=w2 x hx;lia,h3,?_⟩
  have hc:nR (bg ml (iV 4) (iC .non)) (bg dEq (av m__law_take (ae (iV 0) (ae (iC (.int 3)) ai))) (iC (.int 0))) [some (.h 1),some (.d (.int (n:Nat))),some (.d (ag row)),some (.d (ag (bcL row))),some (.d .non)] (spo p1 rest)=some (true,spo p1 rest):=rfl
  exact aM (n:=5) (k:=2) (b:=b__law_side) rfl (aq q2 (aq q3 (aq (aO (i:=4) (ao rfl e4)) (aq (qw hc e3) (aX (fin ws _))))))
 ·have F:=ul h01 hrl hn hd
  have e4:=yw (st:=spo p1 rest) hrl hn hd F.sh (λx hx=>by have:=F.w x hx;lia) (by obtain⟨c,c1,c2⟩:=F.p;exact⟨c,c1,by lia⟩)
  obtain⟨r,p2,r0,r1,h2,t1⟩:=eA h1 (by push_cast;lia) (m:=3) (by decide) (by decide)
  have t1':=t1 rest
  have hc:nR (bg ml (iV 4) (iC .non)) (bg dEq (av m__law_take (ae (iV 0) (ae (iC (.int 3)) ai))) (iC (.int 0))) [some (.h 1),some (.d (.int (n:Nat))),some (.d (ag row)),some (.d (ag (bcL row))),some (.d (ag (cbL row n)))] (spo p1 rest)=some (r==0,spo p2 rest):=sW (aY rfl rfl rfl) (aY (ao rfl t1') rfl (fL _ _ _))
  by_cases hr0:r=0
  ·obtain⟨ws,p3,w1,w2,h3,e3⟩:=drawn p2 (ag (cbL row n)) (h2.mono (by push_cast;lia))
   refine⟨bcL row,ws,p3,⟨hb01,hbl,w1,λx hx=>(w2 x hx).1,hn⟩,λx hx=>by have:=w2 x hx;lia,h3,?_⟩
   rw [hr0] at hc
   exact aM (n:=5) (k:=2) (b:=b__law_side) rfl (aq q2 (aq q3 (aq (aO (i:=4) (ao rfl e4)) (aq (qw hc e3) (aX (fin ws _))))))
  ·have hr':(r==0)=false:=by rw [beq_eq_false_iff_ne];exact hr0
   rw [hr'] at hc
   have hlt:=BA h01 hrl hn hd
   have hnn:=BY F
   refine⟨bcL row,cbL row n,p2,⟨hb01,hbl,z9 row n,hnn,hn⟩,λx hx=>⟨hnn x hx,by have:=hlt x hx;lia⟩,h2.mono (by push_cast;lia),?_⟩
   exact aM (n:=5) (k:=2) (b:=b__law_side) rfl (aq q2 (aq q3 (aq (aO (i:=4) (ao rfl e4)) (aq (ir hc rfl) (aX (fin (cbL row n) _))))))
end Own
end
section
set_option maxHeartbeats 1000000
namespace Own
open PySem L2
theorem mi {g:Tg}{f:Ef}{env e:Ev}{st s:Sto}{w:W} (h:f env st=some (w,s)) (hs:d7 g w env=some e):aG g f env st=some (.nx e s):=by
 simp only [aG,h,qad,hs,qak]
theorem zE {a b:Tf}{env:Ev}{st s:Sto}{r:Bool×Sto} (h:a env st=some (true,s)) (hb:b env s=some r):jg a b env st=some r:=by
 show ((a env st).bind λr=>if r.1=true then b env r.2 else some (false,r.2))=_
 rw [h];exact hb
theorem zn {a b:Tf}{env:Ev}{st s:Sto} (h:a env st=some (false,s)):jg a b env st=some (false,s):=by
 show ((a env st).bind λr=>if r.1=true then b env r.2 else some (false,r.2))=_
 rw [h];rfl
theorem tW {ws vs:List Int} (h1:∀ x ∈ ws,0<=x/\x < 2 ^ 62) (h2:∀ x ∈ vs,0<=x/\x < 2 ^ 62) (hl:0 < ws.length):∀ k ∈ uwt ws vs,k.natAbs < 2 ^ 200:=λk hk=>by
 obtain⟨i,hi,rfl⟩:=qaD.mp hk
 have hi':=qa7.mp hi
 rw [df (qcq _ hl),df (dO hi'),Int.natAbs_mul]
 have a:=h1 _ (qa8 (qcq i hl))
 have c:=h2 _ (qa8 (dO hi'))
 have a':(ws[i % ws.length]'(qcq i hl)).natAbs<=2 ^ 62:=by lia
 have c':(vs[i / ws.length]'(dO hi')).natAbs<=2 ^ 62:=by lia
 exact qfg (qdH a' c') (by decide)
theorem yJ {p:Spo}{Z i:Int}{ns:List Int}{o3 o4 o5 o6 o7 o8 o9 o10 o11 o12:Option W} (h:okP p Z) (hZ:Z < 500000000) :
  ∃ p' y3 y4 y5 y6 y7 y8 y9 y10 y11 y12,okP p' (Z+500)/\oQ [some (.d (.scr ns)),some (.h 1),some (.d (.int i)),o3,o4,o5,o6,o7,o8,o9,o10,o11,o12] (spo p [])=some (.nx [some (.d (.scr ns)),some (.h 1),some (.d (.int i)),y3,y4,y5,y6,y7,y8,y9,y10,y11,y12] (spo p' [])):=by
 obtain⟨n,m,p1,hnm,h1,e1⟩:=t8 [] h (by lia)
 obtain⟨f,ws,p2,hf,hw,h2,e2⟩:=sX (n:=n) (by lia) h1 (by lia) []
 obtain⟨g,vs,p3,hg,hv,h3,e3⟩:=sX (n:=m) (by lia) h2 (by lia) []
 have p0:0 < 2 ^ n:=qcA (by decide)
 have p64:=lj hnm
 have pn:=bO (n:=n) (by lia)
 have pm:=bO (n:=m) (by lia)
 have hl0:0 < ws.length:=by rw [hf.lw];exact p0
 have e9:=pJ (st:=spo p3 []) (f:=ws) (g:=vs) hl0 (by rw [hf.lw];exact pn) (by rw [hg.lw];exact pm) (by rw [hf.lw,hg.lw];exact p64) hv
 have hlu:(uwt ws vs).length=2 ^ n*2 ^ m:=by unfold uwt;rw [qaf,qbB,hf.lw,hg.lw]
 obtain⟨R,hR⟩:=AM (tW hw hv hl0) (by rw [hlu];exact p64)
 have hRR:∀ s,dNe s (.d (.str R)) (.d (.str R))=some (.bl false):=λs=>by
  show some (D.bl (!(R==R)))=_
  rw [beq_self_eq_true];rfl
 have k10:lcI (.nm 0) cC oj [none,some (.d (ag ws)),some (.d (ag f)),some (.d (ag vs))] (bF 0 (f.length*g.length)) (spo p3 [])=some ((uwt ws vs).map D.int,spo p3 []):=by
  have e1:=cu (st:=spo p3 []) f
  unfold uwt
  rw [hf.lw,hg.lw,hf.lf,hg.lf,<-oJ (F:=λd=>match d with | .int i=>.int (ws.getD (i.toNat % 2 ^ n) 0*vs.getD (i.toNat / 2 ^ n) 0) | d=>d) λi _=>by
   show D.int (ws.getD (((i:Nat):Int).toNat % 2 ^ n) 0*vs.getD (((i:Nat):Int).toNat / 2 ^ n) 0)=_
   rw [qat]]
  refine cS _ λd hd=>?_
  obtain⟨i,hi'⟩:=qa3.mp hd
  obtain⟨rfl,hi⟩:=cF hi'
  have hlt2:i / 2 ^ n < vs.length:=by rw [hg.lw];exact dO hi
  have hq:=hv _ (qa8 hlt2)
  rw [<-df hlt2] at hq
  have g1:=iY (st:=spo p3 []) (row:=ws) (k:=i % 2 ^ n) (by rw [hf.lw];exact qcq _ p0)
  have g2:=iY (st:=spo p3 []) (row:=vs) (k:=i / 2 ^ n) hlt2
  rw [hf.lf] at e1
  have c1:((i % 2 ^ n:Nat):Int)=(i:Int) % ((2 ^ n:Nat):Int):=Int.natCast_emod _ _
  have c2:((i / 2 ^ n:Nat):Int)=(i:Int) / ((2 ^ n:Nat):Int):=qfz _ _
  rw [c1] at g1
  rw [c2] at g2
  refine⟨_,rfl,?_⟩
  show _=some (W.d (D.int (ws.getD (((i:Nat):Int).toNat % 2 ^ n) 0*vs.getD (((i:Nat):Int).toNat / 2 ^ n) 0)),spo p3 [])
  rw [qat]
  exact ax (ax rfl (ax rfl (az rfl e1) (wb _ ⟨by lia,by lia⟩)) g1) (ax rfl (ax rfl (az rfl e1) (lN _ ⟨by lia,by lia⟩)) g2) (iO _ ⟨by lia,by lia⟩)
 have lf:=cu (st:=spo p3 []) f
 have lg':=cu (st:=spo p3 []) g
 have hz10:(bF 0 (f.length*g.length)).length<=1000000:=by rw [cc,hf.lf,hg.lf];lia
 obtain⟨r,p4,r0,r1,h4,t4⟩:=eA h3 (by lia) (m:=2) (by decide) (by decide)
 have t4':=t4 []
 obtain⟨b,hb⟩:∃ b:Bool,∀ s,dIx s (.d (.lst [.str "both",.str "odd"])) (.d (.int r))=some (.str (bP b)):=by
  have:r=0\/r=1:=by lia
  rcases this with rfl | rfl
  ·exact⟨true,λs=>rfl⟩
  ·exact⟨false,λs=>rfl⟩
 have b1:=jG (st:=spo p4 []) (b:=b) hf
 have b2:=jG (st:=spo p4 []) (b:=b) hg
 obtain⟨x0,hx0⟩:∃ x,x ∈ uwt ws vs:=by
  refine⟨_,qa8 (show 0 < (uwt ws vs).length by rw [hlu];exact Nat.mul_pos p0 (qcA (by decide)))⟩
 obtain⟨M,hM,_⟩:=wJ hx0
 have hmx:ww (spo p4 []) [.d (ag (uwt ws vs))]=some (.int M):=by
  show ((bQ ((uwt ws vs).map D.int)).bind λns=>(pp ns none).map D.int)=_
  rw [ci,qad,hM];rfl
 have hbr:0 < M->m__law_both_right [.d (ag f),.d (ag g),.d (ag (uwt ws vs)),.d (.str (bP b)),.d (.lst [.int (lbI (uG f ws) n b),.int (lbI (uG g vs) m b)])] (spo p4 [])=some (.d (.bl true),spo p4 []):=λM0=>uh hf hg hnm (by
  have hmem:∀ (l:List Int) (a M:Int),gM l a=M->M=a\/M ∈ l:=λl=>by
   induction l with
   | nil=>intro a M e;exact .inl e.symm
   | cons y l ih=>
    intro a M e
    rw [gM] at e
    rcases ih _ _ e with z | z
    ·split at z
     ·exact .inr (by rw [z];exact qai)
     ·exact .inl z
    ·exact .inr (qah _ z)
  refine⟨M,?_,M0⟩
  generalize uwt ws vs=U at *
  cases U with
  | nil=>cases hx0
  | cons y l=>
   rcases hmem l y M (qaA hM) with z | z
   ·rw [z];exact qai
   ·exact qah _ z)
 have hrg:∀ env,iV 5 env (spo p3 [])=some (.d (ag f),spo p3 [])->iV 7 env (spo p3 [])=some (.d (ag g),spo p3 [])->bw (ae (iOp cA (iCB bI (ae (iV 5) ai)) (iCB bI (ae (iV 7) ai))) ai) env (spo p3 [])=some (bF 0 (f.length*g.length),spo p3 []):=λenv v5 v7=>nG (az (au v5 rfl) lf) (az (au v7 rfl) lg') (by rw [hf.lf];exact pn) (by rw [hg.lf];exact pm) (by rw [hf.lf,hg.lf];exact p64)
 have hdt:∀ s:Sto,eH s [.d (.lst ((uwt ws vs).map D.int))]=some (ag (uwt ws vs)):=λs=>rfl
 refine⟨p4,some (.d (.int (n:Nat))),some (.d (.int (m:Nat))),some (.d (ag f)),some (.d (ag ws)),some (.d (ag g)),some (.d (ag vs)),some (.d (ag (uwt ws vs))),some (.d (.lst ((uwt ws vs).map D.int))),some (.d (.str (bP b))),some (.d (.lst [.int (lbI (uG f ws) n b),.int (lbI (uG g vs) m b)])),h4.mono (by lia),?_⟩
 clear hM hw hv hlu hx0
 generalize (uwt ws vs).map D.int=UL at *
 generalize ag (uwt ws vs)=UD at *
 generalize lbI (uG f ws) n b=A1 at *
 generalize lbI (uG g vs) m b=A2 at *
 generalize bP b=kd at *
 generalize bF 0 (f.length*g.length)=RG at *
 generalize ag f=FD at *
 generalize ag g=GD at *
 generalize ag ws=WD at *
 generalize ag vs=VD at *
 have q1:aG (.tp [3,4]) (av m__law_sizes (ae (iV 1) ai)) [some (.d (.scr ns)),some (.h 1),some (.d (.int i)),o3,o4,o5,o6,o7,o8,o9,o10,o11,o12] (spo p [])=some (.nx [some (.d (.scr ns)),some (.h 1),some (.d (.int i)),some (.d (.int (n:Nat))),some (.d (.int (m:Nat))),o5,o6,o7,o8,o9,o10,o11,o12] (spo p1 [])):=mi (ao rfl e1) rfl
 have q2:aG (.tp [5,6]) (av m__law_side (ae (iV 1) (ae (iV 3) ai))) [some (.d (.scr ns)),some (.h 1),some (.d (.int i)),some (.d (.int (n:Nat))),some (.d (.int (m:Nat))),o5,o6,o7,o8,o9,o10,o11,o12] (spo p1 [])=some (.nx [some (.d (.scr ns)),some (.h 1),some (.d (.int i)),some (.d (.int (n:Nat))),some (.d (.int (m:Nat))),some (.d FD),some (.d WD),o7,o8,o9,o10,o11,o12] (spo p2 [])):=mi (ao rfl e2) rfl
 have q3:aG (.tp [7,8]) (av m__law_side (ae (iV 1) (ae (iV 4) ai))) [some (.d (.scr ns)),some (.h 1),some (.d (.int i)),some (.d (.int (n:Nat))),some (.d (.int (m:Nat))),some (.d FD),some (.d WD),o7,o8,o9,o10,o11,o12] (spo p2 [])=some (.nx [some (.d (.scr ns)),some (.h 1),some (.d (.int i)),some (.d (.int (n:Nat))),some (.d (.int (m:Nat))),some (.d FD),some (.d WD),some (.d GD),some (.d VD),o9,o10,o11,o12] (spo p3 [])):=mi (ao rfl e3) rfl
 have q9:aG (.nm 9) (av m_unlike_weights (ae (iV 6) (ae (iV 8) ai))) [some (.d (.scr ns)),some (.h 1),some (.d (.int i)),some (.d (.int (n:Nat))),some (.d (.int (m:Nat))),some (.d FD),some (.d WD),some (.d GD),some (.d VD),o9,o10,o11,o12] (spo p3 [])=some (.nx [some (.d (.scr ns)),some (.h 1),some (.d (.int i)),some (.d (.int (n:Nat))),some (.d (.int (m:Nat))),some (.d FD),some (.d WD),some (.d GD),some (.d VD),some (.d UD),o10,o11,o12] (spo p3 [])):=aO (i:=9) (ao rfl e9)
 have q10:aG (.nm 10) (aD (iLc 1 [6,5,8] (bw (ae (iOp cA (iCB bI (ae (iV 5) ai)) (iCB bI (ae (iV 7) ai))) ai)) (.nm 0) cC oj)) [some (.d (.scr ns)),some (.h 1),some (.d (.int i)),some (.d (.int (n:Nat))),some (.d (.int (m:Nat))),some (.d FD),some (.d WD),some (.d GD),some (.d VD),some (.d UD),o10,o11,o12] (spo p3 [])=some (.nx [some (.d (.scr ns)),some (.h 1),some (.d (.int i)),some (.d (.int (n:Nat))),some (.d (.int (m:Nat))),some (.d FD),some (.d WD),some (.d GD),some (.d VD),some (.d UD),some (.d (.lst UL)),o11,o12] (spo p3 [])):=aO (i:=10) (aQ (b6 (hrg _ rfl rfl) hz10 k10))
 have qi:eF (bg dNe (iCB fS (ae (iV 9) ai)) (iCB fS (ae (iCB eH (ae (iV 10) ai)) ai))) (bn (iC (.bl false))) du [some (.d (.scr ns)),some (.h 1),some (.d (.int i)),some (.d (.int (n:Nat))),some (.d (.int (m:Nat))),some (.d FD),some (.d WD),some (.d GD),some (.d VD),some (.d UD),some (.d (.lst UL)),o11,o12] (spo p3 [])=some (.nx [some (.d (.scr ns)),some (.h 1),some (.d (.int i)),some (.d (.int (n:Nat))),some (.d (.int (m:Nat))),some (.d FD),some (.d WD),some (.d GD),some (.d VD),some (.d UD),some (.d (.lst UL)),o11,o12] (spo p3 [])):=ir (aY (az rfl (hR _)) (az (au (az rfl (hdt _)) rfl) (hR _)) (hRR _)) rfl
 have q11:aG (.nm 11) (iOp dIx (aD (dF (ae (iC (.str "both")) (ae (iC (.str "odd")) ai)))) (av m__law_take (ae (iV 1) (ae (iC (.int 2)) ai)))) [some (.d (.scr ns)),some (.h 1),some (.d (.int i)),some (.d (.int (n:Nat))),some (.d (.int (m:Nat))),some (.d FD),some (.d WD),some (.d GD),some (.d VD),some (.d UD),some (.d (.lst UL)),o11,o12] (spo p3 [])=some (.nx [some (.d (.scr ns)),some (.h 1),some (.d (.int i)),some (.d (.int (n:Nat))),some (.d (.int (m:Nat))),some (.d FD),some (.d WD),some (.d GD),some (.d VD),some (.d UD),some (.d (.lst UL)),some (.d (.str kd)),o12] (spo p4 [])):=aO (i:=11) (ax rfl (ao rfl t4') (hb _))
 have q12:aG (.nm 12) (aD (dF (ae (av m__law_barred (ae (iV 5) (ae (iV 6) (ae (iV 11) ai)))) (ae (av m__law_barred (ae (iV 7) (ae (iV 8) (ae (iV 11) ai)))) ai)))) [some (.d (.scr ns)),some (.h 1),some (.d (.int i)),some (.d (.int (n:Nat))),some (.d (.int (m:Nat))),some (.d FD),some (.d WD),some (.d GD),some (.d VD),some (.d UD),some (.d (.lst UL)),some (.d (.str kd)),o12] (spo p4 [])=some (.nx [some (.d (.scr ns)),some (.h 1),some (.d (.int i)),some (.d (.int (n:Nat))),some (.d (.int (m:Nat))),some (.d FD),some (.d WD),some (.d GD),some (.d VD),some (.d UD),some (.d (.lst UL)),some (.d (.str kd)),some (.d (.lst [.int A1,.int A2]))] (spo p4 [])):=by
  have:=au (a:=av m__law_barred (ae (iV 5) (ae (iV 6) (ae (iV 11) ai)))) (b:=ae (av m__law_barred (ae (iV 7) (ae (iV 8) (ae (iV 11) ai)))) ai) (env:=[some (.d (.scr ns)),some (.h 1),some (.d (.int i)),some (.d (.int (n:Nat))),some (.d (.int (m:Nat))),some (.d FD),some (.d WD),some (.d GD),some (.d VD),some (.d UD),some (.d (.lst UL)),some (.d (.str kd)),o12]) (st:=spo p4 []) (ao rfl b1) (au (ao rfl b2) rfl)
  refine aO (i:=12) (aQ ?_)
  simp only [dF,this,qad]
  rfl
 have qz:sY [some (.d (.scr ns)),some (.h 1),some (.d (.int i)),some (.d (.int (n:Nat))),some (.d (.int (m:Nat))),some (.d FD),some (.d WD),some (.d GD),some (.d VD),some (.d UD),some (.d (.lst UL)),some (.d (.str kd)),some (.d (.lst [.int A1,.int A2]))] (spo p4 [])=some (.nx [some (.d (.scr ns)),some (.h 1),some (.d (.int i)),some (.d (.int (n:Nat))),some (.d (.int (m:Nat))),some (.d FD),some (.d WD),some (.d GD),some (.d VD),some (.d UD),some (.d (.lst UL)),some (.d (.str kd)),some (.d (.lst [.int A1,.int A2]))] (spo p4 [])):=by
  have hg1:bg dGt (iCB ww (ae (iV 9) ai)) (iC (.int 0)) [some (.d (.scr ns)),some (.h 1),some (.d (.int i)),some (.d (.int (n:Nat))),some (.d (.int (m:Nat))),some (.d FD),some (.d WD),some (.d GD),some (.d VD),some (.d UD),some (.d (.lst UL)),some (.d (.str kd)),some (.d (.lst [.int A1,.int A2]))] (spo p4 [])=some (decide (0 < M),spo p4 []):=aY (az rfl hmx) rfl rfl
  refine ir (s:=spo p4 []) ?_ rfl
  by_cases M0:0 < M
  ·rw [decide_eq_true M0] at hg1
   exact zE hg1 (rH (k:=true) (vq (ao rfl (hbr M0))))
  ·rw [decide_eq_false M0] at hg1
   exact zn hg1
 exact aq q1 (aq q2 (aq q3 (aq q9 (aq q10 (aq qi (aq q11 (aq q12 qz)))))))
theorem wI (ns:List Int) (hl:ns.length<=63):∃ st,m_law [.d (.scr ns)] []=some (.d (.bl true),st):=by
 obtain⟨p,hp,e1⟩:=uU ns hl
 obtain⟨e',s',hF,p',x2,x3,x4,x5,x6,x7,x8,x9,x10,x11,x12,rfl,rfl,hp'⟩:=dz (g:=.nm 2) (body:=oQ) (ds:=bF 0 2)
  (λi env s=>∃ p x2 x3 x4 x5 x6 x7 x8 x9 x10 x11 x12,env=[some (.d (.scr ns)),some (.h 1),x2,x3,x4,x5,x6,x7,x8,x9,x10,x11,x12]/\s=spo p []/\okP p (500*(i:Int)))
  (env:=[some (.d (.scr ns)),some (.h 1),none,none,none,none,none,none,none,none,none,none,none]) (st:=spo p []) ⟨p,none,none,none,none,none,none,none,none,none,none,none,rfl,rfl,by simpa using hp⟩ (by
  rintro i d env s hd ⟨p,x2,x3,x4,x5,x6,x7,x8,x9,x10,x11,x12,rfl,rfl,hp⟩
  obtain⟨rfl,hi⟩:=cF hd
  obtain⟨p',y3,y4,y5,y6,y7,y8,y9,y10,y11,y12,hp',e⟩:=yJ (i:=(i:Int)) (ns:=ns) (o3:=x3) (o4:=x4) (o5:=x5) (o6:=x6) (o7:=x7) (o8:=x8) (o9:=x9) (o10:=x10) (o11:=x11) (o12:=x12) hp (by lia)
  exact⟨_,_,_,rfl,.inl e,p',_,_,_,_,_,_,_,_,_,_,_,rfl,rfl,hp'.mono (by push_cast;lia)⟩)
 exact⟨[],jl (n:=13) (k:=1) (b:=no) (st:=[]) rfl (aq (aO (i:=1) (ao rfl e1)) (aq (jc rfl hF) (aX rfl)))⟩
end Own
end
namespace Own
open PySem L2
theorem gU {us:List Value} (h:us.length=1):∃ a0,us=[a0]:=List.length_eq_one_iff.mp h
theorem zw {us:List Value}{n:Nat} (h:us.length=n+1):∃ a t,us=a::t/\t.length=n:=by
 cases us with
 | nil=>cases h
 | cons a t=>exact⟨a,t,rfl,Nat.succ.inj h⟩
theorem jx {us:List Value} (h:us.length=2):∃ a0 a1,us=[a0,a1]:=by
 obtain⟨a,t,rfl,k⟩:=zw h
 obtain⟨b,rfl⟩:=gU k
 exact⟨a,b,rfl⟩
theorem uK {us:List Value} (h:us.length=3):∃ a0 a1 a2,us=[a0,a1,a2]:=by
 obtain⟨a,t,rfl,k⟩:=zw h
 obtain⟨b,c,rfl⟩:=jx k
 exact⟨a,b,c,rfl⟩
theorem ya {us:List Value} (h:us.length=4):∃ a0 a1 a2 a3,us=[a0,a1,a2,a3]:=by
 obtain⟨a,t,rfl,k⟩:=zw h
 obtain⟨b,c,d,rfl⟩:=uK k
 exact⟨a,b,c,d,rfl⟩
theorem len5 {us:List Value} (h:us.length=5):∃ a0 a1 a2 a3 a4,us=[a0,a1,a2,a3,a4]:=by
 obtain⟨a,t,rfl,k⟩:=zw h
 obtain⟨b,c,d,e,rfl⟩:=ya k
 exact⟨a,b,c,d,e,rfl⟩
theorem txt_mk {K:PySem.W.Frag}{h:Heap}{mg:Str->Option Value} (X:K.In h) (G:h.Ns mainGlobals mg)
  {f0:Addr}{od0 an0:Option Addr}{sl0:Array (Option Value)}{oc0 kV0 dc0 pm0 cd0 ct0:Value}
  (a0:PySem.W.nsIn K mainGlobals "is_whole" = some (some (.ref f0))) (l0:K.lookup f0=some ⟨oc0,od0,.func (PySem.W.fnOf "is_whole" "is_whole" (aC cz) (am cz) (ab cz) .none kV0 dc0 pm0 an0 cd0 ct0),sl0⟩) (c0:PySem.W.codeIn K cd0 "is_whole" = true) (k0:PySem.W.keepIn K (.ref f0)=true)
  {f1:Addr}{od1 an1:Option Addr}{sl1:Array (Option Value)}{oc1 kV1 dc1 pm1 cd1 ct1:Value}
  (a1:PySem.W.nsIn K mainGlobals "are_amounts" = some (some (.ref f1))) (l1:K.lookup f1=some ⟨oc1,od1,.func (PySem.W.fnOf "are_amounts" "are_amounts" (aC bz) (am bz) (ab bz) .none kV1 dc1 pm1 an1 cd1 ct1),sl1⟩) (c1:PySem.W.codeIn K cd1 "are_amounts" = true) (k1:PySem.W.keepIn K (.ref f1)=true)
  {f2:Addr}{od2 an2:Option Addr}{sl2:Array (Option Value)}{oc2 kV2 dc2 pm2 cd2 ct2:Value}
  (a2:PySem.W.nsIn K mainGlobals "power_of_two" = some (some (.ref f2))) (l2:K.lookup f2=some ⟨oc2,od2,.func (PySem.W.fnOf "power_of_two" "power_of_two" (aC bB) (am bB) (ab bB) .none kV2 dc2 pm2 an2 cd2 ct2),sl2⟩) (c2:PySem.W.codeIn K cd2 "power_of_two" = true) (k2:PySem.W.keepIn K (.ref f2)=true)
  {f3:Addr}{od3 an3:Option Addr}{sl3:Array (Option Value)}{oc3 kV3 dc3 pm3 cd3 ct3:Value}
  (a3:PySem.W.nsIn K mainGlobals "on_in" = some (some (.ref f3))) (l3:K.lookup f3=some ⟨oc3,od3,.func (PySem.W.fnOf "on_in" "on_in" (aC eG) (am eG) (ab eG) .none kV3 dc3 pm3 an3 cd3 ct3),sl3⟩) (c3:PySem.W.codeIn K cd3 "on_in" = true) (k3:PySem.W.keepIn K (.ref f3)=true)
  {f4:Addr}{od4 an4:Option Addr}{sl4:Array (Option Value)}{oc4 kV4 dc4 pm4 cd4 ct4:Value}
  (a4:PySem.W.nsIn K mainGlobals "greatest_part" = some (some (.ref f4))) (l4:K.lookup f4=some ⟨oc4,od4,.func (PySem.W.fnOf "greatest_part" "greatest_part" (aC bu) (am bu) (ab bu) .none kV4 dc4 pm4 an4 cd4 ct4),sl4⟩) (c4:PySem.W.codeIn K cd4 "greatest_part" = true) (k4:PySem.W.keepIn K (.ref f4)=true)
  {f5:Addr}{od5 an5:Option Addr}{sl5:Array (Option Value)}{oc5 kV5 dc5 pm5 cd5 ct5:Value}
  (a5:PySem.W.nsIn K mainGlobals "lowered" = some (some (.ref f5))) (l5:K.lookup f5=some ⟨oc5,od5,.func (PySem.W.fnOf "lowered" "lowered" (aC cE) (am cE) (ab cE) .none kV5 dc5 pm5 an5 cd5 ct5),sl5⟩) (c5:PySem.W.codeIn K cd5 "lowered" = true) (k5:PySem.W.keepIn K (.ref f5)=true)
  {f6:Addr}{od6 an6:Option Addr}{sl6:Array (Option Value)}{oc6 kV6 dc6 pm6 cd6 ct6:Value}
  (a6:PySem.W.nsIn K mainGlobals "how_many_choices" = some (some (.ref f6))) (l6:K.lookup f6=some ⟨oc6,od6,.func (PySem.W.fnOf "how_many_choices" "how_many_choices" (aC aT) (am aT) (ab aT) .none kV6 dc6 pm6 an6 cd6 ct6),sl6⟩) (c6:PySem.W.codeIn K cd6 "how_many_choices" = true) (k6:PySem.W.keepIn K (.ref f6)=true)
  {f7:Addr}{od7 an7:Option Addr}{sl7:Array (Option Value)}{oc7 kV7 dc7 pm7 cd7 ct7:Value}
  (a7:PySem.W.nsIn K mainGlobals "multiplied" = some (some (.ref f7))) (l7:K.lookup f7=some ⟨oc7,od7,.func (PySem.W.fnOf "multiplied" "multiplied" (aC bT) (am bT) (ab bT) .none kV7 dc7 pm7 an7 cd7 ct7),sl7⟩) (c7:PySem.W.codeIn K cd7 "multiplied" = true) (k7:PySem.W.keepIn K (.ref f7)=true)
  {f8:Addr}{od8 an8:Option Addr}{sl8:Array (Option Value)}{oc8 kV8 dc8 pm8 cd8 ct8:Value}
  (a8:PySem.W.nsIn K mainGlobals "terms_to" = some (some (.ref f8))) (l8:K.lookup f8=some ⟨oc8,od8,.func (PySem.W.fnOf "terms_to" "terms_to" (aC cm) (am cm) (ab cm) .none kV8 dc8 pm8 an8 cd8 ct8),sl8⟩) (c8:PySem.W.codeIn K cd8 "terms_to" = true) (k8:PySem.W.keepIn K (.ref f8)=true)
  {f9:Addr}{od9 an9:Option Addr}{sl9:Array (Option Value)}{oc9 kV9 dc9 pm9 cd9 ct9:Value}
  (a9:PySem.W.nsIn K mainGlobals "value_of" = some (some (.ref f9))) (l9:K.lookup f9=some ⟨oc9,od9,.func (PySem.W.fnOf "value_of" "value_of" (aC cj) (am cj) (ab cj) .none kV9 dc9 pm9 an9 cd9 ct9),sl9⟩) (c9:PySem.W.codeIn K cd9 "value_of" = true) (k9:PySem.W.keepIn K (.ref f9)=true)
  {f10:Addr}{od10 an10:Option Addr}{sl10:Array (Option Value)}{oc10 kV10 dc10 pm10 cd10 ct10:Value}
  (a10:PySem.W.nsIn K mainGlobals "unlike_at" = some (some (.ref f10))) (l10:K.lookup f10=some ⟨oc10,od10,.func (PySem.W.fnOf "unlike_at" "unlike_at" (aC cb) (am cb) (ab cb) .none kV10 dc10 pm10 an10 cd10 ct10),sl10⟩) (c10:PySem.W.codeIn K cd10 "unlike_at" = true) (k10:PySem.W.keepIn K (.ref f10)=true)
  {f11:Addr}{od11 an11:Option Addr}{sl11:Array (Option Value)}{oc11 kV11 dc11 pm11 cd11 ct11:Value}
  (a11:PySem.W.nsIn K mainGlobals "unlike" = some (some (.ref f11))) (l11:K.lookup f11=some ⟨oc11,od11,.func (PySem.W.fnOf "unlike" "unlike" (aC cZ) (am cZ) (ab cZ) .none kV11 dc11 pm11 an11 cd11 ct11),sl11⟩) (c11:PySem.W.codeIn K cd11 "unlike" = true) (k11:PySem.W.keepIn K (.ref f11)=true)
  {f12:Addr}{od12 an12:Option Addr}{sl12:Array (Option Value)}{oc12 kV12 dc12 pm12 cd12 ct12:Value}
  (a12:PySem.W.nsIn K mainGlobals "unlike_weights" = some (some (.ref f12))) (l12:K.lookup f12=some ⟨oc12,od12,.func (PySem.W.fnOf "unlike_weights" "unlike_weights" (aC ba) (am ba) (ab ba) .none kV12 dc12 pm12 an12 cd12 ct12),sl12⟩) (c12:PySem.W.codeIn K cd12 "unlike_weights" = true) (k12:PySem.W.keepIn K (.ref f12)=true)
  {f13:Addr}{od13 an13:Option Addr}{sl13:Array (Option Value)}{oc13 kV13 dc13 pm13 cd13 ct13:Value}
  (a13:PySem.W.nsIn K mainGlobals "switches_of" = some (some (.ref f13))) (l13:K.lookup f13=some ⟨oc13,od13,.func (PySem.W.fnOf "switches_of" "switches_of" (aC bM) (am bM) (ab bM) .none kV13 dc13 pm13 an13 cd13 ct13),sl13⟩) (c13:PySem.W.codeIn K cd13 "switches_of" = true) (k13:PySem.W.keepIn K (.ref f13)=true)
  {f14:Addr}{od14 an14:Option Addr}{sl14:Array (Option Value)}{oc14 kV14 dc14 pm14 cd14 ct14:Value}
  (a14:PySem.W.nsIn K mainGlobals "told_rows" = some (some (.ref f14))) (l14:K.lookup f14=some ⟨oc14,od14,.func (PySem.W.fnOf "told_rows" "told_rows" (aC bX) (am bX) (ab bX) .none kV14 dc14 pm14 an14 cd14 ct14),sl14⟩) (c14:PySem.W.codeIn K cd14 "told_rows" = true) (k14:PySem.W.keepIn K (.ref f14)=true)
  {f15:Addr}{od15 an15:Option Addr}{sl15:Array (Option Value)}{oc15 kV15 dc15 pm15 cd15 ct15:Value}
  (a15:PySem.W.nsIn K mainGlobals "sign_at" = some (some (.ref f15))) (l15:K.lookup f15=some ⟨oc15,od15,.func (PySem.W.fnOf "sign_at" "sign_at" (aC cU) (am cU) (ab cU) .none kV15 dc15 pm15 an15 cd15 ct15),sl15⟩) (c15:PySem.W.codeIn K cd15 "sign_at" = true) (k15:PySem.W.keepIn K (.ref f15)=true)
  {f16:Addr}{od16 an16:Option Addr}{sl16:Array (Option Value)}{oc16 kV16 dc16 pm16 cd16 ct16:Value}
  (a16:PySem.W.nsIn K mainGlobals "many_on" = some (some (.ref f16))) (l16:K.lookup f16=some ⟨oc16,od16,.func (PySem.W.fnOf "many_on" "many_on" (aC cW) (am cW) (ab cW) .none kV16 dc16 pm16 an16 cd16 ct16),sl16⟩) (c16:PySem.W.codeIn K cd16 "many_on" = true) (k16:PySem.W.keepIn K (.ref f16)=true)
  {f17:Addr}{od17 an17:Option Addr}{sl17:Array (Option Value)}{oc17 kV17 dc17 pm17 cd17 ct17:Value}
  (a17:PySem.W.nsIn K mainGlobals "by_counts" = some (some (.ref f17))) (l17:K.lookup f17=some ⟨oc17,od17,.func (PySem.W.fnOf "by_counts" "by_counts" (aC b0) (am b0) (ab b0) .none kV17 dc17 pm17 an17 cd17 ct17),sl17⟩) (c17:PySem.W.codeIn K cd17 "by_counts" = true) (k17:PySem.W.keepIn K (.ref f17)=true)
  {f18:Addr}{od18 an18:Option Addr}{sl18:Array (Option Value)}{oc18 kV18 dc18 pm18 cd18 ct18:Value}
  (a18:PySem.W.nsIn K mainGlobals "ends_of" = some (some (.ref f18))) (l18:K.lookup f18=some ⟨oc18,od18,.func (PySem.W.fnOf "ends_of" "ends_of" (aC cD) (am cD) (ab cD) .none kV18 dc18 pm18 an18 cd18 ct18),sl18⟩) (c18:PySem.W.codeIn K cd18 "ends_of" = true) (k18:PySem.W.keepIn K (.ref f18)=true)
  {f19:Addr}{od19 an19:Option Addr}{sl19:Array (Option Value)}{oc19 kV19 dc19 pm19 cd19 ct19:Value}
  (a19:PySem.W.nsIn K mainGlobals "changes_of" = some (some (.ref f19))) (l19:K.lookup f19=some ⟨oc19,od19,.func (PySem.W.fnOf "changes_of" "changes_of" (aC bV) (am bV) (ab bV) .none kV19 dc19 pm19 an19 cd19 ct19),sl19⟩) (c19:PySem.W.codeIn K cd19 "changes_of" = true) (k19:PySem.W.keepIn K (.ref f19)=true)
  {f20:Addr}{od20 an20:Option Addr}{sl20:Array (Option Value)}{oc20 kV20 dc20 pm20 cd20 ct20:Value}
  (a20:PySem.W.nsIn K mainGlobals "share_of" = some (some (.ref f20))) (l20:K.lookup f20=some ⟨oc20,od20,.func (PySem.W.fnOf "share_of" "share_of" (aC cp) (am cp) (ab cp) .none kV20 dc20 pm20 an20 cd20 ct20),sl20⟩) (c20:PySem.W.codeIn K cd20 "share_of" = true) (k20:PySem.W.keepIn K (.ref f20)=true)
  {f21:Addr}{od21 an21:Option Addr}{sl21:Array (Option Value)}{oc21 kV21 dc21 pm21 cd21 ct21:Value}
  (a21:PySem.W.nsIn K mainGlobals "counts_bar" = some (some (.ref f21))) (l21:K.lookup f21=some ⟨oc21,od21,.func (PySem.W.fnOf "counts_bar" "counts_bar" (aC bL) (am bL) (ab bL) .none kV21 dc21 pm21 an21 cd21 ct21),sl21⟩) (c21:PySem.W.codeIn K cd21 "counts_bar" = true) (k21:PySem.W.keepIn K (.ref f21)=true)
  {f22:Addr}{od22 an22:Option Addr}{sl22:Array (Option Value)}{oc22 kV22 dc22 pm22 cd22 ct22:Value}
  (a22:PySem.W.nsIn K mainGlobals "signed_value" = some (some (.ref f22))) (l22:K.lookup f22=some ⟨oc22,od22,.func (PySem.W.fnOf "signed_value" "signed_value" (aC bC) (am bC) (ab bC) .none kV22 dc22 pm22 an22 cd22 ct22),sl22⟩) (c22:PySem.W.codeIn K cd22 "signed_value" = true) (k22:PySem.W.keepIn K (.ref f22)=true)
  {f23:Addr}{od23 an23:Option Addr}{sl23:Array (Option Value)}{oc23 kV23 dc23 pm23 cd23 ct23:Value}
  (a23:PySem.W.nsIn K mainGlobals "weighted" = some (some (.ref f23))) (l23:K.lookup f23=some ⟨oc23,od23,.func (PySem.W.fnOf "weighted" "weighted" (aC cn) (am cn) (ab cn) .none kV23 dc23 pm23 an23 cd23 ct23),sl23⟩) (c23:PySem.W.codeIn K cd23 "weighted" = true) (k23:PySem.W.keepIn K (.ref f23)=true)
  {f24:Addr}{od24 an24:Option Addr}{sl24:Array (Option Value)}{oc24 kV24 dc24 pm24 cd24 ct24:Value}
  (a24:PySem.W.nsIn K mainGlobals "are_weights" = some (some (.ref f24))) (l24:K.lookup f24=some ⟨oc24,od24,.func (PySem.W.fnOf "are_weights" "are_weights" (aC bA) (am bA) (ab bA) .none kV24 dc24 pm24 an24 cd24 ct24),sl24⟩) (c24:PySem.W.codeIn K cd24 "are_weights" = true) (k24:PySem.W.keepIn K (.ref f24)=true)
  {f25:Addr}{od25 an25:Option Addr}{sl25:Array (Option Value)}{oc25 kV25 dc25 pm25 cd25 ct25:Value}
  (a25:PySem.W.nsIn K mainGlobals "are_balanced" = some (some (.ref f25))) (l25:K.lookup f25=some ⟨oc25,od25,.func (PySem.W.fnOf "are_balanced" "are_balanced" (aC bq) (am bq) (ab bq) .none kV25 dc25 pm25 an25 cd25 ct25),sl25⟩) (c25:PySem.W.codeIn K cd25 "are_balanced" = true) (k25:PySem.W.keepIn K (.ref f25)=true)
  {f26:Addr}{od26 an26:Option Addr}{sl26:Array (Option Value)}{oc26 kV26 dc26 pm26 cd26 ct26:Value}
  (a26:PySem.W.nsIn K mainGlobals "is_bar" = some (some (.ref f26))) (l26:K.lookup f26=some ⟨oc26,od26,.func (PySem.W.fnOf "is_bar" "is_bar" (aC dC) (am dC) (ab dC) .none kV26 dc26 pm26 an26 cd26 ct26),sl26⟩) (c26:PySem.W.codeIn K cd26 "is_bar" = true) (k26:PySem.W.keepIn K (.ref f26)=true)
  {f27:Addr}{od27 an27:Option Addr}{sl27:Array (Option Value)}{oc27 kV27 dc27 pm27 cd27 ct27:Value}
  (a27:PySem.W.nsIn K mainGlobals "barred_to" = some (some (.ref f27))) (l27:K.lookup f27=some ⟨oc27,od27,.func (PySem.W.fnOf "barred_to" "barred_to" (aC bZ) (am bZ) (ab bZ) .none kV27 dc27 pm27 an27 cd27 ct27),sl27⟩) (c27:PySem.W.codeIn K cd27 "barred_to" = true) (k27:PySem.W.keepIn K (.ref f27)=true)
  {f28:Addr}{od28 an28:Option Addr}{sl28:Array (Option Value)}{oc28 kV28 dc28 pm28 cd28 ct28:Value}
  (a28:PySem.W.nsIn K mainGlobals "_law_spool" = some (some (.ref f28))) (l28:K.lookup f28=some ⟨oc28,od28,.func (PySem.W.fnOf "_law_spool" "_law_spool" (aC bK) (am bK) (ab bK) .none kV28 dc28 pm28 an28 cd28 ct28),sl28⟩) (c28:PySem.W.codeIn K cd28 "_law_spool" = true) (k28:PySem.W.keepIn K (.ref f28)=true)
  {f29:Addr}{od29 an29:Option Addr}{sl29:Array (Option Value)}{oc29 kV29 dc29 pm29 cd29 ct29:Value}
  (a29:PySem.W.nsIn K mainGlobals "_law_take" = some (some (.ref f29))) (l29:K.lookup f29=some ⟨oc29,od29,.func (PySem.W.fnOf "_law_take" "_law_take" (aC cf) (am cf) (ab cf) .none kV29 dc29 pm29 an29 cd29 ct29),sl29⟩) (c29:PySem.W.codeIn K cd29 "_law_take" = true) (k29:PySem.W.keepIn K (.ref f29)=true)
  {f30:Addr}{od30 an30:Option Addr}{sl30:Array (Option Value)}{oc30 kV30 dc30 pm30 cd30 ct30:Value}
  (a30:PySem.W.nsIn K mainGlobals "_law_term" = some (some (.ref f30))) (l30:K.lookup f30=some ⟨oc30,od30,.func (PySem.W.fnOf "_law_term" "_law_term" (aC bY) (am bY) (ab bY) .none kV30 dc30 pm30 an30 cd30 ct30),sl30⟩) (c30:PySem.W.codeIn K cd30 "_law_term" = true) (k30:PySem.W.keepIn K (.ref f30)=true)
  {f31:Addr}{od31 an31:Option Addr}{sl31:Array (Option Value)}{oc31 kV31 dc31 pm31 cd31 ct31:Value}
  (a31:PySem.W.nsIn K mainGlobals "_law_terms" = some (some (.ref f31))) (l31:K.lookup f31=some ⟨oc31,od31,.func (PySem.W.fnOf "_law_terms" "_law_terms" (aC bv) (am bv) (ab bv) .none kV31 dc31 pm31 an31 cd31 ct31),sl31⟩) (c31:PySem.W.codeIn K cd31 "_law_terms" = true) (k31:PySem.W.keepIn K (.ref f31)=true)
  {f32:Addr}{od32 an32:Option Addr}{sl32:Array (Option Value)}{oc32 kV32 dc32 pm32 cd32 ct32:Value}
  (a32:PySem.W.nsIn K mainGlobals "_law_sizes" = some (some (.ref f32))) (l32:K.lookup f32=some ⟨oc32,od32,.func (PySem.W.fnOf "_law_sizes" "_law_sizes" (aC bW) (am bW) (ab bW) .none kV32 dc32 pm32 an32 cd32 ct32),sl32⟩) (c32:PySem.W.codeIn K cd32 "_law_sizes" = true) (k32:PySem.W.keepIn K (.ref f32)=true)
  {f33:Addr}{od33 an33:Option Addr}{sl33:Array (Option Value)}{oc33 kV33 dc33 pm33 cd33 ct33:Value}
  (a33:PySem.W.nsIn K mainGlobals "_law_side" = some (some (.ref f33))) (l33:K.lookup f33=some ⟨oc33,od33,.func (PySem.W.fnOf "_law_side" "_law_side" (aC bN) (am bN) (ab bN) .none kV33 dc33 pm33 an33 cd33 ct33),sl33⟩) (c33:PySem.W.codeIn K cd33 "_law_side" = true) (k33:PySem.W.keepIn K (.ref f33)=true)
  {f34:Addr}{od34 an34:Option Addr}{sl34:Array (Option Value)}{oc34 kV34 dc34 pm34 cd34 ct34:Value}
  (a34:PySem.W.nsIn K mainGlobals "_law_switches" = some (some (.ref f34))) (l34:K.lookup f34=some ⟨oc34,od34,.func (PySem.W.fnOf "_law_switches" "_law_switches" (aC bf) (am bf) (ab bf) .none kV34 dc34 pm34 an34 cd34 ct34),sl34⟩) (c34:PySem.W.codeIn K cd34 "_law_switches" = true) (k34:PySem.W.keepIn K (.ref f34)=true)
  {f35:Addr}{od35 an35:Option Addr}{sl35:Array (Option Value)}{oc35 kV35 dc35 pm35 cd35 ct35:Value}
  (a35:PySem.W.nsIn K mainGlobals "_law_barred" = some (some (.ref f35))) (l35:K.lookup f35=some ⟨oc35,od35,.func (PySem.W.fnOf "_law_barred" "_law_barred" (aC bt) (am bt) (ab bt) .none kV35 dc35 pm35 an35 cd35 ct35),sl35⟩) (c35:PySem.W.codeIn K cd35 "_law_barred" = true) (k35:PySem.W.keepIn K (.ref f35)=true)
  {f36:Addr}{od36 an36:Option Addr}{sl36:Array (Option Value)}{oc36 kV36 dc36 pm36 cd36 ct36:Value}
  (a36:PySem.W.nsIn K mainGlobals "_law_both_right" = some (some (.ref f36))) (l36:K.lookup f36=some ⟨oc36,od36,.func (PySem.W.fnOf "_law_both_right" "_law_both_right" (aC bb) (am bb) (ab bb) .none kV36 dc36 pm36 an36 cd36 ct36),sl36⟩) (c36:PySem.W.codeIn K cd36 "_law_both_right" = true) (k36:PySem.W.keepIn K (.ref f36)=true)
  {f37:Addr}{od37 an37:Option Addr}{sl37:Array (Option Value)}{oc37 kV37 dc37 pm37 cd37 ct37:Value}
  (a37:PySem.W.nsIn K mainGlobals "law" = some (some (.ref f37))) (l37:K.lookup f37=some ⟨oc37,od37,.func (PySem.W.fnOf "law" "law" (aC iK) (am iK) (ab iK) .none kV37 dc37 pm37 an37 cd37 ct37),sl37⟩) (c37:PySem.W.codeIn K cd37 "law" = true) (k37:PySem.W.keepIn K (.ref f37)=true)
  (z_abs:PySem.W.nsIn K mainGlobals "abs" = some none)
  (z_all:PySem.W.nsIn K mainGlobals "all" = some none)
  (z_any:PySem.W.nsIn K mainGlobals "any" = some none)
  (z_bool:PySem.W.nsIn K mainGlobals "bool" = some none)
  (z_enumerate:PySem.W.nsIn K mainGlobals "enumerate" = some none)
  (z_int:PySem.W.nsIn K mainGlobals "int" = some none)
  (z_isinstance:PySem.W.nsIn K mainGlobals "isinstance" = some none)
  (z_len:PySem.W.nsIn K mainGlobals "len" = some none)
  (z_max:PySem.W.nsIn K mainGlobals "max" = some none)
  (z_min:PySem.W.nsIn K mainGlobals "min" = some none)
  (z_range:PySem.W.nsIn K mainGlobals "range" = some none)
  (z_repr:PySem.W.nsIn K mainGlobals "repr" = some none)
  (z_sorted:PySem.W.nsIn K mainGlobals "sorted" = some none)
  (z_sum:PySem.W.nsIn K mainGlobals "sum" = some none)
  (z_tuple:PySem.W.nsIn K mainGlobals "tuple" = some none)
  (z_zip:PySem.W.nsIn K mainGlobals "zip" = some none)
  : ∃ t,Txt K mg t/\t.f_law=f37:=by
 have F0:=aV (st:=cz) l0 c0 k0
 have F1:=aV (st:=bz) l1 c1 k1
 have F2:=aV (st:=bB) l2 c2 k2
 have F3:=aV (st:=eG) l3 c3 k3
 have F4:=aV (st:=bu) l4 c4 k4
 have F5:=aV (st:=cE) l5 c5 k5
 have F6:=aV (st:=aT) l6 c6 k6
 have F7:=aV (st:=bT) l7 c7 k7
 have F8:=aV (st:=cm) l8 c8 k8
 have F9:=aV (st:=cj) l9 c9 k9
 have F10:=aV (st:=cb) l10 c10 k10
 have F11:=aV (st:=cZ) l11 c11 k11
 have F12:=aV (st:=ba) l12 c12 k12
 have F13:=aV (st:=bM) l13 c13 k13
 have F14:=aV (st:=bX) l14 c14 k14
 have F15:=aV (st:=cU) l15 c15 k15
 have F16:=aV (st:=cW) l16 c16 k16
 have F17:=aV (st:=b0) l17 c17 k17
 have F18:=aV (st:=cD) l18 c18 k18
 have F19:=aV (st:=bV) l19 c19 k19
 have F20:=aV (st:=cp) l20 c20 k20
 have F21:=aV (st:=bL) l21 c21 k21
 have F22:=aV (st:=bC) l22 c22 k22
 have F23:=aV (st:=cn) l23 c23 k23
 have F24:=aV (st:=bA) l24 c24 k24
 have F25:=aV (st:=bq) l25 c25 k25
 have F26:=aV (st:=dC) l26 c26 k26
 have F27:=aV (st:=bZ) l27 c27 k27
 have F28:=aV (st:=bK) l28 c28 k28
 have F29:=aV (st:=cf) l29 c29 k29
 have F30:=aV (st:=bY) l30 c30 k30
 have F31:=aV (st:=bv) l31 c31 k31
 have F32:=aV (st:=bW) l32 c32 k32
 have F33:=aV (st:=bN) l33 c33 k33
 have F34:=aV (st:=bf) l34 c34 k34
 have F35:=aV (st:=bt) l35 c35 k35
 have F36:=aV (st:=bb) l36 c36 k36
 have F37:=aV (st:=iK) l37 c37 k37
 refine⟨⟨f0,_,f1,_,f2,_,f3,_,f4,_,f5,_,f6,_,f7,_,f8,_,f9,_,f10,_,f11,_,f12,_,f13,_,f14,_,f15,_,f16,_,f17,_,f18,_,f19,_,f20,_,f21,_,f22,_,f23,_,f24,_,f25,_,f26,_,f27,_,f28,_,f29,_,f30,_,f31,_,f32,_,f33,_,f34,_,f35,_,f36,_,f37,_⟩,⟨F0,qaC X G a0,F0.binds λ_ _ _ _ _ _ us hl=>(by obtain⟨_,rfl⟩:=gU hl;rfl),F1,qaC X G a1,F1.binds λ_ _ _ _ _ _ us hl=>(by obtain⟨_,_,rfl⟩:=jx hl;rfl),F2,qaC X G a2,F2.binds λ_ _ _ _ _ _ us hl=>(by obtain⟨_,rfl⟩:=gU hl;rfl),F3,qaC X G a3,F3.binds λ_ _ _ _ _ _ us hl=>(by obtain⟨_,_,rfl⟩:=jx hl;rfl),F4,qaC X G a4,F4.binds λ_ _ _ _ _ _ us hl=>(by obtain⟨_,rfl⟩:=gU hl;rfl),F5,qaC X G a5,F5.binds λ_ _ _ _ _ _ us hl=>(by obtain⟨_,rfl⟩:=gU hl;rfl),F6,qaC X G a6,F6.binds λ_ _ _ _ _ _ us hl=>(by obtain⟨_,_,rfl⟩:=jx hl;rfl),F7,qaC X G a7,F7.binds λ_ _ _ _ _ _ us hl=>(by obtain⟨_,rfl⟩:=gU hl;rfl),F8,qaC X G a8,F8.binds λ_ _ _ _ _ _ us hl=>(by obtain⟨_,_,rfl⟩:=jx hl;rfl),F9,qaC X G a9,F9.binds λ_ _ _ _ _ _ us hl=>(by obtain⟨_,_,_,rfl⟩:=uK hl;rfl),F10,qaC X G a10,F10.binds λ_ _ _ _ _ _ us hl=>(by obtain⟨_,_,rfl⟩:=jx hl;rfl),F11,qaC X G a11,F11.binds λ_ _ _ _ _ _ us hl=>(by obtain⟨_,_,rfl⟩:=jx hl;rfl),F12,qaC X G a12,F12.binds λ_ _ _ _ _ _ us hl=>(by obtain⟨_,_,rfl⟩:=jx hl;rfl),F13,qaC X G a13,F13.binds λ_ _ _ _ _ _ us hl=>(by obtain⟨_,rfl⟩:=gU hl;rfl),F14,qaC X G a14,F14.binds λ_ _ _ _ _ _ us hl=>(by obtain⟨_,rfl⟩:=gU hl;rfl),F15,qaC X G a15,F15.binds λ_ _ _ _ _ _ us hl=>(by obtain⟨_,_,rfl⟩:=jx hl;rfl),F16,qaC X G a16,F16.binds λ_ _ _ _ _ _ us hl=>(by obtain⟨_,rfl⟩:=gU hl;rfl),F17,qaC X G a17,F17.binds λ_ _ _ _ _ _ us hl=>(by obtain⟨_,rfl⟩:=gU hl;rfl),F18,qaC X G a18,F18.binds λ_ _ _ _ _ _ us hl=>(by obtain⟨_,rfl⟩:=gU hl;rfl),F19,qaC X G a19,F19.binds λ_ _ _ _ _ _ us hl=>(by obtain⟨_,rfl⟩:=gU hl;rfl),F20,qaC X G a20,F20.binds λ_ _ _ _ _ _ us hl=>(by obtain⟨_,_,_,rfl⟩:=uK hl;rfl),F21,qaC X G a21,F21.binds λ_ _ _ _ _ _ us hl=>(by obtain⟨_,rfl⟩:=gU hl;rfl),F22,qaC X G a22,F22.binds λ_ _ _ _ _ _ us hl=>(by obtain⟨_,_,_,_,rfl⟩:=ya hl;rfl),F23,qaC X G a23,F23.binds λ_ _ _ _ _ _ us hl=>(by obtain⟨_,_,_,_,rfl⟩:=ya hl;rfl),F24,qaC X G a24,F24.binds λ_ _ _ _ _ _ us hl=>(by obtain⟨_,_,rfl⟩:=jx hl;rfl),F25,qaC X G a25,F25.binds λ_ _ _ _ _ _ us hl=>(by obtain⟨_,_,_,_,rfl⟩:=ya hl;rfl),F26,qaC X G a26,F26.binds λ_ _ _ _ _ _ us hl=>(by obtain⟨_,_,_,_,rfl⟩:=ya hl;rfl),F27,qaC X G a27,F27.binds λ_ _ _ _ _ _ us hl=>(by obtain⟨_,_,rfl⟩:=jx hl;rfl),F28,qaC X G a28,F28.binds λ_ _ _ _ _ _ us hl=>(by obtain⟨_,rfl⟩:=gU hl;rfl),F29,qaC X G a29,F29.binds λ_ _ _ _ _ _ us hl=>(by obtain⟨_,_,rfl⟩:=jx hl;rfl),F30,qaC X G a30,F30.binds λ_ _ _ _ _ _ us hl=>(by obtain⟨_,_,_,rfl⟩:=uK hl;rfl),F31,qaC X G a31,F31.binds λ_ _ _ _ _ _ us hl=>(by obtain⟨_,_,rfl⟩:=jx hl;rfl),F32,qaC X G a32,F32.binds λ_ _ _ _ _ _ us hl=>(by obtain⟨_,rfl⟩:=gU hl;rfl),F33,qaC X G a33,F33.binds λ_ _ _ _ _ _ us hl=>(by obtain⟨_,_,rfl⟩:=jx hl;rfl),F34,qaC X G a34,F34.binds λ_ _ _ _ _ _ us hl=>(by obtain⟨_,rfl⟩:=gU hl;rfl),F35,qaC X G a35,F35.binds λ_ _ _ _ _ _ us hl=>(by obtain⟨_,_,_,rfl⟩:=uK hl;rfl),F36,qaC X G a36,F36.binds λ_ _ _ _ _ _ us hl=>(by obtain⟨_,_,_,_,_,rfl⟩:=len5 hl;rfl),F37,qaC X G a37,F37.binds λ_ _ _ _ _ _ us hl=>(by obtain⟨_,rfl⟩:=gU hl;rfl),qa1 X G z_abs,qa1 X G z_all,qa1 X G z_any,qa1 X G z_bool,qa1 X G z_enumerate,qa1 X G z_int,qa1 X G z_isinstance,qa1 X G z_len,qa1 X G z_max,qa1 X G z_min,qa1 X G z_range,qa1 X G z_repr,qa1 X G z_sorted,qa1 X G z_sum,qa1 X G z_tuple,qa1 X G z_zip⟩,rfl⟩
theorem txt_ex {K:PySem.W.Frag}{mg:Str->Option Value}{f:Addr} (h:∃ t,Txt K mg t/\t.f_law=f):∃ t,Txt K mg t:=let ⟨t,a,_⟩:=h;⟨t,a⟩
theorem walk {l:PySem.W.OpenLaw}{q:Program}{loose:List Str}{XP:(Str->Option Value)->Heap->Prop}{YP:World->Heap->Prop}{d:DefRec}{K:Params->PySem.W.Frag} (hn:l.most=some 63) (hdf:d.params.defaults=[])
  (hY:∀ (w:World) (h:Heap),YP w h->(K w.params).In h)
  (F:∀ (w:World) (mg:Str->Option Value) (fa:Addr) (h:Heap),(K w.params).In h->h.Ns mainGlobals mg->mg d.name=some (.ref fa)->
    ∃ fd:FuncData,(∀ (s:Shared) (u:Value),BindsTo s fd ⟨[u],[]⟩ [("_law_script",u)])/\∀ base:Heap,(K w.params).In base->base.Ns mainGlobals mg->aH l.prog w (K w.params) mg base CX0 9 fa fd ["_law_script"] (spI (K w.params) m_law)) :
  PySem.W.WalkO q loose XP YP l.row.toRowW d [] (λf vs=>PySem.call f vs):=
 L2.walk_of (n:=63) (k:=9) (x:="_law_script") (CX:=λ_=>CX0) (sp:=λw=>spI (K w.params) m_law) hn (by decide) hdf ⟨rfl,by decide,by decide,rfl⟩ hY F (λ_ _ a ns hl hO hS=>xq hO hS (wI ns hl)) λ_ _ _ _ _ z=>z
theorem law_mk {l:PySem.W.OpenLaw}{w:World}{K:PySem.W.Frag}{h:Heap}{mg:Str->Option Value}{fa:Addr} (hfa:mg "law" = some (.ref fa)) (T0:∃ t,Txt K mg t) :
  ∃ fd:FuncData,(∀ (s:Shared) (v:Value),BindsTo s fd ⟨[v],[]⟩ [("_law_script",v)])/\∀ base:Heap,K.In base->base.Ns mainGlobals mg->aH l.prog w K mg base CX0 9 fa fd ["_law_script"] (spI K m_law):=by
 obtain⟨t,T⟩:=T0
 have e:=hfa.symm.trans T.m_law
 cases e
 refine⟨t.fd_law,λs v=>?_,λbase _ _=>Au T⟩
 obtain⟨oc,od,kV,doc,pm,an,cdv,ct,osl,e,_⟩:=T.F_law.ex
 rw [e]
 exact .of_eq rfl
end Own
theorem PySem.W.Fast.tw948865658223856414:True:=trivial
theorem PySem.W.Fast.tw11017507449152565729:True:=trivial
theorem PySem.W.Fast.tw3980799209936649340:True:=trivial
theorem PySem.W.Fast.tw17433071552763331385:True:=trivial
theorem PySem.W.Fast.tw14775444776403904358:True:=trivial
theorem PySem.W.Fast.tw10872383672879660059:True:=trivial
theorem PySem.W.Fast.tw8914600739022006017:True:=trivial
theorem PySem.W.Fast.tw5974382643586588707:True:=trivial
theorem PySem.W.Fast.tw5842031785572821943:True:=trivial
theorem PySem.W.Fast.tw17117838500937827199:True:=trivial
theorem PySem.W.Fast.tw4509055622632151291:True:=trivial
theorem PySem.W.Fast.tw5587087261030712799:True:=trivial
theorem PySem.W.Fast.tw11338610468269928421:True:=trivial
theorem PySem.W.Fast.tw11164091430878851500:True:=trivial
theorem PySem.W.Fast.tw13128538683463316558:True:=trivial
theorem PySem.W.Fast.tw17863144525671655569:True:=trivial
theorem PySem.W.Fast.tw13099065447356974755:True:=trivial
theorem PySem.W.Fast.tw9743655582349167221:True:=trivial
theorem PySem.W.Fast.tw10227173397297963665:True:=trivial
theorem PySem.W.Fast.tw11862282427077964199:True:=trivial
theorem PySem.W.Fast.tw11164778231635418094:True:=trivial
theorem PySem.W.Fast.tw13785435365341835443:True:=trivial
theorem PySem.W.Fast.tw4129535671995969284:True:=trivial
theorem PySem.W.Fast.tw3365593768944353754:True:=trivial
theorem PySem.W.Fast.tw10786452138530432731:True:=trivial
theorem PySem.W.Fast.tw14024671524824256734:True:=trivial
theorem PySem.W.Fast.tw291061050413540668:True:=trivial
theorem PySem.W.Fast.tw14716078484221657112:True:=trivial
theorem PySem.W.Fast.tw11557439188766202221:True:=trivial
theorem PySem.W.Fast.tw4644232953028689754:True:=trivial
theorem PySem.W.Fast.tw17878232361805585141:True:=trivial
theorem PySem.W.Fast.tw2275014473276419515:True:=trivial
theorem PySem.W.Fast.tw13780346629324754803:True:=trivial
theorem PySem.W.Fast.tw13555972567873613464:True:=trivial
theorem PySem.W.Fast.tw11936004020532457734:True:=trivial
theorem PySem.W.Fast.tw12441726263058872206:True:=trivial
theorem PySem.W.Fast.tw1333562040061886457:True:=trivial
theorem PySem.W.Fast.tw10509631758310408542:True:=trivial
theorem PySem.W.Fast.tw2744846678074565597:True:=trivial
theorem PySem.W.Fast.tw5655842879615446493:True:=trivial
theorem PySem.W.Fast.tw1537396869489864339:True:=trivial
theorem PySem.W.Fast.tw1121719848475761505:True:=trivial
theorem PySem.W.Fast.tw16513345246119663509:True:=trivial
theorem PySem.W.Fast.tw18352753931836821771:True:=trivial
theorem PySem.W.Fast.tw9642488359443663330:True:=trivial
theorem PySem.W.Fast.tw6041520659383347570:True:=trivial
theorem PySem.W.Fast.tw86252445976756665:True:=trivial
theorem PySem.W.Fast.tw2542750433487116684:True:=trivial
theorem PySem.W.Fast.tw6903467948639970722:True:=trivial
theorem PySem.W.Fast.tw8125665110878795743:True:=trivial
theorem PySem.W.Fast.tw8265434419039519688:True:=trivial
theorem PySem.W.Fast.tw12349524931360848514:True:=trivial
theorem PySem.W.Fast.tw13195739502779169396:True:=trivial
theorem PySem.W.Fast.tw14157689144706510063:True:=trivial
theorem PySem.W.Fast.tw3590737380730921793:True:=trivial
theorem PySem.W.Fast.tw14797253973459887767:True:=trivial
theorem PySem.W.Fast.tw11515923438149765214:True:=trivial
theorem PySem.W.Fast.tw3170136944774446456:True:=trivial
theorem PySem.W.Fast.tw13846862577426569364:True:=trivial
theorem PySem.W.Fast.tw5569426066578374246:True:=trivial
theorem PySem.W.Fast.tw13733646778760674164:True:=trivial
theorem PySem.W.Fast.tw17014346696159267490:True:=trivial
open PySem PySem.W PyProof.Rows
set_option maxRecDepth 100000 in
set_option maxHeartbeats 0 in
theorem PySem.Challenge.cw_signpoly_k64_weights_beside_holds : PySem.Challenge.rw_signpoly_k64_weights_beside.Holds := by
 w_on;o_law;k_head;(case hw=>w_witness2)
 k_fill
 refine Own.walk (l:=PySem.Challenge.rw_signpoly_k64_weights_beside) rfl rfl (λw h Y=>PySem.W.kIn_of Y) ?F
 case F=>
  intro w mg fa h KX G hmg
  refine Own.law_mk (h:=h) hmg ?T
  case T=>
   refine' Own.txt_ex (Own.txt_mk KX G ?a0 ?l0 ?c0 ?k0 ?a1 ?l1 ?c1 ?k1 ?a2 ?l2 ?c2 ?k2 ?a3 ?l3 ?c3 ?k3 ?a4 ?l4 ?c4 ?k4 ?a5 ?l5 ?c5 ?k5 ?a6 ?l6 ?c6 ?k6 ?a7 ?l7 ?c7 ?k7 ?a8 ?l8 ?c8 ?k8 ?a9 ?l9 ?c9 ?k9 ?a10 ?l10 ?c10 ?k10 ?a11 ?l11 ?c11 ?k11 ?a12 ?l12 ?c12 ?k12 ?a13 ?l13 ?c13 ?k13 ?a14 ?l14 ?c14 ?k14 ?a15 ?l15 ?c15 ?k15 ?a16 ?l16 ?c16 ?k16 ?a17 ?l17 ?c17 ?k17 ?a18 ?l18 ?c18 ?k18 ?a19 ?l19 ?c19 ?k19 ?a20 ?l20 ?c20 ?k20 ?a21 ?l21 ?c21 ?k21 ?a22 ?l22 ?c22 ?k22 ?a23 ?l23 ?c23 ?k23 ?a24 ?l24 ?c24 ?k24 ?a25 ?l25 ?c25 ?k25 ?a26 ?l26 ?c26 ?k26 ?a27 ?l27 ?c27 ?k27 ?a28 ?l28 ?c28 ?k28 ?a29 ?l29 ?c29 ?k29 ?a30 ?l30 ?c30 ?k30 ?a31 ?l31 ?c31 ?k31 ?a32 ?l32 ?c32 ?k32 ?a33 ?l33 ?c33 ?k33 ?a34 ?l34 ?c34 ?k34 ?a35 ?l35 ?c35 ?k35 ?a36 ?l36 ?c36 ?k36 ?a37 ?l37 ?c37 ?k37 ?z_abs ?z_all ?z_any ?z_bool ?z_enumerate ?z_int ?z_isinstance ?z_len ?z_max ?z_min ?z_range ?z_repr ?z_sorted ?z_sum ?z_tuple ?z_zip)
   (case a0=>k_is)
   (case l0=>k_is)
   (case c0=>k_is)
   (case k0=>k_is)
   (case a1=>k_is)
   (case l1=>k_is)
   (case c1=>k_is)
   (case k1=>k_is)
   (case a2=>k_is)
   (case l2=>k_is)
   (case c2=>k_is)
   (case k2=>k_is)
   (case a3=>k_is)
   (case l3=>k_is)
   (case c3=>k_is)
   (case k3=>k_is)
   (case a4=>k_is)
   (case l4=>k_is)
   (case c4=>k_is)
   (case k4=>k_is)
   (case a5=>k_is)
   (case l5=>k_is)
   (case c5=>k_is)
   (case k5=>k_is)
   (case a6=>k_is)
   (case l6=>k_is)
   (case c6=>k_is)
   (case k6=>k_is)
   (case a7=>k_is)
   (case l7=>k_is)
   (case c7=>k_is)
   (case k7=>k_is)
   (case a8=>k_is)
   (case l8=>k_is)
   (case c8=>k_is)
   (case k8=>k_is)
   (case a9=>k_is)
   (case l9=>k_is)
   (case c9=>k_is)
   (case k9=>k_is)
   (case a10=>k_is)
   (case l10=>k_is)
   (case c10=>k_is)
   (case k10=>k_is)
   (case a11=>k_is)
   (case l11=>k_is)
   (case c11=>k_is)
   (case k11=>k_is)
   (case a12=>k_is)
   (case l12=>k_is)
   (case c12=>k_is)
   (case k12=>k_is)
   (case a13=>k_is)
   (case l13=>k_is)
   (case c13=>k_is)
   (case k13=>k_is)
   (case a14=>k_is)
   (case l14=>k_is)
   (case c14=>k_is)
   (case k14=>k_is)
   (case a15=>k_is)
   (case l15=>k_is)
   (case c15=>k_is)
   (case k15=>k_is)
   (case a16=>k_is)
   (case l16=>k_is)
   (case c16=>k_is)
   (case k16=>k_is)
   (case a17=>k_is)
   (case l17=>k_is)
   (case c17=>k_is)
   (case k17=>k_is)
   (case a18=>k_is)
   (case l18=>k_is)
   (case c18=>k_is)
   (case k18=>k_is)
   (case a19=>k_is)
   (case l19=>k_is)
   (case c19=>k_is)
   (case k19=>k_is)
   (case a20=>k_is)
   (case l20=>k_is)
   (case c20=>k_is)
   (case k20=>k_is)
   (case a21=>k_is)
   (case l21=>k_is)
   (case c21=>k_is)
   (case k21=>k_is)
   (case a22=>k_is)
   (case l22=>k_is)
   (case c22=>k_is)
   (case k22=>k_is)
   (case a23=>k_is)
   (case l23=>k_is)
   (case c23=>k_is)
   (case k23=>k_is)
   (case a24=>k_is)
   (case l24=>k_is)
   (case c24=>k_is)
   (case k24=>k_is)
   (case a25=>k_is)
   (case l25=>k_is)
   (case c25=>k_is)
   (case k25=>k_is)
   (case a26=>k_is)
   (case l26=>k_is)
   (case c26=>k_is)
   (case k26=>k_is)
   (case a27=>k_is)
   (case l27=>k_is)
   (case c27=>k_is)
   (case k27=>k_is)
   (case a28=>k_is)
   (case l28=>k_is)
   (case c28=>k_is)
   (case k28=>k_is)
   (case a29=>k_is)
   (case l29=>k_is)
   (case c29=>k_is)
   (case k29=>k_is)
   (case a30=>k_is)
   (case l30=>k_is)
   (case c30=>k_is)
   (case k30=>k_is)
   (case a31=>k_is)
   (case l31=>k_is)
   (case c31=>k_is)
   (case k31=>k_is)
   (case a32=>k_is)
   (case l32=>k_is)
   (case c32=>k_is)
   (case k32=>k_is)
   (case a33=>k_is)
   (case l33=>k_is)
   (case c33=>k_is)
   (case k33=>k_is)
   (case a34=>k_is)
   (case l34=>k_is)
   (case c34=>k_is)
   (case k34=>k_is)
   (case a35=>k_is)
   (case l35=>k_is)
   (case c35=>k_is)
   (case k35=>k_is)
   (case a36=>k_is)
   (case l36=>k_is)
   (case c36=>k_is)
   (case k36=>k_is)
   (case a37=>k_is)
   (case l37=>k_is)
   (case c37=>k_is)
   (case k37=>k_is)
   (case z_abs=>k_is)
   (case z_all=>k_is)
   (case z_any=>k_is)
   (case z_bool=>k_is)
   (case z_enumerate=>k_is)
   (case z_int=>k_is)
   (case z_isinstance=>k_is)
   (case z_len=>k_is)
   (case z_max=>k_is)
   (case z_min=>k_is)
   (case z_range=>k_is)
   (case z_repr=>k_is)
   (case z_sorted=>k_is)
   (case z_sum=>k_is)
   (case z_tuple=>k_is)
   (case z_zip=>k_is)
