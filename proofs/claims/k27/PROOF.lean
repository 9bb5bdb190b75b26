import PyProof.Rows.All
import Wide.All
import OpenK.AllK
import Wide.FinOn
import Lean
import PyProof.EqAt
import PyProof.EqKinds
import PyProof.TupleCall
import PyProof.ListRange
import PyProof.NeKinds
import KE.KUnpack
import KE.KSortTup
import PyProof.ZipIter
import PyProof.Rows.CallKwBuiltin
import KE.KDictLaws
import KE.KDictList
import KE.KIntText
import KE.KFind
import PySem.Challenge.RW_signpoly_k27_most_of_anything
set_option Elab.async false
set_option linter.all false
set_option maxRecDepth 100000
set_option genSizeOf false
noncomputable section
open Array renaming length_toList -> qcZ, toList -> qfk
open Bool renaming false_ne_true -> qax, and_eq_true -> qaR, false_eq_true -> qbw, eq_iff_iff -> qbK, and_false -> qdU, not_not -> qfr, or_eq_true -> qgw, false_and -> qgH, true_and -> qgQ, or_false -> qgR, and_self -> qgS
open False renaming elim -> qbV
open Int renaming mul_left_comm -> qaP, mul_comm -> qa6, mul_zero -> qbc, mul_right_comm -> qbd, mul_assoc -> qbt, toNat_natCast -> qbZ, mul_add -> qb6, mul_sub -> qcO, zero_mul -> qcS, mul_le_mul_of_nonneg_right -> qcT, neg_mul -> qc6, mul_lt_mul_of_pos_right -> qc7, lt_of_mul_lt_mul_right -> qdd, natAbs_mul -> qdm, eq_of_mul_eq_mul_left -> qdn, reduceNeg -> qdz, le_refl -> qdA, add_mul -> qdB, ediv_nonneg -> qdK, mul_one -> qd6, emod_lt_of_pos -> qef, one_mul -> qeV, emod_nonneg -> qeW, fdiv_eq_ediv_of_nonneg -> qe1, eq_of_mul_eq_mul_right -> qe2, mul_ediv_cancel_left -> qfc, eq_ofNat_of_zero_le -> qfj, sub_zero -> qfy, add_zero -> qfz, toNat_of_nonneg -> qf0, sub_mul -> qf1, mul_neg -> qf2, ofNat_dvd_left -> qgb, lt_or_eq_of_le -> qgc, toNat -> qgB, mul_nonneg -> qgM, zero_add -> qhY, ediv_one -> qhZ, mul_pos -> qh9
open List renaming mem_cons_self -> qaf, mem_singleton -> qag, range -> qah, mem_cons_of_mem -> qaj, length_map -> qam, length_append -> qan, getElem?_eq_some_iff -> qao, length_range -> qap, mem_cons -> qar, length_cons -> qas, mem_append_right -> qau, size_toArray -> qay, map_cons -> qaB, replicate -> qaC, getElem?_append_left -> qaF, mem_range -> qaG, getElem?_append_right -> qaI, getElem?_eq_getElem -> qaK, mem_append -> qaM, getElem?_map -> qaS, mem_append_left -> qaY, Nodup -> qaZ, not_mem_nil -> qa5, mem_map -> qa7, all_eq_true -> qa9, getElem?_set_self -> qba, getElem?_eq_none -> qbb, replicate_succ -> qbe, map_map -> qbi, lookup_cons -> qbl, getElem?_set_ne -> qbo, all_cons -> qbp, length_set -> qbx, mem_of_getElem? -> qbD, getElem?_range -> qbH, append_nil -> qbO, length_singleton -> qbR, forall_mem_cons -> qbU, nodup_cons -> qbX, append_assoc -> qbY, getD_cons_zero -> qb3, getD_cons_succ -> qb4, length_drop -> qb7, take_of_length_le -> qca, range_succ_eq_map -> qcb, set_append_right -> qcf, nil_append -> qcg, length_replicate -> qch, nodup_append -> qck, flatten_cons -> qcl, ext_getElem? -> qcm, take_zero -> qcp, getElem?_eq_none_iff -> qcq, length_take -> qcv, replicate_zero -> qcx, map_nil -> qcy, set_cons_zero -> qcD, set_cons_succ -> qcE, mem_filter -> qcF, length_nil -> qcG, getElem?_replicate -> qcH, nodup_nil -> qcN, getElem_mem -> qcV, cons_append -> qcW, of_mem_zip -> qc0, map_congr_left -> qc1, map_append -> qc2, lookup -> qc3, filterMap_cons -> qc4, drop_eq_getElem_cons -> qdh, reverse_cons -> qdp, filter_cons_of_pos -> qds, filter_cons_of_neg -> qdt, any_cons -> qdu, take_length -> qdy, mem_of_mem_drop -> qdN, mem_iff_getElem -> qdO, take_left -> qdP, forIn_nil -> qdQ, range' -> qdV, length_reverse -> qdW, zip_cons_cons -> qec, set_set -> qet, getElem_inj -> qex, drop_length -> qey, any_eq_true -> qez, range_succ -> qeJ, length_zip -> qeK, getD -> qeL, forIn_cons -> qeM, drop_zero -> qeZ, getElem?_take_of_lt -> qe7, foldl -> qe8, idxOf?_eq_some_iff -> qfb, range_eq_range' -> qfx, mem_map_of_mem -> qfG, length -> qfH, filter_eq_self -> qfI, pairwise_cons -> qfV, mem_filterMap -> qfW, getElem_range -> qfX, push_toArray -> qf9, any_eq_false -> qga, zipIdx_cons -> qgk, range'_succ -> qgl, isEmpty_iff -> qgm, getElem_map -> qgn, filter_cons -> qgo, zipIdx_nil -> qgu, sum_cons -> qgL, map_id' -> qg2, any_map -> qg3, all_map -> qg4
open List.Pairwise renaming sublist -> qg5
open Nat renaming le_refl -> qal, ne_of_lt -> qaO, lt_of_lt_of_le -> qaT, lt_irrefl -> qaX, le_trans -> qa2, lt_succ_of_lt -> qbn, lt_succ_self -> qbE, zero_add -> qbN, lt_of_le_of_lt -> qbS, mul_le_mul_right -> qbW, ne_of_gt -> qb2, zero_le -> qb5, add_sub_cancel -> qcc, sub_self -> qci, le_add_right -> qcw, le_of_eq -> qcA, mul_le_mul -> qcQ, not_lt_zero -> qc5, reduceSub -> qdv, reduceAdd -> qdw, le_succ -> qdx, lt_trans -> qdJ, le_of_lt -> qew, gcd -> qeU, mul_comm -> qfv, lt_or_ge -> qfw, pow_pos -> qfS, pow_add -> qfT, one_mul -> qfU, not_lt -> qgj, succ_ne_self -> qgr, mod_eq_of_lt -> qgs, min_eq_right -> qgt, min_eq_left -> qgz, dvd_trans -> qg1, sub_zero -> qhT, pow_succ -> qhU, le_total -> qhV, gcd_comm -> qhW, add_zero -> qhX, pow_mul -> qh6, log2_lt -> qh7, add_mul -> qh8
open Ne renaming symm -> qbu
open Option renaming bind_eq_some_iff -> qaa, bind_some -> qab, map_eq_some_iff -> qad, map_some -> qaD, isSome_iff_exists -> qcu, getD_none -> qfR
open Option.some renaming inj -> qaW
open PyProof.Rows renaming boot_isinstance -> qaJ, boot_tuple -> qaU, slot_tuple_getitem -> qa0, callWith_type1 -> qbL, boot_list -> qbM, boot_int -> qb0, boot_all -> qb1, boot_str -> qcz, boot_bool -> qc9, boot_sum -> qdf, boot_abs -> qdg, slicePart_none -> qej, envOfC -> qek, boot_range -> qem, entry_tuple_getitem -> qen, AllBare -> qev, args_tuple_getitem -> qeD, SortKind -> qeE, envOfC -> qeI, KeyOrd -> qfh, tupleItemsOf_ -> qfK, subscriptTail -> qfL, IntsAre -> qfY, subscriptTail_builtinR -> qf4, SortSt -> qgg, Subscript_ -> qgZ, callWith_builtin1 -> qhQ, boot_min -> qhR, boot_any -> qhS, boot_enumerate -> qig
open PySem renaming wpAny_bind -> qae, Shared -> qak, wpAny_pure -> qaq, mainGlobals -> qat, sizeLine -> qaN, boot_len -> qaQ, FuncData -> qaV, Program -> qa1, Around -> qa8, mem_of_lookup -> qbj, starEach -> qbk, wpAny_newObj_type -> qbq, IntMulOk -> qbr, wpAny_field -> qby, Spec -> qbz, compareOp -> qbA, assignEach -> qbB, binaryOp -> qbC, wpAny_callSpecial?_slot -> qbF, cellsFrom -> qbJ, NameKind -> qbP, foldedSetIterable -> qbQ, bootBuiltins -> qb9, wpAny_call_entry -> qcd, wpAny_seqItems -> qce, wpAny_setField_rec -> qcj, wpAny_passesOwn -> qcn, pushCells_keeps -> qco, wpAny_truthy_bool -> qcs, wpAny_mono -> qct, swapsWith -> qcB, wpAny_pyIter_tuple -> qcJ, wpAny_holding -> qcK, attributeBase -> qcL, call_meets -> qcX, behindInMarks -> qda, sliceBounds -> qdi, sizeLine_eq -> qdj, wpAny_Call_Name_kw -> qdr, wpAny_rule -> qdC, wpAny_pyIter_list -> qdD, wpAny_pyIter_enum -> qdE, swapsWithSole -> qdH, swappedStores -> qdI, backTo -> qdL, wpAny_ite_false -> qdY, wpAny_execs_nil -> qdZ, pushCells -> qd0, letOwnedTupleGo -> qd1, getItem -> qd2, wpAny_updateSeq_pair -> qed, list_append -> qee, assign -> qel, codeAny -> qeo, wpAny_standAt -> qeA, wpAny_onRaise -> qeB, wpAny_Constant_int -> qeC, wpAny_sequenceKey -> qeP, typeIs_int -> qeQ, holding -> qeR, wpAny_typeOf -> qeX, codeAny_mono -> qeY, IsPart -> qe0, noFill_tuple_add -> qe4, keywordEach -> qfd, callerA -> qfe, Within -> qfg, IsPair -> qfi, intBits_le_iff -> qfm, wpAny_binaryOp_repeat_ref -> qfs, wpAny_comprehension_free -> qfA, sysModules -> qfB, rawInt -> qfC, builtinsNs -> qfD, Paired -> qfF, wpAny_pyNext_enum_itemD -> qfJ, seq_tuple_add -> qfM, rangeSize_one -> qfN, evalPart_none -> qfO, compEnvC -> qfP, call -> qfQ, IntMulOk -> qfZ, BindsTo -> qf3, codeAny_compStart_list -> qf5, seqSlot_of -> qf6, seqIndex_neg -> qgd, pyNext -> qge, concat_meets -> qgf, PassesOwn -> qgi, wpAny_letGo -> qgx, seqIndex_of -> qgy, Keyword -> qgA, Builtin -> qgG, backToKw -> qgI, wpAny_assign_Name -> qgT, wpAny_Name -> qgU, typeIs_str -> qgV, slot_list_getitem -> qgW, wpAny_pyIter_zip -> qhb, wpAny_execs_cons -> qhc, standAt -> qh3, isTrue -> qh4, wpAny_setField -> qib, sliceRange_one -> qic, recursionLimit -> qid, newFunctionEnv -> qie, firstArgMember -> qif
open PySem.Around renaming under -> qei
open PySem.Builtin.List renaming listTooLong -> qcY
open PySem.Builtin.Range renaming rangeFitsLong -> qdT, rangeSize -> qeh, small -> qha
open PySem.Builtin.Slice renaming slicePlaces -> qbs, sliceApplied -> qb8, sliceAdjust -> qcU, sliceFields -> qd9, slicePartIndex -> qg9
open PySem.Builtin.SmallTypes renaming nextOf -> qa4, ownedTupleIsFree -> qbI, ownedTupleHandOut -> qc8
open PySem.Builtin.Str renaming strSliceIndices -> qd8
open PySem.Builtin.Tuple renaming tupleExact -> qbm, tupleItemsOf -> qcP, tupleTooMany -> qdX, tupleIsExact -> qg8
open PySem.Calls renaming Name_function_global -> qeO
open PySem.Code renaming isFrame -> qfq, isGuard -> qg7, frames -> qh2
open PySem.Draws renaming list -> qh1
open PySem.F renaming slot_tuple_iterator_next -> qcr, args_tuple_add_2 -> qdc, entry_tuple_add -> qdl, slot_tuple_add -> qdq, slot_tuple_mul -> qdG, slot_zip_next -> qdR, slot_int_rmul -> qdS, args_list_append_2 -> qd7, entry_list_append -> qeg, slot_list_append -> qeu, slot_list_index -> qeS, plainAttrs_list -> qeT, args_tuple_iterator_next_1 -> qe3, entry_tuple_iterator_next -> qe9, args_tuple_mul_2 -> qgv, slot_tuple_rmul -> qgC, entry_tuple_mul -> qgD, args_zip_next_1 -> qgE, args_int_rmul_2 -> qgF, slot_int_index -> qgN, entry_zip_next -> qgO, entry_int_rmul -> qgP, fills_int_mul -> qg6
open PySem.Heap renaming get?_push_of_some -> qai, lt_size -> qaz, get?_push_size -> qaE, size_push -> qbh, get?_update_other -> qcI, SameBut -> qde, get?_update_self -> qfp, ExtBut -> qh0
open PySem.Heap.DictOf renaming new -> qia
open PySem.Heap.IsSliceOf renaming new -> qeG
open PySem.Heap.SameBut renaming update -> qeN
open PySem.IntMulOk renaming of_le -> qgK
open PySem.IsL renaming update -> qd5
open PySem.Obj renaming mapSeq -> qcM, data_mapFields -> qf8
open PySem.Paired renaming length -> qgq
open PySem.PassesOwn renaming never -> qbf
open PySem.SeqAt renaming EqAt -> qdk, ne_of_list_tuple -> qfa, RcNeAt -> qgJ, RcAt -> qhO, list_indexAt -> qh5
open PySem.SeqAt.EqAt renaming of_refs -> qdF, same -> qeb, str_int -> qe5, int_str -> qe6, tuple_str -> qiQ, tuple_none -> qiR, tuple_list -> qiS, tuple_int -> qiT, tuple_bool -> qiU, str_tuple -> qiV, str_str -> qiW, str_none -> qiX, str_list -> qiY, str_bool -> qiZ, none_tuple -> qi0, none_str -> qi1, none_list -> qi2, none_int -> qi3, none_bool -> qi4, list_tuple -> qi5, list_str -> qi6, list_none -> qi7, list_int -> qi8, list_bool -> qi9, int_tuple -> qja, int_none -> qjb, int_list -> qjc, int_int -> qjd, int_bool -> qje, bool_tuple -> qjf, bool_str -> qjg, bool_none -> qjh, bool_list -> qji, bool_int -> qjj, bool_bool -> qjk
open PySem.SeqAt.RcAt renaming tuples -> qdM, lists_lengths -> qep, lists -> qff, tuple_str -> qii, tuple_none -> qij, tuple_list -> qik, tuple_int -> qil, tuple_bool -> qim, str_tuple -> qin, str_str -> qio, str_none -> qip, str_list -> qiq, str_int -> qir, str_bool -> qis, none_tuple -> qit, none_str -> qiu, none_none -> qiv, none_list -> qiw, none_int -> qix, none_bool -> qiy, list_tuple -> qiz, list_str -> qiA, list_none -> qiB, list_int -> qiC, list_bool -> qiD, int_tuple -> qiE, int_str -> qiF, int_none -> qiG, int_list -> qiH, int_int -> qiI, int_bool -> qiJ, bool_tuple -> qiK, bool_str -> qiL, bool_none -> qiM, bool_list -> qiN, bool_int -> qiO, bool_bool -> qiP
open PySem.SeqAt.RcNeAt renaming tuples -> qeH, tuple_str -> qhe, tuple_none -> qhf, tuple_list -> qhg, tuple_int -> qhh, tuple_bool -> qhi, str_tuple -> qhj, str_str -> qhk, str_none -> qhl, str_list -> qhm, str_int -> qhn, str_bool -> qho, none_tuple -> qhp, none_str -> qhq, none_none -> qhr, none_list -> qhs, none_int -> qht, none_bool -> qhu, lists_lengths -> qhv, lists -> qhw, list_tuple -> qhx, list_str -> qhy, list_none -> qhz, list_int -> qhA, list_bool -> qhB, int_tuple -> qhC, int_str -> qhD, int_none -> qhE, int_list -> qhF, int_int -> qhG, int_bool -> qhH, bool_tuple -> qhI, bool_str -> qhJ, bool_none -> qhK, bool_list -> qhL, bool_int -> qhM, bool_bool -> qhN
open PySem.Shared renaming heap -> qfl
open PySem.Str renaming ofString -> qcR, length -> qih
open PySem.Value renaming isInt -> qgY
open PySem.W renaming Frag -> qac, keepIn -> qav, nsIn -> qaw, codeIn -> qaA, fnOf -> qaH, mg_of -> qaL, mg_none_of -> qa3, findIn -> qbg, kia_one -> qbv, emptyDict -> qbG, instObj -> qbT, cellsFrom_some -> qcC, hasDictIn -> qdb, plainGet -> qdo, plainOver -> qd3, methodObj -> qd4, takerIn -> qeq, makesIn -> qer, OpenLaw -> qes, lookIn -> qeF, kitx_tuple -> qfn, callWith_K -> qfo, kitx_list -> qft, kitx_dict -> qfu, handedIn -> qfE, kitOne -> qf7, WalkO -> qgh, isFn -> qgp
open PySem.W.Looks renaming here -> qg0
open PySem.W.WShape renaming has -> qgX
open PySem.Walks renaming list -> qhd
open PySem.WalksT renaming enumerateD -> qea
open PySem.Within renaming cons -> qhP
namespace L2
open PySem PySem.Spec PyProof.Rows
abbrev Key:=Sum Int Str
def xj:Key->Value->Bool
 |.inl k,v=>qgY k v
 |.inr x,v=>Value.isStrOf x v
def C4 (w:World):Key->Int
 |.inl k=>hashInt k
 |.inr x=>hashStr w x
theorem cJ:∀ {k:Key}{v:Value},xj k v=true->(∃ i t,k=Sum.inl i/\v=Value.int i t)\/(∃ x t,k=Sum.inr x/\v=Value.str x t)
 |.inl i,v,h=>by
  obtain⟨t,e⟩:=Value.isInt_shape (k:=i) (v:=v) h
  exact .inl ⟨i,t,rfl,e⟩
 |.inr x,v,h=>by
  obtain⟨t,e⟩:=Value.isStrOf_shape (x:=x) (v:=v) h
  exact .inr ⟨x,t,rfl,e⟩
theorem zA (a b:Int):decide ((Sum.inl a:Key)=Sum.inl b)=(a==b):=by
 by_cases e:a=b
 ·subst e;simp
 ·have h:¬ (Sum.inl a:Key)=Sum.inl b:=λq=>e (Sum.inl.inj q)
  rw[decide_eq_false h]
  exact (beq_eq_false_iff_ne.mpr e).symm
theorem Ay (a b:Str):decide ((Sum.inr a:Key)=Sum.inr b)=decide (a=b):=by
 by_cases e:a=b
 ·subst e;simp
 ·have h:¬ (Sum.inr a:Key)=Sum.inr b:=λq=>e (Sum.inr.inj q)
  rw[decide_eq_false h,decide_eq_false e]
theorem A1 (a:Int) (b:Str):decide ((Sum.inl a:Key)=Sum.inr b)=false:=decide_eq_false (λq=>nomatch q)
theorem zz (a:Str) (b:Int):decide ((Sum.inr a:Key)=Sum.inl b)=false:=decide_eq_false (λq=>nomatch q)
def kQ (prog:qa1) (w:World):PySem.KeyKind prog w Key where
 is:=xj
 hash:=C4 w
 inj:=λv a b ha hb=>by
  rcases cJ ha with⟨i,t,rfl,rfl⟩|⟨x,t,rfl,rfl⟩
  ·rcases cJ hb with⟨j,u,rfl,e⟩|⟨y,u,rfl,e⟩
   ·injection e with e1 _;rw[e1]
   ·exact nomatch e
  ·rcases cJ hb with⟨j,u,rfl,e⟩|⟨y,u,rfl,e⟩
   ·exact nomatch e
   ·injection e with e1 _;rw[e1]
 byValue:=λk v h=>by
  rcases cJ h with⟨i,t,rfl,rfl⟩|⟨x,t,rfl,rfl⟩<;>rfl
 pyHash:=λhv h=>by
  rcases cJ hv with⟨i,t,rfl,rfl⟩|⟨x,t,rfl,rfl⟩
  ·exact wpAny_pyHash_int h
  ·exact wpAny_pyHash_str h
 eqBool:=λhu hv h=>by
  rcases cJ hu with⟨i,t,rfl,rfl⟩|⟨x,t,rfl,rfl⟩
  ·rcases cJ hv with⟨j,u,rfl,rfl⟩|⟨y,u,rfl,rfl⟩
   ·rw[zA]at h;exact wpAny_eqBool_int h
   ·rw[A1]at h;exact qe6 i t y u _ _ _ _ h
  ·rcases cJ hv with⟨j,u,rfl,rfl⟩|⟨y,u,rfl,rfl⟩
   ·rw[zz]at h;exact qe5 x t j u _ _ _ _ h
   ·rw[Ay]at h;exact wpAny_eqBool_str h
 «strs»:=λk x t v h=>by
  rcases cJ h with⟨i,u,rfl,e⟩|⟨y,u,rfl,e⟩
  ·exact nomatch e
  ·injection e with e1 _
   subst e1
   cases v<;>rfl
inductive V where
 |non|bl (b:Bool)|int (i:Int)|str (x:Str)|byt (b:Array UInt8)|flt (b:UInt64)|ref (a:Addr)|ty (n:String)
 deriving DecidableEq
def bK:V->Value->Prop
 |.non,u=>u=Value.none
 |.bl b,u=>u=Value.bool b
 |.int i,u=>∃ t,u=Value.int i t
 |.str x,u=>∃ t,u=Value.str x t
 |.byt b,u=>∃ t,u=Value.bytes b t
 |.flt b,u=>∃ t,u=Value.float b t
 |.ref a,u=>u=Value.ref a
 |.ty n,u=>u=Value.type n
abbrev aU:List V->List Value->Prop:=qfF bK
theorem aU.length {xs:List V}{us:List Value} (r:aU xs us):xs.length=us.length:=qgq r
theorem aU.get:∀ {xs:List V}{us:List Value}{i:Nat}{x:V},aU xs us->xs[i]?=some x->∃ u,us[i]?=some u/\bK x u
 |_,_,_,_,.nil,e=>by simp at e
 |_,_,0,_,.cons r _,e=>by simp at e;subst e;exact⟨_,rfl,r⟩
 |_,_,i+1,x,.cons _ t,e=>by
  obtain⟨u,h1,h2⟩:=aU.get (i:=i) (x:=x) t (by simpa using e)
  exact⟨u,by simpa using h1,h2⟩
theorem aU.set {x:V}{u:Value} (r:bK x u):∀ {xs:List V}{us:List Value} (i:Nat),aU xs us->aU (xs.set i x) (us.set i u)
 |_,_,_,.nil=>.nil
 |_,_,0,.cons _ t=>.cons r t
 |_,_,i+1,.cons q t=>.cons q (aU.set r i t)
theorem aU.append:∀ {xs ys:List V}{us ws:List Value},aU xs us->aU ys ws->aU (xs++ys) (us++ws)
 |_,_,_,_,.nil,s=>s
 |_,_,_,_,.cons r t,s=>.cons r (aU.append t s)
theorem aU.take:∀ {xs:List V}{us:List Value} (n:Nat),aU xs us->aU (xs.take n) (us.take n)
 |_,_,0,_=>.nil
 |_,_,_+1,.nil=>.nil
 |_,_,n+1,.cons r t=>.cons r (aU.take n t)
theorem aU.drop:∀ {xs:List V}{us:List Value} (n:Nat),aU xs us->aU (xs.drop n) (us.drop n)
 |_,_,0,r=>r
 |_,_,_+1,.nil=>.nil
 |_,_,n+1,.cons _ t=>aU.drop n t
def uC:Option V->Option Value->Prop
 |some v,some u=>bK v u
 |none,none=>True
 |_,_=>False
def KV {κ:Type}:List (κ×V)->List (κ×Value)->Prop:=qfF λ(p:κ×V) (q:κ×Value)=>p.1=q.1/\bK p.2 q.2
def kV:Key->V
 |.inl i=>.int i
 |.inr x=>.str x
inductive HO where
 |lst (xs:List V)
 |tup (xs:List V)
 |dK (kvs:List (Key×V))|dT (kvs:List (List Key×V))
 |set (S:Int->Bool) (n:Nat)
 |ins (C dx:Addr) (fs:List (Str×V))
 |own (x:Addr)
 |xd (fs:List (Str×V))
 |met (f x:Addr)
 |rng (lo hi:Int)
 |frz (o:Obj) (u:HO)
 |tbl (ps:Array Value)
 |ext (φ:Heap->Prop)
abbrev Hp:=Addr->Option HO
def upd (H:Hp) (a:Addr) (o:HO):Hp:=λb=>if b=a then some o else H b
theorem upd_same {H:Hp}{a:Addr}{o:HO}:upd H a o a=some o:=by unfold upd;rw[if_pos rfl]
theorem upd_ne {H:Hp}{a b:Addr}{o:HO} (h:b≠a):upd H a o b=H b:=by unfold upd;rw[if_neg h]
theorem aT {H:Hp}{a b:Addr}{o:HO} (h:H a=some o) (h':H b=none):a≠b:=by
 intro e;subst e;rw[h]at h';cases h'
def eS (h:Heap) (a:Addr) (its:Array Value):Prop:=∃ o:Obj,h.get? a=some o/\o.cls=.type "tuple"/\(∃ n,o.data=.seq its n)/\o.dict=none
theorem eS.tup {h:Heap}{a:Addr}{its:Array Value} (x:eS h a its):IsTup h a its:=let ⟨o,e,c,n,_⟩:=x;⟨o,e,c,n⟩
theorem eS.new (h:Heap) (its:Array Value):eS (h.push { cls:=.type "tuple",data:=.seq its }) h.objs.size its:=⟨_,qaE _ rfl,rfl,⟨_,rfl⟩,rfl⟩
section
variable (P:qa1) (w:World)
def dI (H:Hp) (h:Heap) (a:Addr):HO->Prop
 |.lst xs=>xs.length<=qaN/\∃ (its:List Value) (n:Nat),aU xs its/\h.get? a=some { cls:=.type "list",data:=.seq its.toArray n }
 |.tup xs=>xs.length<=qaN/\∃ its:List Value,aU xs its/\eS h a its.toArray
 |.dK kvs=>kvs.length<=qaN/\(a==qfB)=false/\∃ vs,KV kvs vs/\h.DictOf (kQ P w) a vs
 |.dT kvs=>kvs.length<=qaN/\(a==qfB)=false/\∃ xs:List (List Key×Addr×Value),
   qfF (λ(p:List Key×V) (q:List Key×Addr×Value)=>p.1=q.1/\H q.2.1=some (.tup (p.1.map kV))/\bK p.2 q.2.2) kvs xs/\
   ∃ o es ep,h.get? a=some o/\o.ExactDict/\o.data=.dict es ep/\es.toList=xs.map (entryOfKey (tupleKind (kQ P w)))/\(xs.map (·.1)).Nodup
 |.set S n=>h.SetOf (intKind P w) a S n
 |.ins C dx fs=>H dx=some (.own a)/\fs.length<=1000/\dx≠a/\h.get? a=some (qbT C dx)/\
   ∃ mA,h.Ns1 dx mA/\(∀ f,uC (fs.lookup f) (mA f))/\qfg mA (fs.map (·.1))
 |.own _=>∃ o,h.get? a=some o
 |.xd fs=>∃ mA,h.Ns1 a mA/\∀ f,uC (fs.lookup f) (mA f)
 |.rng lo hi=>∃ t u v,h.get? a=some { cls:=.type "range",data:=.fields #[.int lo t,.int hi u,.int 1 v] }
 |.frz o u=>h.get? a=some o/\dI H h a u
 |.tbl ps=>h.get? a=some { cls:=.none,data:=.fields ps }
 |.met f x=>h.get? a=some (qd4 (.ref f) (.ref x))
 |.ext φ=>φ h/\(∃ o,h.get? a=some o)/\∀ h1 h2:Heap,φ h1->(∀ o,h1.get? a=some o->h2.get? a=some o)->φ h2
def HOk (H:Hp) (h:Heap):Prop:=∀ a o,H a=some o->dI P w H h a o
end
section
variable {P:qa1}{w:World}{H H':Hp}{h h':Heap}{a:Addr}{o:HO}
theorem dI.lt (x:dI P w H h a o):a<h.objs.size:=by
 cases o with
 |lst xs=>obtain⟨_,_,_,_,e⟩:=x;exact qaz e
 |tup xs=>obtain⟨_,_,_,p⟩:=x;exact p.tup.lt
 |dK kvs=>obtain⟨_,_,_,_,o,_,_,e,_⟩:=x;exact qaz e
 |dT kvs=>obtain⟨_,_,_,_,o,_,_,e,_⟩:=x;exact qaz e
 |set S n=>obtain⟨o,_,_,_,e,_⟩:=x;exact qaz e
 |ins C dx fs=>obtain⟨_,_,_,e,_⟩:=x;exact qaz e
 |own y=>obtain⟨_,e⟩:=x;exact qaz e
 |xd fs=>obtain⟨_,⟨_,_,_,e,_⟩,_⟩:=x;exact qaz e
 |rng lo hi=>obtain⟨_,_,_,e⟩:=x;exact qaz e
 |frz ob u=>obtain⟨e,_⟩:=x;exact qaz e
 |tbl ps=>exact qaz (show h.get? a=some _ from x)
 |met f y=>exact qaz (show h.get? a=some _ from x)
 |ext φ=>obtain⟨_,⟨_,e⟩,_⟩:=x;exact qaz e
theorem qfF.mapP {α β:Type}{F G:α->β->Prop}:∀ {l₁:List α}{l₂:List β},qfF F l₁ l₂->(∀ a b,F a b->G a b)->qfF G l₁ l₂
 |_,_,.nil,_=>.nil
 |_,_,.cons r t,f=>.cons (f _ _ r) (qfF.mapP t f)
theorem dI.stay (x:dI P w H h a o) (k:∀ b u,(b=a\/H b=some (.own a))->h.get? b=some u->h'.get? b=some u)
  (ho:∀ b,H b=some (.own a)->H' b=some (.own a)) (ht:∀ b xs,H b=some (.tup xs)->H' b=some (.tup xs)):dI P w H' h' a o:=by
 induction o with
 |lst xs=>obtain⟨z,its,n,r,e⟩:=x;exact⟨z,its,n,r,k _ _ (.inl rfl) e⟩
 |tup xs=>obtain⟨z,its,r,ob,e,c⟩:=x;exact⟨z,its,r,ob,k _ _ (.inl rfl) e,c⟩
 |dK kvs=>obtain⟨z,y,vs,r,ob,es,ep,e,c⟩:=x;exact⟨z,y,vs,r,ob,es,ep,k _ _ (.inl rfl) e,c⟩
 |dT kvs=>
  obtain⟨z,y,xs,r,ob,es,ep,e,c⟩:=x
  exact⟨z,y,xs,qfF.mapP r λp q z=>⟨z.1,ht _ _ z.2.1,z.2.2⟩,ob,es,ep,k _ _ (.inl rfl) e,c⟩
 |set S n=>obtain⟨ob,es,ep,t,e,c⟩:=x;exact⟨ob,es,ep,t,k _ _ (.inl rfl) e,c⟩
 |ins C dx fs=>
  obtain⟨d,z,ne,e,mA,⟨od,es,ep,e2,c⟩,r⟩:=x
  exact⟨ho _ d,z,ne,k _ _ (.inl rfl) e,mA,⟨od,es,ep,k _ _ (.inr d) e2,c⟩,r⟩
 |own y=>obtain⟨ob,e⟩:=x;exact⟨ob,k _ _ (.inl rfl) e⟩
 |xd fs=>obtain⟨mA,⟨od,es,ep,e,c⟩,r⟩:=x;exact⟨mA,⟨od,es,ep,k _ _ (.inl rfl) e,c⟩,r⟩
 |rng lo hi=>obtain⟨t,u,v,e⟩:=x;exact⟨t,u,v,k _ _ (.inl rfl) e⟩
 |frz ob u ih=>obtain⟨e,q⟩:=x;exact⟨k _ _ (.inl rfl) e,ih q⟩
 |tbl ps=>
  have e:h.get? a=some { cls:=.none,data:=.fields ps }:=x
  show h'.get? a=some { cls:=.none,data:=.fields ps }
  exact k a _ (.inl rfl) e
 |met f y=>
  have e:h.get? a=some (qd4 (.ref f) (.ref y)):=x
  show h'.get? a=some (qd4 (.ref f) (.ref y))
  exact k a _ (.inl rfl) e
 |ext φ=>obtain⟨p,⟨o,e⟩,st⟩:=x;exact⟨st _ _ p λo q=>k _ _ (.inl rfl) q,⟨o,k _ _ (.inl rfl) e⟩,st⟩
theorem HOk.lt (x:HOk P w H h) (e:H a=some o):a<h.objs.size:=(x a o e).lt
theorem HOk.fresh (x:HOk P w H h) (e:h.objs.size<=a):H a=none:=by
 cases q:H a with
 |none=>rfl
 |some u=>exact absurd (qaT (x.lt q) e) (qaX _)
theorem HOk.kept (x:HOk P w H h) (k:∀ b u,h.get? b=some u->h'.get? b=some u):HOk P w H h':=λa o e=>
 (x a o e).stay (λb u _ q=>k b u q) (λ_ q=>q) λ_ _ q=>q
theorem HOk.laid (x:HOk P w H h) (k:∀ b u,h.get? b=some u->h'.get? b=some u) (hp:h.objs.size<=a) (new:dI P w (upd H a o) h' a o):HOk P w (upd H a o) h':=λb u e=>by
 have hn:=x.fresh hp
 by_cases hb:b=a
 ·subst hb;rw[upd_same]at e;cases e;exact new
 ·rw[upd_ne hb]at e
  exact (x b u e).stay (λc v _ q=>k c v q) (λc q=>by rw[upd_ne (aT q hn)];exact q) λc xs q=>by rw[upd_ne (aT q hn)];exact q
end
def Rd (H:Hp) (a:Addr) (u:HO):Prop:=H a=some u\/∃ o,H a=some (.frz o u)
theorem Rd.of {H:Hp}{a:Addr}{u:HO} (h:H a=some u):Rd H a u:=.inl h
theorem Rd.ok {P:qa1}{w:World}{H:Hp}{h:Heap}{a:Addr}{u:HO} (r:Rd H a u) (x:HOk P w H h):dI P w H h a u:=by
 rcases r with r|⟨o,r⟩
 ·exact x a u r
 ·obtain⟨_,q⟩:=x a _ r
  exact q
def Mut:Option HO->Prop
 |some (.lst _)=>True
 |some (.dK _)=>True
 |some (.dT _)=>True
 |some (.set _ _)=>True
 |some (.ins _ _ _)=>True
 |some (.ext _)=>True
 |_=>False
section
variable {P:qa1}{w:World}{H:Hp}{h h':Heap}{x e:Addr}{o':HO}
theorem HOk.write (ok:HOk P w H h) (mu:Mut (H x)) (he:e=x\/H e=some (.own x)) (k:∀ b u,b≠e->h.get? b=some u->h'.get? b=some u) (heo:∃ u,h'.get? e=some u)
  (new:dI P w (upd H x o') h' x o'):HOk P w (upd H x o') h':=λb u q=>by
 have nown:∀ c y,H c=some (.own y)->c≠x:=λc y r z=>by subst z;rw[r]at mu;exact mu
 have ntup:∀ c xs,H c=some (.tup xs)->c≠x:=λc xs r z=>by subst z;rw[r]at mu;exact mu
 by_cases hb:b=x
 ·subst hb;rw[upd_same]at q;cases q;exact new
 ·rw[upd_ne hb]at q
  by_cases hbe:b=e
  ·have q':H b=some (.own x):=by
    rcases he with z|z
    ·exact absurd (hbe.trans z) hb
    ·rw[hbe];exact z
   rw[q]at q';cases q'
   obtain⟨v,hv⟩:=heo
   exact⟨v,by rw[hbe];exact hv⟩
  ·refine (ok b u q).stay (λc v hc r=>k c v ?_ r) (λc r=>by rw[upd_ne (nown c b r)];exact r) λc xs r=>by rw[upd_ne (ntup c xs r)];exact r
   rcases hc with rfl|hc
   ·exact hbe
   ·rintro rfl
    rcases he with z|z
    ·exact nown c b hc z
    ·rw[hc]at z;cases z;exact hb rfl
end
structure Un (fs ex:List Addr) (H H':Hp) (h h':Heap):Prop where
 keep:∀ b o,h.get? b=some o->H b=none->b∉fs->b∉ex->h'.get? b=some o
 slot:∀ b o,h.get? b=some o->H b=none->b∈fs->b∉ex->∃ sl,h'.get? b=some { o with slots:=sl }
 free:∀ b o,h.get? b=some o->H b=none->b∉ex->H' b=none
 there:∀ b o,h.get? b=some o->b∉ex->∃ o',h'.get? b=some o'
 tups:∀ b xs,H b=some (.tup xs)->H' b=some (.tup xs)
 frzs:∀ b o u,H b=some (.frz o u)->H' b=some (.frz o u)
 tbls:∀ b ps,H b=some (.tbl ps)->∃ more,H' b=some (.tbl (ps++more))
section
variable {fs fs' ex ex':List Addr}{H H1 H2:Hp}{h h1 h2 h':Heap}{a x e:Addr}{o:HO}
theorem Un.any (u:Un fs ex H H1 h h1) {b:Addr}{ob:Obj} (q:h.get? b=some ob) (n:H b=none) (hx:b∉ex):∃ sl,h1.get? b=some { ob with slots:=sl }:=by
 by_cases hb:b∈fs
 ·exact u.slot b ob q n hb hx
 ·exact⟨ob.slots,u.keep b ob q n hb hx⟩
theorem Un.kept (k:∀ b u,h.get? b=some u->h'.get? b=some u):Un fs ex H H h h':=
 ⟨λb ob q _ _ _=>k b ob q,λb ob q _ _ _=>⟨ob.slots,k b ob q⟩,λ_ _ _ n _=>n,λb ob q _=>⟨ob,k b ob q⟩,λ_ _ q=>q,λ_ _ _ q=>q,λ_ ps q=>⟨#[],by rw[q];simp⟩⟩
theorem Un.refl:Un fs ex H H h h:=Un.kept λ_ _ q=>q
theorem Un.laid (k:∀ b u,h.get? b=some u->h'.get? b=some u) (hp:h.objs.size<=a) (hn:H a=none):Un fs ex H (upd H a o) h h' where
 keep:=λb u q _ _ _=>k b u q
 slot:=λb u q _ _ _=>⟨u.slots,k b u q⟩
 free:=λb u q n _=>by rw[upd_ne (qaO (qaT (qaz q) hp))];exact n
 there:=λb u q _=>⟨u,k b u q⟩
 tups:=λb xs q=>by rw[upd_ne (aT q hn)];exact q
 frzs:=λb u xs q=>by rw[upd_ne (aT q hn)];exact q
 tbls:=λb ps q=>⟨#[],by rw[upd_ne (aT q hn),q];simp⟩
theorem Un.write (mu:Mut (H x)) (he:e=x\/H e=some (.own x)) (k:∀ b u,b≠e->h.get? b=some u->h'.get? b=some u) (heo:∃ u,h'.get? e=some u):Un fs ex H (upd H x o) h h':=by
 have hx:∀ b,H b=none->b≠x:=λb n z=>by subst z;rw[n]at mu;exact mu
 have hb:∀ b,H b=none->b≠e:=λb n z=>by
  subst z
  rcases he with r|r
  ·exact hx b n r
  ·rw[n]at r;cases r
 have hm:∀ b u,H b=some u->¬ Mut (some u)->b≠x:=λb u q nm z=>by subst z;rw[q]at mu;exact nm mu
 refine⟨λb u q n _ _=>k b u (hb b n) q,λb u q n _ _=>⟨u.slots,k b u (hb b n) q⟩,λb u q n _=>by rw[upd_ne (hx b n)];exact n,λb u q _=>?_,
  λb xs q=>by rw[upd_ne (hm b _ q λz=>z)];exact q,λb u xs q=>by rw[upd_ne (hm b _ q λz=>z)];exact q,λb ps q=>⟨#[],by rw[upd_ne (hm b _ q λz=>z),q];simp⟩⟩
 by_cases hbe:b=e
 ·subst hbe;exact heo
 ·exact⟨u,k b u hbe q⟩
end
def trk (h:Heap) (H:Hp):List Addr:=(qah h.objs.size).filter λa=>(H a).isSome
def qo (h:Heap) (H:Hp):Heap:=PySem.W.hideAll h (trk h H)
theorem vT (h:Heap) (H:Hp):(qo h H).objs.size=h.objs.size:=PySem.W.hideAll_size _ _
theorem xN {h:Heap}{H:Hp}{b:Addr}{o:Obj} (e:h.get? b=some o) (n:H b=none):(qo h H).get? b=some o:=
 PySem.W.hideAll_get _ e λhm=>by
  have q:(H b).isSome=true:=(qcF.mp hm).2
  rw[n]at q;simp at q
theorem yE {h:Heap}{H:Hp}{b:Addr}{o:Obj} (e:(qo h H).get? b=some o):h.get? b=some o/\H b=none:=by
 have e':h.get? b=some o:=PySem.W.of_hideAll (trk h H) e
 refine⟨e',?_⟩
 cases q:H b with
 |none=>rfl
 |some x=>
  have hm:b∈trk h H:=qcF.mpr ⟨qaG.mpr (qaz e'),by simp[q]⟩
  have z:(qo h H).get? b=none:=PySem.W.hideAll_none (trk h H) hm
  rw[z]at e;cases e
structure Mod (K:qac) (mg:Str->Option Value) (base:Heap):Prop where
 kin:K.In base
 glob:base.Ns qat mg
 blt:∃ mb,base.Ns qfD mb/\∀ x:Str,x≠"__name__"->mb x=qb9 x
 nolimit:base.NoLimit
structure Cx where
 prog:qa1
 w:World
 K:qac
 mg:Str->Option Value
 base:Heap
 A:qa8
 N:List Str
 s₀:qak
 H₀:Hp
 env:Env
 outer:List Env
 stack:List Env
 ex:List Addr
 fn:Str->Bool
 calm:Bool
 pn:List (Addr×Obj)
 xe:Value->qak->Prop
def frs (l:List Env):List Addr:=l.filterMap (·.frame)
abbrev Cx.fs (X:Cx):List Addr:=frs X.outer
def Vis (sc:Scope) (x:Str):Prop:=sc.names.lookup x=some .local\/sc.names.lookup x=some .cell\/sc.names.lookup x=some .free
def Loc (sc:Scope) (x:Str):Prop:=sc.names.lookup x=some .local\/sc.names.lookup x=some .cell
def CT (env:Env) (h:Heap) (m:Str->Option Value) (x:Str) (u:Value):Prop:=
 (env.kindOf x=some .local/\m x=some u)\/((env.kindOf x=some .cell\/env.kindOf x=some .free)/\∃ c,env.cells.lookup x=some c/\h.IsCell c (some u))
structure Cx.Ok (X:Cx):Prop where
 mod:Mod X.K X.mg X.base
 kind:X.env.scope.kind=.function
 glob:X.env.globals=qat
 blt:X.env.builtins=qfD
 above:X.s₀.heap.objs.size<=X.env.locals
 inj:∀ x y c,X.env.cells.lookup x=some c->X.env.cells.lookup y=some c->x=y
 has:∀ x,(X.env.kindOf x=some .cell\/X.env.kindOf x=some .free)->∃ c,X.env.cells.lookup x=some c
 cab:∀ x c,X.fn x=true->X.env.cells.lookup x=some c->X.s₀.heap.objs.size<=c
 hd:X.calm=true->X.A.handled=none
 frames:X.A.frames=some X.stack
 stk:X.stack=X.outer\/(X.stack=X.env::X.outer/\X.env.frame=some X.env.locals)
 exf:∀ b∈X.ex,b≠X.env.locals/\∀ x c,X.env.cells.lookup x=some c->c≠b
 bs:∀ b o,X.base.get? b=some o->X.s₀.heap.get? b=some o/\X.H₀ b=none
 bsz:X.base.objs.size<=X.s₀.heap.objs.size
 noex:∀ b o,X.base.get? b=some o->b∉X.ex
 exfs:∀ b∈X.ex,b∉X.fs
 funs:X.s₀.heap.FunFrames X.base X.outer
 frf:∀ b∈X.fs,X.H₀ b=none
structure Inv (X:Cx) (pins:List (Addr×Obj)) (σ:List (Option V)) (H:Hp) (s:qak):Prop where
 ok:X.Ok
 os:s.os=X.s₀.os
 bare:qev s.gens
 base:Un X.fs X.ex X.H₀ H X.s₀.heap s.heap
 loc:∃ m,s.heap.Ns X.env.locals m/\∀ (i:Nat) (x:Str) (v:V),X.N[i]?=some x->σ[i]?=some (some v)->Vis X.env.scope x->∃ u,bK v u/\CT X.env s.heap m x u
 cell:∀ x c,X.env.cells.lookup x=some c->∃ v,s.heap.IsCell c v
 free:H X.env.locals=none
 freeC:∀ x c,X.env.cells.lookup x=some c->H c=none
 pin:∀ p∈X.pn++pins,s.heap.get? p.1=some p.2/\H p.1=none/\p.1≠X.env.locals/\p.1∉X.fs/\∀ v,p.2.data≠.cell v
 hok:HOk X.prog X.w H s.heap
 len:σ.length=X.N.length
section
variable {X:Cx}{pins:List (Addr×Obj)}{σ:List (Option V)}{H H':Hp}{s:qak}{h':Heap}
theorem Cx.Ok.nofr (ok:X.Ok) {b:Addr}{o:Obj} (e:X.base.get? b=some o):b∉X.fs:=λhb=>by
 have:=(ok.funs.mem hb).1
 rw[e]at this;cases this
theorem Inv.bs (I:Inv X pins σ H s):∀ b o,X.base.get? b=some o->s.heap.get? b=some o/\H b=none:=λb o e=>
 ⟨I.base.keep b o (I.ok.bs b o e).1 (I.ok.bs b o e).2 (I.ok.nofr e) (I.ok.noex b o e),I.base.free b o (I.ok.bs b o e).1 (I.ok.bs b o e).2 (I.ok.noex b o e)⟩
theorem Inv.bk (I:Inv X pins σ H s):∀ b o,X.base.get? b=some o->s.heap.get? b=some o:=λb o e=>(I.bs b o e).1
theorem Inv.mod (I:Inv X pins σ H s):Mod X.K X.mg X.base:=I.ok.mod
theorem Inv.kIn (I:Inv X pins σ H s):X.K.In s.heap:=I.ok.mod.kin.keeps I.bk
theorem Inv.fr (I:Inv X pins σ H s):∃ m,Fr X.base X.env.locals s.heap m:=
 let ⟨m,hn,_⟩:=I.loc
 ⟨m,hn,I.bk,qa2 I.ok.bsz I.ok.above⟩
theorem Inv.lt (I:Inv X pins σ H s):X.env.locals<s.heap.objs.size:=let ⟨_,hn,_⟩:=I.loc;hn.lt
theorem Inv.sz (I:Inv X pins σ H s):X.s₀.heap.objs.size<=s.heap.objs.size:=qa2 I.ok.above (qew I.lt)
theorem Inv.nofs (I:Inv X pins σ H s) {a:Addr} (h:s.heap.objs.size<=a):a∉X.fs:=λhb=>by
 obtain⟨_,o,ho,_⟩:=I.ok.funs.mem hb
 exact absurd (qaT (qaz ho) (qa2 I.sz h)) (qaX _)
theorem Inv.cne (I:Inv X pins σ H s):∀ x c,X.env.cells.lookup x=some c->c≠X.env.locals:=λx c e z=>by
 obtain⟨v,o,ho,hd⟩:=I.cell x c e
 obtain⟨m,⟨o',es,ep,ho',hd',_⟩,_⟩:=I.loc
 rw[z,ho']at ho;cases ho;rw[hd']at hd;cases hd
theorem Inv.funs (I:Inv X pins σ H s):s.heap.FunFrames X.base X.outer:=by
 have all:∀ (l:List Env),(∀ b∈frs l,b∈X.fs)->X.s₀.heap.FunFrames X.base l->s.heap.FunFrames X.base l:=by
  intro l
  induction l with
  |nil=>intro _ _;trivial
  |cons env r ih=>
   intro hs hl
   obtain⟨hk,⟨L,o,hf,hn,ho,hd⟩,hr⟩:=hl
   have hL:L∈X.fs:=hs L (by unfold frs;rw[qc4,hf];exact qaf)
   obtain⟨sl,e⟩:=I.base.slot L o ho (I.ok.frf L hL) hL λz=>I.ok.exfs L z hL
   exact⟨hk,⟨L,_,hf,hn,e,hd⟩,ih (λb hb=>hs b (by unfold frs;rw[qc4,hf];exact qaj _ hb)) hr⟩
 exact all X.outer (λ_ hb=>hb) I.ok.funs
theorem Inv.stack (I:Inv X pins σ H s):s.heap.FunFrames X.base X.stack:=by
 rcases I.ok.stk with e|⟨e,hf⟩
 ·rw[e];exact I.funs
 ·rw[e]
  obtain⟨m,hn,_⟩:=I.loc
  refine .cons (by rw[I.ok.kind];decide) hf hn ?_ I.funs
  exact Heap.get?_none_of_le (qa2 I.ok.bsz I.ok.above)
theorem Inv.stkSub (I:Inv X pins σ H s):∀ b∈frs X.stack,b∈X.env.locals::X.fs:=λb hb=>by
 rcases I.ok.stk with e|⟨e,hf⟩
 ·rw[e]at hb;exact qaj _ hb
 ·rw[e]at hb
  unfold frs at hb
  rw[qc4,hf]at hb
  exact hb
theorem Inv.stkFree (I:Inv X pins σ H s):∀ b∈frs X.stack,H b=none:=λb hb=>by
 rcases qar.mp (I.stkSub b hb) with e|hb
 ·rw[e];exact I.free
 ·obtain⟨_,o,ho,_⟩:=I.ok.funs.mem hb
  exact I.base.free b o ho (I.ok.frf b hb) λz=>I.ok.exfs b z hb
theorem Inv.step {g':Array GenState}{t':Nat}{d':Drawn}{ch:List Addr} (I:Inv X pins σ H s)
  (hch:∀ b∈ch,(b∈X.ex\/X.s₀.heap.objs.size<=b)/\b≠X.env.locals/\(∀ x c,X.env.cells.lookup x=some c->c≠b)/\∀ p∈X.pn++pins,p.1≠b)
  (keep:∀ b o,b≠X.env.locals->b∉X.fs->b∉ch->s.heap.get? b=some o->H b=none->h'.get? b=some o)
  (slot:∀ b o,b≠X.env.locals->b∈X.fs->b∉ch->s.heap.get? b=some o->H b=none->∃ sl,h'.get? b=some { o with slots:=sl }) (free:∀ b o,b∉ch->s.heap.get? b=some o->H b=none->H' b=none)
  (there:∀ b o,b∉ch->s.heap.get? b=some o->∃ o',h'.get? b=some o')
  (tups:∀ b xs,H b=some (.tup xs)->H' b=some (.tup xs)) (frzs:∀ b o u,H b=some (.frz o u)->H' b=some (.frz o u)) (tbls:∀ b ps,H b=some (.tbl ps)->∃ more,H' b=some (.tbl (ps++more)))
  (ns:∀ m,s.heap.Ns X.env.locals m->h'.Ns X.env.locals m) (hok:HOk X.prog X.w H' h') (hg:qev g') :
  Inv X pins σ H' { s with heap:=h',gens:=g',drawn:=d',toks:=t' }:=by
 have neL:∀ b o,X.s₀.heap.get? b=some o->b≠X.env.locals:=λb o e=>qaO (qaT (qaz e) I.ok.above)
 have neC:∀ b o,X.s₀.heap.get? b=some o->b∉X.ex->b∉ch:=λb o e hx hb=>by
  rcases (hch b hb).1 with z|z
  ·exact hx z
  ·exact absurd (qaT (qaz e) z) (qaX _)
 have cellK:∀ x c,X.env.cells.lookup x=some c->∀ v,s.heap.IsCell c v->h'.IsCell c v:=λx c e v ⟨o,ho,hd⟩=>by
  have nch:c∉ch:=λz=>(hch c z).2.2.1 x c e rfl
  by_cases hc:c∈X.fs
  ·obtain⟨sl,q⟩:=slot c o (I.cne x c e) hc nch ho (I.freeC x c e)
   exact⟨_,q,hd⟩
  ·exact⟨o,keep c o (I.cne x c e) hc nch ho (I.freeC x c e),hd⟩
 refine⟨I.ok,I.os,hg,⟨λb o e n hb hx=>?_,λb o e n hb hx=>?_,λb o e n hx=>?_,λb o e hx=>?_,λb xs e=>tups b xs (I.base.tups b xs e),λb o xs e=>frzs b o xs (I.base.frzs b o xs e),λb ps e=>?_⟩,?_,λx c e=>?_,?_,λx c e=>?_,λp hp=>?_,hok,I.len⟩
 ·exact keep b o (neL b o e) hb (neC b o e hx) (I.base.keep b o e n hb hx) (I.base.free b o e n hx)
 ·obtain⟨sl,e1⟩:=I.base.slot b o e n hb hx
  obtain⟨sl',e2⟩:=slot b _ (neL b o e) hb (neC b o e hx) e1 (I.base.free b o e n hx)
  exact⟨sl',e2⟩
 ·obtain⟨o',e1⟩:=I.base.there b o e hx
  exact free b o' (neC b o e hx) e1 (I.base.free b o e n hx)
 ·obtain⟨o',e1⟩:=I.base.there b o e hx
  exact there b o' (neC b o e hx) e1
 ·obtain⟨m1,e1⟩:=I.base.tbls b ps e
  obtain⟨m2,e2⟩:=tbls b _ e1
  exact⟨m1++m2,by rw[e2,Array.append_assoc]⟩
 ·obtain⟨m,hn,hl⟩:=I.loc
  refine⟨m,ns m hn,λi x v e1 e2 e3=>?_⟩
  obtain⟨u,r,l⟩:=hl i x v e1 e2 e3
  refine⟨u,r,?_⟩
  rcases l with l|⟨k,c,e,z⟩
  ·exact .inl l
  ·exact .inr ⟨k,c,e,cellK x c e _ z⟩
 ·obtain⟨v,z⟩:=I.cell x c e
  exact⟨v,cellK x c e v z⟩
 ·obtain⟨m,⟨o,_,_,ho,_⟩,_⟩:=I.loc
  exact free _ o (λz=>(hch _ z).2.1 rfl) ho I.free
 ·obtain⟨v,o,ho,hd⟩:=I.cell x c e
  exact free c o (λz=>(hch c z).2.2.1 x c e rfl) ho (I.freeC x c e)
 ·obtain⟨e,n,ne,nf,d⟩:=I.pin p hp
  have nch:p.1∉ch:=λz=>(hch p.1 z).2.2.2 p hp rfl
  exact⟨keep p.1 p.2 ne nf nch e n,free p.1 p.2 nch e n,ne,nf,d⟩
theorem Inv.un {t':Nat} (I:Inv X pins σ H s) (u:Un X.fs [] H H' s.heap h') (hok:HOk X.prog X.w H' h'):Inv X pins σ H' { s with heap:=h',toks:=t' }:=by
 obtain⟨m,⟨o,es,ep,ho,r⟩,_⟩:=id I.loc
 obtain⟨sl,hL⟩:=u.any ho I.free (by simp)
 exact I.step (g':=s.gens) (d':=s.drawn) (ch:=[]) (λ_ z=>nomatch z) (λb o _ hb _ e n=>u.keep b o e n hb (by simp)) (λb o _ hb _ e n=>u.slot b o e n hb (by simp)) (λb o _ e n=>u.free b o e n (by simp)) (λb o _ e=>u.there b o e (by simp)) u.tups u.frzs u.tbls (λm' hm=>by
  obtain⟨o',es',ep',ho',r'⟩:=hm
  rw[ho]at ho';cases ho'
  exact⟨_,es',ep',hL,r'⟩) hok I.bare
theorem Inv.call {g':Array GenState}{t':Nat}{d':Drawn}{ch:List Addr} (I:Inv X pins σ H s) (u:Un (frs X.stack) ch H H' s.heap h') (hok:HOk X.prog X.w H' h') (hg:qev g')
  (hch:∀ b∈ch,(b∈X.ex\/X.s₀.heap.objs.size<=b)/\b≠X.env.locals/\(∀ x c,X.env.cells.lookup x=some c->c≠b)/\∀ p∈X.pn++pins,p.1≠b) :
  Inv X pins σ H' { s with heap:=h',gens:=g',drawn:=d',toks:=t' }:=by
 obtain⟨m,⟨o,es,ep,ho,r⟩,_⟩:=id I.loc
 obtain⟨sl,hL⟩:=u.any ho I.free λz=>(hch _ z).2.1 rfl
 exact I.step (ch:=ch) hch (λb o hL hb hc e n=>u.keep b o e n (λz=>(qar.mp (I.stkSub b z)).elim hL hb) hc) (λb o _ _ hc e n=>u.any e n hc) (λb o hc e n=>u.free b o e n hc) (λb o hc e=>u.there b o e hc) u.tups u.frzs u.tbls (λm' hm=>by
  obtain⟨o',es',ep',ho',r'⟩:=hm
  rw[ho]at ho';cases ho'
  exact⟨_,es',ep',hL,r'⟩) hok hg
theorem Inv.turned {t':Nat}{it:Addr} (I:Inv X pins σ H s) (k:∀ b o,b≠it->s.heap.get? b=some o->h'.get? b=some o) (hn:H it=none) (hL:it≠X.env.locals)
  (h1:it∈X.ex\/X.s₀.heap.objs.size<=it) (h2:∀ x c,X.env.cells.lookup x=some c->c≠it) (h3:∀ p∈X.pn++pins,p.1≠it):Inv X pins σ H { s with heap:=h',toks:=t' }:=by
 have nit:∀ b u,H b=some u->b≠it:=λb u e z=>by rw[z,hn]at e;cases e
 refine I.step (g':=s.gens) (d':=s.drawn) (ch:=[it]) (λb hb=>?_) (λb o _ _ hc e _=>k b o (λz=>hc (by simp[z])) e) (λb o _ _ hc e _=>⟨o.slots,k b o (λz=>hc (by simp[z])) e⟩) (λ_ _ _ _ n=>n)
  (λb o hc e=>⟨o,k b o (λz=>hc (by simp[z])) e⟩) (λ_ _ e=>e) (λ_ _ _ e=>e) (λb ps e=>⟨#[],by rw[e];simp⟩) (λm hm=>?_) (λb u e=>?_) I.bare
 ·have e:b=it:=by simpa using hb
  subst e
  exact⟨h1,hL,h2,h3⟩
 ·obtain⟨o,es,ep,ho,r⟩:=hm
  exact⟨o,es,ep,k _ o (qbu hL) ho,r⟩
 ·refine (I.hok b u e).stay (λc v hc q=>k c v ?_ q) (λ_ q=>q) λ_ _ q=>q
  rcases hc with z|z
  ·rw[z];exact nit b u e
  ·exact nit c _ z
theorem Inv.tok (I:Inv X pins σ H s) (t:Nat):Inv X pins σ H { s with toks:=t }:=I.un (h':=s.heap) (t':=t) Un.refl I.hok
theorem Inv.kept {t':Nat} (I:Inv X pins σ H s) (k:∀ b u,s.heap.get? b=some u->h'.get? b=some u):Inv X pins σ H { s with heap:=h',toks:=t' }:=I.un (Un.kept k) (I.hok.kept k)
theorem Inv.laid {a:Addr}{o:HO}{t':Nat} (I:Inv X pins σ H s) (k:∀ b u,s.heap.get? b=some u->h'.get? b=some u) (hp:s.heap.objs.size<=a) (new:dI X.prog X.w (upd H a o) h' a o) :
  Inv X pins σ (upd H a o) { s with heap:=h',toks:=t' }:=I.un (Un.laid k hp (I.hok.fresh hp)) (I.hok.laid k hp new)
theorem Inv.write {x e:Addr}{o:HO}{t':Nat} (I:Inv X pins σ H s) (mu:Mut (H x)) (he:e=x\/H e=some (.own x)) (k:∀ b u,b≠e->s.heap.get? b=some u->h'.get? b=some u) (heo:∃ u,h'.get? e=some u)
  (new:dI X.prog X.w (upd H x o) h' x o):Inv X pins σ (upd H x o) { s with heap:=h',toks:=t' }:=I.un (Un.write mu he k heo) (I.hok.write mu he k heo new)
theorem Inv.weak {σ':List (Option V)} (I:Inv X pins σ H s) (hl:σ'.length=σ.length) (w:∀ (i:Nat) v,σ'[i]?=some (some v)->σ[i]?=some (some v)):Inv X pins σ' H s:=
 ⟨I.ok,I.os,I.bare,I.base,let ⟨m,hn,hl'⟩:=I.loc;⟨m,hn,λi x v e1 e2 e3=>hl' i x v e1 (w i v e2) e3⟩,I.cell,I.free,I.freeC,I.pin,I.hok,hl.trans I.len⟩
theorem Inv.pins_of {pins':List (Addr×Obj)} (I:Inv X pins σ H s) (h:∀ p∈pins',s.heap.get? p.1=some p.2/\H p.1=none/\p.1≠X.env.locals/\p.1∉X.fs/\∀ v,p.2.data≠.cell v):Inv X pins' σ H s:=
 ⟨I.ok,I.os,I.bare,I.base,I.loc,I.cell,I.free,I.freeC,λp hp=>(qaM.mp hp).elim (λz=>I.pin p (qaY _ z)) (h p),I.hok,I.len⟩
theorem qT {N:List Str} (hN:N.Nodup) {i j:Nat}{x:Str} (a:N[i]?=some x) (b:N[j]?=some x):i=j:=by
 obtain⟨h1,e1⟩:=qao.mp a
 obtain⟨h2,e2⟩:=qao.mp b
 exact (qex hN).mp (e1.trans e2.symm)
theorem vV {M:Model}{A:qa8}{E:Value->qak->Prop}{i:Nat}{x:Str}{v:V}{u:Value}{Q:Unit->qak->Prop} (I:Inv X pins σ H s) (hN:X.N.Nodup) (hi:X.N[i]?=some x) (hx:Loc X.env.scope x) (r:bK v u)
  (h:∀ s',Inv X pins (σ.set i (some v)) H s'->(∃ a,qde a s.heap s'.heap/\(a=X.env.locals\/X.env.cells.lookup x=some a))->Q () s') (hf:X.fn x=true\/X.env.scope.names.lookup x=some .local:=by first|exact .inl rfl|exact .inr rfl|assumption):wpAny M A (storeName X.env x u) Q E s:=by
 obtain⟨m,hn,hl⟩:=id I.loc
 have hcls:(X.env.scope.kind==.class||(X.env.scope.kind==.module&&X.env.locals != X.env.globals))=false:=by rw[I.ok.kind];rfl
 have hiσ:i<σ.length:=by rw[I.len];exact (qao.mp hi).1
 have cne:=I.cne
 have tracked:∀ {a:Addr}{h':Heap},(∃ o,s.heap.get? a=some o/\H a=none)->qde a s.heap h'->HOk X.prog X.w H h':=λ{a h'} ha hs b ob e=>by
  obtain⟨_,_,hfree⟩:=ha
  refine (I.hok b ob e).stay (λc w' hc q=>(hs.2 c ?_).trans q) (λ_ q=>q) λ_ _ q=>q
  rintro rfl
  rcases hc with rfl|hc
  ·rw[hfree]at e;cases e
  ·rw[hfree]at hc;cases hc
 rcases hx with hk|hk
 ·refine wpAny_storeName_local hk hn (λh' hn' hs=>?_) hcls
  obtain⟨oL,_,_,hoL,_⟩:=id hn
  refine h _ ⟨I.ok,I.os,I.bare,⟨λb o e n hb hx=>?_,λb o e n hb hx=>?_,I.base.free,λb o e hx=>?_,I.base.tups,I.base.frzs,I.base.tbls⟩,⟨_,hn',λj y v' e1 e2 e3=>?_⟩,λy c e=>?_,I.free,I.freeC,λp hp=>?_,tracked ⟨oL,hoL,I.free⟩ hs,by simpa using I.len⟩ ⟨_,hs,.inl rfl⟩
  ·exact (hs.2 b (qaO (qaT (qaz e) I.ok.above))).trans (I.base.keep b o e n hb hx)
  ·obtain⟨sl,e1⟩:=I.base.slot b o e n hb hx
   exact⟨sl,(hs.2 b (qaO (qaT (qaz e) I.ok.above))).trans e1⟩
  ·obtain⟨o',e1⟩:=I.base.there b o e hx
   exact⟨o',(hs.2 b (qaO (qaT (qaz e) I.ok.above))).trans e1⟩
  ·by_cases hj:j=i
   ·subst hj
    rw[hi]at e1;cases e1
    rw[qba hiσ]at e2
    cases e2
    exact⟨u,r,.inl ⟨hk,by simp⟩⟩
   ·rw[qbo (qbu hj)]at e2
    obtain⟨u',r',q⟩:=hl j y v' e1 e2 e3
    refine⟨u',r',?_⟩
    rcases q with⟨k,e⟩|⟨k,c,e,z⟩
    ·refine .inl ⟨k,?_⟩
     have:y≠x:=λe=>hj (qT hN e1 (e ▸ hi))
     simp[this,e]
    ·exact .inr ⟨k,c,e,z.sameBut hs (cne y c e)⟩
  ·obtain⟨w',z⟩:=I.cell y c e
   exact⟨w',z.sameBut hs (cne y c e)⟩
  ·obtain⟨e,n,ne,nf,d⟩:=I.pin p hp
   exact⟨(hs.2 p.1 ne).trans e,n,ne,nf,d⟩
 ·have hfn:X.fn x=true:=by
   rcases hf with z|z
   ·exact z
   ·rw[z]at hk;cases hk
  obtain⟨c,hc⟩:=I.ok.has x (.inl hk)
  obtain⟨w',z⟩:=I.cell x c hc
  refine wpAny_storeName_cell I.ok.kind hk hc z (λh' hc' hs=>?_)
  obtain⟨oc,hoc,hocd⟩:=id z
  refine h { s with heap:=h' } ⟨I.ok,I.os,I.bare,⟨λb o e n hb hx=>?_,λb o e n hb hx=>?_,I.base.free,λb o e hx=>?_,I.base.tups,I.base.frzs,I.base.tbls⟩,⟨m,hn.sameBut hs (qbu (cne x c hc)),λj y v' e1 e2 e3=>?_⟩,λy c' e=>?_,I.free,I.freeC,λp hp=>?_,tracked ⟨oc,hoc,I.freeC x c hc⟩ hs,by simpa using I.len⟩ ⟨c,hs,.inr hc⟩
  ·exact (hs.2 b (qaO (qaT (qaz e) (I.ok.cab x c hfn hc)))).trans (I.base.keep b o e n hb hx)
  ·obtain⟨sl,e1⟩:=I.base.slot b o e n hb hx
   exact⟨sl,(hs.2 b (qaO (qaT (qaz e) (I.ok.cab x c hfn hc)))).trans e1⟩
  ·obtain⟨o',e1⟩:=I.base.there b o e hx
   exact⟨o',(hs.2 b (qaO (qaT (qaz e) (I.ok.cab x c hfn hc)))).trans e1⟩
  ·by_cases hj:j=i
   ·subst hj
    rw[hi]at e1;cases e1
    rw[qba hiσ]at e2
    cases e2
    exact⟨u,r,.inr ⟨.inl hk,c,hc,hc'⟩⟩
   ·rw[qbo (qbu hj)]at e2
    obtain⟨u',r',q⟩:=hl j y v' e1 e2 e3
    refine⟨u',r',?_⟩
    rcases q with q|⟨k,c',e,z'⟩
    ·exact .inl q
    ·refine .inr ⟨k,c',e,z'.sameBut hs ?_⟩
     rintro rfl
     exact hj (qT hN e1 (I.ok.inj _ _ _ e hc ▸ hi))
  ·by_cases hcc:c'=c
   ·subst hcc;exact⟨_,hc'⟩
   ·obtain⟨w2,z2⟩:=I.cell y c' e
    exact⟨w2,z2.sameBut hs hcc⟩
  ·obtain⟨e,n,ne,nf,d⟩:=I.pin p hp
   refine⟨(hs.2 p.1 ?_).trans e,n,ne,nf,d⟩
   intro q
   rw[q,hoc]at e
   have q':oc=p.2:=qaW e
   exact d w' (by rw[<-q'];exact hocd)
theorem nX {M:Model}{A:qa8}{E:Value->qak->Prop}{i:Nat}{x:Str}{v:V}{u:Value}{Q:Unit->qak->Prop} (I:Inv X pins σ H s) (hN:X.N.Nodup) (hi:X.N[i]?=some x) (hx:Loc X.env.scope x) (r:bK v u)
  (h:∀ s',Inv X pins (σ.set i (some v)) H s'->Q () s') (hf:X.fn x=true\/X.env.scope.names.lookup x=some .local:=by first|exact .inl rfl|exact .inr rfl|assumption):wpAny M A (storeName X.env x u) Q E s:=
 vV I hN hi hx r (λs' I' _=>h s' I') hf
theorem Inv.call' {s':qak}{ch:List Addr} (I:Inv X pins σ H s) (ho:s'.os=s.os) (u:Un (frs X.stack) ch H H' s.heap s'.heap) (hok:HOk X.prog X.w H' s'.heap) (hg:qev s'.gens)
  (hch:∀ b∈ch,(b∈X.ex\/X.s₀.heap.objs.size<=b)/\b≠X.env.locals/\(∀ x c,X.env.cells.lookup x=some c->c≠b)/\∀ p∈X.pn++pins,p.1≠b):Inv X pins σ H' s':=by
 obtain⟨h',g',d',t',o'⟩:=s'
 have e:o'=s.os:=ho
 subst e
 exact I.call (g':=g') (t':=t') (d':=d') u hok hg hch
end
abbrev XK:=Value->Option Addr->Hp->Prop
abbrev St:=List (Option V)
abbrev VK:=V->Hp->Prop
abbrev TE:=St->Hp->VK->Prop
abbrev TT:=St->Hp->(Bool->Hp->Prop)->Prop
abbrev TA:=St->Hp->(List V->Hp->Prop)->Prop
structure ow where
 nx:St->Hp->Prop
 rt:VK
 bk:St->Hp->Prop:=λ_ _=>False
 ct:St->Hp->Prop:=λ_ _=>False
abbrev TS:=ow->St->Hp->Prop
def EP (X:Cx) (pins:List (Addr×Obj)) (σ:St) (Q:VK) (u:Value) (s':qak):Prop:=∃ v H',Inv X pins σ H' s'/\bK v u/\Q v H'
def TP (X:Cx) (pins:List (Addr×Obj)) (σ:St) (Q:Bool->Hp->Prop) (b:Bool) (s':qak):Prop:=∃ H',Inv X pins σ H' s'/\Q b H'
def AP (X:Cx) (pins:List (Addr×Obj)) (σ:St) (Q:List V->Hp->Prop) (us:List Value) (s':qak):Prop:=∃ vs H',Inv X pins σ H' s'/\aU vs us/\Q vs H'
def SP (X:Cx) (pins:List (Addr×Obj)) (D:ow) (f:Flow) (s':qak):Prop:=
 match f with
 |.next=>∃ σ' H',Inv X pins σ' H' s'/\D.nx σ' H'
 |.brk=>∃ σ' H',Inv X pins σ' H' s'/\D.bk σ' H'
 |.cont=>∃ σ' H',Inv X pins σ' H' s'/\D.ct σ' H'
 |.ret u=>∃ v σ' H',Inv X pins σ' H' s'/\bK v u/\D.rt v H'
def PE (X:Cx) (e:Expr) (t:TE):Prop:=
 ∀ (pins:List (Addr×Obj)) (s:qak) (σ:St) (H:Hp) (Q:VK),Inv X pins σ H s->t σ H Q->wpAny (model X.prog X.w) X.A (eval e X.env) (EP X pins σ Q) X.xe s
def PT (X:Cx) (e:Expr) (t:TT):Prop:=
 ∀ (pins:List (Addr×Obj)) (s:qak) (σ:St) (H:Hp) (Q:Bool->Hp->Prop),Inv X pins σ H s->t σ H Q->wpAny (model X.prog X.w) X.A (qh4 e X.env (eval e X.env)) (TP X pins σ Q) X.xe s
def PW (X:Cx) (e:Expr) (t:TT):Prop:=
 ∀ (whole:Sem Value) (pins:List (Addr×Obj)) (s:qak) (σ:St) (H:Hp) (Q:Bool->Hp->Prop),Inv X pins σ H s->t σ H Q->wpAny (model X.prog X.w) X.A (qh4 e X.env whole) (TP X pins σ Q) X.xe s
theorem PW.pt {X:Cx}{e:Expr}{t:TT} (h:PW X e t):PT X e t:=h _
def PA (X:Cx) (es:List Expr) (t:TA):Prop:=
 ∀ (pos:Pos) (pins:List (Addr×Obj)) (s:qak) (σ:St) (H:Hp) (Q:List V->Hp->Prop),Inv X pins σ H s->t σ H Q->wpAny (model X.prog X.w) X.A (spliced (qdL pos (qbk es X.env))) (AP X pins σ Q) X.xe s
def PS (X:Cx) (st:Stmt) (t:TS):Prop:=
 ∀ (pins:List (Addr×Obj)) (s:qak) (σ:St) (H:Hp) (D:ow),Inv X pins σ H s->t D σ H->wpAny (model X.prog X.w) X.A (exec st X.env) (SP X pins D) X.xe s
def PSs (X:Cx) (st:List Stmt) (t:TS):Prop:=
 ∀ (pins:List (Addr×Obj)) (s:qak) (σ:St) (H:Hp) (D:ow),Inv X pins σ H s->t D σ H->wpAny (model X.prog X.w) X.A (execs st X.env) (SP X pins D) X.xe s
theorem thn {α:Type}{t:Sem α}{Q Q':α->qak->Prop}{M:Model}{A:qa8}{E:Value->qak->Prop}{s:qak} (h:wpAny M A t Q E s) (hQ:∀ a s,Q a s->Q' a s):wpAny M A t Q' E s:=qct h hQ λ_ _ x=>x
section
variable {X:Cx}
def sB (i:Nat):TE:=λσ H Q=>∃ v,σ[i]?=some (some v)/\Q v H
def tC (v:V):TE:=λ_ H Q=>Q v H
theorem kI {i:Nat}{x:Str}{pos:Pos} (hN:X.N[i]?=some x) (hv:Vis X.env.scope x) (hd:(x==("__debug__" : Str))=false:=by decide) (hcd:(x==("__classdict__" : Str))=false:=by decide):PE X (.Name x pos) (sB i):=by
 intro pins s σ H Q I h
 obtain⟨v,e,h⟩:=h
 obtain⟨m,hn,hl⟩:=I.loc
 obtain⟨u,r,l⟩:=hl i x v hN e hv
 have fin:EP X pins σ Q u s:=⟨v,H,I,r,h⟩
 rcases l with⟨hk,hm⟩|⟨hk,c,hc,hcell⟩
 ·exact qgU (wpAny_loadName_local I.ok.kind hk hn hm fin) hd
 ·rcases hk with hk|hk
  ·exact qgU (wpAny_loadName_cell I.ok.kind hk hc hcell fin) hd
  ·exact qgU (wpAny_loadName_free I.ok.kind hk hc hcell fin hcd) hd
theorem xJ {i j pos}:PE X (.Constant (.int i) j pos) (tC (.int i)):=λ_ _ _ H _ I h=>qeC ⟨.int i,H,I.tok _,⟨_,rfl⟩,h⟩
theorem Co {b j pos}:PE X (.Constant (.bool b) j pos) (tC (.bl b)):=λ_ _ _ H _ I h=>Constant_bool ⟨.bl b,H,I,rfl,h⟩
theorem Ai {j pos}:PE X (.Constant .none j pos) (tC .non):=λ_ _ _ H _ I h=>Constant_none ⟨.non,H,I,rfl,h⟩
theorem zH {x j pos}:PE X (.Constant (.str x) j pos) (tC (.str x)):=λ_ _ _ H _ I h=>Calls.Constant_str ⟨.str x,H,I.tok _,⟨_,rfl⟩,h⟩
def Gl (X:Cx) (x:Str):Prop:=X.env.kindOf x=some .globalImplicit
theorem vj {E:Value->qak->Prop}{pins:List (Addr×Obj)}{s:qak}{σ:St}{H:Hp}{x:Str}{u:Value}{pos:Pos}{Q:Value->qak->Prop} (I:Inv X pins σ H s) (hg:Gl X x) (hm:X.mg x=some u) (h:Q u s)
  (hd:(x==("__debug__" : Str))=false:=by decide):wpAny (model X.prog X.w) X.A (eval (.Name x pos) X.env) Q E s:=
 qeO I.ok.kind hg (Calls.loadGlobal_global (by rw[I.ok.glob];exact I.mod.glob.keeps I.bk) hm h) hd
theorem kC {E:Value->qak->Prop}{pins:List (Addr×Obj)}{s:qak}{σ:St}{H:Hp}{x:Str}{u:Value}{pos:Pos}{Q:Value->qak->Prop} (I:Inv X pins σ H s) (hg:Gl X x) (hm:X.mg x=none) (hv:qb9 x=some u) (h:Q u s)
  (hn:x≠"__name__":=by decide) (hd:(x==("__debug__" : Str))=false:=by decide):wpAny (model X.prog X.w) X.A (eval (.Name x pos) X.env) Q E s:=by
 obtain⟨mb,h1,h2⟩:=I.mod.blt
 exact qeO I.ok.kind hg (Calls.loadGlobal_builtin (by rw[I.ok.glob];exact I.mod.glob.keeps I.bk) hm (by rw[I.ok.blt];exact h1.keeps I.bk) ((h2 x hn).trans hv) h) hd
theorem yV {x:Str}{v:V}{u:Value}{pos:Pos} (hg:Gl X x) (hm:X.mg x=none) (hv:qb9 x=some u) (r:bK v u) (hn:x≠"__name__":=by decide) (hd:(x==("__debug__" : Str))=false:=by decide):PE X (.Name x pos) (tC v):=
 λ_ _ _ H _ I h=>kC I hg hm hv ⟨v,H,I,r,h⟩ hn hd
variable {a b:Expr}{ta tb:TE}{pos:Pos}
variable {tA tB':TT}{rest:List Expr}
def CW (t u:TT):TT:=λσ H Q=>t σ H λc H1=>if c=true then u σ H1 Q else Q false H1
def tOr (t u:TT):TT:=λσ H Q=>t σ H λc H1=>if c=true then Q true H1 else u σ H1 Q
def CN (t:TT):TT:=λσ H Q=>t σ H λc H1=>Q (!c) H1
theorem yn (ha:PT X a tA):PW X (.BoolOp .And [a] pos) tA:=by
 intro wh pins s σ H Q I h
 refine isTrue_and (thn (ha pins s σ H Q I h) λc s1 e=>?_)
 cases c with
 |true=>exact isTrue_and_nil e
 |false=>exact e
theorem Ah (ha:PT X a tA):PW X (.BoolOp .Or [a] pos) tA:=by
 intro wh pins s σ H Q I h
 refine isTrue_or (thn (ha pins s σ H Q I h) λc s1 e=>?_)
 cases c with
 |false=>exact isTrue_or_nil e
 |true=>exact e
theorem wq (ha:PT X a tA) (hb:PW X (.BoolOp .And (b::rest) pos) tB'):PW X (.BoolOp .And (a::b::rest) pos) (CW tA tB'):=by
 intro wh pins s σ H Q I h
 refine isTrue_and (thn (ha pins s σ H _ I h) λc s1 ⟨H1,I1,q1⟩=>?_)
 cases c with
 |true=>exact hb wh pins s1 σ H1 Q I1 q1
 |false=>exact⟨H1,I1,q1⟩
theorem zw (ha:PT X a tA) (hb:PW X (.BoolOp .Or (b::rest) pos) tB'):PW X (.BoolOp .Or (a::b::rest) pos) (tOr tA tB'):=by
 intro wh pins s σ H Q I h
 refine isTrue_or (thn (ha pins s σ H _ I h) λc s1 ⟨H1,I1,q1⟩=>?_)
 cases c with
 |true=>exact⟨H1,I1,q1⟩
 |false=>exact hb wh pins s1 σ H1 Q I1 q1
theorem zY (ha:PT X a tA):PT X (.UnaryOp .Not a pos) (CN tA):=by
 intro pins s σ H Q I h
 exact isTrue_not (ha pins s σ H (λc H1=>Q (!c) H1) I h)
def B9 (ta tb:TE):TE:=λσ H Q=>ta σ H λx H1=>∃ c,x=.bl c/\if c=true then tb σ H1 Q else Q (.bl false) H1
def Cw (ta:TE):TE:=λσ H Q=>ta σ H λx H1=>∃ c,x=.bl c/\Q (.bl (!c)) H1
theorem Aw {op}{t:TE} (h:PE X a t):PE X (.BoolOp op [a] pos) t:=λpins s σ H Q I hw=>BoolOp_one (h pins s σ H Q I hw)
theorem wy (ha:PE X a ta) (hb:PE X (.BoolOp .And (b::rest) pos) tb):PE X (.BoolOp .And (a::b::rest) pos) (B9 ta tb):=by
 intro pins s σ H Q I h
 refine BoolOp_and (thn (ha pins s σ H _ I h) λv s1 ⟨x,H1,I1,r1,q1⟩=>?_)
 obtain⟨c,rfl,q1⟩:=q1
 cases r1
 refine qcs ?_
 cases c with
 |true=>exact hb pins s1 σ H1 Q I1 q1
 |false=>exact⟨.bl false,H1,I1,rfl,q1⟩
theorem zP (ha:PE X a ta):PE X (.UnaryOp .Not a pos) (Cw ta):=by
 intro pins s σ H Q I h
 refine UnaryOp_ (thn (ha pins s σ H _ I h) λv s1 ⟨x,H1,I1,r1,q1⟩=>?_)
 obtain⟨c,rfl,q1⟩:=q1
 cases r1
 exact not_of (qcs ⟨.bl (!c),H1,I1,rfl,q1⟩)
def tIf (t:TT) (ta tb:TE):TE:=λσ H Q=>t σ H λc H1=>if c=true then ta σ H1 Q else tb σ H1 Q
theorem qM {c:Expr} (hc:PT X c tA) (ha:PE X a ta) (hb:PE X b tb):PE X (.IfExp c a b pos) (tIf tA ta tb):=by
 intro pins s σ H Q I h
 refine wpAny_IfExp (thn (hc pins s σ H _ I h) λd s1 ⟨H1,I1,q1⟩=>?_)
 cases d with
 |true=>exact ha pins s1 σ H1 Q I1 q1
 |false=>exact hb pins s1 σ H1 Q I1 q1
end
def SqL (K:qac) (H:Hp) (a:Addr) (xs:List V):Prop:=
 Rd H a (.lst xs)\/
  ∃ (o:Obj) (its:Array Value) (n:Nat),K.lookup a=some o/\o.cls=.type "list"/\o.dict=none/\o.data=.seq its n/\its.size<=qaN/\aU xs its.toList
def SqT (K:qac) (H:Hp) (a:Addr) (xs:List V):Prop:=
 H a=some (.tup xs)\/
  ∃ (o:Obj) (its:Array Value) (n:Nat),K.lookup a=some o/\o.cls=.type "tuple"/\o.data=.seq its n/\its.size<=qaN/\aU xs its.toList/\o.dict=none
def CP:Value->Option V
 |.none=>some .non
 |.bool b=>some (.bl b)
 |.int i _=>some (.int i)
 |.str x _=>some (.str x)
 |.bytes b _=>some (.byt b)
 |.float b _=>some (.flt b)
 |.ref a=>some (.ref a)
 |.type n=>some (.ty n)
 |_=>none
theorem bK.abs {x:V}{u:Value} (r:bK x u):CP u=some x:=by
 cases x with
 |non=>cases r;rfl
 |bl _=>cases r;rfl
 |int _=>obtain⟨t,rfl⟩:=r;rfl
 |str _=>obtain⟨t,rfl⟩:=r;rfl
 |byt _=>obtain⟨t,rfl⟩:=r;rfl
 |flt _=>obtain⟨t,rfl⟩:=r;rfl
 |ref _=>cases r;rfl
 |ty _=>cases r;rfl
theorem bK.inj {x y:V}{u:Value} (r:bK x u) (q:bK y u):x=y:=qaW (r.abs.symm.trans q.abs)
theorem aU.inj:∀ {xs ys:List V}{us:List Value},aU xs us->aU ys us->xs=ys
 |_,_,_,.nil,.nil=>rfl
 |_,_,_,.cons r t,.cons r' t'=>by rw[r.inj r',aU.inj t t']
section
variable {X:Cx}{pins:List (Addr×Obj)}{σ:St}{H:Hp}{s:qak}{a:Addr}{xs ys:List V}
theorem SqL.of {K:qac} (h:H a=some (.lst xs)):SqL K H a xs:=.inl (.inl h)
theorem SqT.of {K:qac} (h:H a=some (.tup xs)):SqT K H a xs:=.inl h
theorem Inv.list (I:Inv X pins σ H s) (h:SqL X.K H a xs):∃ its:List Value,aU xs its/\PlainL s.heap a its.toArray/\xs.length<=qaN:=by
 rcases h with h|⟨o,its,n,hk,hc,hd,hs,hz,r⟩
 ·obtain⟨z,its,n,r,e⟩:=h.ok I.hok
  exact⟨its,r,⟨_,n,e,rfl,rfl,rfl⟩,z⟩
 ·refine⟨its.toList,r,⟨o,n,I.kIn a o hk,hc,hd,by simpa using hs⟩,?_⟩
  have e:=r.length
  simp only[qcZ]at e
  lia
theorem Inv.tuple (I:Inv X pins σ H s) (h:SqT X.K H a xs):∃ its:List Value,aU xs its/\IsTup s.heap a its.toArray/\xs.length<=qaN:=by
 rcases h with h|⟨o,its,n,hk,hc,hs,hz,r,_⟩
 ·obtain⟨z,its,r,p⟩:=(Rd.of h).ok I.hok
  exact⟨its,r,p.tup,z⟩
 ·refine⟨its.toList,r,⟨o,I.kIn a o hk,hc,n,by simpa using hs⟩,?_⟩
  have e:=r.length
  simp only[qcZ]at e
  lia
theorem Inv.tuple1 (I:Inv X pins σ H s) (h:SqT X.K H a xs):∃ o:Obj,s.heap.get? a=some o/\o.cls=.type "tuple"/\o.dict=none:=by
 rcases h with h|⟨o,its,n,hk,hc,hs,hz,r,hd⟩
 ·obtain⟨z,its,r,o,e,c,_,hd⟩:=(Rd.of h).ok I.hok
  exact⟨o,e,c,hd⟩
 ·exact⟨o,I.kIn a o hk,hc,hd⟩
theorem Inv.list_inj (I:Inv X pins σ H s) (h:SqL X.K H a xs) (h':SqL X.K H a ys):xs=ys:=by
 obtain⟨its,r,⟨o,n,e,_,_,d⟩,_⟩:=I.list h
 obtain⟨its',r',⟨o',n',e',_,_,d'⟩,_⟩:=I.list h'
 rw[e]at e';cases e'
 rw[d]at d'
 injection d' with d1 _
 have:its=its':=by simpa using congrArg qfk d1
 subst this
 exact r.inj r'
theorem Inv.tuple_inj (I:Inv X pins σ H s) (h:SqT X.K H a xs) (h':SqT X.K H a ys):xs=ys:=by
 obtain⟨its,r,⟨o,e,_,n,d⟩,_⟩:=I.tuple h
 obtain⟨its',r',⟨o',e',_,n',d'⟩,_⟩:=I.tuple h'
 rw[e]at e';cases e'
 rw[d]at d'
 injection d' with d1 _
 have:its=its':=by simpa using congrArg qfk d1
 subst this
 exact r.inj r'
end
abbrev Cx.wish (X:Cx) (E:Value->qak->Prop):Cx:={ X with xe:=E }
abbrev Cx.nox (X:Cx):Cx:=X.wish λ_ _=>False
theorem Cx.Ok.wish {X:Cx} (ok:X.Ok) (E:Value->qak->Prop):(X.wish E).Ok:=
 ⟨ok.mod,ok.kind,ok.glob,ok.blt,ok.above,ok.inj,ok.has,ok.cab,ok.hd,ok.frames,ok.stk,ok.exf,ok.bs,ok.bsz,ok.noex,ok.exfs,ok.funs,ok.frf⟩
theorem Cx.Ok.unwish {X:Cx}{E:Value->qak->Prop} (ok:(X.wish E).Ok):X.Ok:=
 ⟨ok.mod,ok.kind,ok.glob,ok.blt,ok.above,ok.inj,ok.has,ok.cab,ok.hd,ok.frames,ok.stk,ok.exf,ok.bs,ok.bsz,ok.noex,ok.exfs,ok.funs,ok.frf⟩
section
variable {X:Cx}{pins:List (Addr×Obj)}{σ:St}{H:Hp}{s:qak}{E:Value->qak->Prop}
theorem Inv.wish (I:Inv X pins σ H s) (E:Value->qak->Prop):Inv (X.wish E) pins σ H s:=⟨I.ok.wish E,I.os,I.bare,I.base,I.loc,I.cell,I.free,I.freeC,I.pin,I.hok,I.len⟩
theorem Inv.unwish (I:Inv (X.wish E) pins σ H s):Inv X pins σ H s:=⟨I.ok.unwish,I.os,I.bare,I.base,I.loc,I.cell,I.free,I.freeC,I.pin,I.hok,I.len⟩
theorem SP.unwish {D:ow}{f:Flow}{s':qak} (h:SP (X.wish E) pins D f s'):SP X pins D f s':=by
 cases f with
 |next=>obtain⟨σ',H',I,q⟩:=h;exact⟨σ',H',I.unwish,q⟩
 |brk=>obtain⟨σ',H',I,q⟩:=h;exact⟨σ',H',I.unwish,q⟩
 |cont=>obtain⟨σ',H',I,q⟩:=h;exact⟨σ',H',I.unwish,q⟩
 |ret u=>obtain⟨v,σ',H',I,r,q⟩:=h;exact⟨v,σ',H',I.unwish,r,q⟩
theorem PSs.nox {st:List Stmt}{t:TS} (h:PSs X.nox st t):PSs X st t:=λpins s σ H D I hw=>
 qct (h pins s σ H D (I.wish _) hw) (λ_ _ q=>q.unwish) λ_ _ z=>qbV z
end
section
variable {X:Cx}{st:Stmt}{rest:List Stmt}{t u:TS}{e:Expr}{te:TE}{pos:Pos}
def BM:TS:=λD σ H=>D.nx σ H
def C9 (t u:TS):TS:=λD σ H=>t { D with nx:=u D } σ H
theorem yg:PSs X [] BM:=λ_ _ σ H _ I h=>qdZ ⟨σ,H,I,h⟩
theorem gn (h1:PS X st t) (h2:PSs X rest u):PSs X (st::rest) (C9 t u):=by
 intro pins s σ H D I h
 refine qhc (thn (h1 pins s σ H { D with nx:=u D } I h) λf s1 q=>?_)
 cases f with
 |next=>
  obtain⟨σ',H',I',q⟩:=q
  exact h2 pins s1 σ' H' D I' q
 |ret v=>exact q
 |brk=>exact q
 |cont=>exact q
theorem uY (h1:PS X st t):PSs X [st] t:=by
 intro pins s σ H D I h
 refine qhc (thn (h1 pins s σ H D I h) λf s1 q=>?_)
 cases f with
 |next=>exact qdZ q
 |ret v=>exact q
 |brk=>exact q
 |cont=>exact q
def Bb:TS:=λD σ H=>D.bk σ H
def BI:TS:=λD σ H=>D.ct σ H
theorem xO:PS X (.Break pos) Bb:=λ_ _ σ H _ I h=>wpAny_Break ⟨σ,H,I,h⟩
theorem qX:PS X (.Continue pos) BI:=λ_ _ σ H _ I h=>wpAny_Continue ⟨σ,H,I,h⟩
theorem Inv.quiet {pins:List (Addr×Obj)}{σ:St}{H:Hp}{s:qak} (I:Inv X pins σ H s):interactive X.env=false:=by simp[interactive,I.ok.kind]
def Bu (te:TE):TS:=λD σ H=>te σ H λ_ H1=>D.nx σ H1
theorem yY (he:PE X e te) (hs:qcB e none pos.line X.env=pure false:=by rfl):PS X (.Expr e pos) (Bu te):=by
 intro pins s σ H D I h
 exact wpAny_Expr_any (thn (he pins s σ H _ I h) λv s1 ⟨x,H1,I1,r1,q1⟩=>⟨σ,H1,I1,q1⟩) I.quiet hs
def Cy (te:TE):TS:=λD σ H=>te σ H D.rt
theorem Bf (he:PE X e te):PS X (.Return (some e) pos) (Cy te):=by
 intro pins s σ H D I h
 exact wpAny_Return_some (thn (he pins s σ H _ I h) λv s1 ⟨x,H1,I1,r1,q1⟩=>⟨x,σ,H1,I1,r1,q1⟩)
def C6 (c:TT) (t u:TS):TS:=λD σ H=>c σ H λb H1=>if b=true then t D σ H1 else u D σ H1
theorem zk {c:Expr}{a b:List Stmt}{tc:TT} (hc:PT X c tc) (ha:PSs X a t) (hb:PSs X b u):PS X (.If c a b pos) (C6 tc t u):=by
 intro pins s σ H D I h
 refine wpAny_If (thn (hc pins s σ H _ I h) λd s1 ⟨H1,I1,q1⟩=>?_)
 cases d with
 |true=>exact ha pins s1 σ H1 D I1 q1
 |false=>exact hb pins s1 σ H1 D I1 q1
def Ab:TS:=λ_ _ _=>False
theorem iJ {sts:List Stmt}:PSs X sts Ab:=λ_ _ _ _ _ _ h=>h.elim
end
abbrev TG:=V->St->Hp->(St->Hp->Prop)->Prop
abbrev TGs:=List V->St->Hp->(St->Hp->Prop)->Prop
def PG (X:Cx) (target:Expr) (t:TG):Prop:=
 ∀ (pins:List (Addr×Obj)) (s:qak) (σ:St) (H:Hp) (v:V) (u:Value) (Q:St->Hp->Prop),Inv X pins σ H s->bK v u->t v σ H Q->
  wpAny (model X.prog X.w) X.A (qel target X.env u) (λ_ s'=>∃ σ' H',Inv X pins σ' H' s'/\Q σ' H') X.xe s
def PGs (X:Cx) (ts:List Expr) (t:TGs):Prop:=
 ∀ (pins:List (Addr×Obj)) (s:qak) (σ:St) (H:Hp) (vs:List V) (us:List Value) (Q:St->Hp->Prop),Inv X pins σ H s->aU vs us->t vs σ H Q->
  wpAny (model X.prog X.w) X.A (assignInOrder ((qbB ts X.env).map (·.2)) us) (λ_ s'=>∃ σ' H',Inv X pins σ' H' s'/\Q σ' H') X.xe s
abbrev A2:=V->V->V->Hp->(Hp->Prop)->Prop
def BC (X:Cx) (t:A2):Prop:=
 ∀ (pins:List (Addr×Obj)) (s:qak) (σ:St) (H:Hp) (o i v:V) (ov iv u:Value) (Q:Hp->Prop),Inv X pins σ H s->bK o ov->bK i iv->bK v u->t o i v H Q->
  wpAny (model X.prog X.w) X.A (setItem ov iv u) (λ_ s'=>∃ H',Inv X pins σ H' s'/\Q H') X.xe s
section
variable {X:Cx}{pos:Pos}
def rZ (i:Nat):TG:=λv σ H Q=>Q (σ.set i (some v)) H
theorem ay {i:Nat}{x:Str} (hN:X.N.Nodup) (hi:X.N[i]?=some x) (hx:Loc X.env.scope x) (hf:X.fn x=true\/X.env.scope.names.lookup x=some .local:=by first|exact .inl rfl|exact .inr rfl|assumption):PG X (.Name x pos) (rZ i):=by
 intro pins s σ H v u Q I r h
 exact qgT (nX I hN hi hx r (λs' I'=>⟨_,H,I',h⟩) hf)
def Db:TGs:=λvs σ H Q=>vs=[]/\Q σ H
def BD (t:TG) (u:TGs):TGs:=λvs σ H Q=>∃ v r,vs=v::r/\t v σ H λσ' H'=>u r σ' H' Q
theorem yi:PGs X [] Db:=by
 intro pins s σ H vs us Q I r h
 obtain⟨e,h⟩:=h
 subst e
 cases r
 exact assignInOrder_nil ⟨σ,H,I,h⟩
theorem xE {e:Expr}{es:List Expr}{t:TG}{u:TGs} (h1:PG X e t) (h2:PGs X es u)
  (hs:(qbB (e::es) X.env).map (·.2)=qel e X.env::(qbB es X.env).map (·.2):=by rfl):PGs X (e::es) (BD t u):=by
 intro pins s σ H vs us Q I r h
 obtain⟨v,vr,e1,h⟩:=h
 subst e1
 cases r with
 |cons r rr=>
  rw[hs]
  refine assignInOrder_cons (thn (h1 pins s σ H _ _ _ I r h) λ_ s1 ⟨σ1,H1,I1,q1⟩=>?_)
  exact h2 pins s1 σ1 H1 _ _ Q I1 rr q1
def CF (K:qac) (n:Nat) (t:TGs):TG:=λv σ H Q=>∃ a xs,v=.ref a/\SqT K H a xs/\xs.length=n/\t xs σ H Q
theorem zC {es:List Expr}{k:Nat}{t:TGs}{n:Nat} (hc:X.calm=true) (h:PGs X es t)
  (hn:(qbB es X.env).length=n:=by rfl) (hst:(qbB es X.env).findIdx? (·.1)=none:=by rfl):PG X (.Tuple es k pos) (CF X.K n t):=by
 intro pins s σ H v u Q I r hw
 obtain⟨a,xs,e1,hq,hl,hw⟩:=hw
 subst e1
 cases r
 obtain⟨its,rv,ht,hz⟩:=I.tuple hq
 refine assign_Tuple_tuple (I.ok.hd hc) ht (by simp[hn,<-hl,rv.length]) hst λh' hx=>?_
 have I1:Inv X pins σ H { s with heap:=h' }:=I.kept (t':=s.toks) λb o e=>hx b o (qaO (qaz e)) e
 exact h pins _ σ H xs _ Q I1 (by simpa using rv) hw
def CH (to ti:TE) (t:A2):TG:=λv σ H Q=>to σ H λo H1=>ti σ H1 λi H2=>t o i v H2 λH3=>Q σ H3
theorem sR {o i:Expr}{to ti:TE}{t:A2} (ho:PE X o to) (hi:PE X i ti) (hs:BC X t)
  (ha:∀ v,qel (.Subscript o i pos) X.env v=(do
    let ov <-qeR [v] (eval o X.env)
    let iv <-qeR [v,ov] (eval i X.env)
    qh3 pos
    qeR [v,ov,iv] (setItem ov iv v)
    release [v,ov,iv] []):=by intro _;rfl):PG X (.Subscript o i pos) (CH to ti t):=by
 intro pins s σ H v u Q I r h
 rw[ha]
 refine qae (qcK (thn (ho pins s σ H _ I h) λov s1 ⟨x,H1,I1,r1,q1⟩=>?_))
 refine qae (qcK (thn (hi pins s1 σ H1 _ I1 q1) λiv s2 ⟨y,H2,I2,r2,q2⟩=>?_))
 refine qae (qeA (qae (qcK (thn (hs pins s2 σ H2 x y v ov iv u _ I2 r1 r2 r q2) λ_ s3 ⟨H3,I3,q3⟩=>?_))))
 exact wpAny_release ⟨σ,H3,I3,q3⟩
def Bi (te:TE) (g:TG):TS:=λD σ H=>te σ H λx H1=>g x σ H1 D.nx
theorem qx {tg e:Expr}{te:TE}{g:TG} (he:PE X e te) (hg:PG X tg g) (hs:qdH [tg] e pos.line X.env=pure false:=by rfl) (hw:qdI [tg] e X.env=pure none:=by rfl)
  (h1:(qbB [tg] X.env).map (·.2)=[qel tg X.env]:=by rfl):PS X (.Assign [tg] e pos) (Bi te g):=by
 intro pins s σ H D I h
 refine wpAny_Assign_stores (thn (he pins s σ H _ I h) λv s1 ⟨x,H1,I1,r1,q1⟩=>?_) hs hw
 rw[h1]
 exact thn (hg pins s1 σ H1 x v _ I1 r1 q1) λ_ s2 q=>q
theorem zI {i:Nat}{x:Str}{e:Expr}{te:TE}{pos':Pos} (hN:X.N.Nodup) (hi:X.N[i]?=some x) (hx:Loc X.env.scope x) (he:PE X e te) (hs:qcB e (some (.Name x pos')) pos.line X.env=pure false:=by rfl) (hf:X.fn x=true\/X.env.scope.names.lookup x=some .local:=by first|exact .inl rfl|exact .inr rfl|assumption) :
  PS X (.Assign [.Name x pos'] e pos) (Bi te (rZ i)):=by
 intro pins s σ H D I h
 refine wpAny_Assign_Name (thn (he pins s σ H _ I h) λv s1 ⟨y,H1,I1,r1,q1⟩=>?_) hs
 exact nX I1 hN hi hx r1 (λs2 I2=>⟨_,H1,I2,q1⟩) hf
end
section
variable {X:Cx}{pos:Pos}
def AR (c:TT) (tb:TS):TS:=λD σ H=>∃ W:Nat->St->Hp->Prop,(∃ m,W m σ H)/\∀ m σ H,W m σ H->
 c σ H λb H1=>if b=true then ∃ N:St->Hp->Prop,(∀ σ' H',N σ' H'->∃ m',m'<m/\W m' σ' H')/\tb { D with nx:=N,ct:=N,bk:=D.nx } σ H1 else D.nx σ H1
theorem wm {c:Expr}{body:List Stmt}{tc:TT}{tb:TS} (hp:qgi (model X.prog X.w) X.A X.env X.xe) (hc:PT X c tc) (hb:PSs X body tb):PS X (.While c body [] pos) (AR tc tb):=by
 intro pins s σ H D I h
 obtain⟨W,⟨m0,w0⟩,turn⟩:=h
 refine wpAny_While (codeAny_whileLoop (λn s'=>∃ σ' H',Inv X pins σ' H' s'/\W n σ' H') ?_ m0 ⟨σ,H,I,w0⟩)
 rintro n s1 ⟨σ1,H1,I1,w1⟩
 refine qcn hp (thn (hc pins s1 σ1 H1 _ I1 (turn n σ1 H1 w1)) λb s2 ⟨H2,I2,q2⟩=>?_)
 cases b with
 |true=>
  obtain⟨N,hN,q2⟩:=q2
  rw[if_pos rfl]
  refine qcn hp (thn (hb pins s2 σ1 H2 _ I2 q2) λf s3 q3=>?_)
  cases f with
  |next=>
   obtain⟨σ3,H3,I3,n3⟩:=q3
   obtain⟨m',hm,w3⟩:=hN σ3 H3 n3
   exact⟨m',hm,σ3,H3,I3,w3⟩
  |cont=>
   obtain⟨σ3,H3,I3,n3⟩:=q3
   obtain⟨m',hm,w3⟩:=hN σ3 H3 n3
   exact⟨m',hm,σ3,H3,I3,w3⟩
  |brk=>exact q3
  |ret v=>exact q3
 |false=>
  rw[if_neg qax]
  exact qdZ ⟨σ1,H2,I2,q2⟩
end
structure It where
 go:Nat->Hp->Prop
 yld:Nat->Hp->V->Hp->Prop
 stop:Nat->Hp->Prop
def jY (X:Cx) (pins:List (Addr×Obj)) (H:Hp) (b:Addr):Prop:=
 H b=none/\b≠X.env.locals/\b∉X.fs/\(b∈X.ex\/X.s₀.heap.objs.size<=b)/\(∀ x c,X.env.cells.lookup x=some c->c≠b)/\∀ p∈X.pn++pins,p.1≠b
theorem Inv.fpOk {X:Cx}{pins:List (Addr×Obj)}{σ:St}{H H':Hp}{s:qak}{b:Addr} (I:Inv X pins σ H s) (hb:s.heap.objs.size<=b) (hn:H' b=none):jY X pins H' b:=by
 refine⟨hn,qb2 (qaT I.lt hb),I.nofs hb,.inr (qa2 I.sz hb),λx c e z=>?_,λp hp z=>?_⟩
 ·obtain⟨v,q⟩:=I.cell x c e
  exact absurd (qaT q.lt (by rw[z];exact hb)) (qaX _)
 ·exact absurd (qaT (qaz (I.pin p hp).1) (by rw[z];exact hb)) (qaX _)
structure uw (P:qa1) (w:World) (K:qac) (tg:Expr) (J:It) (fp:List Addr) (it:Addr) (tn:Nat->Heap->Prop):Prop where
 mem:it∈fp
 obj:∀ i h,tn i h->∀ b∈fp,∃ o,h.get? b=some o/\∀ v,o.data≠.cell v
 keep:∀ i h h',tn i h->(∀ b∈fp,∀ o,h.get? b=some o->h'.get? b=some o)->tn i h'
 item:∀ (X:Cx),X.prog=P->X.w=w->X.K=K->X.calm=true->∀ (i:Nat) (pins:List (Addr×Obj)) (s:qak) (σ:St) (H:Hp) (E:Value->qak->Prop),Inv X pins σ H s->(∀ b∈fp,jY X pins H b)->tn i s.heap->J.go i H->
  wpAny (model P w) X.A (qge (.ref it)) (λr s1=>∃ u,r=some u/\
   wpAny (model P w) X.A (qd1 tg (.ref it) u) (λ_ s2=>∃ x H',Inv X pins σ H' s2/\bK x u/\J.yld i H x H'/\tn (i+1) s2.heap/\∀ b∈fp,H' b=none) E s1) E s
 done:∀ (X:Cx),X.prog=P->X.w=w->X.K=K->X.calm=true->∀ (i:Nat) (pins:List (Addr×Obj)) (s:qak) (σ:St) (H:Hp) (E:Value->qak->Prop),Inv X pins σ H s->(∀ b∈fp,jY X pins H b)->tn i s.heap->J.stop i H->
  wpAny (model P w) X.A (qge (.ref it)) (λr s1=>r=none/\Inv X pins σ H s1) E s
 self:∀ (A:qa8) (i:Nat) (s:qak) (Q:Value->qak->Prop) (E:Value->qak->Prop),tn i s.heap->Q (.ref it) s->wpAny (model P w) A (pyIter (.ref it)) Q E s
abbrev TI:=St->Hp->(It->Hp->Prop)->Prop
def PIE (X:Cx) (pins:List (Addr×Obj)) (σ:St) (tg:Expr) (R:It->Hp->Prop) (itv:Value) (s2:qak):Prop:=
 ∃ (it:Addr) (fp:List Addr) (tn:Nat->Heap->Prop) (J:It) (H':Hp),itv=.ref it/\Inv X pins σ H' s2/\uw X.prog X.w X.K tg J fp it tn/\tn 0 s2.heap/\(∀ b∈fp,jY X pins H' b)/\R J H'
def PI (X:Cx) (tg iter:Expr) (wi:TI):Prop:=
 ∀ (pins:List (Addr×Obj)) (s:qak) (σ:St) (H:Hp) (R:It->Hp->Prop),Inv X pins σ H s->wi σ H R->
  wpAny (model X.prog X.w) X.A (eval iter X.env) (λv s1=>wpAny (model X.prog X.w) X.A (pyIter v) (PIE X pins σ tg R) X.xe s1) X.xe s
theorem xi {M:Model}{A:qa8}{E:Value->qak->Prop}{s:qak}{tg:Expr}{it:Addr}{u:Value}{o:Obj}{n:String}{vs:Array Value}{Q:Unit->qak->Prop} (ho:s.heap.get? it=some o) (hc:o.cls=.type n) (hd:o.data=.fields vs)
  (hn:["enumerate","zip","dict_itemiterator","dict_reverseitemiterator","odict_iterator","itertools.zip_longest","itertools.pairwise"].contains n=false) (hQ:Q () s):wpAny M A (qd1 tg (.ref it) u) Q E s:=by
 unfold qd1
 cases tg<;>first
  |exact qaq hQ
  | (cases u<;>first
      |exact qaq hQ
      | (refine qae (wpAny_load ho ?_)
         rw[hc,hd]
         show wpAny M A (if (["enumerate","zip","dict_itemiterator","dict_reverseitemiterator","odict_iterator","itertools.zip_longest","itertools.pairwise"].contains n&&vs[0]?==some (qfC _))=true then _ else _) Q E s
         rw[if_neg (by intro h;rw[hn,qgH]at h;cases h)]
         exact qaq hQ))
def Itl (K:qac) (a:Addr):It:=
 ⟨λi H=>∃ xs x,SqL K H a xs/\xs[i]?=some x,λi H x H'=>H'=H/\∀ xs,SqL K H a xs->xs[i]?=some x,λi H=>∃ xs,SqL K H a xs/\xs.length<=i⟩
def Itt (K:qac) (a:Addr):It:=
 ⟨λi H=>∃ xs x,SqT K H a xs/\xs[i]?=some x,λi H x H'=>H'=H/\∀ xs,SqT K H a xs->xs[i]?=some x,λi H=>∃ xs,SqT K H a xs/\xs.length<=i⟩
def Itr (lo:Int) (n:Nat):It:=⟨λi _=>i<n,λi H x H'=>H'=H/\x=.int (lo+i),λi _=>n<=i⟩
theorem v5 {P:qa1}{w:World}{K:qac}{tg:Expr} (a it:Addr):uw P w K tg (Itl K a) [it] it (λi h=>h.IsListIter it a i) where
 mem:=by simp
 obj:=λi h st b hb=>by
  have e:b=it:=by simpa using hb
  subst e
  obtain⟨o,e,c,d⟩:=st
  exact⟨o,e,λv z=>by rw[d]at z;cases z⟩
 keep:=λi h h' st k=>st.at λo e=>k it (by simp) o e
 item:=by
  intro X hP hw hK hc i pins s σ H E I hf st hg
  subst hP hw hK
  obtain⟨xs,x,hq,hx⟩:=hg
  obtain⟨its,rv,p,hz⟩:=I.list hq
  obtain⟨u,hu,ru⟩:=rv.get hx
  obtain⟨f0,f1,f2,f3,f4,f5⟩:=hf it (by simp)
  refine wpAny_pyNext_list_item st p.isList (x:=u) (by simpa using hu) λh' st' sb=>?_
  have I1:Inv X pins σ H { s with heap:=h' }:=I.turned (t':=s.toks) (λb o hb e=>(sb.2 b hb).trans e) f0 f1 f3 f4 f5
  obtain⟨o,e,c,d⟩:=id st'
  exact⟨u,rfl,xi (s:={ s with heap:=h' }) e c d (by decide) ⟨x,H,I1,ru,⟨rfl,λys hy=>by rw[I.list_inj hy hq];exact hx⟩,st',λb hb=>(hf b hb).1⟩⟩
 done:=by
  intro X hP hw hK hc i pins s σ H E I hf st hg
  subst hP hw hK
  obtain⟨xs,hq,hx⟩:=hg
  obtain⟨its,rv,p,hz⟩:=I.list hq
  obtain⟨f0,f1,f2,f3,f4,f5⟩:=hf it (by simp)
  have hl:=rv.length
  exact wpAny_pyNext_list_end (I.ok.hd hc) st p.isList (by simp;lia) λh' eb=>⟨rfl,I.turned (t':=s.toks) (λb o hb e=>eb b o hb e) f0 f1 f3 f4 f5⟩
 self:=λ_ _ _ _ _ st h=>wpAny_pyIter_listiter st h
theorem sO {P:qa1}{w:World}{K:qac}{tg:Expr} (a it:Addr):uw P w K tg (Itt K a) [it] it (λi h=>h.IsTupleIter it a i) where
 mem:=by simp
 obj:=λi h st b hb=>by
  have e:b=it:=by simpa using hb
  subst e
  obtain⟨o,e,c,d⟩:=st
  exact⟨o,e,λv z=>by rw[d]at z;cases z⟩
 keep:=λi h h' st k=>st.at λo e=>k it (by simp) o e
 item:=by
  intro X hP hw hK hc i pins s σ H E I hf st hg
  subst hP hw hK
  obtain⟨xs,x,hq,hx⟩:=hg
  obtain⟨its,rv,p,hz⟩:=I.tuple hq
  obtain⟨u,hu,ru⟩:=rv.get hx
  obtain⟨f0,f1,f2,f3,f4,f5⟩:=hf it (by simp)
  refine wpAny_pyNext_tuple_item st (show s.heap.IsTuple a its.toArray from p) (x:=u) (by simpa using hu) λh' st' sb=>?_
  have I1:Inv X pins σ H { s with heap:=h' }:=I.turned (t':=s.toks) (λb o hb e=>(sb.2 b hb).trans e) f0 f1 f3 f4 f5
  obtain⟨o,e,c,d⟩:=id st'
  exact⟨u,rfl,xi (s:={ s with heap:=h' }) e c d (by decide) ⟨x,H,I1,ru,⟨rfl,λys hy=>by rw[I.tuple_inj hy hq];exact hx⟩,st',λb hb=>(hf b hb).1⟩⟩
 done:=by
  intro X hP hw hK hc i pins s σ H E I hf st hg
  subst hP hw hK
  obtain⟨xs,hq,hx⟩:=hg
  obtain⟨its,rv,p,hz⟩:=I.tuple hq
  obtain⟨f0,f1,f2,f3,f4,f5⟩:=hf it (by simp)
  have hl:=rv.length
  exact wpAny_pyNext_tuple_end (I.ok.hd hc) st (show s.heap.IsTuple a its.toArray from p) (by simp;lia) λh' eb=>⟨rfl,I.turned (t':=s.toks) (λb o hb e=>eb b o hb e) f0 f1 f3 f4 f5⟩
 self:=λ_ _ _ _ _ st h=>wpAny_pyIter_tupleiter st h
theorem ua {P:qa1}{w:World}{K:qac}{tg:Expr} (it:Addr) (lo:Int) (n:Nat):uw P w K tg (Itr lo n) [it] it (λi h=>IsRangeIter h it (lo+(i:Nat)*1) ((n:Int) - (i:Nat)) 1) where
 mem:=by simp
 obj:=λi h st b hb=>by
  have e:b=it:=by simpa using hb
  subst e
  exact⟨_,st,λv z=>by
   have z':Data.fields _=Data.cell v:=z
   cases z'⟩
 keep:=λi h h' st k=>k it (by simp) _ st
 item:=by
  intro X hP hw hK hc i pins s σ H E I hf st hg
  subst hP hw hK
  obtain⟨f0,f1,f2,f3,f4,f5⟩:=hf it (by simp)
  have W:=Walks.range (prog:=X.prog) (w:=X.w) (I.ok.hd hc) it lo 1 n
  refine W.item i s _ _ hg st λv h' tk hv st' kk=>?_
  obtain⟨t,rfl⟩:=hv
  have I1:Inv X pins σ H { s with heap:=h',toks:=tk }:=I.turned (λb o hb e=>kk b o (by simpa using hb) e) f0 f1 f3 f4 f5
  refine⟨_,rfl,xi (s:={ s with heap:=h',toks:=tk }) (n:="range_iterator") st' rfl rfl (by decide) ⟨.int (lo+i),H,I1,⟨t,?_⟩,⟨rfl,rfl⟩,st',λb hb=>(hf b hb).1⟩⟩
  rw[qd6]
 done:=by
  intro X hP hw hK hc i pins s σ H E I hf st hg
  subst hP hw hK
  obtain⟨f0,f1,f2,f3,f4,f5⟩:=hf it (by simp)
  exact wpAny_pyNext_range_end (I.ok.hd hc) st (by have:n<=i:=hg;lia) λh' eb=>⟨rfl,I.turned (t':=s.toks) (λb o hb e=>eb b o hb e) f0 f1 f3 f4 f5⟩
 self:=λ_ _ _ _ _ st h=>wpAny_pyIter_rangeiter st h
section
variable {X:Cx}{tg:Expr}
def Ca (K:qac) (tl:TE):TI:=λσ H R=>tl σ H λx H1=>∃ a,x=.ref a/\(∃ xs,SqL K H1 a xs)/\R (Itl K a) H1
def CA (K:qac) (tl:TE):TI:=λσ H R=>tl σ H λx H1=>∃ a,x=.ref a/\(∃ xs,SqT K H1 a xs)/\R (Itt K a) H1
theorem uF {l:Expr}{tl:TE} (hl:PE X l tl):PI X tg l (Ca X.K tl):=by
 intro pins s σ H R I h
 refine thn (hl pins s σ H _ I h) λv s1 ⟨x,H1,I1,r1,q1⟩=>?_
 obtain⟨a,e,⟨xs,hq⟩,q⟩:=q1
 subst e
 cases r1
 obtain⟨its,rv,p,hz⟩:=I1.list hq
 refine qdD p.isList ?_
 refine⟨s1.heap.objs.size,[s1.heap.objs.size],_,_,H1,rfl,I1.kept (t':=s1.toks) λb o e=>qai _ e,v5 a _,⟨_,qaE _ rfl,rfl,rfl⟩,λb hb=>?_,q⟩
 have e:b=s1.heap.objs.size:=by simpa using hb
 subst e
 exact I1.fpOk (qal _) (I1.hok.fresh (qal _))
theorem AZ {l:Expr}{tl:TE} (hl:PE X l tl):PI X tg l (CA X.K tl):=by
 intro pins s σ H R I h
 refine thn (hl pins s σ H _ I h) λv s1 ⟨x,H1,I1,r1,q1⟩=>?_
 obtain⟨a,e,⟨xs,hq⟩,q⟩:=q1
 subst e
 cases r1
 obtain⟨its,rv,p,hz⟩:=I1.tuple hq
 refine qcJ (show s1.heap.IsTuple a its.toArray from p) ?_
 refine⟨s1.heap.objs.size,[s1.heap.objs.size],_,_,H1,rfl,I1.kept (t':=s1.toks) λb o e=>qai _ e,sO a _,⟨_,qaE _ rfl,rfl,rfl⟩,λb hb=>?_,q⟩
 have e:b=s1.heap.objs.size:=by simpa using hb
 subst e
 exact I1.fpOk (qal _) (I1.hok.fresh (qal _))
theorem wV {pins:List (Addr×Obj)}{σ:St}{H:Hp}{s:qak}{R:It->Hp->Prop}{E:Value->qak->Prop}{lo hi:Int}{t u v:Tok}{tk:Nat} (I:Inv X pins σ H s) (h1:-(2^62)<=lo) (h2:lo<2^62) (h3:-(2^62)<=hi) (h4:hi<2^62)
  (q:R (Itr lo (hi - lo).toNat) H):wpAny (model X.prog X.w) X.A (pyIter (.ref s.heap.objs.size)) (PIE X pins σ tg R) E { s with heap:=s.heap.push { cls:=.type "range",data:=.fields #[.int lo t,.int hi u,.int 1 v] },toks:=tk }:=by
 refine wpAny_pyIter_range (IsRange.new ..) (small_one h1 h2 h3 h4) ?_
 have I1:Inv X pins σ H { s with heap:=s.heap.push { cls:=.type "range",data:=.fields #[.int lo t,.int hi u,.int 1 v] },toks:=tk }:=I.kept λb o e=>qai _ e
 refine⟨(s.heap.push { cls:=.type "range",data:=.fields #[.int lo t,.int hi u,.int 1 v] }).objs.size,[(s.heap.push { cls:=.type "range",data:=.fields #[.int lo t,.int hi u,.int 1 v] }).objs.size],_,_,H,rfl,
  I1.kept (t':=tk) λb o e=>qai _ e,ua _ lo (hi - lo).toNat,?_,λb hb=>?_,q⟩
 ·have e1:lo+((0:Nat):Int)*1=lo:=by simp
  have e2:(((hi - lo).toNat:Nat):Int) - ((0:Nat):Int)=qeh lo hi 1:=by rw[qfN];split<;>lia
  show IsRangeIter _ _ (lo+((0:Nat):Int)*1) ((((hi - lo).toNat:Nat):Int) - ((0:Nat):Int)) 1
  rw[e1,e2]
  exact qaE _ rfl
 ·have e:b=(s.heap.push { cls:=.type "range",data:=.fields #[.int lo t,.int hi u,.int 1 v] }).objs.size:=by simpa using hb
  subst e
  exact I1.fpOk (qal _) (I1.hok.fresh (qal _))
def BU (ta:TA):TI:=λσ H R=>ta σ H λvs H1=>∃ j:Int,vs=[.int j]/\-(2^62)<=j/\j<2^62/\R (Itr 0 j.toNat) H1
theorem wa {a:Expr}{ta:TA}{p pos:Pos} (hg:Gl X "range") (hm:X.mg "range" = none) (ha:PA X [a] ta) (hs:qbk [a] X.env=[(false,eval a X.env)]:=by rfl):PI X tg (.Call (.Name "range" p) [a] [] pos) (BU ta):=by
 intro pins s σ H R I h
 refine Call_ (kC I hg hm boot_range (qbL (thn (ha pos pins s σ H _ I h) λus s1 ⟨vs,H1,I1,r1,q1⟩=>?_) hs rfl))
 obtain⟨j,e,q1,q2,q⟩:=q1
 subst e
 cases r1 with
 |cons r rr=>
  cases rr
  obtain⟨t,rfl⟩:=r
  exact call_range_1 (wV I1 (by lia) (by lia) q1 q2 (by simpa using q))
def C8 (wi:TI) (g:TG) (tb:TS):TS:=λD σ H=>wi σ H λJ H1=>∃ W:Nat->Nat->St->Hp->Prop,(∃ m,W 0 m σ H1)/\∀ i m σ H,W i m σ H->
 (J.stop i H/\D.nx σ H)\/(J.go i H/\∃ N:St->Hp->Prop,(∀ σ' H',N σ' H'->∃ m',m'<m/\W (i+1) m' σ' H')/\∀ x H',J.yld i H x H'->g x σ H' λσ2 H2=>tb { D with nx:=N,ct:=N,bk:=D.nx } σ2 H2)
def lu (fp:List Addr) (h:Heap):List (Addr×Obj):=fp.filterMap λb=>(h.get? b).map λo=>(b,o)
theorem eR {fp:List Addr}{h:Heap}{b:Addr}{o:Obj} (hb:b∈fp) (e:h.get? b=some o):(b,o)∈lu fp h:=qfW.mpr ⟨b,hb,by rw[e];rfl⟩
theorem vC {fp:List Addr}{h:Heap}{p:Addr×Obj} (hp:p∈lu fp h):p.1∈fp/\h.get? p.1=some p.2:=by
 obtain⟨b,hb,e⟩:=qfW.mp hp
 cases q:h.get? b with
 |none=>rw[q]at e;cases e
 |some o=>
  rw[q]at e
  have e':(b,o)=p:=qaW e
  subst e'
  exact⟨hb,q⟩
theorem Inv.pinned {pins:List (Addr×Obj)}{σ:St}{H:Hp}{s:qak}{fp:List Addr} (I:Inv X pins σ H s) (hf:∀ b∈fp,jY X pins H b) (ho:∀ b∈fp,∃ o,s.heap.get? b=some o/\∀ v,o.data≠.cell v):Inv X (pins++lu fp s.heap) σ H s:=
 I.pins_of λp hp=>(qaM.mp hp).elim (λz=>I.pin p (qau _ z)) λz=>by
  obtain⟨hb,e⟩:=vC z
  obtain⟨f0,f1,f2,_⟩:=hf p.1 hb
  obtain⟨o,e',d⟩:=ho p.1 hb
  rw[e]at e';cases e'
  exact⟨e,f0,f1,f2,d⟩
theorem Inv.unpinned {pins pl:List (Addr×Obj)}{σ:St}{H:Hp}{s:qak} (I:Inv X (pins++pl) σ H s):Inv X pins σ H s:=I.pins_of λp hp=>I.pin p (qau _ (qaY _ hp))
theorem zG {iter:Expr}{body:List Stmt}{wi:TI}{g:TG}{tb:TS}{pos:Pos} (hp:qgi (model X.prog X.w) X.A X.env X.xe) (hc:X.calm=true) (hi:PI X tg iter wi) (hg:PG X tg g) (hb:PSs X body tb)
  (hs:∀ x,qbQ iter X.env x=pure x:=by intro _;rfl):PS X (.For tg iter body [] pos) (C8 wi g tb):=by
 intro pins s σ H D I h
 refine wpAny_For (thn (hi pins s σ H _ I h) λv s1 h1=>thn h1 λitv s2 h2=>?_) hs
 obtain⟨it,fp,tn,J,H2,e,I2,T,st2,f2,W,⟨m0,w0⟩,turn⟩:=h2
 subst e
 -- what stays true of the iterator's objects through the loop
 have stat:∀ {H':Hp},(∀ b∈fp,H' b=none)->∀ b∈fp,jY X pins H' b:=λhn b hb=>⟨hn b hb,(f2 b hb).2⟩
 refine codeAny_forLoop_any (λn s'=>∃ i σ' H',Inv X pins σ' H' s'/\tn i s'.heap/\(∀ b∈fp,H' b=none)/\W i n σ' H') ?_ m0 ⟨0,σ,H2,I2,st2,λb hb=>(f2 b hb).1,w0⟩
 rintro n s3 ⟨i,σ3,H3,I3,st3,fr3,w3⟩
 rcases turn i n σ3 H3 w3 with⟨stop,qn⟩|⟨go,N,hN,step⟩
 ·refine qcn hp (thn (T.done X rfl rfl rfl hc i pins s3 σ3 H3 X.xe I3 (stat fr3) st3 stop) λr s4 ⟨hr,I4⟩=>?_)
  subst hr
  exact qdZ ⟨σ3,H3,I4,qn⟩
 ·refine qcn hp (thn (T.item X rfl rfl rfl hc i pins s3 σ3 H3 X.xe I3 (stat fr3) st3 go) λr s4 ⟨u,hr,h4⟩=>?_)
  subst hr
  refine qcn hp (thn h4 λ_ s5 ⟨x,H5,I5,r5,y5,st5,fr5⟩=>?_)
  have I5':=I5.pinned (stat fr5) (T.obj _ _ st5)
  refine qcn hp (thn (hg _ s5 σ3 H5 x u _ I5' r5 (step x H5 y5)) λ_ s6 ⟨σ6,H6,I6,q6⟩=>?_)
  refine qcn hp (thn (hb _ s6 σ6 H6 _ I6 q6) λf s7 q7=>?_)
  have again:∀ {σ7:St}{H7:Hp},Inv X (pins++lu fp s5.heap) σ7 H7 s7->N σ7 H7->∃ m,m<n/\∃ i σ' H',Inv X pins σ' H' s7/\tn i s7.heap/\(∀ b∈fp,H' b=none)/\W i m σ' H':=λ{σ7 H7} I7 n7=>by
   obtain⟨m',hm,w7⟩:=hN σ7 H7 n7
   refine⟨m',hm,i+1,σ7,H7,I7.unpinned,T.keep _ _ _ st5 λb hb o e=>(I7.pin (b,o) (qau _ (qau _ (eR hb e)))).1,λb hb=>?_,w7⟩
   obtain⟨o,e,d⟩:=T.obj _ _ st5 b hb
   exact (I7.pin (b,o) (qau _ (qau _ (eR hb e)))).2.1
  cases f with
  |next=>obtain⟨σ7,H7,I7,n7⟩:=q7;exact again I7 n7
  |cont=>obtain⟨σ7,H7,I7,n7⟩:=q7;exact again I7 n7
  |brk=>obtain⟨σ7,H7,I7,q7⟩:=q7;exact⟨σ7,H7,I7.unpinned,q7⟩
  |ret v=>obtain⟨x7,σ7,H7,I7,r7,q7⟩:=q7;exact⟨x7,σ7,H7,I7.unpinned,r7,q7⟩
end
abbrev R2:=V->V->Hp->VK->Prop
def OpR (X:Cx) (f:Value->Value->Sem Value) (r:R2):Prop:=
 ∀ (pins:List (Addr×Obj)) (s:qak) (σ:St) (H:Hp) (x y:V) (v u:Value) (Q:VK),Inv X pins σ H s->bK x v->bK y u->r x y H Q->
  wpAny (model X.prog X.w) X.A (f v u) (EP X pins σ Q) X.xe s
def UnR (X:Cx) (f:Value->Sem Value) (r:V->Hp->VK->Prop):Prop:=
 ∀ (pins:List (Addr×Obj)) (s:qak) (σ:St) (H:Hp) (x:V) (v:Value) (Q:VK),Inv X pins σ H s->bK x v->r x H Q->
  wpAny (model X.prog X.w) X.A (f v) (EP X pins σ Q) X.xe s
def dm (X:Cx) (f:Value) (r:List V->Hp->VK->Prop):Prop:=
 ∀ (pins:List (Addr×Obj)) (s:qak) (σ:St) (H:Hp) (xs:List V) (us:List Value) (Q:VK),Inv X pins σ H s->aU xs us->r xs H Q->
  wpAny (model X.prog X.w) X.A (call f us) (EP X pins σ Q) X.xe s
def C5 (X:Cx) (r:V->Hp->(Bool->Hp->Prop)->Prop):Prop:=
 ∀ (pins:List (Addr×Obj)) (s:qak) (σ:St) (H:Hp) (x:V) (v:Value) (Q:Bool->Hp->Prop),Inv X pins σ H s->bK x v->r x H Q->
  wpAny (model X.prog X.w) X.A (truthy v) (TP X pins σ Q) X.xe s
def tOp (r:R2) (ta tb:TE):TE:=λσ H Q=>ta σ H λx H1=>tb σ H1 λy H2=>r x y H2 Q
def tUn (r:V->Hp->VK->Prop) (ta:TE):TE:=λσ H Q=>ta σ H λx H1=>r x H1 Q
def rI (C:Int->Int->Prop) (g:Int->Int->V):R2:=λx y H Q=>∃ i j,x=.int i/\y=.int j/\C i j/\Q (g i j) H
def rI0 (g:Int->Int->V):R2:=λx y H Q=>∃ i j,x=.int i/\y=.int j/\Q (g i j) H
def rU (g:Int->V):V->Hp->VK->Prop:=λx H Q=>∃ i,x=.int i/\Q (g i) H
section
variable {X:Cx}{a b c:Expr}{ta tb tc:TE}{pos:Pos}
theorem zN (ha:PE X a ta) (hb:PE X b tb) {pins:List (Addr×Obj)}{s:qak}{σ:St}{H:Hp}{R:V->V->Hp->Prop} (I:Inv X pins σ H s)
  (h:ta σ H λx H1=>tb σ H1 λy H2=>R x y H2) {Q:Value->qak->Prop}{f:Value->Value->Sem Value}
  (hf:∀ v u s2 x y H2,Inv X pins σ H2 s2->bK x v->bK y u->R x y H2->wpAny (model X.prog X.w) X.A (f v u) Q X.xe s2) :
  wpAny (model X.prog X.w) X.A (eval a X.env) (λv s₁=>wpAny (model X.prog X.w) X.A (eval b X.env) (λu s₂=>wpAny (model X.prog X.w) X.A (f v u) Q X.xe s₂) X.xe s₁) X.xe s:=by
 refine thn (ha pins s σ H _ I h) λv s1 ⟨x,H1,I1,r1,q1⟩=>?_
 refine thn (hb pins s1 σ H1 _ I1 q1) λu s2 ⟨y,H2,I2,r2,q2⟩=>?_
 exact hf v u s2 x y H2 I2 r1 r2 q2
theorem zp {op:Operator}{r:R2} (ho:OpR X (qbC op) r) (ha:PE X a ta) (hb:PE X b tb):PE X (.BinOp a op b pos) (tOp r ta tb):=by
 intro pins s σ H Q I h
 exact wpAny_BinOp (zN ha hb I h λv u s2 x y H2 I2 rx ry q=>ho pins s2 σ H2 x y v u Q I2 rx ry q)
theorem zo {op:UnaryOp}{r:V->Hp->VK->Prop} (ho:UnR X (unaryOp op) r) (ha:PE X a ta):PE X (.UnaryOp op a pos) (tUn r ta):=by
 intro pins s σ H Q I h
 exact UnaryOp_ (thn (ha pins s σ H _ I h) λv s1 ⟨x,H1,I1,r1,q1⟩=>ho pins s1 σ H1 x v Q I1 r1 q1)
theorem opI {f:Value->Value->Sem Value}{C:Int->Int->Prop}{g:Int->Int->Int}
  (rule:∀ (i j:Int) (t u:Tok) (s:qak) (Q:Value->qak->Prop) (E:Value->qak->Prop),C i j->Q (.int (g i j) s.toks) { s with toks:=s.toks+1 }->wpAny (model X.prog X.w) X.A (f (.int i t) (.int j u)) Q E s) :
  OpR X f (rI C λi j=>.int (g i j)):=by
 intro pins s σ H x y v u Q I rx ry h
 obtain⟨i,j,rfl,rfl,hc,q⟩:=h
 obtain⟨t,rfl⟩:=rx
 obtain⟨t',rfl⟩:=ry
 exact rule i j t t' s _ _ hc ⟨.int (g i j),H,I.tok _,⟨_,rfl⟩,q⟩
theorem Ch {f:Value->Value->Sem Value}{g:Int->Int->Int}
  (rule:∀ (i j:Int) (t u:Tok) (s:qak) (Q:Value->qak->Prop) (E:Value->qak->Prop),Q (.int (g i j) s.toks) { s with toks:=s.toks+1 }->wpAny (model X.prog X.w) X.A (f (.int i t) (.int j u)) Q E s) :
  OpR X f (rI0 λi j=>.int (g i j)):=by
 intro pins s σ H x y v u Q I rx ry h
 obtain⟨i,j,rfl,rfl,q⟩:=h
 obtain⟨t,rfl⟩:=rx
 obtain⟨t',rfl⟩:=ry
 exact rule i j t t' s _ _ ⟨.int (g i j),H,I.tok _,⟨_,rfl⟩,q⟩
theorem yX {f:Value->Value->Sem Value}{g:Int->Int->Bool}
  (rule:∀ (i j:Int) (t u:Tok) (s:qak) (Q:Value->qak->Prop) (E:Value->qak->Prop),Q (.bool (g i j)) s->wpAny (model X.prog X.w) X.A (f (.int i t) (.int j u)) Q E s) :
  OpR X f (rI0 λi j=>.bl (g i j)):=by
 intro pins s σ H x y v u Q I rx ry h
 obtain⟨i,j,rfl,rfl,q⟩:=h
 obtain⟨t,rfl⟩:=rx
 obtain⟨t',rfl⟩:=ry
 exact rule i j t t' s _ _ ⟨.bl (g i j),H,I,rfl,q⟩
def CQ (i j:Int):Prop:=0<j/\j<1073741824
def sv (i j:Int):Prop:=0<=j/\j<=1000000/\i.natAbs<2^64
def yG (i j:Int):Prop:=(-(2^64)<i/\i<2^64)\/(-(2^64)<j/\j<2^64)
theorem yG.ok {i j:Int} (h:yG i j):qfZ i j:=by
 rcases h with⟨h1,h2⟩|⟨h1,h2⟩
 ·exact .of_left (intBits_le_64 h1 h2)
 ·exact .of_right (intBits_le_64 h1 h2)
theorem Ag:OpR X (qbC .Add) (rI0 λi j=>.int (i+j)):=Ch λ_ _ _ _ _ _ _ q=>add_int q
theorem AE:OpR X (qbC .Sub) (rI0 λi j=>.int (i - j)):=Ch λ_ _ _ _ _ _ _ q=>sub_int q
theorem xX:OpR X (qbC .FloorDiv) (rI CQ λi j=>.int (i / j)):=opI λi j _ _ _ _ _ hc q=>by
 have h1:(0:Int)<j:=hc.1
 have h2:j<1073741824:=hc.2
 exact floordiv_int (by lia) (by rw[qe1 i (by lia)];exact q) (.inl (PyProof.noPylong_small (by lia)))
theorem AH:OpR X (qbC .Mod) (rI (λ_ j=>0<j) λi j=>.int (i%j)):=opI λi j _ _ _ _ _ hc q=>by
 have h1:(0:Int)<j:=hc
 exact mod_int' (by lia) (by rw[Int.fmod_eq_emod_of_nonneg i (by lia)];exact q)
theorem Aa:OpR X (qbC .Pow) (rI sv λi j=>.int (i^j.toNat)):=opI λ_ _ _ _ _ _ _ hc q=>pow_int_small hc.1 hc.2.1 hc.2.2 q
theorem unI {f:Value->Sem Value}{g:Int->Int}
  (rule:∀ (i:Int) (t:Tok) (s:qak) (Q:Value->qak->Prop) (E:Value->qak->Prop),Q (.int (g i) s.toks) { s with toks:=s.toks+1 }->wpAny (model X.prog X.w) X.A (f (.int i t)) Q E s) :
  UnR X f (rU λi=>.int (g i)):=by
 intro pins s σ H x v Q I rx h
 obtain⟨i,rfl,q⟩:=h
 obtain⟨t,rfl⟩:=rx
 exact rule i t s _ _ ⟨.int (g i),H,I.tok _,⟨_,rfl⟩,q⟩
theorem wG:UnR X (unaryOp .USub) (rU λi=>.int (-i)):=unI λ_ _ _ _ _ q=>neg_int q
end
section
variable {X:Cx}{a b c:Expr}{ta tb tc:TE}{pos:Pos}
theorem wT {pins:List (Addr×Obj)}{σ:St}{H:Hp}{s:qak}{Q:VK}{k k':Bool} (I:Inv X pins σ H s) (q:Q (.bl k) H) (e:k=k'):EP X pins σ Q (.bool k') s:=by
 subst e
 exact⟨.bl k,H,I,rfl,q⟩
theorem BQ:OpR X (qbA .Lt) (rI0 λi j=>.bl (decide (i<j))):=yX λ_ _ _ _ _ _ _ q=>lt_int q
theorem Bw:OpR X (qbA .LtE) (rI0 λi j=>.bl (decide (i<=j))):=yX λ_ _ _ _ _ _ _ q=>le_int q
theorem Ce:OpR X (qbA .Gt) (rI0 λi j=>.bl (decide (j<i))):=yX λ_ _ _ _ _ _ _ q=>gt_int q
theorem BB:OpR X (qbA .GtE) (rI0 λi j=>.bl (decide (j<=i))):=yX λ_ _ _ _ _ _ _ q=>ge_int q
theorem AU:OpR X (qbA .Is) (λx y H Q=>y=.non/\Q (.bl (decide (x=.non))) H):=by
 intro pins s σ H x y v u Q I rx ry h
 obtain⟨rfl,q⟩:=h
 cases ry
 refine is_none_gen (wT I q ?_)
 cases x<;>first
  |(cases rx;rfl)
  |(obtain⟨t,rfl⟩:=rx;rfl)
theorem yo:OpR X (qbA .IsNot) (λx y H Q=>y=.non/\Q (.bl (!decide (x=.non))) H):=by
 intro pins s σ H x y v u Q I rx ry h
 obtain⟨rfl,q⟩:=h
 cases ry
 refine isnot_none_gen (wT I q ?_)
 cases x<;>first
  |(cases rx;rfl)
  |(obtain⟨t,rfl⟩:=rx;rfl)
theorem aQ (b:Expr) {op:CmpOp} (h:op≠.In:=by decide) (h2:op≠.NotIn:=by decide):qda op b=false:=by
 have e1:(op==CmpOp.In)=false:=by cases op<;>first|rfl|exact absurd rfl h
 have e2:(op==CmpOp.NotIn)=false:=by cases op<;>first|rfl|exact absurd rfl h2
 cases b<;>simp[qda,e1,e2]
theorem yO {op:CmpOp}{r:R2} (ho:OpR X (qbA op) r) (ha:PE X a ta) (hb:PE X b tb) (hm:qda op b=false):PE X (.Compare a [op] [b] pos) (tOp r ta tb):=by
 intro pins s σ H Q I h
 exact wpAny_Compare1 (zN ha hb I h λv u s2 x y H2 I2 rx ry q=>ho pins s2 σ H2 x y v u Q I2 rx ry q) hm
def Cj (t:TE):TT:=λσ H Q=>t σ H λx H'=>∃ k,x=.bl k/\Q k H'
theorem yU {op:CmpOp}{r:R2} (ho:OpR X (qbA op) r) (ha:PE X a ta) (hb:PE X b tb) (hm:qda op b=false):PT X (.Compare a [op] [b] pos) (Cj (tOp r ta tb)):=by
 intro pins s σ H Q I h
 refine wpAny_isTrue_Compare1 (thn (ha pins s σ H _ I h) λv s1 ⟨x,H1,I1,r1,q1⟩=>thn (hb pins s1 σ H1 _ I1 q1) λu s2 ⟨y,H2,I2,r2,q2⟩=>
  thn (ho pins s2 σ H2 x y v u _ I2 r1 r2 q2) λc s3 ⟨z,H3,I3,r3,k,e,q3⟩=>?_) hm
 subst e
 cases r3
 exact qcs ⟨H3,I3,q3⟩
def yM (K:qac) (x:V) (H:Hp) (k:Bool):Prop:=
 match x with
 |.non=>k=false
 |.bl b=>k=b
 |.int i=>k=(i != 0)
 |.str y=>y.length<=qaN/\k=((y.length:Int) != 0)
 |.byt y=>y.size<=qaN/\k=((y.size:Int) != 0)
 |.ref p=>(∃ xs,SqL K H p xs/\k=!xs.isEmpty)\/(∃ xs,SqT K H p xs/\k=!xs.isEmpty)\/∃ kvs,H p=some (.dK kvs)/\k=!kvs.isEmpty
 |_=>False
theorem tL {κ:Type}{kvs:List (κ×V)}{vs:List (κ×Value)} (r:KV kvs vs):(!vs.isEmpty)=!kvs.isEmpty:=by
 cases r<;>rfl
theorem ng {xs:List V}{its:List Value} (r:aU xs its):(!its.toArray.isEmpty)=!xs.isEmpty:=by
 cases r<;>simp
theorem kt:(qaN:Nat)<2^63:=by rw[qdj];decide
theorem AW:C5 X (λx H Q=>∃ k,yM X.K x H k/\Q k H):=by
 intro pins s σ H x v Q I rx h
 obtain⟨k,e,q⟩:=h
 have hl:=kt
 have hs:qaN=16777216:=qdj
 cases x with
 |non=>
  cases rx
  have e':k=false:=e
  subst e'
  exact truthy_none ⟨H,I,q⟩
 |bl b=>
  cases rx
  have e':k=b:=e
  subst e'
  exact qcs ⟨H,I,q⟩
 |int i=>
  obtain⟨t,rfl⟩:=rx
  have e':k=(i != 0):=e
  subst e'
  exact PySem.P.truthy_int ⟨H,I,q⟩
 |str y=>
  obtain⟨t,rfl⟩:=rx
  obtain⟨hy,e'⟩:y.length<=qaN/\k=((y.length:Int) != 0):=e
  subst e'
  exact PySem.P.truthy_str (by lia) ⟨H,I.tok _,q⟩
 |byt y=>
  obtain⟨t,rfl⟩:=rx
  obtain⟨hy,e'⟩:y.size<=qaN/\k=((y.size:Int) != 0):=e
  subst e'
  exact PySem.W.truthy_bytes (by lia) ⟨H,I.tok _,q⟩
 |ref p=>
  cases rx
  have e':(∃ xs,SqL X.K H p xs/\k=!xs.isEmpty)\/(∃ xs,SqT X.K H p xs/\k=!xs.isEmpty)\/∃ kvs,H p=some (.dK kvs)/\k=!kvs.isEmpty:=e
  rcases e' with⟨xs,hx,e'⟩|⟨xs,hx,e'⟩|⟨kvs,hx,e'⟩
  ·subst e'
   obtain⟨its,r,pl,hz⟩:=I.list hx
   have hlen:=r.length
   exact wpAny_truthy_list pl.isList (by simp only[qay];lia) ⟨H,I.tok _,by rw[ng r];exact q⟩
  ·subst e'
   obtain⟨its,r,pl,hz⟩:=I.tuple hx
   have hlen:=r.length
   exact truthy_tuple pl (by simp only[qay];lia) ⟨H,I.tok _,by rw[ng r];exact q⟩
  ·subst e'
   obtain⟨hz,hS,vs,r,m⟩:kvs.length<=qaN/\(p==qfB)=false/\∃ vs,KV kvs vs/\s.heap.DictOf (kQ X.prog X.w) p vs:=I.hok p _ hx
   have hlen:kvs.length=vs.length:=qgq r
   exact wpAny_truthy_dict hS m (by lia) ⟨H,I.tok _,by rw[tL r];exact q⟩
 |_=>exact (show False from e).elim
theorem xr (ha:PE X a ta) (he:∀ whole,qh4 a X.env whole=(do let v <-whole;qh3 a.pos;qeR [v] (truthy v))) :
  PT X a (λσ H Q=>ta σ H λx H'=>∃ k,yM X.K x H' k/\Q k H'):=by
 intro pins s σ H Q I h
 exact isTrue_plain (thn (ha pins s σ H _ I h) λv s1 ⟨x,H1,I1,r1,q1⟩=>AW pins s1 σ H1 x v Q I1 r1 q1) (he _)
theorem ux:OpR X (qbC .Add) (λx y H Q=>∃ i j,x=.str i/\y=.str j/\i.length+j.length<=qaN/\Q (.str (i++j)) H):=by
 intro pins s σ H x y v u Q I rx ry h
 obtain⟨i,j,rfl,rfl,hz,q⟩:=h
 obtain⟨t,rfl⟩:=rx
 obtain⟨t',rfl⟩:=ry
 exact add_str (λt' tk=>⟨.str (i++j),H,I.tok _,⟨_,rfl⟩,q⟩) hz
theorem lR {x:V}{us:List Value} (r:aU [x] us):∃ u,us=[u]/\bK x u:=by
 cases r with
 |cons r1 r2=>cases r2;exact⟨_,rfl,r1⟩
theorem Cn {x y:V}{us:List Value} (r:aU [x,y] us):∃ u w',us=[u,w']/\bK x u/\bK y w':=by
 cases r with
 |cons r1 r2=>
  cases r2 with
  |cons r3 r4=>cases r4;exact⟨_,_,rfl,r1,r3⟩
theorem xo:dm X (.builtin "abs") (λxs H Q=>∃ i,xs=[.int i]/\Q (.int (if i<0 then -i else i)) H):=by
 intro pins s σ H xs us Q I r h
 obtain⟨i,rfl,q⟩:=h
 obtain⟨u,rfl,t,rfl⟩:=lR r
 exact call_abs_int λu tk=>⟨.int (if i<0 then -i else i),H,I.tok _,⟨_,rfl⟩,q⟩
theorem vG (hc:X.calm=true):dm X (.builtin "min") (λxs H Q=>∃ i j,xs=[.int i,.int j]/\Q (.int (if j<i then j else i)) H):=by
 intro pins s σ H xs us Q I r h
 obtain⟨i,j,rfl,q⟩:=h
 obtain⟨u,w',rfl,⟨t,rfl⟩,⟨t',rfl⟩⟩:=Cn r
 refine min_two_ints (I.ok.hd hc) λh' tk k=>⟨_,H,I.kept k,?_,q⟩
 by_cases hj:j<i
 ·rw[if_pos hj,if_pos hj];exact⟨_,rfl⟩
 ·rw[if_neg hj,if_neg hj];exact⟨_,rfl⟩
theorem oT:dm X (.type "int") (λxs H Q=>(∃ i,xs=[.int i]/\Q (.int i) H)\/∃ k,xs=[.bl k]/\Q (.int (if k then 1 else 0)) H):=by
 intro pins s σ H xs us Q I r h
 rcases h with⟨i,rfl,q⟩|⟨k,rfl,q⟩
 ·obtain⟨u,rfl,t,rfl⟩:=lR r
  exact call_int_int ⟨.int i,H,I,⟨_,rfl⟩,q⟩
 ·obtain⟨u,rfl,r1⟩:=lR r
  cases r1
  exact call_int_bool ⟨.int (if k then 1 else 0),H,I.tok _,⟨_,rfl⟩,q⟩
theorem pF:dm X (.type "str") (λxs H Q=>∃ i,xs=[.int i]/\i.natAbs.log2<1920/\Q (.str (toString i)) H):=by
 intro pins s σ H xs us Q I r h
 obtain⟨i,rfl,hz,q⟩:=h
 obtain⟨u,rfl,t,rfl⟩:=lR r
 exact PySem.P.str_of_int hz ⟨.str _,H,I.tok _,⟨_,rfl⟩,q⟩
end
structure vW (h:Heap) (x dx C:Addr) (mA:Str->Option Value):Prop where
 obj:h.get? x=some (qbT C dx)
 ns:h.Ns1 dx mA
 ne:dx≠x
theorem vK {h:Heap}{dx:Addr}{mA:Str->Option Value} (n:h.Ns1 dx mA):∃ od,h.get? dx=some od/\∀ name,qeF name od=some (mA name):=by
 obtain⟨o,es,ep,ho,hd,hk,_,hm⟩:=n
 refine⟨o,ho,λname=>?_⟩
 have e:=hm name
 unfold nsFind findBy at e
 rw[<-Array.find?_toList]at e
 unfold qeF
 rw[hd]
 dsimp only
 split
 ·rename_i y q
  rw[q]at e
  exact congrArg some e
 ·rename_i q
  rw[q]at e
  have a:es.toList.any (·.refKey)=false:=by
   rw[qga]
   intro y hy
   obtain⟨z,t,hkey⟩:=hk y (Array.mem_toList_iff.mp hy)
   simp[DictEntry.refKey,hkey]
  have a':¬ es.toList.any (·.refKey)=true:=by rw[a];exact qax
  rw[if_neg a']
  exact congrArg some e
theorem vW.look {h:Heap}{x dx C:Addr}{mA:Str->Option Value} (I:vW h x dx C mA):∃ od,PySem.W.InstAt h x (qbT C dx) C (some od)/\∀ name,qeF name od=some (mA name):=
 let ⟨od,ho,hl⟩:=vK I.ns
 ⟨od,⟨I.obj,rfl,rfl,ho⟩,hl⟩
section
variable {prog:qa1}{w:World}{A:qa8}{E:Value->qak->Prop}{s:qak}{K:qac}{x dx C f:Addr}{mA:Str->Option Value}{name:Str}{v:Value}
theorem yL {expr:Bool}{Q:Value->qak->Prop} (X:K.In s.heap) (I:vW s.heap x dx C mA) (hg:qdo K C name=true) (hh:qdb K C=true)
  (ha:qbg K (.ref C) name=some none) (hv:mA name=some v) (hv':qfE v=true) (h:Q v { s with toks:=s.toks+1 }) :
  wpAny (model prog w) A (getAttr (.ref x) name expr) Q E s:=by
 obtain⟨od,J,hl⟩:=I.look
 exact PySem.W.get_value X J (PySem.W.plainGet_of hg).1 (PySem.W.findObj_own hh ha rfl (by rw[hl,hv])) hv' h
theorem yC {ns:List Str}{Q:Unit->qak->Prop} (X:K.In s.heap) (I:vW s.heap x dx C mA)
  (hs:qbg K (.ref C) "__setattr__" = some (some (.builtin "object.__setattr__"))) (hp:qd3 K C=true) (ht:qeq K C name=some none) (hh:qdb K C=true)
  (hw:qfg mA ns) (hsz:ns.length<=qaN)
  (h:∀ h',vW h' x dx C (λy=>if y=name then some v else mA y)->qde dx s.heap h'->Q () { s with heap:=h',toks:=s.toks+2 }) :
  wpAny (model prog w) A (setAttr (.ref x) name v) Q E s:=by
 obtain⟨od,J,hl⟩:=I.look
 refine PySem.W.set_plain X J hs (PySem.W.osa_open (s:={ s with toks:=s.toks+1 }) (r:=none) X J hp ht λb=>?_)
 obtain⟨cd,hc,hd'⟩:=PySem.W.any_some hh
 have hx:s.heap.get? x=some ⟨.ref C,some dx,.plain,#[]⟩:=I.obj
 refine qae (qaq (qae (qae (wpAny_loadPart hx (qae (qg0 (s:={ s with toks:=s.toks+1 }) (PySem.W.looks_clsIn X hc) ?_))))))
 rw[hd']
 refine qaq (a:=some dx) (qae (qaq (qae ?_)))
 refine wpAny_nsSet1 (s:={ s with toks:=s.toks+1 }) I.ns λh' hn2 hs2=>?_
 obtain⟨oD,esD,epD,hoD,hdD,hcD⟩:=hn2.count (qhP name v hw)
 refine qae (wpAny_lookBehind hoD (by rw[hdD];exact pastItsLine_dict (qa2 hcD (by rw[qas];lia))) ?_)
 exact qaq (h _ ⟨(hs2.2 _ (qbu I.ne)).trans I.obj,hn2,I.ne⟩ hs2)
theorem xG {R:Result->qak->Prop}{vs:List Value}{kw:List (Str×Value)} (X:K.In s.heap) (hm:qer K C=true)
  (hi:qbg K (.ref C) "__init__" = some (some (.ref f))) (hf:PySem.W.typeIn K (.ref f)=some (.type "function"))
  (h:qeo (model prog w) (A.under (.builtin "type.__call__" ⟨.ref C::vs,kw⟩)) (.call (.ref f) ⟨.ref (s.heap.objs.size+1)::vs,kw⟩) (PySem.W.InitBack (s.heap.objs.size+1) R)
    { s with heap:=(s.heap.push qbG).push (qbT C s.heap.objs.size) }) :
  qeo (model prog w) A (.call (.ref C) ⟨vs,kw⟩) R s:=by
 obtain⟨hh,g,d,t,os⟩:=s
 exact PySem.W.make_core (PySem.W.makes_of X hm) (PySem.W.looks_findIn X hi) (λself=>PySem.W.bind_fn X self hf) (.inl rfl) h
end
def iD (f:Str) (v:V):List (Str×V)->List (Str×V)
 |[]=>[(f,v)]
 |(g,x)::r=>if g=f then (g,v)::r else (g,x)::iD f v r
theorem me (f g:Str) (v:V):∀ fs:List (Str×V),(iD f v fs).lookup g=if g=f then some v else fs.lookup g
 |[]=>by
  show qc3 g [(f,v)]=_
  by_cases h:g=f
  ·have hb:(g==f)=true:=beq_iff_eq.mpr h
   simp only[qc3,hb,if_pos h]
  ·have hb:(g==f)=false:=beq_eq_false_iff_ne.mpr h
   simp only[qc3,hb,if_neg h]
 |(k,x)::r=>by
  have ih:=me f g v r
  rw[show iD f v ((k,x)::r)=(if k=f then (k,v)::r else (k,x)::iD f v r) from rfl]
  by_cases hk:k=f
  ·rw[if_pos hk]
   by_cases h:g=k
   ·have hb:(g==k)=true:=beq_iff_eq.mpr h
    simp only[qc3,hb,if_pos (h.trans hk)]
   ·have hb:(g==k)=false:=beq_eq_false_iff_ne.mpr h
    simp only[qc3,hb,if_neg (λe:g=f=>h (e.trans hk.symm))]
  ·rw[if_neg hk]
   by_cases h:g=k
   ·have hb:(g==k)=true:=beq_iff_eq.mpr h
    simp only[qc3,hb,if_neg (λe:g=f=>hk (h.symm.trans e))]
   ·have hb:(g==k)=false:=beq_eq_false_iff_ne.mpr h
    simp only[qc3,hb]
    exact ih
theorem lH (f:Str) (v:V):∀ fs:List (Str×V),f∈(iD f v fs).map (·.1)/\∀ g,g∈fs.map (·.1)->g∈(iD f v fs).map (·.1)
 |[]=>⟨by simp[iD],λg h=>by simp at h⟩
 |(k,x)::r=>by
  obtain⟨i1,i2⟩:=lH f v r
  rw[show iD f v ((k,x)::r)=(if k=f then (k,v)::r else (k,x)::iD f v r) from rfl]
  by_cases hk:k=f
  ·rw[if_pos hk]
   subst hk
   exact⟨by simp,λg h=>by simpa using h⟩
  ·rw[if_neg hk]
   refine⟨?_,λg h=>?_⟩
   ·rw[qaB]
    exact qaj _ i1
   ·rw[qaB]at h ⊢
    rcases qar.mp h with e|e
    ·exact qar.mpr (.inl e)
    ·exact qaj _ (i2 g e)
theorem lU (f:Str) (v:V):∀ fs:List (Str×V),(iD f v fs).length<=fs.length+1
 |[]=>by simp[iD]
 |(k,x)::r=>by
  have ih:=lU f v r
  rw[show iD f v ((k,x)::r)=(if k=f then (k,v)::r else (k,x)::iD f v r) from rfl]
  by_cases hk:k=f
  ·rw[if_pos hk,qas,qas];lia
  ·rw[if_neg hk,qas,qas];lia
theorem uC.some_of {v:V}{o:Option Value} (r:uC (some v) o):∃ u,o=some u/\bK v u:=by
 cases o with
 |none=>exact (show False from r).elim
 |some u=>exact⟨u,rfl,r⟩
theorem vY {v:V}{u:Value} (r:bK v u):qfE u=true:=by
 cases v with
 |non=>cases (show u=Value.none from r);rfl
 |bl b=>cases (show u=Value.bool b from r);rfl
 |int i=>obtain⟨t,e⟩:=(show ∃ t,u=Value.int i t from r);cases e;rfl
 |str x=>obtain⟨t,e⟩:=(show ∃ t,u=Value.str x t from r);cases e;rfl
 |byt b=>obtain⟨t,e⟩:=(show ∃ t,u=Value.bytes b t from r);cases e;rfl
 |flt b=>obtain⟨t,e⟩:=(show ∃ t,u=Value.float b t from r);cases e;rfl
 |ref a=>cases (show u=Value.ref a from r);rfl
 |ty n=>cases (show u=Value.type n from r);rfl
section
variable {P:qa1}{w:World}{H H':Hp}{h h':Heap}{a C dx:Addr}{fs fs':List (Str×V)}
theorem pI (hok:HOk P w H h) (e:H a=some (.ins C dx fs)):∃ mA,vW h a dx C mA/\(∀ f,uC (fs.lookup f) (mA f))/\qfg mA (fs.map (·.1))/\fs.length<=1000/\H dx=some (.own a):=by
 obtain⟨d,z,ne,ob,mA,n,r,q⟩:=(show dI P w H h a (.ins C dx fs) from hok a _ e)
 exact⟨mA,⟨ob,n,ne⟩,r,q,z,d⟩
end
structure Cls (K:qac) (C:Addr):Prop where
 pg:qdo K C Str.empty=true
 hd:qdb K C=true
 po:qd3 K C=true
 sa:qbg K (.ref C) "__setattr__" = some (some (.builtin "object.__setattr__"))
theorem Cls.get {K:qac}{C:Addr} (c:Cls K C) (f:Str):qdo K C f=true:=c.pg
def en (K:qac) (C:Addr) (f:Str):Prop:=qbg K (.ref C) f=some none
theorem en.taker {K:qac}{C:Addr}{f:Str} (n:en K C f):qeq K C f=some none:=by
 unfold qeq
 rw[show qbg K (.ref C) f=some none from n]
 rfl
section
variable {X:Cx}{pins:List (Addr×Obj)}{σ:St}{H:Hp}{s:qak}{a C dx:Addr}{fs:List (Str×V)}{f:Str}{v:V}{A:qa8}{E:Value->qak->Prop}
theorem uk {b:Bool}{Q:Value->qak->Prop} (I:Inv X pins σ H s) (e:H a=some (.ins C dx fs)) (c:Cls X.K C) (n:en X.K C f) (l:fs.lookup f=some v)
  (h:∀ u s',Inv X pins σ H s'->bK v u->Q u s'):wpAny (model X.prog X.w) A (getAttr (.ref a) f b) Q E s:=by
 obtain⟨mA,O,r,_,_,_⟩:=pI I.hok e
 obtain⟨u,hu,ru⟩:=uC.some_of (v:=v) (o:=mA f) (by rw[<-l];exact r f)
 exact yL I.kIn O (c.get f) c.hd n hu (vY ru) (h u _ (I.tok _) ru)
theorem sQ {y:V}{u:Value}{Q:Unit->qak->Prop} (I:Inv X pins σ H s) (e:H a=some (.ins C dx fs)) (c:Cls X.K C) (n:en X.K C f) (hl:fs.length<1000) (ry:bK y u)
  (h:∀ s',Inv X pins σ (upd H a (.ins C dx (iD f y fs))) s'->Q () s'):wpAny (model X.prog X.w) A (setAttr (.ref a) f u) Q E s:=by
 obtain⟨mA,O,r,wi,_,ho⟩:=pI I.hok e
 have hz:(fs.map (·.1)).length<=qaN:=by rw[qam,qdj];lia
 refine yC I.kIn O c.sa c.po n.taker c.hd wi hz λh' O' sb=>h _ ?_
 have hd:∃ o,h'.get? dx=some o:=let ⟨o,_,_,e',_⟩:=O'.ns;⟨o,e'⟩
 refine I.write (x:=a) (e:=dx) (by rw[e];exact True.intro) (.inr ho) (λb q hb z=>(sb.2 b hb).trans z) hd ?_
 refine⟨by rw[upd_ne O.ne];exact ho,?_,O.ne,O'.obj,_,O'.ns,λg=>?_,λg hg=>?_⟩
 ·have:=lU f y fs;lia
 ·show uC ((iD f y fs).lookup g) (if g=f then some u else mA g)
  rw[me]
  by_cases q:g=f
  ·rw[if_pos q,if_pos q];exact ry
  ·rw[if_neg q,if_neg q];exact r g
 ·by_cases q:g=f
  ·rw[q];exact (lH f y fs).1
  ·refine (lH f y fs).2 g (wi g λz=>hg ?_)
   show (if g=f then some u else mA g)=none
   rw[if_neg q];exact z
theorem Inv.made (I:Inv X pins σ H s):Inv X pins σ (upd (upd H s.heap.objs.size (.own (s.heap.objs.size+1))) (s.heap.objs.size+1) (.ins C s.heap.objs.size []))
  { s with heap:=(s.heap.push qbG).push (qbT C s.heap.objs.size) }:=by
 have e1:(s.heap.push qbG).get? s.heap.objs.size=some qbG:=qaE s.heap rfl
 have e2:((s.heap.push qbG).push (qbT C s.heap.objs.size)).get? (s.heap.objs.size+1)=some (qbT C s.heap.objs.size):=by
  have:=qaE (s.heap.push qbG) (o:=qbT C s.heap.objs.size) rfl
  rwa [qbh]at this
 have e3:(s.heap.push qbG).Ns s.heap.objs.size (λ_=>none):=⟨qbG,#[],_,e1,rfl,(λe he=>absurd he (by simp)),λ_=>rfl⟩
 have I1:=I.laid (a:=s.heap.objs.size) (o:=.own (s.heap.objs.size+1)) (h':=s.heap.push qbG) (t':=s.toks) (λb u q=>qai _ q) (qal _) ⟨_,e1⟩
 refine I1.laid (a:=s.heap.objs.size+1) (o:=.ins C s.heap.objs.size []) (t':=s.toks) (λb u q=>qai _ q) (qcA (qbh _ _)) ?_
 have ne:s.heap.objs.size≠s.heap.objs.size+1:=qaO (qbE _)
 refine⟨by rw[upd_ne ne,upd_same],qb5 _,ne,e2,λ_=>none,(Heap.Ns1.of_empty e3).at λo q=>qai _ q,λ_=>True.intro,λy hy=>absurd rfl hy⟩
theorem yF {prog:qa1}{w:World}{env:Env}{e:Expr}{f:Str}{pos:Pos}{s:qak}{Q:Value->qak->Prop} (hb:qcL e f env (eval e env)=eval e env)
  (h:wpAny (model prog w) A (eval e env) (λo s₁=>wpAny (model prog w) A (getAttr o f true) Q E s₁) E s):wpAny (model prog w) A (eval (.Attribute e f pos) env) Q E s:=
 Attribute_any_ h (by rw[arm_eval_Attribute,hb])
end
def Da (K:qac) (ta:TE) (f:Str):TE:=λσ H Q=>ta σ H λx H1=>∃ a C dx fs v,x=.ref a/\H1 a=some (.ins C dx fs)/\Cls K C/\en K C f/\fs.lookup f=some v/\Q v H1
def CC (K:qac) (ta tv:TE) (f:Str):TS:=λD σ H=>tv σ H λy H1=>ta σ H1 λx H2=>∃ a C dx fs,x=.ref a/\H2 a=some (.ins C dx fs)/\Cls K C/\en K C f/\fs.length<1000/\
 D.nx σ (upd H2 a (.ins C dx (iD f y fs)))
section
variable {X:Cx}{o e value:Expr}{f:Str}{pos pos' tpos:Pos}{ta tv:TE}
theorem zQ (he:PE X e ta) (hb:qcL e f X.env (eval e X.env)=eval e X.env):PE X (.Attribute e f pos) (Da X.K ta f):=by
 intro pins s σ H Q I h
 refine yF hb (thn (he pins s σ H _ I h) λu s1 ⟨x,H1,I1,rx,a,C,dx,fs,v,ex,ea,c,n,l,q⟩=>?_)
 subst ex
 obtain rfl:u=Value.ref a:=rx
 exact uk I1 ea c n l λu' s2 I2 ru=>⟨v,H1,I2,ru,q⟩
theorem wu (ha:PE X o ta) (hv:PE X value tv) (hs:qcB value (some (.Attribute o f pos')) pos.line X.env=pure false):PS X (.Assign [.Attribute o f pos'] value pos) (CC X.K ta tv f):=by
 intro pins s σ H D I h
 refine plainObj_wpAny_Assign_Attribute (thn (hv pins s σ H _ I h) λu s1 ⟨y,H1,I1,ry,q⟩=>thn (ha pins s1 σ H1 _ I1 q) λov s2 ⟨x,H2,I2,rx,a,C,dx,fs,ex,ea,c,n,l,q2⟩=>?_) hs
 subst ex
 obtain rfl:ov=Value.ref a:=rx
 exact sQ I2 ea c n l ry λs3 I3=>⟨σ,_,I3,q2⟩
end
section
variable {X:Cx}{pins:List (Addr×Obj)}{σ:St}{H:Hp}{s:qak}{A:qa8}{E:Value->qak->Prop}{Q:Value->qak->Prop}{c:Value}{b:Bool}
inductive mk (K:qac) (H:Hp):V->Value->Prop where
 |non:mk K H .non (.type "NoneType")
 |bl (x:Bool):mk K H (.bl x) (.type "bool")
 |int (i:Int):mk K H (.int i) (.type "int")
 |str (x:Str):mk K H (.str x) (.type "str")
 |flt (x:UInt64):mk K H (.flt x) (.type "float")
 |lst {a:Addr}{xs:List V} (e:H a=some (.lst xs)):mk K H (.ref a) (.type "list")
 |frz {a:Addr}{o:Obj}{xs:List V} (e:H a=some (.frz o (.lst xs))):mk K H (.ref a) (.type "list")
 |tup {a:Addr}{xs:List V} (e:H a=some (.tup xs)):mk K H (.ref a) (.type "tuple")
 |dK {a:Addr}{kvs:List (Key×V)} (e:H a=some (.dK kvs)):mk K H (.ref a) (.type "dict")
 |dT {a:Addr}{kvs:List (List Key×V)} (e:H a=some (.dT kvs)):mk K H (.ref a) (.type "dict")
 |ins {a C dx:Addr}{fs:List (Str×V)} (e:H a=some (.ins C dx fs)) (cl:Cls K C) (ha:qbg K (.ref C) "__class__" = some (some (.builtin "object.__class__")))
   (hn:PySem.W.specialIn K (.builtin "object.__class__") "__get__" = some (some (.builtin "getset_descriptor.__get__"))) (htk:PySem.W.takesIn K (.builtin "object.__class__")=some true)
   (hm:PySem.W.mroIn K C (.type "object")=some true):mk K H (.ref a) (.ref C)
theorem dS {x:V}{u t:Value} (I:Inv X pins σ H s) (rx:bK x u) (ty:mk X.K H x t) (e:qf7 X.K t c=some b) (h:∀ tk,Q (.bool b) { s with toks:=tk }) :
  wpAny (model X.prog X.w) A (call (.builtin "isinstance") [u,c]) Q E s:=by
 cases ty with
 |non=>cases (show u=Value.none from rx);exact qbv PySem.W.kitx_none I.kIn True.intro e (λz=>nomatch z) h
 |bl y=>cases (show u=Value.bool y from rx);exact qbv PySem.W.kitx_bool I.kIn True.intro e (λz=>nomatch z) h
 |int i=>obtain⟨t,q⟩:=(show ∃ t,u=Value.int i t from rx);cases q;exact qbv PySem.W.kitx_int I.kIn True.intro e (λz=>nomatch z) h
 |str y=>obtain⟨t,q⟩:=(show ∃ t,u=Value.str y t from rx);cases q;exact qbv PySem.W.kitx_str I.kIn True.intro e (λz=>nomatch z) h
 |flt y=>obtain⟨t,q⟩:=(show ∃ t,u=Value.float y t from rx);cases q;exact qbv PySem.W.kitx_float I.kIn True.intro e (λz=>nomatch z) h
 |@lst a xs ea=>
  cases (show u=Value.ref a from rx)
  obtain⟨_,_,n,_,h1⟩:=(show dI X.prog X.w H s.heap a (.lst xs) from I.hok a _ ea)
  exact qbv qft I.kIn ⟨_,h1,rfl⟩ e (λz=>nomatch z) h
 |@frz a ob xs ea=>
  cases (show u=Value.ref a from rx)
  obtain⟨_,_,_,n,_,h1⟩:=(show dI X.prog X.w H s.heap a (.frz ob (.lst xs)) from I.hok a _ ea)
  exact qbv qft I.kIn ⟨_,h1,rfl⟩ e (λz=>nomatch z) h
 |@tup a xs ea=>
  cases (show u=Value.ref a from rx)
  obtain⟨_,_,_,p⟩:=(show dI X.prog X.w H s.heap a (.tup xs) from I.hok a _ ea)
  obtain⟨o,h1,h2,_⟩:=p
  exact qbv qfn I.kIn ⟨o,h1,h2⟩ e (λz=>nomatch z) h
 |@dK a kvs ea=>
  cases (show u=Value.ref a from rx)
  obtain⟨_,_,vs,_,p⟩:=(show dI X.prog X.w H s.heap a (.dK kvs) from I.hok a _ ea)
  obtain⟨o,es,ep,h1,h2,_⟩:=p
  exact qbv qfu I.kIn ⟨o,h1,h2.1⟩ e (λz=>nomatch z) h
 |@dT a kvs ea=>
  cases (show u=Value.ref a from rx)
  obtain⟨_,_,xs,_,o,es,ep,h1,h2,_⟩:=(show dI X.prog X.w H s.heap a (.dT kvs) from I.hok a _ ea)
  exact qbv qfu I.kIn ⟨o,h1,h2.1⟩ e (λz=>nomatch z) h
 |@ins a C dx fs ea cl ha hn htk hm=>
  cases (show u=Value.ref a from rx)
  obtain⟨mA,O,_⟩:=pI I.hok ea
  obtain⟨od,J,_⟩:=O.look
  exact qbv (PySem.W.kitx_own (cl.get _) cl.hd ha hn htk hm) I.kIn J e (λz=>nomatch z) h
end
structure dW (k:Nat) (A:qa8):Prop where
 hd:A.handled=none
 dp:A.depth+3*k+5<qid
 un:A.units+16*k+200<cLine
 gd:A.guards=some []
theorem dW.mono {j k:Nat}{A:qa8} (r:dW k A) (h:j<=k):dW j A:=⟨r.hd,by have:=r.dp;lia,by have:=r.un;lia,r.gd⟩
theorem dW.deeper {k:Nat}{A:qa8} (r:dW (k+1) A) (env:Env):dW k (A.deeper env):=
 ⟨r.hd,by have:=r.dp;show A.depth+1+3*k+5<_;lia,by have:=r.un;show A.units+3+16*k+200<_;lia,r.gd⟩
theorem tX {A:qa8}{C:Addr}{us:List Value}{kw:List (Str×Value)}:(A.under (.builtin "type.__call__" ⟨.ref C::us,kw⟩)).depth=A.depth+1:=by
 first|rfl|simp[qei,Code.weight,Code.isCreation,qg7,Code.isCaller,qh2,qfq,guardIds]
theorem tJ {A:qa8}{C:Addr}{us:List Value}{kw:List (Str×Value)}:(A.under (.builtin "type.__call__" ⟨.ref C::us,kw⟩)).units=A.units+1:=by
 first|rfl|simp[qei,Code.cUnits,qh2,qfq]
theorem dW.make {k:Nat}{A:qa8} (r:dW (k+1) A) (C:Addr) (us:List Value) (kw:List (Str×Value)):dW k (A.under (.builtin "type.__call__" ⟨.ref C::us,kw⟩)):=
 ⟨r.hd,by have:=r.dp;rw[tX];lia,by have:=r.un;rw[tJ];lia,by
  unfold qei
  simp[r.gd,pushGuards,Code.guards,qg7,guardIds]⟩
theorem dW.depth {k:Nat}{A:qa8} (r:dW k A):A.depth<qid:=by have:=r.dp;lia
theorem dW.units0 {k:Nat}{A:qa8} (r:dW k A):A.units<cLine:=by have:=r.un;lia
def CY:TA:=λ_ H Q=>Q [] H
def Bv (ta:TE) (tr:TA):TA:=λσ H Q=>ta σ H λx H1=>tr σ H1 λxs H2=>Q (x::xs) H2
section
variable {X:Cx}{e:Expr}{es:List Expr}{te:TE}{t:TA}{pos:Pos}
theorem qc:PA X [] CY:=λ_ _ _ _ H Q I h=>Calls.spliced_nil ⟨[],H,I,.nil,h⟩
theorem mM (ha:PE X e te) (hr:PA X es t) (hs:qbk (e::es) X.env=(false,eval e X.env)::qbk es X.env:=by rfl):PA X (e::es) (Bv te t):=by
 intro pos pins s σ H Q I h
 rw[hs]
 show wpAny _ _ (spliced ((false,eval e X.env)::qdL pos (qbk es X.env))) _ _ s
 refine Calls.spliced_cons (thn (ha pins s σ H _ I h) λu s1 ⟨x,H1,I1,r1,q1⟩=>?_)
 exact thn (hr pos pins s1 σ H1 _ I1 q1) λus s2 ⟨xs,H2,I2,r2,q2⟩=>⟨x::xs,H2,I2,.cons r1 r2,q2⟩
def CB (t:TA):TE:=λσ H Q=>t σ H λxs H1=>xs.length<=qaN/\∀ p,H1 p=none->Q (.ref p) (upd H1 p (.tup xs))
def C3 (t:TA):TE:=λσ H Q=>t σ H λxs H1=>xs.length<=qaN/\∀ p,H1 p=none->Q (.ref p) (upd H1 p (.lst xs))
theorem zM {x1} (h:PA X es t):PE X (.Tuple es x1 pos) (CB t):=by
 intro pins s σ H Q I hq
 refine wpAny_Tuple_spliced (thn (h pos pins s σ H _ I hq) λus s1 ⟨xs,H1,I1,r,z,q⟩=>⟨by rw[<-r.length];exact z,?_⟩)
 have hf:H1 s1.heap.objs.size=none:=I1.hok.fresh (qal _)
 refine⟨.ref s1.heap.objs.size,upd H1 s1.heap.objs.size (.tup xs),I1.laid (t':=s1.toks) (λb u e=>qai _ e) (qal _) ?_,rfl,q _ hf⟩
 exact⟨z,us,r,eS.new _ _⟩
theorem Au (h:PA X es t):PE X (.List es pos) (C3 t):=by
 intro pins s σ H Q I hq
 refine wpAny_List_spliced (thn (h pos pins s σ H _ I hq) λus s1 ⟨xs,H1,I1,r,z,q⟩=>⟨by rw[<-r.length];exact z,?_⟩)
 have hf:H1 s1.heap.objs.size=none:=I1.hok.fresh (qal _)
 refine⟨.ref s1.heap.objs.size,upd H1 s1.heap.objs.size (.lst xs),I1.laid (t':=s1.toks) (λb u e=>qai _ e) (qal _) ?_,rfl,q _ hf⟩
 exact⟨z,us,0,r,qaE _ rfl⟩
end
abbrev Sp:=List V->Hp->VK->XK->Prop
abbrev CXT:=List Env->Hp->qak->XK->Value->qak->Prop
structure tY (P:qa1) (w:World) (K:qac) (mg:Str->Option Value) (base:Heap) (A:qa8) (outer:List Env) (s:qak) (H:Hp):Prop where
 frames:A.frames=some outer
 mod:Mod K mg base
 bs:∀ b o,base.get? b=some o->s.heap.get? b=some o/\H b=none
 bsz:base.objs.size<=s.heap.objs.size
 funs:s.heap.FunFrames base outer
 frf:∀ b∈frs outer,H b=none
 hok:HOk P w H s.heap
 bare:qev s.gens
def CE (outer:List Env) (P:qa1) (w:World) (H:Hp) (s:qak) (Q:VK) (u:Value) (s':qak):Prop:=
 ∃ v H',s'.os=s.os/\qev s'.gens/\Un (frs outer) [] H H' s.heap s'.heap/\HOk P w H' s'.heap/\bK v u/\Q v H'
def CR (CX:CXT) (outer:List Env) (P:qa1) (w:World) (H:Hp) (s:qak) (Q:VK) (E:XK) (r:Result) (s':qak):Prop:=
 match r with
 |.ok (.ret u)=>CE outer P w H s Q u s'
 |.ok _=>False
 |.error e=>CX outer H s E e s'
structure bR (P:qa1) (w:World) (K:qac) (mg:Str->Option Value) (base:Heap) (CX:CXT) (k:Nat) (f:Addr) (fd:qaV) (ps:List Str) (sp:Sp):Prop where
 len:∀ vs H Q E,sp vs H Q E->vs.length=ps.length
 run:∀ (A:qa8) (outer:List Env) (s:qak) (H:Hp) (args:Args) (us:List Value) (vs:List V) (Q:VK) (E:XK),dW k A->tY P w K mg base A outer s H->qf3 s fd args (ps.zip us)->aU vs us->sp vs H Q E->
  qeo (model P w) A (.call (.ref f) args) (CR CX outer P w H s Q E) s
theorem bR.mono {P:qa1}{w:World}{K:qac}{mg:Str->Option Value}{base:Heap}{CX:CXT}{j k:Nat}{f:Addr}{fd:qaV}{ps:List Str}{sp:Sp} (F:bR P w K mg base CX j f fd ps sp) (h:j<=k) :
  bR P w K mg base CX k f fd ps sp:=⟨F.len,λA outer s H args us vs Q E hr=>F.run A outer s H args us vs Q E (hr.mono h)⟩
theorem tY.make {P:qa1}{w:World}{K:qac}{mg:Str->Option Value}{base:Heap}{A:qa8}{outer:List Env}{s:qak}{H:Hp} (e:tY P w K mg base A outer s H) (C:Addr) (us:List Value) (kw:List (Str×Value)) :
  tY P w K mg base (A.under (.builtin "type.__call__" ⟨.ref C::us,kw⟩)) outer s H:=⟨by first|exact e.frames|(simpa [qei,Code.envs,qfq,pushEnvs] using e.frames),e.mod,e.bs,e.bsz,e.funs,e.frf,e.hok,e.bare⟩
section
variable {X:Cx}{pins:List (Addr×Obj)}{σ:St}{H:Hp}{s s':qak}
theorem Inv.env0 (I:Inv X pins σ H s):tY X.prog X.w X.K X.mg X.base X.A X.stack s H:=
 ⟨I.ok.frames,I.ok.mod,I.bs,qa2 I.ok.bsz I.sz,I.stack,I.stkFree,I.hok,I.bare⟩
theorem Inv.after {Q:VK}{u:Value} (I:Inv X pins σ H s) (h:CE X.stack X.prog X.w H s Q u s'):EP X pins σ Q u s':=by
 obtain⟨v,H',os,bare,un,hok,r,q⟩:=h
 obtain⟨hh,g,d,t,os'⟩:=s'
 obtain rfl:os'=s.os:=os
 exact⟨v,H',I.call (h':=hh) (g':=g) (d':=d) (t':=t) (ch:=[]) un hok bare (λb z=>absurd z (by simp)),r,q⟩
end
def Cc (sp:Sp) (dvs:List V) (E:XK) (t:TA):TE:=λσ H Q=>t σ H λvs H1=>sp (vs++dvs) H1 Q E
def BA (C:Addr) (sp:Sp) (dvs:List V) (E:XK) (t:TA):TE:=λσ H Q=>t σ H λvs H1=>∀ x dx,H1 x=none->H1 dx=none->dx≠x->
 sp (.ref x::(vs++dvs)) (upd (upd H1 dx (.own x)) x (.ins C dx [])) (λv H2=>v=.non/\Q (.ref x) H2) E
def bC (K:qac) (fd:qaV) (ps:List Str) (ds:List Value):Prop:=
 ∀ (s:qak) (us:List Value),K.In s.heap->(us++ds).length=ps.length->qf3 s fd ⟨us,[]⟩ (ps.zip (us++ds))
theorem bC.all {K:qac}{fd:qaV}{ps:List Str} (h:∀ us:List Value,us.length=ps.length->bindArgs fd ⟨us,[]⟩=pure (ps.zip us)):bC K fd ps []:=λs us _ hl=>by
 rw[qbO]at hl ⊢
 exact .of_eq (h us hl)
def ni (CX:CXT) (X:Cx) (E:XK):Prop:=∀ (pins:List (Addr×Obj)) (σ:St) (H:Hp) (s:qak) (e:Value) (s':qak),Inv X pins σ H s->CX X.stack H s E e s'->X.xe e s'
section
variable {X:Cx}{CX:CXT}{k:Nat}{f C:Addr}{fd:qaV}{ps:List Str}{sp:Sp}{dvs:List V}{ds:List Value}{E:XK}{x m:Str}{p pos apos:Pos}{e o:Expr}{es:List Expr}{ta:TE}{t:TA}
theorem zK {pins:List (Addr×Obj)}{σ:St}{H:Hp}{s:qak}{Q:VK}{us:List Value}{vs:List V} (F:bR X.prog X.w X.K X.mg X.base CX k f fd ps sp) (hr:dW k X.A) (hb:bC X.K fd ps ds) (hd:aU dvs ds) (hx:ni CX X E)
  (I:Inv X pins σ H s) (r:aU vs us) (h:sp (vs++dvs) H Q E):wpAny (model X.prog X.w) X.A (call (.ref f) us) (EP X pins σ Q) X.xe s:=by
 have r2:aU (vs++dvs) (us++ds):=r.append hd
 have hl:(us++ds).length=ps.length:=by rw[<-r2.length];exact F.len _ _ _ _ h
 refine wpAny_call (qeY (F.run X.A X.stack s H ⟨us,[]⟩ (us++ds) (vs++dvs) Q E hr I.env0 (hb s us I.kIn hl) r2 h) λr s' hq=>?_)
 cases r with
 |error e=>exact hx pins σ H s e s' I hq
 |ok fl=>
  cases fl with
  |ret u=>exact I.after hq
  |next=>exact qbV hq
  |brk=>exact qbV hq
  |cont=>exact qbV hq
theorem uN (F:bR X.prog X.w X.K X.mg X.base CX k f fd ps sp) (hr:dW k X.A) (hg:Gl X x) (hm:X.mg x=some (.ref f)) (hk:qav X.K (.ref f)=true) (hb:bC X.K fd ps ds) (hd:aU dvs ds) (hx:ni CX X E)
  (ha:PA X (e::es) t) (hdb:(x==("__debug__" : Str))=false:=by decide) (he:qbk (e::es) X.env=(false,eval e X.env)::qbk es X.env:=by rfl) (hpl:(qdL pos (qbk es X.env)).any (·.1)=false:=by rfl) :
  PE X (.Call (.Name x p) (e::es) [] pos) (Cc sp dvs E t):=by
 intro pins s σ H Q I h
 refine qdr (vj I hg hm ?_ hdb)
 refine qfo (h₀:=X.base) I.ok.mod.kin hk (thn (ha pos pins s σ H _ I h) λus s1 ⟨vs,H1,I1,r,q⟩=>⟨I1.kIn,?_⟩) he hpl
 exact zK F hr hb hd hx I1 r q
structure Mk (K:qac) (C f:Addr):Prop where
 makes:qer K C=true
 init:qbg K (.ref C) "__init__" = some (some (.ref f))
 fn:qgp K (.ref f)=true
 kp:qav K (.ref C)=true
theorem xg {pins:List (Addr×Obj)}{σ:St}{H:Hp}{s:qak}{Q:VK}{us:List Value}{vs:List V} (M:Mk X.K C f) (F:bR X.prog X.w X.K X.mg X.base CX k f fd ps sp) (hr:dW (k+1) X.A) (hb:bC X.K fd ps ds) (hd:aU dvs ds)
  (hx:ni CX X E) (I:Inv X pins σ H s) (r:aU vs us)
  (h:∀ x dx,H x=none->H dx=none->dx≠x->sp (.ref x::(vs++dvs)) (upd (upd H dx (.own x)) x (.ins C dx [])) (λv H2=>v=.non/\Q (.ref x) H2) E) :
  wpAny (model X.prog X.w) X.A (call (.ref C) us) (EP X pins σ Q) X.xe s:=by
 have hq:=h (s.heap.objs.size+1) s.heap.objs.size (I.hok.fresh (qdx _)) (I.hok.fresh (qal _)) (qaO (qbE _))
 have I2:=Inv.made (C:=C) I
 have r2:aU (V.ref (s.heap.objs.size+1)::(vs++dvs)) (Value.ref (s.heap.objs.size+1)::(us++ds)):=.cons rfl (r.append hd)
 have hl:(Value.ref (s.heap.objs.size+1)::us++ds).length=ps.length:=by
  have e:=r2.length
  rw[F.len _ _ _ _ hq]at e
  exact e.symm
 refine wpAny_call (xG (f:=f) I.kIn M.makes M.init (beq_iff_eq.mp M.fn) (qeY (F.run _ X.stack _ _ ⟨Value.ref (s.heap.objs.size+1)::us,[]⟩ (Value.ref (s.heap.objs.size+1)::(us++ds)) _ _ E (hr.make C us [])
  (I2.env0.make C us []) (hb _ (Value.ref (s.heap.objs.size+1)::us) I2.kIn hl) r2 hq) λr s' hq'=>?_))
 cases r with
 |error e=>exact hx pins σ _ _ e s' I2 hq'
 |ok fl=>
  cases fl with
  |ret u=>
   obtain⟨v,H',I3,rv,ev,q3⟩:=I2.after hq'
   subst ev
   exact⟨rv,⟨V.ref (s.heap.objs.size+1),H',I3,rfl,q3⟩⟩
  |next=>exact qbV hq'
  |brk=>exact qbV hq'
  |cont=>exact qbV hq'
theorem yN (M:Mk X.K C f) (F:bR X.prog X.w X.K X.mg X.base CX k f fd ps sp) (hr:dW (k+1) X.A) (hg:Gl X x) (hm:X.mg x=some (.ref C)) (hb:bC X.K fd ps ds) (hd:aU dvs ds) (hx:ni CX X E)
  (ha:PA X (e::es) t) (hdb:(x==("__debug__" : Str))=false:=by decide) (he:qbk (e::es) X.env=(false,eval e X.env)::qbk es X.env:=by rfl) (hpl:(qdL pos (qbk es X.env)).any (·.1)=false:=by rfl) :
  PE X (.Call (.Name x p) (e::es) [] pos) (BA C sp dvs E t):=by
 intro pins s σ H Q I h
 refine qdr (vj I hg hm ?_ hdb)
 refine qfo (h₀:=X.base) I.ok.mod.kin M.kp (thn (ha pos pins s σ H _ I h) λus s1 ⟨vs,H1,I1,r,q⟩=>⟨I1.kIn,?_⟩) he hpl
 exact xg M F hr hb hd hx I1 r q
end
section
variable {X:Cx}{CX:CXT}{k:Nat}{f C:Addr}{fd:qaV}{ps ks:List Str}{sp:Sp}{E:XK}{x m:Str}{p pos apos kpos:Pos}{e o:Expr}{es:List Expr}{kws:List qgA}{te ta:TE}{t tk:TA}{nm:Option Str}
variable {g:List Value->List Value->List Value}{gV:List V->List V->List V}
end
structure aM (N P:List Str) (sc:Scope):Prop where
 kind:sc.kind=.function
 co:sc.isCoroutine=false
 gen:sc.isGenerator=false
 nd:N.Nodup
 pre:N.take P.length=P
 par:∀ x∈P,sc.names.lookup x=some .local\/sc.names.lookup x=some .cell
 nofree:∀ y∈sc.names,y.2≠.free
theorem oZ {kindOf:Str->Option qbP}{x:Str}:∀ {binds:List (Str×Value)}{m:Str->Option Value},(∀ v,(x,v)∉binds)->bindL kindOf binds m x=m x
 |[],_,_=>rfl
 |(n,v)::r,m,h=>by
  unfold bindL
  rw[oZ λw hw=>h w (qaj _ hw)]
  split
  ·have:x≠n:=by rintro rfl;exact h v qaf
   simp[this]
  ·rfl
theorem oQ {kindOf:Str->Option qbP}{x:Str}:∀ {binds:List (Str×Value)}{m:Str->Option Value},(∀ v,(x,v)∉binds)->bindC kindOf binds m x=m x
 |[],_,_=>rfl
 |(n,v)::r,m,h=>by
  unfold bindC
  rw[oQ λw hw=>h w (qaj _ hw)]
  split
  ·rfl
  ·have:x≠n:=by rintro rfl;exact h v qaf
   simp[this]
theorem o0 {kindOf:Str->Option qbP}{x:Str}{v:Value}:∀ {P:List Str}{vs:List Value}{i:Nat}{m:Str->Option Value},P.Nodup->P[i]?=some x->vs[i]?=some v->kindOf x=some .local->
  bindL kindOf (P.zip vs) m x=some v
 |[],_,_,_,_,h,_,_=>by simp at h
 |_::_,[],_,_,_,_,h,_=>by simp at h
 |p::P,w::vs,0,m,nd,h1,h2,hk=>by
  simp at h1 h2;subst h1;subst h2
  show bindL kindOf ((p,w)::P.zip vs) m p=_
  unfold bindL
  rw[oZ λv hv=>(qbX.mp nd).1 (qc0 hv).1,if_pos hk]
  simp
 |p::P,w::vs,i+1,m,nd,h1,h2,hk=>by
  show bindL kindOf ((p,w)::P.zip vs) m x=_
  unfold bindL
  exact o0 (i:=i) (qbX.mp nd).2 (by simpa using h1) (by simpa using h2) hk
theorem pe {kindOf:Str->Option qbP}{x:Str}{v:Value}:∀ {P:List Str}{vs:List Value}{i:Nat}{m:Str->Option Value},P.Nodup->P[i]?=some x->vs[i]?=some v->kindOf x≠some .local->
  bindC kindOf (P.zip vs) m x=some v
 |[],_,_,_,_,h,_,_=>by simp at h
 |_::_,[],_,_,_,_,h,_=>by simp at h
 |p::P,w::vs,0,m,nd,h1,h2,hk=>by
  simp at h1 h2;subst h1;subst h2
  show bindC kindOf ((p,w)::P.zip vs) m p=_
  unfold bindC
  rw[oQ λv hv=>(qbX.mp nd).1 (qc0 hv).1,if_neg hk]
  simp
 |p::P,w::vs,i+1,m,nd,h1,h2,hk=>by
  show bindC kindOf ((p,w)::P.zip vs) m x=_
  unfold bindC
  exact pe (i:=i) (qbX.mp nd).2 (by simpa using h1) (by simpa using h2) hk
def ii (N:List Str) (vs:List V):St:=vs.map some++qaC (N.length - vs.length) none
def nj (CX:CXT) (P:qa1) (w:World) (K:qac) (mg:Str->Option Value) (base:Heap) (N:List Str) (qual:Str) (scope:Scope) (f:Addr) (cd:Value) (A:qa8) (outer:List Env) (s:qak) (H:Hp) (E:XK):Cx where
 prog:=P
 w:=w
 K:=K
 mg:=mg
 base:=base
 A:=A.deeper (qek qual scope s.heap.objs.size f cd)
 N:=N
 s₀:=s
 H₀:=H
 env:=qek qual scope s.heap.objs.size f cd
 outer:=outer
 stack:=qek qual scope s.heap.objs.size f cd::outer
 ex:=[]
 calm:=true
 fn:=λ_=>true
 pn:=[]
 xe:=λe s'=>wpAny (model P w) (A.deeper (qek qual scope s.heap.objs.size f cd)) (leaving (qek qual scope s.heap.objs.size f cd) e) (λ_ s''=>CX outer H s E e s'') (λe' s''=>CX outer H s E e' s'') s'
theorem qW {sc:Scope}{n:Nat}{x:Str} (h:sc.names.lookup x=some .cell):∃ c,(qbJ n sc.names []).lookup x=some c:=by
 have q:=qcC sc.names n [] (.inl h)
 exact qcu.mp q
theorem vN {CX:CXT}{P:qa1}{w:World}{K:qac}{mg:Str->Option Value}{base:Heap}{N ps:List Str}{qual:Str}{scope:Scope}{f:Addr}{cd:Value}{A:qa8}{outer:List Env}{s s1:qak}{H:Hp}{E:XK}{us:List Value}{vs:List V}
  (S:aM N ps scope) (hd:A.handled=none) (e0:tY P w K mg base A outer s H) (hl:vs.length=ps.length) (r:aU vs us)
  (x:InCallC s s.heap.objs.size (bindL (qek qual scope s.heap.objs.size f cd).kindOf (ps.zip us) λ_=>none) (qbJ (s.heap.objs.size+1) scope.names []) (bindC (qek qual scope s.heap.objs.size f cd).kindOf (ps.zip us) λ_=>none) s1) :
  Inv (nj CX P w K mg base N qual scope f cd A outer s H E) [] (ii N vs) H s1:=by
 have hpl:ps.length<=N.length:=by have:=congrArg qfH S.pre;rw[qcv]at this;lia
 obtain⟨h1,tk,rfl,hk⟩:=x.done
 have noA:∀ b:Addr,b∉(nj CX P w K mg base N qual scope f cd A outer s H E).ex:=λb z=>absurd (show b∈([]:List Addr) from z) (by simp)
 refine⟨⟨e0.mod,S.kind,rfl,rfl,qal _,λy z c h1 h2=>?_,λy hy=>?_,λy c _ h=>?_,λ_=>hd,Around.frames_deeper e0.frames,.inr ⟨rfl,rfl⟩,λb z=>absurd z (noA b),e0.bs,e0.bsz,λb _ _=>noA b,λb z=>absurd z (noA b),e0.funs,e0.frf⟩,
  rfl,e0.bare,Un.kept hk,⟨_,x.toInCall.ns,λi y v h1 h2 h3=>?_⟩,λy c h=>⟨_,x.cell y c h⟩,e0.hok.fresh (qal _),λy c h=>?_,λp hp=>absurd (show p∈([]:List (Addr×Obj)) from hp) (by simp),e0.hok.kept hk,?_⟩
 ·exact name_of_addr x.apart (qbj h1) (qbj h2)
 ·have hy:scope.names.lookup y=some .cell\/scope.names.lookup y=some .free:=hy
  rcases hy with hy|hy
  ·exact qW hy
  ·exact absurd rfl (S.nofree _ (qbj hy))
 ·exact qew (x.above y c (qbj h))
 ·have hi:i<vs.length:=by
   unfold ii at h2
   by_cases hi:i<vs.length
   ·exact hi
   ·rw[qaI (by simpa using hi)]at h2
    rw[qcH]at h2
    split at h2<;>cases h2
  have ha:vs[i]?=some v:=by
   unfold ii at h2
   rw[qaF (by simpa using hi),qaS]at h2
   cases e:vs[i]? with
   |none=>rw[e]at h2;cases h2
   |some a=>rw[e]at h2;cases h2;rfl
  obtain⟨u,hu,rv⟩:=r.get ha
  have hp:ps[i]?=some y:=by
   rw[<-S.pre,qe7 (by lia)];exact h1
  have ndP:ps.Nodup:=by rw[<-S.pre];exact S.nd.sublist (List.take_sublist _ _)
  refine⟨u,rv,?_⟩
  rcases S.par y (qbD hp) with k|k
  ·exact .inl ⟨k,o0 ndP hp hu k⟩
  ·obtain⟨c,e⟩:=qW (n:=s.heap.objs.size+1) k
   refine .inr ⟨.inl k,c,e,?_⟩
   have q:=x.cell y c e
   rw[pe ndP hp hu (by show scope.names.lookup y≠_;rw[k];decide)]at q
   exact q
 ·exact e0.hok.fresh (qew (x.above y c (qbj h)))
 ·unfold ii
  show _=N.length
  rw[qan,qam,qch]
  lia
theorem BO {CX:CXT}{P:qa1}{w:World}{K:qac}{mg:Str->Option Value}{base:Heap}{k:Nat}{f:Addr}{name qual:Str}{params:Arguments}{body:List Stmt}{scope:Scope}{dV kV doc pm cdv ct oc:Value}{an od:Option Addr}
  {osl:Array (Option Value)}{N ps:List Str}{sp:Sp} (lk:K.lookup f=some ⟨oc,od,.func (qaH name qual params body scope dV kV doc pm an cdv ct),osl⟩) (hcd:qaA K cdv qual=true) (S:aM N ps scope)
  (len:∀ vs H Q E,sp vs H Q E->vs.length=ps.length)
  (hbody:∀ (A:qa8) (outer:List Env) (s:qak) (H:Hp) (vs:List V) (Q:VK) (E:XK),dW k (A.deeper (qek qual scope s.heap.objs.size f cdv))->sp vs H Q E->
    ∃ t,PSs (nj CX P w K mg base N qual scope f cdv A outer s H E) body t/\t { nx:=λ_ H'=>Q .non H',rt:=Q } (ii N vs) H) :
  bR P w K mg base CX (k+1) f (qaH name qual params body scope dV kV doc pm an cdv ct) ps sp:=by
 refine⟨len,λA outer s H args us vs Q E hr e0 hb r hsp=>?_⟩
 have hl:=len _ _ _ _ hsp
 have KX:K.In s.heap:=e0.mod.kin.keeps λb o e=>(e0.bs b o e).1
 have lim:s.heap.NoLimit:=e0.mod.nolimit.keeps λb o e=>(e0.bs b o e).1
 have hkind:∀ y∈ps.zip us,scope.names.lookup y.1=some .local\/(scope.names.lookup y.1=some .cell/\((qbJ (s.heap.objs.size+1) scope.names []).lookup y.1).isSome=true):=λ⟨n,v⟩ hy=>by
  rcases S.par n (qc0 hy).1 with q|q
  ·exact .inl q
  ·exact .inr ⟨q,qcC _ _ _ (.inl q)⟩
 refine codeAny_call_function hr.depth (KX _ _ lk) rfl S.co S.gen rfl (PySem.W.codeRec_of KX hcd) (hb _ _ _ _ ?_)
 refine wpAny_newFunctionEnv_cells S.kind hkind λenv he s1 x=>?_
 subst he
 refine⟨lim.keeps x.toInCall.keep,codeAny_func ?_⟩
 obtain⟨t,ht,hq⟩:=hbody A outer s H vs Q E (hr.deeper _) hsp
 have I:Inv (nj CX P w K mg base N qual scope f cdv A outer s H E) [] (ii N vs) H s1:=vN S hr.hd e0 hl r x
 refine qct (ht [] s1 (ii N vs) H _ I hq) (λfl s' hs=>?_) λe s' hs=>hs
 have fin:∀ {σ':St}{H':Hp}{v:V}{u:Value},Inv (nj CX P w K mg base N qual scope f cdv A outer s H E) [] σ' H' s'->bK v u->Q v H'->CE outer P w H s Q u s':=
  λ{σ' H' v u} J rv q=>⟨v,H',J.os,J.bare,J.base,J.hok,rv,q⟩
 cases fl with
 |ret u=>
  obtain⟨v,σ',H',J,rv,q⟩:=hs
  exact fin J rv q
 |next=>
  obtain⟨σ',H',J,q⟩:=hs
  exact fin (v:=V.non) (u:=Value.none) J rfl q
 |brk=>
  obtain⟨_,_,_,q⟩:=hs
  exact qbV q
 |cont=>
  obtain⟨_,_,_,q⟩:=hs
  exact qbV q
section
variable {X:Cx}{x:Str}{p pos:Pos}{e:Expr}{es:List Expr}{t:TA}{id T:String}{r:List V->Hp->VK->Prop}
def tCB (r:List V->Hp->VK->Prop) (t:TA):TE:=λσ H Q=>t σ H λvs H1=>r vs H1 Q
theorem xR (hc:dm X (.builtin id) r) (hg:Gl X x) (hm:X.mg x=none) (hv:qb9 x=some (.builtin id)) (ha:PA X (e::es) t) (hn:x≠"__name__":=by decide) (hdb:(x==("__debug__" : Str))=false:=by decide)
  (he:qbk (e::es) X.env=(false,eval e X.env)::qbk es X.env:=by rfl) (hpl:(qdL pos (qbk es X.env)).any (·.1)=false:=by rfl):PE X (.Call (.Name x p) (e::es) [] pos) (tCB r t):=by
 intro pins s σ H Q I h
 refine qdr (kC I hg hm hv ?_ hn hdb)
 exact qhQ (thn (ha pos pins s σ H _ I h) λus s1 ⟨vs,H1,I1,r1,q1⟩=>hc pins s1 σ H1 vs us Q I1 r1 q1) he hpl
theorem fH (hc:dm X (.type T) r) (hg:Gl X x) (hm:X.mg x=none) (hv:qb9 x=some (.type T)) (ha:PA X (e::es) t) (hn:x≠"__name__":=by decide) (hdb:(x==("__debug__" : Str))=false:=by decide)
  (he:qbk (e::es) X.env=(false,eval e X.env)::qbk es X.env:=by rfl) (hpl:(qdL pos (qbk es X.env)).any (·.1)=false:=by rfl):PE X (.Call (.Name x p) (e::es) [] pos) (tCB r t):=by
 intro pins s σ H Q I h
 refine qdr (kC I hg hm hv ?_ hn hdb)
 exact qbL (thn (ha pos pins s σ H _ I h) λus s1 ⟨vs,H1,I1,r1,q1⟩=>hc pins s1 σ H1 vs us Q I1 r1 q1) he hpl
end
end L2
namespace HT
open PySem PyProof.Rows
section
open PySem.SeqAt
open PySem.AutoSeq1 (wpAny_loadPart')
open PySem.MeetsSeq PySem.MeetsSeq2 PySem.MeetsSeq3
end
section
variable {prog:qa1}{w:World}{A:qa8}{E:Value->qak->Prop}{s:qak}
theorem cat_tup {t b:Addr}{vs ws:List Value}{Q:Value->qak->Prop} (ht:IsTup s.heap t vs.toArray) (hb:IsTup s.heap b ws.toArray) (hv:vs≠[])
  (h1:ws=[]->Q (.ref t) s) (h2:ws≠[]->Q (.ref s.heap.objs.size) { s with heap:=s.heap.push { cls:=.type "tuple",data:=.seq (vs++ws).toArray } })
  (hsz:vs.length+ws.length<=qaN):wpAny (model prog w) A (qbC .Add (.ref t) (.ref b)) Q E s:=by
 obtain⟨⟨cls,dd,data,sl⟩,ho,hc,n,hd⟩:=id ht
 obtain⟨⟨cls2,dd2,data2,sl2⟩,ho2,hc2,n2,hd2⟩:=id hb
 simp only at hc hd hc2 hd2
 subst hc hd hc2 hd2
 have e:vs.toArray++ws.toArray=(vs++ws).toArray:=by simp
 by_cases hw:ws=[]
 ·exact qgf ⟨_,ho,rfl⟩ ⟨_,ho2,rfl⟩ qe4 qfM qdq qdl (qdc _ _)
   (tuple_addW1 t b vs.toArray ws.toArray n n2 dd dd2 sl sl2 (by simpa using hv) (by simp[hw])) ⟨ho,ho2,h1 hw⟩
 ·refine qgf ⟨_,ho,rfl⟩ ⟨_,ho2,rfl⟩ qe4 qfM qdq qdl (qdc _ _)
   (tuple_addW2 t b vs.toArray ws.toArray n n2 dd dd2 sl sl2 (by simpa using hv) (by simpa using hw) (by rw[qay,qay];exact hsz)) ⟨ho,ho2,?_⟩
  rw[e]
  exact h2 hw
def sIx (n d:Nat):Option Int->Nat
 |none=>d
 |some v=>if v<0 then (v+(n:Int)).toNat else min v.toNat n
theorem sIx_none (n d:Nat):sIx n d none=d:=rfl
theorem sIx_nat (n d k:Nat):sIx n d (some (k:Int))=min k n:=by
 show (if (k:Int)<0 then ((k:Int)+(n:Int)).toNat else min (k:Int).toNat n)=min k n
 rw[if_neg (by lia),qbZ]
theorem qp (n d:Nat) (hd:d<=n) (o:Option Int):sIx n d o<=n:=by
 cases o with
 |none=>exact hd
 |some v=>
  show (if v<0 then (v+(n:Int)).toNat else min v.toNat n)<=n
  by_cases hv:v<0
  ·rw[if_pos hv];lia
  ·rw[if_neg hv];exact Nat.min_le_right _ _
theorem vm (v:Int) (n d:Nat):(if v<0 then max (v+(n:Int)) 0 else min v (n:Int))=((sIx n d (some v):Nat):Int):=by
 show (if v<0 then max (v+(n:Int)) 0 else min v (n:Int))=(((if v<0 then (v+(n:Int)).toNat else min v.toNat n):Nat):Int)
 by_cases hv:v<0
 ·simp only[if_pos hv];lia
 ·simp only[if_neg hv];lia
theorem tF (lo hi:Option Int) (n:Nat):qcU lo hi 1 (n:Int)=(((sIx n 0 lo:Nat):Int),((sIx n n hi:Nat):Int)):=by
 have h1:¬ ((1:Int)<0):=by lia
 unfold qcU
 simp only[h1,if_false]
 refine Prod.ext ?_ ?_
 ·cases lo with
  |none=>rfl
  |some v=>exact vm v n 0
 ·cases hi with
  |none=>rfl
  |some v=>exact vm v n n
theorem tj (i j:Nat):qbs (i:Int) (j:Int) 1=j - i:=by
 unfold qbs
 have h1:(1:Int) > 0:=by lia
 simp only[h1,if_true,qhZ]
 split<;>lia
theorem nv {v:Value}{o:Option Int}{Q:Option Int->qak->Prop} (p:qe0 v o) (h:Q o s):wpAny (model prog w) A (qg9 v) Q E s:=by
 cases p with
 |none=>exact qej h
 |int i t=>exact slicePart_int h
theorem iG {sl:Addr}{vl vu:Value}{lo hi:Option Int}{n:Nat}{Q:Int×Int×Nat->qak->Prop} (hs:s.heap.IsSliceOf sl vl vu .none) (pl:qe0 vl lo) (pu:qe0 vu hi)
  (h:Q (((sIx n 0 lo:Nat):Int),1,sIx n n hi - sIx n 0 lo) s):wpAny (model prog w) A (qb8 (.ref sl) (pure (n:Int))) Q E s:=by
 obtain⟨os,hos,hcs,hds⟩:=id hs
 unfold qb8 qd9
 refine qae (qae (qby hos hds (x:=vl) rfl (qae (qby hos hds (x:=vu) rfl (qae (qby hos hds (x:=.none) rfl (qaq ?_)))))))
 refine qae (qej ?_)
 show wpAny _ _ (if ((1:Int)==0)=true then _ else _) _ _ s
 rw[if_neg (by decide)]
 refine qae (nv pl (qae (nv pu (qae (qaq ?_)))))
 show wpAny _ _ (match qcU lo hi 1 (n:Int) with|(lo,hi)=>pure (lo,(1:Int),qbs lo hi 1)) _ _ s
 rw[tF lo hi n]
 show wpAny _ _ (pure (((sIx n 0 lo:Nat):Int),(1:Int),qbs ((sIx n 0 lo:Nat):Int) ((sIx n n hi:Nat):Int) 1)) _ _ s
 rw[tj]
 exact qaq h
theorem xh (xs:Array Value) (i k:Nat):((qah k).filterMap λ(m:Nat)=>xs[((i:Int)+(m:Int)*1).toNat]?).toArray=((xs.toList.drop i).take k).toArray:=by
 have e:(λ(m:Nat)=>xs[((i:Int)+(m:Int)*1).toNat]?)=λm=>xs[i+m]?:=by
  funext m
  have:((i:Int)+(m:Int)*1).toNat=i+m:=by lia
  rw[this]
 rw[e]
 have:=pick_run xs i k
 rw[List.filterMap_map]at this
 have e2:((λx=>xs[x]?) ∘ λx=>i+x)=λm=>xs[i+m]?:=rfl
 rw[e2]at this
 rw[this]
theorem getItem_tuple_cut {t sl:Addr}{items:Array Value}{vl vu:Value}{lo hi:Option Int}{Q:Value->qak->Prop} (ht:IsTup s.heap t items) (hs:s.heap.IsSliceOf sl vl vu .none) (pl:qe0 vl lo) (pu:qe0 vu hi)
  (hw:¬ (sIx items.size 0 lo=0/\sIx items.size items.size hi=items.size))
  (h:Q (.ref s.heap.objs.size) { s with heap:=s.heap.push { cls:=.type "tuple",data:=.seq ((items.toList.drop (sIx items.size 0 lo)).take (sIx items.size items.size hi - sIx items.size 0 lo)).toArray } })
  (hsz:items.size<=qaN):wpAny (model prog w) A (qd2 (.ref t) (.ref sl)) Q E s:=by
 have htake:sizeOk (.seq ((items.toList.drop (sIx items.size 0 lo)).take (sIx items.size items.size hi - sIx items.size 0 lo)).toArray):=by
  show ((items.toList.drop (sIx items.size 0 lo)).take (sIx items.size items.size hi - sIx items.size 0 lo)).toArray.size<=qaN
  rw[qay,qcv,qb7,qcZ]
  lia
 have hj:sIx items.size items.size hi<=items.size:=qp _ _ (qal _) hi
 obtain⟨os,hos,hcs,hds⟩:=id hs
 have hTs:s.TypeIs (.ref sl) "slice":=⟨os,hos,hcs⟩
 unfold qd2
 try with_reducible refine qcK ?_
 first|refine qae (qaq ?_)|skip
 refine qae (qeP ht.typeIs (by decide) ?_)
 refine qae (qbF (name:=qcR "__getitem__") ht.typeIs qa0
  (qcd qa0 ht.typeIs qen ?_ (qeD _ _)))
 show wpAny _ _ (qcP (.ref t) >>= _) _ _ s
 refine qae (qfK ht ?_)
 refine qae (qeX hTs ?_)
 rw[if_pos (by decide)]
 refine qae (iG hs pl pu ?_)
 have hno:¬ ((((sIx items.size 0 lo:Nat):Int)==0&&(1:Int)==1&&(sIx items.size items.size hi - sIx items.size 0 lo)==items.size)=true):=by
  intro q
  rw[qaR,qaR]at q
  have q1:((sIx items.size 0 lo:Nat):Int)=0:=eq_of_beq q.1.1
  have q2:sIx items.size items.size hi - sIx items.size 0 lo=items.size:=eq_of_beq q.2
  exact hw ⟨by lia,by lia⟩
 show wpAny _ _ (if (((sIx items.size 0 lo:Nat):Int)==0&&(1:Int)==1&&(sIx items.size items.size hi - sIx items.size 0 lo)==items.size)=true then _ else _) _ _ s
 rw[if_neg hno,xh]
 first
  |exact qae (m:=qbm _) (qbq (qaq ⟨_,rfl,qaq h⟩) htake)
  |exact qae (m:=qbm _) (qbq (qae (qaq (qaq ⟨_,rfl,qaq h⟩))) htake)
  |exact qae (qae (m:=qbm _) (qbq (qaq (qaq ⟨_,rfl,qaq h⟩)) htake))
  |exact qae (qae (m:=qbm _) (qbq (qaq ⟨_,rfl,qaq h⟩) htake))
end
end HT
namespace L2
open PySem PySem.Spec PyProof.Rows
abbrev TO:=St->Hp->(Option Int->Hp->Prop)->Prop
def PO (X:Cx) (e:Option Expr) (t:TO):Prop:=
 ∀ (pins:List (Addr×Obj)) (s:qak) (σ:St) (H:Hp) (Q:Option Int->Hp->Prop),Inv X pins σ H s->t σ H Q->
  wpAny (model X.prog X.w) X.A (evalPart e X.env) (λu s'=>∃ o H',Inv X pins σ H' s'/\qe0 u o/\Q o H') X.xe s
def x4:TO:=λ_ H Q=>Q none H
def BL (t:TE):TO:=λσ H Q=>t σ H λx H1=>∃ i,x=.int i/\Q (some i) H1
theorem uy {ns:List Int}:∀ {us:List Value},aU (ns.map V.int) us->qfY us ns:=by
 induction ns with
 |nil=>intro us r;rw[qcy]at r;cases r;exact .nil
 |cons n ns ih=>
  intro us r
  rw[qaB]at r
  cases r with
  |cons r1 r2=>
   obtain⟨t,e⟩:=r1
   subst e
   exact .cons n t (ih r2)
section
variable {X:Cx}{e:Expr}{te:TE}{lo hi:Option Expr}{tl th:TO}{pos p2:Pos}
theorem x8:PO X none x4:=by
 intro pins s σ H Q I h
 rw[qfO]
 exact qaq ⟨none,H,I,.none,h⟩
theorem yc (h:PE X e te):PO X (some e) (BL te):=by
 intro pins s σ H Q I hw
 rw[evalPart_some]
 refine thn (h pins s σ H _ I hw) λu s1 ⟨x,H1,I1,r1,q1⟩=>?_
 obtain⟨i,rfl,q⟩:=q1
 obtain⟨t,rfl⟩:=r1
 exact⟨some i,H1,I1,.int i t,q⟩
def SlR (X:Cx) (r:V->Option Int->Option Int->Hp->VK->Prop):Prop:=
 ∀ (pins:List (Addr×Obj)) (s:qak) (σ:St) (H:Hp) (x:V) (v vl vu:Value) (lo hi:Option Int) (sl:Addr) (Q:VK),Inv X pins σ H s->bK x v->s.heap.IsSliceOf sl vl vu .none->qe0 vl lo->qe0 vu hi->r x lo hi H Q->
  ∃ T id,typeLookup (.type T) "__getitem__" = pure (some (.builtin id))/\s.TypeIs v T/\wpAny (model X.prog X.w) X.A (qd2 v (.ref sl)) (EP X pins σ Q) X.xe s
def tSl (r:V->Option Int->Option Int->Hp->VK->Prop) (te:TE) (tl th:TO):TE:=λσ H Q=>te σ H λx H1=>tl σ H1 λl H2=>th σ H2 λu H3=>r x l u H3 Q
theorem n5 {r:V->Option Int->Option Int->Hp->VK->Prop} (hr:SlR X r) (he:PE X e te) (hl:PO X lo tl) (hu:PO X hi th):PE X (.Subscript e (.Slice lo hi none p2) pos) (tSl r te tl th):=by
 intro pins s σ H Q I h
 refine qgZ (thn (he pins s σ H _ I h) λv s1 ⟨x,H1,I1,r1,q1⟩=>?_)
 refine wpAny_Slice (thn (hl pins s1 σ H1 _ I1 q1) λvl s2 ⟨l,H2,I2,pl,q2⟩=>thn (hu pins s2 σ H2 _ I2 q2) λvu s3 ⟨u,H3,I3,pu,q3⟩=>?_)
 rw[qfO]
 refine qaq ?_
 have I4:Inv X pins σ H3 { s3 with heap:=s3.heap.push { cls:=.type "slice",data:=.fields #[vl,vu,.none] } }:=I3.kept (t':=s3.toks) λb ob q=>qai _ q
 obtain⟨T,id,hT,ht,hg⟩:=hr pins { s3 with heap:=s3.heap.push { cls:=.type "slice",data:=.fields #[vl,vu,.none] } } σ H3 x v vl vu l u s3.heap.objs.size Q I4 r1 (qeG ..) pl pu q3
 show wpAny (model X.prog X.w) X.A (qfL e (.Slice lo hi none p2) v (.ref s3.heap.objs.size)) (EP X pins σ Q) X.xe { s3 with heap:=s3.heap.push { cls:=.type "slice",data:=.fields #[vl,vu,.none] } }
 exact tail_any (ops:=[.ref s3.heap.objs.size,v]) ht hT hg (by with_unfolding_all rfl)
def pA (xs:List V) (lo hi:Option Int):List V:=(xs.drop (HT.sIx xs.length 0 lo)).take (HT.sIx xs.length xs.length hi - HT.sIx xs.length 0 lo)
theorem ma (xs:List V) (lo hi:Option Int):(pA xs lo hi).length<=xs.length:=by
 unfold pA
 rw[qcv,qb7]
 lia
def C0 (K:qac):V->Option Int->Option Int->Hp->VK->Prop:=λx lo hi H Q=>∃ a xs,x=.ref a/\SqT K H a xs/\
 ¬ (HT.sIx xs.length 0 lo=0/\HT.sIx xs.length xs.length hi=xs.length)/\∀ p,H p=none->Q (.ref p) (upd H p (.tup (pA xs lo hi)))
theorem AO:SlR X (C0 X.K):=by
 intro pins s σ H x v vl vu lo hi sl Q I rx hs pl pu h
 obtain⟨a,xs,rfl,hx,hw,q⟩:=h
 cases rx
 obtain⟨its,r,ht,hz⟩:=I.tuple hx
 have hlen:its.toArray.size=xs.length:=by rw[qay];exact r.length.symm
 refine⟨"tuple",_,qa0.lookup,ht.typeIs,?_⟩
 refine HT.getItem_tuple_cut ht hs pl pu (by rw[hlen];exact hw) ?_ (by rw[hlen];exact hz)
 rw[hlen]
 refine⟨.ref s.heap.objs.size,_,I.laid (t':=s.toks) (o:=.tup (pA xs lo hi)) (λb ob q=>qai _ q) (qal _) ?_,rfl,q _ (I.hok.fresh (qal _))⟩
 exact⟨qa2 (ma xs lo hi) hz,_,(r.drop (HT.sIx xs.length 0 lo)).take (HT.sIx xs.length xs.length hi - HT.sIx xs.length 0 lo),eS.new _ _⟩
def BS (K:qac):R2:=λx y H Q=>∃ a b xs ys,x=.ref a/\y=.ref b/\SqT K H a xs/\SqT K H b ys/\xs≠[]/\xs.length+ys.length<=qaN/\
 (ys=[]->Q (.ref a) H)/\(ys≠[]->∀ p,H p=none->Q (.ref p) (upd H p (.tup (xs++ys))))
theorem aU.nil_iff {xs:List V}{us:List Value} (r:aU xs us):us=[]↔xs=[]:=by
 cases r with
 |nil=>simp
 |cons _ _=>simp
theorem xY:OpR X (qbC .Add) (BS X.K):=by
 intro pins s σ H x y v u Q I rx ry h
 obtain⟨a,b,xs,ys,rfl,rfl,ha,hb,hx,hz,q1,q2⟩:=h
 cases rx
 cases ry
 obtain⟨its,r1,p1,_⟩:=I.tuple ha
 obtain⟨its2,r2,p2,_⟩:=I.tuple hb
 refine HT.cat_tup p1 p2 (λz=>hx (r1.nil_iff.mp z)) (λz=>⟨.ref a,H,I,rfl,q1 (r2.nil_iff.mp z)⟩) (λz=>?_) (by rw[<-r1.length,<-r2.length];exact hz)
 refine⟨.ref s.heap.objs.size,_,I.laid (t':=s.toks) (o:=.tup (xs++ys)) (λb ob q=>qai _ q) (qal _) ?_,rfl,q2 (λw=>z (r2.nil_iff.mpr w)) _ (I.hok.fresh (qal _))⟩
 exact⟨by rw[qan];exact hz,_,r1.append r2,eS.new _ _⟩
end
def ixN (n:Nat) (i:Int):Option Nat:=if 0<=i then (if i<n then some i.toNat else none) else if -(n:Int)<=i then some (i+n).toNat else none
def atI {α:Type} (xs:List α) (i:Int):Option α:=(ixN xs.length i).bind λj=>xs[j]?
theorem qj {n:Nat}{i:Int}{j:Nat} (h:ixN n i=some j):seqIndex? i n=some j/\j<n/\-(n:Int)<=i/\i<n:=by
 unfold ixN at h
 by_cases h0:0<=i
 ·rw[if_pos h0]at h
  by_cases h1:i<n
  ·rw[if_pos h1]at h
   have e:i.toNat=j:=qaW h
   exact⟨by rw[qgy h0 h1,e],by lia,by lia,h1⟩
  ·rw[if_neg h1]at h;cases h
 ·rw[if_neg h0]at h
  by_cases h1:-(n:Int)<=i
  ·rw[if_pos h1]at h
   have e:(i+n).toNat=j:=qaW h
   exact⟨by rw[qgd (by lia) h1,e],by lia,h1,by lia⟩
  ·rw[if_neg h1]at h;cases h
theorem qu {α:Type}{xs:List α}{i:Int}{v:α} (h:atI xs i=some v):∃ j,seqIndex? i xs.length=some j/\xs[j]?=some v/\j<xs.length/\-(xs.length:Int)<=i/\i<xs.length:=by
 unfold atI at h
 cases e:ixN xs.length i with
 |none=>rw[e]at h;cases h
 |some j=>
  rw[e]at h
  obtain⟨h1,h2,h3,h4⟩:=qj e
  exact⟨j,h1,h,h2,h3,h4⟩
theorem dD {α:Type}{xs:List α}{j:Nat}{v:α} (h:xs[j]?=some v):atI xs (j:Int)=some v:=by
 have hj:j<xs.length:=(qao.mp h).1
 have e:ixN xs.length (j:Int)=some j:=by
  unfold ixN
  rw[if_pos (by lia),if_pos (by lia)];simp
 unfold atI;rw[e];exact h
theorem wk {α:Type} (xs:List α) (v:α):atI (xs++[v]) (-1)=some v:=by
 have hl:(xs++[v]).length=xs.length+1:=by simp
 have e:ixN (xs++[v]).length (-1)=some xs.length:=by
  unfold ixN
  rw[hl,if_neg (by decide),if_pos (by lia)]
  congr 1
  lia
 unfold atI
 rw[e]
 show (xs++[v])[xs.length]?=some v
 simp
def uG (b:Expr):Prop:=∀ o i,subscripted b false o i=operate [o,i] (qd2 o i)
def IxR (X:Cx) (r:R2):Prop:=
 ∀ (value slice:Expr) (pins:List (Addr×Obj)) (s:qak) (σ:St) (H:Hp) (x y:V) (v u:Value) (Q:VK),Inv X pins σ H s->bK x v->bK y u->r x y H Q->
  subscripted slice false v u=operate [v,u] (qd2 v u)->wpAny (model X.prog X.w) X.A (qfL value slice v u) (EP X pins σ Q) X.xe s
def MtR (X:Cx) (id:String) (r:V->List V->Hp->VK->Prop):Prop:=
 ∀ (pins:List (Addr×Obj)) (s:qak) (σ:St) (H:Hp) (x:V) (xs:List V) (v:Value) (us:List Value) (Q:VK),Inv X pins σ H s->bK x v->aU xs us->r x xs H Q->
  wpAny (model X.prog X.w) X.A (call (.builtin id) (v::us)) (EP X pins σ Q) X.xe s
section
variable {X:Cx}{a b:Expr}{ta tb:TE}{pos:Pos}
theorem IxR.or {r r':R2} (h:IxR X r) (h':IxR X r'):IxR X (λx y H Q=>r x y H Q\/r' x y H Q):=by
 intro value slice pins s σ H x y v u Q I rx ry q hs
 rcases q with q|q
 ·exact h value slice pins s σ H x y v u Q I rx ry q hs
 ·exact h' value slice pins s σ H x y v u Q I rx ry q hs
theorem zf {r:R2} (hr:IxR X r) (ha:PE X a ta) (hb:PE X b tb) (hs:uG b):PE X (.Subscript a b pos) (tOp r ta tb):=by
 intro pins s σ H Q I h
 exact qgZ (zN ha hb I h λv u s2 x y H2 I2 rx ry q=>hr a b pins s2 σ H2 x y v u Q I2 rx ry q (hs _ _))
def Br (K:qac):R2:=λx y H Q=>∃ p xs i v,x=.ref p/\y=.int i/\SqL K H p xs/\atI xs i=some v/\Q v H
def BT (K:qac):R2:=λx y H Q=>∃ p xs i v,x=.ref p/\y=.int i/\SqT K H p xs/\atI xs i=some v/\Q v H
def Ck:R2:=λx y H Q=>∃ z i c,x=.str z/\y=.int i/\z.length<=qaN/\atI z.cps.toList i=some c/\Q (.str ⟨#[c]⟩) H
theorem yy:IxR X (Br X.K):=by
 intro value slice pins s σ H x y v u Q I rx ry h hs
 obtain⟨p,xs,i,z,rfl,rfl,hq,he,q⟩:=h
 cases rx
 obtain⟨t,rfl⟩:=ry
 obtain⟨its,r,pl,hz⟩:=I.list hq
 obtain⟨j,h1,h2,h3,h4,h5⟩:=qu he
 obtain⟨w,ew,rw'⟩:=r.get h2
 have hl:=r.length
 have hn:=kt
 have fin:EP X pins σ Q w s:=⟨z,H,I,rw',q⟩
 by_cases h0:0<=i
 ·have hj:i.toNat=j:=by
   rw[qgy h0 h5]at h1
   exact qaW h1
  exact item_listR pl.isList h0 (by lia) (by rw[hj];simpa using ew) fin hs
 ·have hj:(i+(its.toArray.size:Int)).toNat=j:=by
   rw[qgd (by lia) h4]at h1
   rw[qay,<-hl]
   exact qaW h1
  exact qf4 (x:=w) pl.isList.typeIs qgW.lookup
   (wpAny_getItem_list_neg (Q:=λr s'=>r=w/\EP X pins σ Q r s') pl.isList (by lia) (by rw[qay]<;>lia) (by lia) (by rw[hj];simpa using ew) ⟨rfl,fin⟩) hs
theorem An:IxR X (BT X.K):=by
 intro value slice pins s σ H x y v u Q I rx ry h hs
 obtain⟨p,xs,i,z,rfl,rfl,hq,he,q⟩:=h
 cases rx
 obtain⟨t,rfl⟩:=ry
 obtain⟨its,r,pl,hz⟩:=I.tuple hq
 obtain⟨j,h1,h2,h3,h4,h5⟩:=qu he
 obtain⟨w,ew,rw'⟩:=r.get h2
 have hl:=r.length
 have hn:=kt
 have fin:EP X pins σ Q w s:=⟨z,H,I,rw',q⟩
 exact qf4 (x:=w) pl.typeIs slot_tuple_getitem.lookup
  (getItem_tuple (j:=j) (Q:=λr s'=>r=w/\EP X pins σ Q r s') pl (by lia) (by lia) (by rw[qay,<-hl];exact h1) (by simpa using ew) ⟨rfl,fin⟩) hs
theorem AS:IxR X Ck:=by
 intro value slice pins s σ H x y v u Q I rx ry h hs
 obtain⟨z,i,c,rfl,rfl,hz,he,q⟩:=h
 obtain⟨t,rfl⟩:=rx
 obtain⟨t',rfl⟩:=ry
 obtain⟨j,h1,h2,h3,h4,h5⟩:=qu he
 have hl:z.cps.toList.length=z.length:=by simp[qih]
 rw[hl]at h1 h4 h5
 have hn:=kt
 exact tail_any (qgV s z t) slot_str_getitem.lookup (getItem_str (c:=c) (by
  have e1:decide (i < -(2^63:Int))=false:=decide_eq_false (by lia)
  have e2:decide (i>=2^63)=false:=decide_eq_false (by lia)
  rw[e1,e2,qgR]) (by rw[h1];simpa using h2) ⟨.str ⟨#[c]⟩,H,I.tok _,⟨_,rfl⟩,q⟩) hs
def rIx (K:qac):R2:=λx y H Q=>Br K x y H Q\/BT K x y H Q\/Ck x y H Q
theorem t9:IxR X (rIx X.K):=yy.or (An.or AS)
theorem ur (its:List Value) (n j:Nat) (u:Value):qcM (·.setIfInBounds j u) { cls:=.type "list",data:=.seq its.toArray n }={ cls:=.type "list",data:=.seq (its.set j u).toArray n }:=by
 simp[qcM]
theorem Inv.lst {pins:List (Addr×Obj)}{σ:St}{H:Hp}{s:qak}{p:Addr}{xs:List V} (I:Inv X pins σ H s) (h:H p=some (.lst xs)) :
  ∃ (its:List Value) (n:Nat),aU xs its/\s.heap.get? p=some { cls:=.type "list",data:=.seq its.toArray n }/\xs.length<=qaN:=by
 obtain⟨z,its,n,r,e⟩:=I.hok p _ h
 exact⟨its,n,r,e,z⟩
theorem Inv.lstUpd {pins:List (Addr×Obj)}{σ:St}{H:Hp}{s:qak}{p:Addr}{xs ys:List V}{its its':List Value}{n n':Nat}{f:Obj->Obj} (I:Inv X pins σ H s) (h:H p=some (.lst xs))
  (ho:s.heap.get? p=some { cls:=.type "list",data:=.seq its.toArray n }) (hf:f { cls:=.type "list",data:=.seq its.toArray n }={ cls:=.type "list",data:=.seq its'.toArray n' }) (r:aU ys its') (hz:ys.length<=qaN) (t:Nat) :
  Inv X pins σ (upd H p (.lst ys)) { s with heap:=s.heap.update p f,toks:=t }:=by
 have e:(s.heap.update p f).get? p=some { cls:=.type "list",data:=.seq its'.toArray n' }:=by
  rw[qfp f ho (by rw[hf]<;>rfl),hf]
 refine I.write (x:=p) (e:=p) (by rw[h];trivial) (.inl rfl) (λb u hb q=>(qcI _ _ (qbu hb)).trans q) ⟨_,e⟩ ?_
 exact⟨hz,its',n',r,e⟩
def BE:V->V->V->Hp->(Hp->Prop)->Prop:=λo i v H Q=>∃ p xs k j,o=.ref p/\i=.int k/\H p=some (.lst xs)/\ixN xs.length k=some j/\Q (upd H p (.lst (xs.set j v)))
theorem nO:BC X BE:=by
 intro pins s σ H o i v ov iv u Q I ro ri rv h
 obtain⟨p,xs,k,j,rfl,rfl,hp,hj,q⟩:=h
 cases ro
 obtain⟨t,rfl⟩:=ri
 obtain⟨its,n,r,ho,hz⟩:=I.lst hp
 obtain⟨h1,h2,h3,h4⟩:=qj hj
 have hl:=r.length
 have hn:=kt
 have I':Inv X pins σ (upd H p (.lst (xs.set j v))) { s with heap:=s.heap.update p (qcM (·.setIfInBounds j u)) }:=
  I.lstUpd hp ho (ur its n j u) (r.set rv j) (by rw[qbx];exact hz) s.toks
 by_cases h0:0<=k
 ·have hk:k.toNat=j:=by
   rw[qgy h0 h4]at h1
   exact qaW h1
  exact PySem.W.ki_setAt ho h0 (by lia) (by rw[qay,<-hl];exact h4) (by rw[hk];exact⟨_,I',q⟩)
 ·have hk:(k+(its.toArray.size:Int)).toNat=j:=by
   rw[qgd (by lia) h3]at h1
   rw[qay,<-hl]
   exact qaW h1
  exact PySem.W.ki_setBack ho (by lia) (by rw[qay,<-hl];exact h3) (by lia) (by rw[hk];exact⟨_,I',q⟩)
theorem qz (lo hi:Option Int) (n:Nat):(qdi lo hi none n).1=((HT.sIx n 0 lo:Nat):Int)/\(qdi lo hi none n).2.1=((HT.sIx n n hi:Nat):Int)/\(qdi lo hi none n).2.2=1:=by
 refine⟨?_,?_,rfl⟩
 ·cases lo with
  |none=>simp[qdi,HT.sIx]
  |some i=>
   simp only[qdi,HT.sIx,qfR,show (1:Int) > 0 by decide,if_true]
   by_cases h:i<0
   ·simp only[h,if_true]<;>lia
   ·simp only[h,if_false]<;>lia
 ·cases hi with
  |none=>simp[qdi,HT.sIx]
  |some i=>
   simp only[qdi,HT.sIx,qfR,show (1:Int) > 0 by decide,if_true]
   by_cases h:i<0
   ·simp only[h,if_true]<;>lia
   ·simp only[h,if_false]<;>lia
theorem oF (its:List Value) (lo hi:Option Int):slicePick its.toArray lo hi none=((its.drop (HT.sIx its.length 0 lo)).take (HT.sIx its.length its.length hi - HT.sIx its.length 0 lo)).toArray:=by
 obtain⟨h1,h2,h3⟩:=qz lo hi its.toArray.size
 unfold slicePick
 rw[h1,h2,h3]
 simp only[qic,pick_run,qay]<;>rfl
def C2 (K:qac):V->Option Int->Option Int->Hp->VK->Prop:=λx lo hi H Q=>∃ a xs,x=.ref a/\SqL K H a xs/\∀ p,H p=none->Q (.ref p) (upd H p (.lst (pA xs lo hi)))
theorem yD:SlR X (C2 X.K):=by
 intro pins s σ H x v vl vu lo hi sl Q I rx hs pl pu h
 obtain⟨a,xs,rfl,hx,q⟩:=h
 cases rx
 obtain⟨its,r,ht,hz⟩:=I.list hx
 have hlen:=r.length
 refine⟨"list",_,qgW.lookup,ht.isList.typeIs,?_⟩
 refine wpAny_getItem_list_slice ht.isList hs pl pu .none (by simp) ?_ (by rw[qay]<;>lia)
 rw[oF,<-hlen]
 refine⟨.ref s.heap.objs.size,_,I.laid (t':=s.toks) (o:=.lst (pA xs lo hi)) (λb ob q=>qai _ q) (qal _) ?_,rfl,q _ (I.hok.fresh (qal _))⟩
 exact⟨qa2 (ma xs lo hi) hz,_,0,(r.drop (HT.sIx xs.length 0 lo)).take (HT.sIx xs.length xs.length hi - HT.sIx xs.length 0 lo),qaE _ rfl⟩
def gX:V->Bool
 |.non=>true
 |.bl _=>true
 |.int _=>true
 |.str _=>true
 |_=>false
def eqV:V->V->Bool
 |.non,.non=>true
 |.bl a,.bl b=>a==b
 |.bl a,.int b=>(if a then 1 else 0)==b
 |.int a,.bl b=>a==(if b then 1 else 0)
 |.int a,.int b=>a==b
 |.str a,.str b=>a==b
 |_,_=>false
theorem xF {A:qa8}{s:qak}{y x:V}{u v:Value} (ry:bK y u) (rx:bK x v) (fy:gX y=true) (fx:gX x=true):qdk A s u v (eqV y x):=by
 cases y with
 |non=>
  cases ry
  cases x with
  |non=>cases rx;exact qeb _
  |bl b=>cases rx;exact qi4 b
  |int b=>obtain⟨t,rfl⟩:=rx;exact qi3 b t
  |str b=>obtain⟨t,rfl⟩:=rx;exact qi1 b t
  |_=>exact absurd (show false=true from fx) qax
 |bl a=>
  cases ry
  cases x with
  |non=>cases rx;exact qjh a
  |bl b=>cases rx;exact qjk a b
  |int b=>obtain⟨t,rfl⟩:=rx;exact qjj a b t
  |str b=>obtain⟨t,rfl⟩:=rx;exact qjg a b t
  |_=>exact absurd (show false=true from fx) qax
 |int a=>
  obtain⟨t',rfl⟩:=ry
  cases x with
  |non=>cases rx;exact qjb a t'
  |bl b=>cases rx;exact qje a t' b
  |int b=>obtain⟨t,rfl⟩:=rx;exact qjd a t' b t
  |str b=>obtain⟨t,rfl⟩:=rx;exact qe6 a t' b t
  |_=>exact absurd (show false=true from fx) qax
 |str a=>
  obtain⟨t',rfl⟩:=ry
  cases x with
  |non=>cases rx;exact qiX a t'
  |bl b=>cases rx;exact qiZ a t' b
  |int b=>obtain⟨t,rfl⟩:=rx;exact qe5 a t' b t
  |str b=>obtain⟨t,rfl⟩:=rx;exact qiW a t' b t
  |_=>exact absurd (show false=true from fx) qax
 |_=>exact absurd (show false=true from fy) qax
def eqU (x:V) (u:Value):Bool:=match u with
 |.none=>eqV .non x
 |.bool b=>eqV (.bl b) x
 |.int i _=>eqV (.int i) x
 |.str z _=>eqV (.str z) x
 |_=>false
theorem wJ {x y:V}{u:Value} (r:bK y u) (f:gX y=true):eqU x u=eqV y x:=by
 cases y with
 |non=>cases r;rfl
 |bl b=>cases r;rfl
 |int i=>obtain⟨t,rfl⟩:=r;rfl
 |str z=>obtain⟨t,rfl⟩:=r;rfl
 |_=>exact absurd (show false=true from f) qax
theorem ld {x:V}:∀ {xs:List V}{us:List Value},aU xs us->xs.all gX=true->us.any (eqU x)=xs.any λy=>eqV y x
 |_,_,.nil,_=>rfl
 |y::xs,u::us,.cons r t,f=>by
  rw[qbp,qaR]at f
  rw[qdu,qdu,wJ r f.1,ld t f.2]
theorem jM {A:qa8}{s:qak}{x:V}{v:Value} (rx:bK x v) (fx:gX x=true):∀ {xs:List V}{us:List Value},aU xs us->xs.all gX=true->∀ u∈us,qdk A s u v (eqU x u)
 |_,_,.nil,_=>λu hu=>by cases hu
 |y::xs,u::us,.cons r t,f=>λu' hu=>by
  rw[qbp,qaR]at f
  rcases qar.mp hu with rfl|hu
  ·rw[wJ r f.1];exact xF r rx f.1 fx
  ·exact jM rx fx t f.2 u' hu
def inV (x:V) (xs:List V):Bool:=xs.any λy=>eqV y x
def rIn (K:qac) (neg:Bool):R2:=λx y H Q=>∃ p xs,y=.ref p/\(SqL K H p xs\/SqT K H p xs)/\gX x=true/\xs.all gX=true/\Q (.bl (if neg then !inV x xs else inV x xs)) H
theorem vU:OpR X (qbA .In) (rIn X.K false):=by
 intro pins s σ H x y v u Q I rx ry h
 obtain⟨p,xs,rfl,hq,fx,fs,q⟩:=h
 cases ry
 rcases hq with hq|hq
 ·obtain⟨its,r,pl,hz⟩:=I.list hq
  refine SeqAt.in_listAt (eqU x) pl.isList (λw hw=>jM rx fx r fs w (by simpa using hw)) ⟨.bl _,H,I,rfl,?_⟩
  rw[show its.toArray.any (eqU x)=its.any (eqU x) by simp,ld r fs]
  exact q
 ·obtain⟨its,r,pl,hz⟩:=I.tuple hq
  refine SeqAt.in_tupleAt (eqU x) pl (λw hw=>jM rx fx r fs w (by simpa using hw)) ⟨.bl _,H,I,rfl,?_⟩
  rw[show its.toArray.any (eqU x)=its.any (eqU x) by simp,ld r fs]
  exact q
theorem qC:OpR X (qbA .NotIn) (rIn X.K true):=by
 intro pins s σ H x y v u Q I rx ry h
 obtain⟨p,xs,rfl,hq,fx,fs,q⟩:=h
 cases ry
 rcases hq with hq|hq
 ·obtain⟨its,r,pl,hz⟩:=I.list hq
  refine SeqAt.notIn_listAt (eqU x) pl.isList (λw hw=>jM rx fx r fs w (by simpa using hw)) ⟨.bl _,H,I,rfl,?_⟩
  rw[show its.toArray.any (eqU x)=its.any (eqU x) by simp,ld r fs]
  exact q
 ·obtain⟨its,r,pl,hz⟩:=I.tuple hq
  refine SeqAt.notIn_tupleAt (eqU x) pl (λw hw=>jM rx fx r fs w (by simpa using hw)) ⟨.bl _,H,I,rfl,?_⟩
  rw[show its.toArray.any (eqU x)=its.any (eqU x) by simp,ld r fs]
  exact q
theorem pE:dm X (.builtin "len") (λxs H Q=>∃ p ys,xs=[.ref p]/\(SqL X.K H p ys\/SqT X.K H p ys)/\Q (.int ys.length) H):=by
 intro pins s σ H xs us Q I r h
 obtain⟨p,ys,rfl,hq,q⟩:=h
 obtain⟨u,rfl,rx⟩:=lR r
 cases rx
 have hn:=kt
 rcases hq with hq|hq
 ·obtain⟨its,r',pl,hz⟩:=I.list hq
  have hlen:=r'.length
  exact Calls.call_len_list pl.isList (by simp only[qay]<;>lia) ⟨.int ys.length,H,I.tok _,⟨s.toks+1,by rw[qay,hlen]⟩,q⟩
 ·obtain⟨its,r',pl,hz⟩:=I.tuple hq
  have hlen:=r'.length
  exact len_tuple pl (by simp only[qay]<;>lia) ⟨.int ys.length,H,I.tok _,⟨s.toks+1,by rw[qay,hlen]⟩,q⟩
theorem qw:dm X (.builtin "len") (λxs H Q=>∃ z,xs=[.str z]/\z.length<=qaN/\Q (.int z.length) H):=by
 intro pins s σ H xs us Q I r h
 obtain⟨z,rfl,hz,q⟩:=h
 obtain⟨u,rfl,t,rfl⟩:=lR r
 have hn:=kt
 exact len_str (by lia) ⟨.int z.length,H,I.tok _,⟨_,rfl⟩,q⟩
theorem pU:dm X (.type "list") (λxs H Q=>∃ p ys,xs=[.ref p]/\(SqL X.K H p ys\/SqT X.K H p ys)/\∀ l,H l=none->Q (.ref l) (upd H l (.lst ys))):=by
 intro pins s σ H xs us Q I r h
 obtain⟨p,ys,rfl,hq,q⟩:=h
 obtain⟨u,rfl,rx⟩:=lR r
 cases rx
 have fin:∀ (its:List Value),aU ys its->ys.length<=qaN->∀ (h':Heap) (c':Nat),(∀ b o',s.heap.get? b=some o'->h'.get? b=some o')->
   h'.get? s.heap.objs.size=some { cls:=.type "list",dict:=none,data:=.seq its.toArray c',slots:=#[] }->EP X pins σ Q (.ref s.heap.objs.size) { s with heap:=h' }:=λits r' hz h' c' kp e=>
  ⟨.ref s.heap.objs.size,_,I.laid (t':=s.toks) kp (qal _) (show dI X.prog X.w _ h' _ (.lst ys) from ⟨hz,its,c',r',e⟩),rfl,q _ (I.hok.fresh (qal _))⟩
 rcases hq with hq|hq
 ·obtain⟨its,r',pl,hz⟩:=I.list hq
  have hlen:=r'.length
  obtain⟨o,ho,hc,n,hd⟩:=pl.isList
  exact call_list_seq p (.inl rfl) ho hc hd (λh' c' kp e=>fin its r' hz h' c' kp e) (by simp only[qay]<;>lia)
 ·obtain⟨its,r',pl,hz⟩:=I.tuple hq
  have hlen:=r'.length
  obtain⟨o,ho,hc,n,hd⟩:=pl
  exact call_list_seq p (.inr rfl) ho hc hd (λh' c' kp e=>fin its r' hz h' c' kp e) (by simp only[qay]<;>lia)
theorem oG:dm X (.type "tuple") (λxs H Q=>∃ p ys,xs=[.ref p]/\((SqL X.K H p ys/\∀ l,H l=none->Q (.ref l) (upd H l (.tup ys)))\/(SqT X.K H p ys/\Q (.ref p) H))):=by
 intro pins s σ H xs us Q I r h
 obtain⟨p,ys,rfl,h⟩:=h
 obtain⟨u,rfl,rx⟩:=lR r
 cases rx
 rcases h with⟨hq,q⟩|⟨hq,q⟩
 ·obtain⟨its,r',pl,hz⟩:=I.list hq
  have hlen:=r'.length
  refine call_tuple_list pl.isList (λh' kp=>?_) (by simp only[qay]<;>lia)
  have I1:Inv X pins σ H { s with heap:=h' }:=I.kept (t':=s.toks) kp
  have I2:Inv X pins σ (upd H h'.objs.size (.tup ys)) { s with heap:=h'.push { cls:=.type "tuple",data:=.seq its.toArray } }:=
   I1.laid (t':=s.toks) (λb o e=>qai _ e) (qal _) (show dI X.prog X.w _ _ _ (.tup ys) from ⟨hz,its,r',eS.new _ _⟩)
  exact⟨.ref h'.objs.size,_,I2,rfl,q _ (I1.hok.fresh (qal _))⟩
 ·obtain⟨its,r',pl,hz⟩:=I.tuple hq
  exact call_tuple_same pl ⟨.ref p,H,I,rfl,q⟩
def tyV (K:qac) (T:String) (x:V) (H:Hp):Prop:=match x with
 |.str _=>T = "str"
 |.int _=>T = "int"
 |.ref p=>(T = "list"/\∃ xs,SqL K H p xs)\/(T = "tuple"/\((∃ o,K.lookup p=some o/\o.cls=.type "tuple"/\o.dict=none)\/∃ xs,SqT K H p xs))\/
   (T = "dict"/\((∃ kvs,H p=some (.dK kvs))\/∃ kvs,H p=some (.dT kvs)))\/(T = "set"/\∃ S n,H p=some (.set S n))
 |_=>False
theorem A0 {pins:List (Addr×Obj)}{σ:St}{H:Hp}{s:qak}{T:String}{x:V}{v:Value} (I:Inv X pins σ H s) (r:bK x v) (ty:tyV X.K T x H) :
  s.TypeIs v T/\∀ a,v=.ref a->∃ ob,s.heap.get? a=some ob/\ob.dict=none:=by
 cases x with
 |str z=>
  obtain⟨t,rfl⟩:=r
  cases (show T = "str" from ty)
  exact⟨qgV s z t,λ_ e=>nomatch e⟩
 |int i=>
  obtain⟨t,rfl⟩:=r
  cases (show T = "int" from ty)
  exact⟨qeQ s i t,λ_ e=>nomatch e⟩
 |ref p=>
  cases r
  rcases ty with⟨rfl,xs,hq⟩|⟨rfl,ht⟩|⟨rfl,hk⟩|⟨rfl,S,n,hk⟩
  ·obtain⟨its,_,pl,_⟩:=I.list hq
   refine⟨pl.isList.typeIs,λa e=>?_⟩
   cases e
   obtain⟨o,n,e,c,hd,_⟩:=pl
   exact⟨o,e,hd⟩
  ·have z:∃ o:Obj,s.heap.get? p=some o/\o.cls=.type "tuple"/\o.dict=none:=by
    rcases ht with⟨o,hk,hc,hd⟩|⟨xs,hq⟩
    ·exact⟨o,I.kIn p o hk,hc,hd⟩
    ·exact I.tuple1 hq
   obtain⟨o,e1,hc,hd⟩:=z
   refine⟨⟨o,e1,hc⟩,λa e=>?_⟩
   cases e
   exact⟨o,e1,hd⟩
  ·have z:∃ o,s.heap.get? p=some o/\o.ExactDict:=by
    rcases hk with⟨kvs,hk⟩|⟨kvs,hk⟩
    ·obtain⟨_,_,_,_,o,_,_,e,ex,_⟩:=I.hok p _ hk
     exact⟨o,e,ex⟩
    ·obtain⟨_,_,_,_,o,_,_,e,ex,_⟩:=I.hok p _ hk
     exact⟨o,e,ex⟩
   obtain⟨o,e,ex⟩:=z
   refine⟨⟨o,e,ex.1⟩,λa e2=>?_⟩
   cases e2
   exact⟨o,e,ex.2.1⟩
  ·obtain⟨o,_,_,_,e,ex,_⟩:=I.hok p _ hk
   refine⟨⟨o,e,ex.1⟩,λa e2=>?_⟩
   cases e2
   exact⟨o,e,ex.2.1⟩
 |_=>exact qbV ty
def tBM (K:qac) (T:String) (r:V->List V->Hp->VK->Prop) (to:TE) (t:TA):TE:=λσ H Q=>to σ H λx H1=>tyV K T x H1/\t σ H1 λxs H2=>r x xs H2 Q
variable {o e:Expr}{es:List Expr}{to:TE}{t:TA}{name:Str}{apos cpos:Pos}{T id:String}{r:V->List V->Hp->VK->Prop}
theorem zt (pa:PlainAttrs T) (slot:Slot T name id) (hty:typeOf (.builtin id)=pure (.type "method_descriptor")) (hm:MtR X id r) (ho:PE X o to) (ha:PA X (e::es) t)
  (hbase:qcL o name X.env (eval o X.env)=eval o X.env:=by rfl)
  (hfew:((qdL cpos (qbk (e::es) X.env)).all (λx=>!x.1) && (qgI cpos (qfd [] X.env)).all (λx=>x.1.isSome)
    && decide ((e::es).length+([]:List qgA).length+(if ([]:List qgA).isEmpty then 0 else 1)<30))=true:=by rfl)
  (hline:(apos.endLine==cpos.line)=true:=by rfl) (hs:qbk (e::es) X.env=(false,eval e X.env)::qbk es X.env:=by rfl) (hplain:(qdL cpos (qbk es X.env)).any (·.1)=false:=by rfl) :
  PE X (.Call (.Attribute o name apos) (e::es) [] cpos) (tBM X.K T r to t):=by
 intro pins s σ H Q I h
 refine wpAny_Call_method_late hbase hfew hline rfl (thn (ho pins s σ H _ I h) λv s1 ⟨x,H1,I1,r1,ty,q1⟩=>?_)
 obtain⟨h1,h2⟩:=A0 I1 r1 ty
 refine⟨T,id,pa,slot,hty,h1,h2,?_⟩
 have hA:=ha cpos pins s1 σ H1 _ I1 q1
 rw[hs]at hA ⊢
 refine Calls.callWith_builtin (by show (false||(qdL cpos (qbk es X.env)).any (·.1))=false;rw[hplain]<;>rfl) (Calls.evalArgs_plain ?_)
 exact thn hA λus s2 ⟨vs,H2,I2,r2,q2⟩=>hm pins s2 σ H2 x vs v us Q I2 r1 r2 q2
end
def MtM (X:Cx) (id:String) (r:V->List V->Hp->VK->Prop):Prop:=
 ∀ (pins:List (Addr×Obj)) (s:qak) (σ:St) (H:Hp) (x:V) (xs:List V) (v:Value) (us:List Value) (Q:VK),Inv X pins σ H s->bK x v->aU xs us->r x xs H Q->
  wpAny (model X.prog X.w) X.A (call (.builtin id) (v::us)) (EP X pins σ Q) X.xe s
theorem aU.one:∀ {x:V}{us:List Value},aU [x] us->∃ u,us=[u]/\bK x u
 |_,_,.cons r .nil=>⟨_,rfl,r⟩
theorem aU.two {x y:V}{us:List Value} (h:aU [x,y] us):∃ u v,us=[u,v]/\bK x u/\bK y v:=by
 cases h with
 |cons r t=>cases t with
  |cons q t2=>cases t2;exact⟨_,_,rfl,r,q⟩
theorem aU.rep {xs:List V}{us:List Value} (h:aU xs us):∀ k:Nat,aU (qaC k xs).flatten (qaC k us).flatten
 |0=>.nil
 |k+1=>by
  rw[qbe,qbe,qcl,qcl]
  exact aU.append h (aU.rep h k)
theorem lA (its:List Value):∀ (k:Nat) (acc:List Value),
  qe8 (λx1 x2=>x1++x2) acc.toArray (qaC k its.toArray)=(acc++(qaC k its).flatten).toArray
 |0,acc=>by simp
 |k+1,acc=>by
  have e:acc.toArray++its.toArray=(acc++its).toArray:=by simp
  have e2:(acc++its)++(qaC k its).flatten=acc++(qaC (k+1) its).flatten:=by
   rw[qbe,qcl,qbY]
  rw[<-e2,<-lA its k (acc++its),<-e,qbe,List.foldl_cons]
section
variable {X:Cx}{pins:List (Addr×Obj)}{σ:St}{H:Hp}{s:qak}{l b:Addr}{xs ys zs:List V}
theorem Inv.lset {its its':List Value}{n:Nat}{f:Array Value->Array Value}{t':Nat} (I:Inv X pins σ H s) (hH:H l=some (.lst xs))
  (e:s.heap.get? l=some { cls:=.type "list",data:=.seq its.toArray n }) (hf:f its.toArray=its'.toArray) (hv:aU ys its') (hz:ys.length<=qaN) :
  Inv X pins σ (upd H l (.lst ys)) { s with heap:=s.heap.update l (qcM f),toks:=t' }:=by
 have q:=qd5 e f
 rw[hf]at q
 refine I.write (x:=l) (e:=l) (by rw[hH];exact trivial) (.inl rfl) (λb' u hb hu=>(qcI s.heap (qcM f) (qbu hb)).trans hu) ⟨_,q⟩ ?_
 exact⟨hz,its',_,hv,q⟩
theorem Inv.lnew {its:List Value}{t':Nat} (I:Inv X pins σ H s) (hv:aU ys its) (hz:ys.length<=qaN) :
  Inv X pins σ (upd H s.heap.objs.size (.lst ys)) { s with heap:=s.heap.push { cls:=.type "list",data:=.seq its.toArray },toks:=t' }:=
 I.laid (λ_ _ q=>qai _ q) (qal _) ⟨hz,its,0,hv,qaE _ rfl⟩
theorem Inv.fresh (I:Inv X pins σ H s):H s.heap.objs.size=none:=I.hok.fresh (qal _)
theorem Inv.lstM (I:Inv X pins σ H s) (hH:H l=some (.lst xs)):xs.length<=qaN/\∃ (its:List Value) (n:Nat),aU xs its/\xs.length=its.length/\s.heap.get? l=some { cls:=.type "list",data:=.seq its.toArray n }:=by
 obtain⟨z,its,n,r,e⟩:=I.hok l _ hH
 exact⟨z,its,n,r,r.length,e⟩
theorem xB {n:Nat} (h:n<=qaN):qcY n=false:=by
 unfold qcY
 exact decide_eq_false (by lia)
end
section
variable {X:Cx}
def y9:V->List V->Hp->VK->Prop:=λx vs H Q=>∃ l xs y,x=.ref l/\vs=[y]/\H l=some (.lst xs)/\xs.length<qaN/\Q .non (upd H l (.lst (xs++[y])))
theorem vE:MtM X "list.append" y9:=by
 intro pins s σ H x vs v us Q I rx rv h
 obtain⟨l,xs,y,rfl,rfl,hH,hz,q⟩:=h
 cases rx
 obtain⟨u,rfl,ru⟩:=rv.one
 obtain⟨z,its,n,r,hl,e⟩:=I.lstM hH
 refine qcX qeu ⟨_,e,rfl⟩ qeg (qd7 _ _) (qee l its.toArray n u (by rw[qay];lia)) ⟨e,?_⟩
 refine⟨.non,_,I.lset (its':=its++[u]) hH e (by simp) (r.append (.cons ru .nil)) ?_,rfl,q⟩
 rw[qan,qbR]
 lia
theorem px {α:Type} (xs:List α) (k:Nat):(qaC k xs).flatten.length=k*xs.length:=by
 induction k with
 |zero=>simp
 |succ k ih=>rw[qbe,qcl,qan,ih,Nat.succ_mul,Nat.add_comm]
end
section
variable {prog:qa1}{w:World}{A:qa8}{E:Value->qak->Prop}{s:qak}
end
section
variable {X:Cx}
end
end L2
namespace Att
open PySem PySem.W PySem.Calls PyProof.Rows
theorem mw {P:Params}{h:Heap}:∀ (ns:List Int) (vs:List Value),WellAll P h vs (ns.map WData.int)->qfY vs ns:=by
 intro ns
 induction ns with
 |nil=>
  intro vs w
  rw[qcy]at w
  cases w
  exact .nil
 |cons n ns ih=>
  intro vs w
  rw[qaB]at w
  cases w with
  |cons a b=>
   cases a
   exact .cons _ _ (ih _ b)
theorem wb {l:OpenLaw}{n:Nat} (hn:l.most=some n) {P:Params}{h:Heap}{args:List WData}{vals:List Value}
  (hpre:l.row.toRowW.claim.pre args=true) (hwl:WellAll P h vals args) :
  ∃ a vs ns,vals=[Value.ref a]/\args=[WData.list (ns.map WData.int)]/\h.get? a=some { cls:=.type "list",data:=.seq vs.toArray }/\qfY vs ns/\ns.length<=n:=by
 have hsh:WShape.hasAll [] args [.list .int]=true:=(pre_splitW hpre).1
 have hc:l.pre.holds [] { args:=args }=true:=(pre_splitW hpre).2
 obtain⟨d,r,rfl,h1,h2⟩:=hasAllW_cons hsh
 obtain rfl:=hasAllW_nil h2
 obtain⟨xs,rfl,h3⟩:=hasW_list h1
 obtain⟨ns,rfl⟩:=items_int h3
 have hlen:ns.length<=n:=by
  unfold OpenLaw.pre at hc
  have h4:(WTm.not (.lt (.lit (.int (n:Int))) (.len (.arg 0)))).holds [] { args:=[.list (ns.map .int)] }=true:=by
   have h4:=(holds_andW hc).1
   rw[hn]at h4
   exact h4
  have h5:=condW_of h4 (w_not (w_lt w_lit (w_len_list (w_arg rfl))))
  rw[qam]at h5
  refine Nat.le_of_not_lt λq=>?_
  have q':(n:Int)<((ns.length:Nat):Int):=by lia
  first
   |(rw[decide_eq_true q']at h5;exact absurd h5 (by decide))
   |(simp at h5;lia)
 cases hwl with
 |cons w1 w2=>
  cases w2
  cases w1 with
  |list ho hall=>exact⟨_,_,ns,rfl,rfl,ho,mw ns _ hall,hlen⟩
theorem vI (l:OpenLaw) (args:List WData):l.row.toRowW.claim.post args (.bool true) args=true:=
 postW_of (r:=l.row.toRowW) (X:=(true==true))
  (show qgX [] (.bool true) .bool=true by first|rfl|decide|simp[qgX,WShape.arms,WShape.armsAll])
  (show (WTm.eq .res (.lit (.bool true))).value [] { args:=args,res:=some (.bool true),after:=args }=some (.bool (true==true)) from w_eq_bool (w_res rfl) w_lit) rfl
theorem attach_call {l:OpenLaw}{n:Nat}{q:qa1}{loose:List Str}{XP:(Str->Option Value)->Heap->Prop}{YP:World->Heap->Prop}{d:DefRec}
  (hn:l.most=some n) (hdf:d.params.defaults=[])
  (call:∀ (w:World) (s₀ s₁:qak) (mg mb:Str->Option Value) (fa:Addr) (o:Obj) (pm cd doc:Value) (a:Addr) (vs:List Value) (ns:List Int),
    Ground q loose [] XP w s₀ mg mb s₁.heap->YP w s₁.heap->
    s₁.heap.get? fa=some o->o.data=.func (docDef d.name d.params d.body d.scope pm cd doc)->s₁.heap.CodeRec cd d.name->mg d.name=some (.ref fa)->
    s₁.heap.get? a=some { cls:=.type "list",data:=.seq vs.toArray }->qfY vs ns->ns.length<=n->s₁.gens=#[]->
    qeo (model l.prog w) qfe (.call (.ref fa) ⟨[.ref a],[]⟩) (λr s'=>r=.ok (.ret (.bool true))/\OldK s₁.heap s'.heap/\s'.os=s₁.os/\qev s'.gens) s₁) :
  WalkO q loose XP YP l.row.toRowW d [] (λf vs=>qfQ f vs):=by
 intro w s₀ s₁ mg mb G Y fa o pm cd doc dV kV ho hd hcd hD hmg hg args vals as hpre hlay hrd hwl hlo
 obtain rfl:dV=.none:=Dflts.none hD hdf
 obtain rfl:kV=.none:=Dflts.noKw hD
 obtain⟨a,vs,ns,rfl,rfl,hobj,hints,hlen⟩:=wb hn hpre hwl
 refine enter_call (qeY (call w s₀ s₁ mg mb fa o pm cd doc a vs ns G Y ho (fd_plain hd) hcd hmg hobj hints hlen hg) λr s' hq=>?_)
 obtain⟨rfl,h2,h3,h4⟩:=hq
 exact⟨.inl ⟨.bool true,.bool true,[],rfl,λ_=>rfl,.bool true,vI l _,λ_=>⟨List.Pairwise.nil,λ_ hm=>(nomatch hm)⟩⟩,h2,h3,h4⟩
section
variable {prog:qa1}{w:World}{A:qa8}{E:Value->qak->Prop}{s:qak}{K:Frag}
end
end Att
namespace L2
open PySem PySem.Spec PyProof.Rows
theorem oV:∀ {vs:List Value}{ns:List Int},qfY vs ns->aU (ns.map V.int) vs
 |_,_,.nil=>.nil
 |_,_,.cons n t h=>.cons ⟨t,rfl⟩ (oV h)
def yb (H:Hp):Prop:=∀ b,H b=none\/∃ o xs,H b=some (.frz o (.lst xs))
theorem wf {P:qa1}{w:World}{K:qac}{mg mb:Str->Option Value}{CX:CXT}{k:Nat}{fa a:Addr}{fd:qaV}{x:Str}{sp:Sp}{s₁:qak}{vs:List Value}{ns:List Int}
  (KX:K.In s₁.heap) (hns:s₁.heap.Ns qat mg) (hb:s₁.heap.Ns qfD mb) (hbb:∀ x:Str,x≠"__name__"->mb x=qb9 x) (hlim:s₁.heap.NoLimit) (hg:s₁.gens=#[])
  (ha:s₁.heap.get? a=some { cls:=.type "list",data:=.seq vs.toArray }) (hi:qfY vs ns) (hl:ns.length<=qaN) (hr:dW k qfe)
  (F:∀ base:Heap,K.In base->base.Ns qat mg->bR P w K mg base CX k fa fd [x] sp) (hbind:∀ (s:qak) (u:Value),qf3 s fd ⟨[u],[]⟩ [(x,u)])
  (hsp:∀ H:Hp,yb H->SqL K H a (ns.map V.int)->sp [.ref a] H (λv _=>v=.bl true) λ_ _ _=>False)
  (hCX:∀ H e s',CX [] H s₁ (λ_ _ _=>False) e s'->False) :
  qeo (model P w) qfe (.call (.ref fa) ⟨[.ref a],[]⟩) (λr s'=>r=.ok (.ret (.bool true))/\OldK s₁.heap s'.heap/\s'.os=s₁.os/\qev s'.gens) s₁:=by
 have rv:=oV hi
 have lenV:=hi.length
 -- from an abstract heap in which nothing but the script may be tracked
 have core:∀ H:Hp,yb H->SqL K H a (ns.map V.int)->HOk P w H s₁.heap->(∀ b,H b≠none->b=a)->(H a≠none->K.lookup a=none)->
   qeo (model P w) qfe (.call (.ref fa) ⟨[.ref a],[]⟩) (λr s'=>r=.ok (.ret (.bool true))/\OldK s₁.heap s'.heap/\s'.os=s₁.os/\qev s'.gens) s₁:=by
  intro H hO hS hok hA hK
  have base_of:∀ {b:Addr}{o:Obj},s₁.heap.get? b=some o->H b=none->(qo s₁.heap H).get? b=some o:=λe n=>xN e n
  have noA:∀ {b:Addr}{o:Obj}{es:Array DictEntry}{ep:Nat},s₁.heap.get? b=some o->o.data=.dict es ep->H b=none:=λ{b o es ep} e d=>by
   cases q:H b with
   |none=>rfl
   |some u=>
    have e':b=a:=hA b (by rw[q];simp)
    subst e'
    rw[ha]at e;cases e
    have d':Data.seq vs.toArray _=Data.dict es ep:=d
    cases d'
  have nsK:∀ {b:Addr}{m:Str->Option Value},s₁.heap.Ns b m->(qo s₁.heap H).Ns b m:=λ{b m} ⟨o,es,ep,e,d,r⟩=>⟨o,es,ep,base_of e (noA e d),d,r⟩
  have hKb:K.In (qo s₁.heap H):=λb o e=>base_of (KX b o e) (by
   cases q:H b with
   |none=>rfl
   |some u=>
    have e':b=a:=hA b (by rw[q];simp)
    subst e'
    rw[hK (by rw[q];simp)]at e;cases e)
  have hM:Mod K mg (qo s₁.heap H):=⟨hKb,nsK hns,⟨mb,nsK hb,hbb⟩,let ⟨mc,h1,h2⟩:=hlim;⟨mc,nsK h1,h2⟩⟩
  have e0:tY P w K mg (qo s₁.heap H) qfe [] s₁ H:=⟨rfl,hM,λb o e=>yE e,qcA (vT _ _),trivial,λb hb=>absurd (show b∈([]:List Addr) from hb) (by simp),hok,.of_eq hg⟩
  refine qeY ((F _ hKb (nsK hns)).run qfe [] s₁ H ⟨[.ref a],[]⟩ [.ref a] [.ref a] _ _ hr e0 (hbind s₁ (.ref a)) (.cons rfl .nil) (hsp H hO hS)) λr s' h=>?_
  cases r with
  |error e=>exact (hCX H e s' h).elim
  |ok fl=>
   cases fl with
   |next=>exact qbV h
   |brk=>exact qbV h
   |cont=>exact qbV h
   |ret u=>
    obtain⟨v,H',os,bare,un,hok',r',q⟩:=h
    have q':v=.bl true:=q
    subst q'
    obtain rfl:u=Value.bool true:=r'
    refine⟨rfl,OldK.of_keep λb o e=>?_,os,bare⟩
    cases q:H b with
    |none=>exact un.keep b o e q (by intro z;exact absurd (show b∈([]:List Addr) from z) (by simp)) (by simp)
    |some u=>
     rcases hO b with z|⟨ob,xs,z⟩
     ·rw[q]at z;cases z
     ·have z2:=un.frzs b ob _ z
      obtain⟨e1,_⟩:=hok b _ z
      obtain⟨e2,_⟩:=hok' b _ z2
      rw[e]at e1;cases e1
      exact e2
 cases hk:K.lookup a with
 |some o=>
  -- the script is one of the module's own objects
  have e:=KX a o hk
  rw[ha]at e
  cases e
  refine core (λ_=>none) (λ_=>.inl rfl) (.inr ⟨_,vs.toArray,_,hk,rfl,rfl,rfl,by rw[qay,lenV];exact hl,by simpa using rv⟩) (λb u z=>by have z':(none:Option HO)=some u:=z;cases z') (λb z=>absurd rfl z) λz=>absurd rfl z
 |none=>
  refine core (λb=>if b=a then some (.frz { cls:=.type "list",data:=.seq vs.toArray } (.lst (ns.map V.int))) else none) (λb=>?_) (.inl (.inr ⟨{ cls:=.type "list",data:=.seq vs.toArray },if_pos rfl⟩)) (λb u z=>?_) (λb z=>?_) λ_=>hk
  ·by_cases hb:b=a
   ·exact .inr ⟨_,_,if_pos hb⟩
   ·exact .inl (if_neg hb)
  ·by_cases hb:b=a
   ·have z':=(if_pos hb).symm.trans z
    cases z'
    subst hb
    exact⟨ha,by rw[qam];exact hl,vs,_,rv,ha⟩
   ·have z':=(if_neg hb).symm.trans z
    cases z'
  ·by_cases hb:b=a
   ·exact hb
   ·exact absurd (if_neg hb) z
theorem walk_of {l:qes}{n k:Nat}{q:qa1}{loose:List Str}{XP:(Str->Option Value)->Heap->Prop}{YP:World->Heap->Prop}{d:DefRec}{K:Params->qac}{CX:World->CXT}{sp:World->Sp}{x:Str}
  (hn:l.most=some n) (hn2:n<=qaN) (hdf:d.params.defaults=[]) (hr:dW k qfe)
  (hY:∀ (w:World) (h:Heap),YP w h->(K w.params).In h)
  (F:∀ (w:World) (mg:Str->Option Value) (fa:Addr) (h:Heap),(K w.params).In h->h.Ns qat mg->mg d.name=some (.ref fa)->
    ∃ fd:qaV,(∀ (s:qak) (u:Value),qf3 s fd ⟨[u],[]⟩ [(x,u)])/\
     ∀ base:Heap,(K w.params).In base->base.Ns qat mg->bR l.prog w (K w.params) mg base (CX w) k fa fd [x] (sp w))
  (hsp:∀ (w:World) (H:Hp) (a:Addr) (ns:List Int),ns.length<=n->yb H->SqL (K w.params) H a (ns.map V.int)->sp w [.ref a] H (λv _=>v=.bl true) λ_ _ _=>False)
  (hCX:∀ (w:World) (H:Hp) (s:qak) (e:Value) (s':qak),CX w [] H s (λ_ _ _=>False) e s'->False) :
  qgh q loose XP YP l.row.toRowW d [] (λf vs=>qfQ f vs):=by
 refine Att.attach_call hn hdf λw s₀ s₁ mg mb fa o pm cd doc a vs ns G Y ho hd hcd hmg hobj hints hlen hg=>?_
 have KX:=hY w _ Y
 obtain⟨fd,hb,hF⟩:=F w mg fa _ KX G.T.g hmg
 exact wf KX G.T.g G.T.b G.T.builtins G.T.nolimit hg hobj hints (qa2 hlen hn2) hr hF hb (λH hO hS=>hsp w H a ns hlen hO hS) λH e s'=>hCX w H s₁ e s'
def aO (s:Stmt):Arguments:=match s with
 |.FunctionDef _ a _ _ _ _ _ _ _ _=>a
 |_=>{ posonlyargs:=[],args:=[],vararg:=none,kwonlyargs:=[],kw_defaults:=[],kwarg:=none,defaults:=[] }
def aF (s:Stmt):List Stmt:=match s with
 |.FunctionDef _ _ b _ _ _ _ _ _ _=>b
 |_=>[]
def ah (s:Stmt):Scope:=match s with
 |.FunctionDef _ _ _ _ _ _ sc _ _ _=>sc
 |_=>{ kind:=.function,names:=[],isGenerator:=false,isCoroutine:=false }
abbrev CX0:CXT:=λ_ _ _ _ _ _=>False
abbrev E0:XK:=λ_ _ _=>False
theorem xD {X:Cx}:ni CX0 X E0:=λ_ _ _ _ _ _ _ h=>h.elim
structure Fun (K:qac) (x qual:Str) (st:Stmt) (f:Addr) (fd:qaV):Prop where
 ex:∃ (oc:Value) (od:Option Addr) (kV doc pm:Value) (an:Option Addr) (cdv ct:Value) (osl:Array (Option Value)),
  fd=qaH x qual (aO st) (aF st) (ah st) .none kV doc pm an cdv ct/\K.lookup f=some ⟨oc,od,.func fd,osl⟩/\qaA K cdv qual=true
 kp:qav K (.ref f)=true
section
variable {P:qa1}{w:World}{K:qac}{mg:Str->Option Value}{base:Heap}
theorem Fun.ok {x qual:Str}{st:Stmt}{f:Addr}{fd:qaV}{N ps:List Str}{k:Nat}{sp:Sp} (F:Fun K x qual st f fd) (S:aM N ps (ah st)) (len:∀ vs H Q E,sp vs H Q E->vs.length=ps.length)
  (hbody:∀ (cdv:Value) (A:qa8) (outer:List Env) (s:qak) (H:Hp) (vs:List V) (Q:VK) (E:XK),dW k (A.deeper (qek qual (ah st) s.heap.objs.size f cdv))->sp vs H Q E->
    ∃ t,PSs (nj CX0 P w K mg base N qual (ah st) f cdv A outer s H E).nox (aF st) t/\t { nx:=λ_ H'=>Q .non H',rt:=Q } (ii N vs) H):bR P w K mg base CX0 (k+1) f fd ps sp:=by
 obtain⟨oc,od,kV,doc,pm,an,cdv,ct,osl,rfl,lk,hcd⟩:=F.ex
 refine BO lk hcd S len λA outer s H vs Q E hr hsp=>?_
 obtain⟨t,h,q⟩:=hbody cdv A outer s H vs Q E hr hsp
 exact⟨t,h.nox,q⟩
theorem Fun.binds {x qual:Str}{st:Stmt}{f:Addr}{fd:qaV}{ps:List Str} (F:Fun K x qual st f fd)
  (h:∀ (kV doc pm:Value) (an:Option Addr) (cdv ct:Value) (us:List Value),us.length=ps.length->bindArgs (qaH x qual (aO st) (aF st) (ah st) .none kV doc pm an cdv ct) ⟨us,[]⟩=pure (ps.zip us)):bC K fd ps []:=by
 obtain⟨oc,od,kV,doc,pm,an,cdv,ct,osl,rfl,lk,hcd⟩:=F.ex
 exact .all (h kV doc pm an cdv ct)
theorem bv {x qual:Str}{st:Stmt}{f:Addr}{oc:Value}{od an:Option Addr}{osl:Array (Option Value)}{kV doc pm cdv ct:Value} (l:K.lookup f=some ⟨oc,od,.func (qaH x qual (aO st) (aF st) (ah st) .none kV doc pm an cdv ct),osl⟩)
  (c:qaA K cdv qual=true) (k:qav K (.ref f)=true):Fun K x qual st f (qaH x qual (aO st) (aF st) (ah st) .none kV doc pm an cdv ct):=⟨⟨oc,od,kV,doc,pm,an,cdv,ct,osl,rfl,l,c⟩,k⟩
end
theorem vM {n:Nat} (h:n<=1000):n<qaN:=qbS h (by decide)
section
variable {X:Cx}
end
theorem sV {A B:Prop} (h:B):if false=true then A else B:=by
 rw[if_neg qax]
 exact h
theorem sN {A B:Prop} (h:A):if true=true then A else B:=by
 rw[if_pos rfl]
 exact h
def bx (H H':Hp):Prop:=∀ b o,H b=some o->H' b=some o
theorem bx.refl (H:Hp):bx H H:=λ_ _ h=>h
theorem bx.trans {H H1 H2:Hp} (a:bx H H1) (b:bx H1 H2):bx H H2:=λc o h=>b c o (a c o h)
def cA (cells:List (Str×Addr)):List (Str×qbP)->List (Str×Addr)->List (Str×Addr)
 |[],acc=>acc
 |(n,k)::r,acc=>if k==.free then cA cells r ((n,(cells.lookup n).getD 0)::acc) else cA cells r acc
theorem kH {env:Env} (f:Str×qbP->List (Str×Addr)->Sem (ForInStep (List (Str×Addr))))
  (hf:∀ n k cs,f (n,k) cs=if k==.free then (do let c <-cellOf env n;pure (.yield ((n,c)::cs))) else pure (.yield cs)) :
  ∀ (names:List (Str×qbP)) (acc:List (Str×Addr)),(∀ x∈names,x.2=.free->∃ c,env.cells.lookup x.1=some c)->
   forIn names acc f=pure (cA env.cells names acc)
 |[],acc,_=>by rw[qdQ];rfl
 |(n,k)::r,acc,h=>by
  rw[qeM,hf]
  unfold cA
  by_cases hk:(k==.free)=true
  ·obtain⟨c,hc⟩:=h (n,k) qaf (beq_iff_eq.mp hk)
   have hc':env.cells.lookup n=some c:=hc
   rw[if_pos hk,if_pos hk]
   have:cellOf env n=pure c:=by unfold cellOf;rw[hc']
   rw[this,hc']
   simp only[pure_bind,Option.getD_some]
   exact kH f hf r _ λx hx=>h x (qaj _ hx)
  ·rw[if_neg hk,if_neg hk]
   simp only[pure_bind]
   exact kH f hf r _ λx hx=>h x (qaj _ hx)
theorem ki {scope:Scope}{env:Env} (h:∀ x∈scope.names,x.2=.free->∃ c,env.cells.lookup x.1=some c) :
  closureFor scope env=pure (cA env.cells scope.names []):=by
 simp only[closureFor]
 rw[kH (env:=env) _ (λn k cs=>by cases hk:k==NameKind.free<;>simp[hk]) scope.names [] h]
 simp
theorem iE {cells:List (Str×Addr)}:∀ (names:List (Str×qbP)) (acc:List (Str×Addr)) {x:Str}{c:Addr},(cA cells names acc).lookup x=some c->
  acc.lookup x=some c\/((x,NameKind.free)∈names/\c=(cells.lookup x).getD 0)
 |[],_,_,_,h=>.inl h
 |(n,k)::r,acc,x,c,h=>by
  unfold cA at h
  by_cases hk:(k==.free)=true
  ·rw[if_pos hk]at h
   rcases iE r _ h with q|⟨q1,q2⟩
   ·rw[qbl]at q
    cases hx:x==n with
    |true=>
     rw[hx]at q
     have e:=beq_iff_eq.mp hx
     subst e
     exact .inr ⟨by rw[<-beq_iff_eq.mp hk];exact qaf,(qaW q).symm⟩
    |false=>rw[hx]at q;exact .inl q
   ·exact .inr ⟨qaj _ q1,q2⟩
  ·rw[if_neg hk]at h
   rcases iE r _ h with q|⟨q1,q2⟩
   ·exact .inl q
   ·exact .inr ⟨qaj _ q1,q2⟩
theorem ik {cells:List (Str×Addr)}{x:Str}:∀ (names:List (Str×qbP)) (acc:List (Str×Addr)),((x,NameKind.free)∈names\/(acc.lookup x).isSome=true)->((cA cells names acc).lookup x).isSome=true
 |[],_,h=>h.elim (λz=>nomatch z) id
 |(n,k)::r,acc,h=>by
  unfold cA
  by_cases hk:(k==.free)=true
  ·rw[if_pos hk]
   refine ik r _ ?_
   rcases h with h|h
   ·rcases qar.mp h with e|h
    ·cases e
     exact .inr (by rw[qbl,beq_self_eq_true];rfl)
    ·exact .inl h
   ·refine .inr ?_
    rw[qbl]
    cases x==n
    ·exact h
    ·rfl
  ·rw[if_neg hk]
   refine ik r _ ?_
   rcases h with h|h
   ·rcases qar.mp h with e|h
    ·cases e;exact absurd rfl hk
    ·exact .inl h
   ·exact .inr h
theorem fG:∀ (names:List (Str×qbP)) (n:Nat) (acc:List (Str×Addr)) {x:Str}{c:Addr},(qbJ n names acc).lookup x=some c->acc.lookup x=some c\/((x,NameKind.cell)∈names/\n<=c)
 |[],_,_,_,_,h=>.inl h
 |(m,k)::r,n,acc,x,c,h=>by
  unfold qbJ at h
  by_cases hk:(k==.cell)=true
  ·rw[if_pos hk]at h
   rcases fG r _ _ h with q|⟨q1,q2⟩
   ·rw[qbl]at q
    cases hx:x==m with
    |true=>
     rw[hx]at q
     have e:=beq_iff_eq.mp hx
     subst e
     exact .inr ⟨by rw[<-beq_iff_eq.mp hk];exact qaf,by rw[qaW q];exact qal _⟩
    |false=>rw[hx]at q;exact .inl q
   ·exact .inr ⟨qaj _ q1,Nat.le_of_succ_le q2⟩
  ·rw[if_neg hk]at h
   rcases fG r _ _ h with q|⟨q1,q2⟩
   ·exact .inl q
   ·exact .inr ⟨qaj _ q1,q2⟩
theorem oz:∀ (names:List (Str×qbP)) (n:Nat) (acc:List (Str×Addr)),(∀ p∈acc,p.2<n)->∀ {x y:Str}{c:Addr},(qbJ n names acc).lookup x=some c->(qbJ n names acc).lookup y=some c->n<=c->x=y:=by
 have key:∀ (names:List (Str×qbP)) (n:Nat) (acc:List (Str×Addr)) (lo:Nat),lo<=n->(∀ p∈acc,p.2<n)->(∀ p∈acc,∀ q∈acc,lo<=p.2->p.2=q.2->p.1=q.1)->
   ∀ p∈qbJ n names acc,∀ q∈qbJ n names acc,lo<=p.2->p.2=q.2->p.1=q.1:=by
  intro names
  induction names with
  |nil=>intro n acc lo _ _ h;exact h
  |cons z r ih=>
   intro n acc lo hlo hlt h
   obtain⟨m,k⟩:=z
   unfold qbJ
   by_cases hk:(k==.cell)=true
   ·rw[if_pos hk]
    refine ih _ _ lo (Nat.le_succ_of_le hlo) (λp hp=>?_) (λp hp q hq l e=>?_)
    ·rcases qar.mp hp with e|hp
     ·rw[e];exact qbE _
     ·exact qbn (hlt p hp)
    ·rcases qar.mp hp with e1|hp<;>rcases qar.mp hq with e2|hq
     ·rw[e1,e2]
     ·rw[e1]at e;exact absurd (hlt q hq) (by rw[<-e];exact qaX _)
     ·rw[e2]at e;exact absurd (hlt p hp) (by rw[e];exact qaX _)
     ·exact h p hp q hq l e
   ·rw[if_neg hk]
    exact ih _ _ lo hlo hlt h
 intro names n acc hlt x y c hx hy hc
 exact key names n acc n (qal _) hlt (λp hp q hq l _=>absurd (hlt p hp) (qgj.mpr l)) _ (qbj hx) _ (qbj hy) hc rfl
theorem gw:∀ (names:List (Str×qbP)) (h:Heap) (acc:List (Str×Addr)),(∀ p∈acc,∃ v,h.IsCell p.2 v)->∀ p∈qbJ h.objs.size names acc,∃ v,(qd0 h names).IsCell p.2 v
 |[],_,_,h=>h
 |(m,k)::r,h,acc,hc=>by
  unfold qbJ qd0
  by_cases hk:(k==.cell)=true
  ·rw[if_pos hk,if_pos hk]
   have:=gw r (h.push { cls:=.type "cell",data:=.cell none }) ((m,h.objs.size)::acc) (λp hp=>by
    rcases qar.mp hp with e|hp
    ·rw[e];exact⟨none,_,qaE _ rfl,rfl⟩
    ·obtain⟨v,z⟩:=hc p hp
     exact⟨v,z.keeps λb o e=>qai _ e⟩)
   rwa [qbh]at this
  ·rw[if_neg hk,if_neg hk]
   exact gw r h acc hc
theorem gx {names:List (Str×qbP)} (nd:(names.map (·.1)).Nodup):∀ {x:Str}{k:qbP},(x,k)∈names->names.lookup x=some k:=by
 induction names with
 |nil=>intro x k h;cases h
 |cons z r ih=>
  intro x k h
  obtain⟨m,k'⟩:=z
  rw[qaB,qbX]at nd
  rw[qbl]
  rcases qar.mp h with e|h
  ·cases e;rw[beq_self_eq_true]
  ·have:(x==m)=false:=beq_eq_false_iff_ne.mpr λe=>nd.1 (e ▸ qa7.mpr ⟨(x,k),by assumption,rfl⟩)
   rw[this]
   exact ih nd.2 h
theorem fu {env:Env}:∀ {names:List (Str×qbP)}{x:Str}{k:qbP},
  (names.map λ(n,k)=>if (k==NameKind.free&&env.scope.kind==.function&&env.kindOf n==some .cell) then (n,NameKind.cell) else (n,k)).lookup x=some k->
  ∃ k0,names.lookup x=some k0/\(k=k0\/(k0=.free/\k=.cell))
 |[],_,_,h=>by cases h
 |(n,k0)::r,x,k,h=>by
  rw[qaB]at h
  dsimp only at h
  rw[qbl]
  by_cases hc:(k0==NameKind.free&&env.scope.kind==.function&&env.kindOf n==some .cell)=true
  ·rw[if_pos hc,qbl]at h
   cases hx:x==n with
   |true=>
    rw[hx]at h
    refine⟨k0,rfl,.inr ⟨?_,(qaW h).symm⟩⟩
    simp only[qaR]at hc
    exact beq_iff_eq.mp hc.1.1
   |false=>rw[hx]at h;exact fu h
  ·rw[if_neg hc,qbl]at h
   cases hx:x==n with
   |true=>rw[hx]at h;exact⟨k0,rfl,.inl (qaW h).symm⟩
   |false=>rw[hx]at h;exact fu h
theorem i6 {env:Env}:∀ {names:List (Str×qbP)}{x:Str},names.lookup x=some .free->
  (names.map λ(n,k)=>if (k==NameKind.free&&env.scope.kind==.function&&env.kindOf n==some .cell) then (n,NameKind.cell) else (n,k)).lookup x=some .free\/
  (names.map λ(n,k)=>if (k==NameKind.free&&env.scope.kind==.function&&env.kindOf n==some .cell) then (n,NameKind.cell) else (n,k)).lookup x=some .cell
 |[],_,h=>by cases h
 |(n,k0)::r,x,h=>by
  rw[qaB]
  dsimp only
  rw[qbl]at h
  by_cases hc:(k0==NameKind.free&&env.scope.kind==.function&&env.kindOf n==some .cell)=true
  ·rw[if_pos hc,qbl]
   cases hx:x==n with
   |true=>exact .inr rfl
   |false=>rw[hx]at h;exact i6 h
  ·rw[if_neg hc,qbl]
   cases hx:x==n with
   |true=>rw[hx]at h;exact .inl h
   |false=>rw[hx]at h;exact i6 h
theorem kX {M:Model}{A:qa8}{E:Value->qak->Prop}{s:qak}{scope:Scope}{env:Env}{cl:List (Str×Addr)}{Q:Env->qak->Prop}
  (hQ:Q (newEnv scope s.heap.objs.size env.globals (qbJ (s.heap.objs.size+1) scope.names cl) env.qual none .none (some env) qfD)
    { s with heap:=qd0 (s.heap.push { cls:=.type "dict",data:=.dict #[] }) scope.names }) :
  wpAny M A (qie scope env.globals cl [] env.qual none .none (some env)) Q E s:=by
 simp only[qie,Option.isSome_some,if_true]
 refine qae (wpAny_alloc ?_)
 refine qae (wpAny_layCells _ (λname kind cells=>by cases hkc:kind==NameKind.cell<;>simp[hkc]) _ _ _ _ ?_)
 rw[show ({ s with heap:=s.heap.push { cls:=.type "dict",data:=.dict #[] } }:qak).heap.objs.size=s.heap.objs.size+1 from qbh ..]
 refine qae ?_
 rw[qdQ]
 exact qaq (qaq hQ)
theorem gi {prog:qa1}{w:World}{A:qa8}{R:Result->qak->Prop}{s:qak}{elt target iter:Expr}{ifs:List Expr}{scope:Scope}{pos:Pos}{it acc:Value}{env:Env} (I:Nat->qak->Prop)
  (turn:∀ n s,I n s->wpAny (model prog w) A (qge it) (λr s₁=>match r with
    |none=>R (.ok .next) s₁
    | some v=>wpAny (model prog w) A (qd1 target it v) (λ_ s₁'=>wpAny (model prog w) A (qel target env v) (λ_ s₂=>
      wpAny (model prog w) A (forIn ifs true λc r=>if r=true then do let ok <-qh4 c env (eval c env);pure (ForInStep.yield ok) else pure (ForInStep.yield r)) (λok s₃=>
       if ok=true then wpAny (model prog w) A (eval elt env) (λx s₄=>
        wpAny (model prog w) A (call (.builtin "list.append") [acc,x]) (λ_ s₅=>∃ m,m<n/\I m s₅) (λ_ _=>False) s₄) (λ_ _=>False) s₃
       else ∃ m,m<n/\I m s₃) (λ_ _=>False) s₂) (λ_ _=>False) s₁') (λ_ _=>False) s₁) (λ_ _=>False) s)
  (n:Nat) (h:I n s) :
  qeo (model prog w) A (.compLoop (.ListComp elt [⟨target,iter,ifs,0⟩] scope pos) 0 it acc env) R s:=by
 refine codeAny_loop rfl I (λn s hI=>?_) n h
 show wpAny _ A ((compTurn (.ListComp elt [⟨target,iter,ifs,0⟩] scope pos) 0 it acc env).onRaise (λx=>do noteFrame x env;theTreesLotGoes x)) _ _ s
 refine wpAny_noted ?_
 rw[compTurn_list]
 refine qae (qeA (qae (qct (turn n s hI) (λr s₁ h₁=>?_) λ_ _ h'=>h'.elim)))
 cases r with
 |none=>exact qaq h₁
 |some v=>
  refine qae (qct h₁ (λ_ s₁' h₁'=>?_) λ_ _ h'=>h'.elim)
  refine qae (qct h₁' (λ_ s₂ h₂=>qae (qct h₂ (λok s₃ h₃=>?_) λ_ _ h'=>h'.elim)) λ_ _ h'=>h'.elim)
  cases ok with
  |false=>exact qaq ⟨rfl,h₃⟩
  |true=>
   exact qae (qae (qct h₃ (λx s₄ h₄=>qae (qct h₄ (λ_ s₅ h₅=>qaq (qaq ⟨rfl,h₅⟩)) λ_ _ h'=>h'.elim)) λ_ _ h'=>h'.elim))
def lcX (X:Cx) (scope:Scope) (cells:List (Str×Addr)) (Nc:List Str) (s:qak) (H:Hp) (C:Addr) (fp:List Addr):Cx where
 prog:=X.prog
 w:=X.w
 K:=X.K
 mg:=X.mg
 base:=X.base
 A:=X.A
 N:=Nc
 s₀:=s
 H₀:=H
 env:=qfP scope cells C X.env
 outer:=X.stack
 stack:=X.stack
 ex:=fp
 fn:=λx=>scope.names.lookup x==some .cell
 calm:=X.calm
 pn:=[]
 xe:=λ_ _=>False
structure fU (X:Cx) (scope:Scope) (Nc:List Str) (emb:St->St):Prop where
 kind:scope.kind=.function
 nd:(scope.names.map (·.1)).Nodup
 nN:Nc.Nodup
 free:∀ x∈scope.names,x.2=.free->X.env.kindOf x.1=some .cell\/X.env.kindOf x.1=some .free
 len:∀ σ:St,σ.length=X.N.length->(emb σ).length=Nc.length
 emb:∀ σ:St,σ.length=X.N.length->∀ (i:Nat) (x:Str) (v:V),Nc[i]?=some x->(emb σ)[i]?=some (some v)->∃ j:Nat,X.N[j]?=some x/\σ[j]?=some (some v)/\scope.names.lookup x=some .free
section
variable {X:Cx}{pins:List (Addr×Obj)}{σ:St}{H:Hp}{s:qak}{scope:Scope}{Nc:List Str}{emb:St->St}
theorem fU.clos (S:fU X scope Nc emb) (ok:X.Ok):∀ x∈scope.names,x.2=.free->∃ c,X.env.cells.lookup x.1=some c:=λx hx h=>ok.has x.1 (S.free x hx h)
theorem rO (S:fU X scope Nc emb) (I:Inv X pins σ H s) {fp:List Addr} (hf:∀ b∈fp,jY X pins H b) (hfo:∀ b∈fp,∃ o,s.heap.get? b=some o) {lo:Obj} (hlo:∀ v,lo.data≠.cell v) (hfr:lo.isFreed=false) :
  Inv (lcX X scope (qbJ (s.heap.objs.size+2) scope.names (cA X.env.cells scope.names [])) Nc s H (s.heap.objs.size+1) fp) [(s.heap.objs.size,lo)] (emb σ) H
   { s with heap:=qd0 ((s.heap.push lo).push { cls:=.type "dict",data:=.dict #[] }) scope.names }:=by
 have hsz2:((s.heap.push lo).push { cls:=.type "dict",data:=.dict #[] }).objs.size=s.heap.objs.size+2:=by rw[qbh,qbh]
 have hsz1:(s.heap.push lo).objs.size=s.heap.objs.size+1:=by rw[qbh]
 have hk:∀ b o,s.heap.get? b=some o->(qd0 ((s.heap.push lo).push { cls:=.type "dict",data:=.dict #[] }) scope.names).get? b=some o:=λb o e=>
  qco _ _ b o (qai _ (qai _ e))
 have has:=S.clos I.ok
 have cl_old:∀ {x:Str}{c:Addr},(cA X.env.cells scope.names []).lookup x=some c->X.env.cells.lookup x=some c/\(x,NameKind.free)∈scope.names:=λ{x c} h=>by
  rcases iE _ _ h with q|⟨q1,q2⟩
  ·cases q
  ·obtain⟨c',hc'⟩:=has _ q1 rfl
   have hc'':X.env.cells.lookup x=some c':=hc'
   rw[hc'']at q2
   exact⟨by rw[hc'',q2];rfl,q1⟩
 have cells_cases:∀ {x:Str}{c:Addr},(qbJ (s.heap.objs.size+2) scope.names (cA X.env.cells scope.names [])).lookup x=some c->
   (X.env.cells.lookup x=some c/\(x,NameKind.free)∈scope.names)\/((x,NameKind.cell)∈scope.names/\s.heap.objs.size+2<=c):=λ{x c} h=>by
  rcases fG _ _ _ h with q|q
  ·exact .inl (cl_old q)
  ·exact .inr q
 have oldlt:∀ {x:Str}{c:Addr},X.env.cells.lookup x=some c->c<s.heap.objs.size:=λ{x c} h=>by
  obtain⟨v,z⟩:=I.cell x c h
  exact z.lt
 have fplt:∀ b∈fp,b<s.heap.objs.size:=λb hb=>by obtain⟨o,e⟩:=hfo b hb;exact qaz e
 have accmem:∀ p∈cA X.env.cells scope.names [],∃ x,X.env.cells.lookup x=some p.2:=by
  have key:∀ (names:List (Str×qbP)) (acc:List (Str×Addr)),(∀ x∈names,x.2=.free->∃ c,X.env.cells.lookup x.1=some c)->(∀ p∈acc,∃ x,X.env.cells.lookup x=some p.2)->∀ p∈cA X.env.cells names acc,∃ x,X.env.cells.lookup x=some p.2:=by
   intro names
   induction names with
   |nil=>intro acc _ h;exact h
   |cons z r ih=>
    intro acc hn h
    obtain⟨m,k⟩:=z
    unfold cA
    by_cases hk:(k==.free)=true
    ·rw[if_pos hk]
     refine ih _ (λx hx=>hn x (qaj _ hx)) λp hp=>?_
     rcases qar.mp hp with e|hp
     ·obtain⟨c,hc⟩:=hn _ qaf (beq_iff_eq.mp hk)
      have hc':X.env.cells.lookup m=some c:=hc
      exact⟨m,by rw[e,hc'];rfl⟩
     ·exact h p hp
    ·rw[if_neg hk]
     exact ih _ (λx hx=>hn x (qaj _ hx)) h
  exact key _ _ has λp hp=>nomatch hp
 refine⟨⟨I.ok.mod,S.kind,I.ok.glob,I.ok.blt,qdx _,λx y c h1 h2=>?_,λx hx=>?_,λx c hx h=>?_,I.ok.hd,I.ok.frames,.inl rfl,λb hb=>?_,I.bs,qa2 I.ok.bsz I.sz,λb o e hb=>?_,λb hb=>?_,I.stack,I.stkFree⟩,
  rfl,I.bare,Un.kept hk,⟨_,(Heap.Ns.new (s.heap.push lo) (.type "dict")).keeps (qco _ _) |> λq=>by rw[hsz1]at q;exact q,λi x v h1 h2 _=>?_⟩,λx c h=>?_,I.hok.fresh (qdx _),λx c h=>?_,λp hp=>?_,I.hok.kept hk,S.len σ I.len⟩
 ·-- inj
  have h1':(qbJ (s.heap.objs.size+2) scope.names (cA X.env.cells scope.names [])).lookup x=some c:=h1
  have h2':(qbJ (s.heap.objs.size+2) scope.names (cA X.env.cells scope.names [])).lookup y=some c:=h2
  rcases cells_cases h1' with⟨q1,_⟩|⟨_,q1⟩
  ·rcases cells_cases h2' with⟨q2,_⟩|⟨_,q2⟩
   ·exact I.ok.inj x y c q1 q2
   ·exact absurd (qaT (qbn (qbn (oldlt q1))) q2) (qaX _)
  ·refine oz scope.names _ _ (λp hp=>?_) h1' h2' q1
   obtain⟨z,hz⟩:=accmem p hp
   exact qbn (qbn (oldlt hz))
 ·-- has
  have hx':(relabel scope X.env).names.lookup x=some .cell\/(relabel scope X.env).names.lookup x=some .free:=hx
  have:∃ k0,scope.names.lookup x=some k0/\(k0=.cell\/k0=.free):=by
   rcases hx' with q|q
   ·obtain⟨k0,h1,h2⟩:=fu q
    exact⟨k0,h1,h2.elim (λe=>.inl e.symm) λe=>.inr e.1⟩
   ·obtain⟨k0,h1,h2⟩:=fu q
    exact⟨k0,h1,h2.elim (λe=>.inr e.symm) λe=>by cases e.2⟩
  obtain⟨k0,h1,h2⟩:=this
  refine qcu.mp (qcC scope.names _ _ ?_)
  rcases h2 with rfl|rfl
  ·exact .inl h1
  ·exact .inr (ik _ _ (.inl (qbj h1)))
 ·-- cab
  have hx':scope.names.lookup x=some .cell:=beq_iff_eq.mp hx
  rcases cells_cases h with⟨_,q⟩|⟨_,q⟩
  ·have:=gx S.nd q
   rw[hx']at this;cases this
  ·exact qa2 (qcw _ 2) q
 ·-- exf
  refine⟨qaO (qbn (fplt b hb)),λx c h=>?_⟩
  rcases cells_cases h with⟨q,_⟩|⟨_,q⟩
  ·exact (hf b hb).2.2.2.2.1 x c q
  ·intro e
   exact absurd (qaT (qbn (qbn (fplt b hb))) (e ▸ q)) (qaX _)
 ·-- noex
  have hb':b∈fp:=hb
  rcases (hf b hb').2.2.2.1 with q|q
  ·exact I.ok.noex b o e q
  ·exact absurd (qaT (qaz (I.ok.bs b o e).1) q) (qaX _)
 ·-- exfs
  intro hb2
  rcases qar.mp (I.stkSub b hb2) with q|q
  ·exact (hf b hb).2.1 q
  ·exact (hf b hb).2.2.1 q
 ·-- loc
  obtain⟨j,e1,e2,e3⟩:=S.emb σ I.len i x v h1 h2
  have kx:=S.free (x,.free) (qbj e3) rfl
  have kx':X.env.kindOf x=some .cell\/X.env.kindOf x=some .free:=kx
  obtain⟨m,hn,hl⟩:=I.loc
  obtain⟨u,ru,lk⟩:=hl j x v e1 e2 (.inr kx')
  refine⟨u,ru,.inr ⟨?_,?_⟩⟩
  ·rcases i6 (env:=X.env) e3 with q|q
   ·exact .inr q
   ·exact .inl q
  ·rcases lk with⟨z,_⟩|⟨_,c,hc,hcell⟩
   ·rcases kx' with q|q<;>(rw[z]at q;cases q)
   ·obtain⟨c',hc'⟩:=qcu.mp (qcC scope.names (s.heap.objs.size+2) (cA X.env.cells scope.names []) (x:=x) (.inr (ik _ _ (.inl (qbj e3)))))
    rcases cells_cases hc' with⟨q,_⟩|⟨q,_⟩
    ·rw[hc]at q
     cases q
     exact⟨c,hc',hcell.keeps hk⟩
    ·have:=gx S.nd q
     rw[e3]at this;cases this
 ·-- cell
  have h':(qbJ (s.heap.objs.size+2) scope.names (cA X.env.cells scope.names [])).lookup x=some c:=h
  have:=gw scope.names ((s.heap.push lo).push { cls:=.type "dict",data:=.dict #[] }) (cA X.env.cells scope.names []) (λp hp=>by
   obtain⟨z,hz⟩:=accmem p hp
   obtain⟨v,q⟩:=I.cell z p.2 hz
   exact⟨v,q.keeps λb o e=>qai _ (qai _ e)⟩) (x,c) (by rw[hsz2];exact qbj h')
  exact this
 ·-- freeC
  rcases cells_cases h with⟨q,_⟩|⟨_,q⟩
  ·exact I.freeC x c q
  ·exact I.hok.fresh (qa2 (qcw _ 2) q)
 ·-- pin
  have hp':p=(s.heap.objs.size,lo):=by
   have:p∈([]:List (Addr×Obj))++[(s.heap.objs.size,lo)]:=hp
   simpa using this
  subst hp'
  refine⟨qco _ _ _ _ (qai _ (qaE _ hfr)),I.hok.fresh (qal _),qaO (qbE _),λhb=>?_,hlo⟩
  rcases qar.mp (I.stkSub _ hb) with q|q
  ·exact absurd I.lt (by rw[<-q];exact qaX _)
  ·exact I.nofs (qal _) q
end
def PTs (X:Cx) (ifs:List Expr) (t:TT):Prop:=
 ∀ (pins:List (Addr×Obj)) (s:qak) (σ:St) (H:Hp) (Q:Bool->Hp->Prop),Inv X pins σ H s->t σ H Q->
  wpAny (model X.prog X.w) X.A (forIn ifs true λc r=>if r=true then do let ok <-qh4 c X.env (eval c X.env);pure (ForInStep.yield ok) else pure (ForInStep.yield r)) (TP X pins σ Q) X.xe s
def CL:TT:=λ_ H Q=>Q true H
theorem yJ {X:Cx}:PTs X [] CL:=λ_ _ _ H _ I h=>wpAny_tests_nil ⟨H,I,h⟩
theorem x3 {X:Cx}{c:Expr}{t:TT} (hc:PT X c t):PTs X [c] t:=λpins s σ H Q I h=>wpAny_tests_one (hc pins s σ H Q I h)
def Sub (σ σ':St):Prop:=σ.length=σ'.length/\∀ (i:Nat) (v:V),σ[i]?=some (some v)->σ'[i]?=some (some v)
def B0 (J:It) (σe:St) (g:TG) (tt:TT) (te:TE) (H1:Hp) (Q:VK):Prop:=∃ W:Nat->Nat->List V->Hp->Prop,(∃ m,W 0 m [] H1)/\∀ i m ys H,W i m ys H->
 (J.stop i H/\∀ D,H D=none->Q (.ref D) (upd H D (.lst ys)))\/
 (J.go i H/\ys.length<qaN/\∃ N:List V->Hp->Prop,(∀ ys' H',N ys' H'->∃ m',m'<m/\W (i+1) m' ys' H')/\∀ x H',J.yld i H x H'->g x σe H' λσ2 H2=>Sub σe σ2/\tt σ2 H2 λb H3=>if b=true then te σ2 H3 λv H4=>N (ys++[v]) H4 else N ys H3)
def tLc (emb:St->St) (wi:TI) (g:TG) (tt:TT) (te:TE):TE:=λσ H Q=>wi σ H λJ H1=>B0 J (emb σ) g tt te H1 Q
section
variable {X:Cx}{scope:Scope}{Nc:List Str}{emb:St->St}{elt iter tg:Expr}{ifs:List Expr}{pos:Pos}{wi:TI}{g:TG}{tt:TT}{te:TE}
theorem zh (S:fU X scope Nc emb) (hc:X.calm=true) (hi:PI X tg iter wi)
  (hg:∀ cells s H C fp,PG (lcX X scope cells Nc s H C fp) tg g) (ht:∀ cells s H C fp,PTs (lcX X scope cells Nc s H C fp) ifs tt) (he:∀ cells s H C fp,PE (lcX X scope cells Nc s H C fp) elt te)
  (hs:∀ x,qbQ iter X.env x=pure x:=by intro _;rfl):PE X (.ListComp elt [⟨tg,iter,ifs,0⟩] scope pos) (tLc emb wi g tt te):=by
 intro pins s σ H Q I h
 rw[eval_ListComp]
 refine qfA (use:=none) rfl hs (ki (S.clos I.ok)) S.kind (λx hx hl=>gx S.nd (by rw[<-hl];exact hx)) ?_
 refine thn (hi pins s σ H _ I h) λv s1 h1=>thn h1 λitv s2 h2=>?_
 obtain⟨it,fp,tn,J,H2,e,I2,T,st2,f2,W,⟨m0,w0⟩,turn⟩:=h2
 subst e
 refine qbq (kX ?_)
 rw[show (s2.heap.push { cls:=.type "list",dict:=none,data:=.seq ([]:List Value).toArray }).objs.size=s2.heap.objs.size+1 from qbh ..]
 generalize hD:s2.heap.objs.size=D
 generalize hlo:({ cls:=.type "list",dict:=none,data:=.seq ([]:List Value).toArray }:Obj)=lo
 have fplt:∀ b∈fp,b<s2.heap.objs.size:=λb hb=>by obtain⟨o,e,_⟩:=T.obj _ _ st2 b hb;exact qaz e
 have I3:=rO (lo:=lo) S I2 f2 (λb hb=>by obtain⟨o,e,_⟩:=T.obj _ _ st2 b hb;exact⟨o,e⟩) (by rw[<-hlo];intro v z;cases z) (by rw[<-hlo];rfl)
 rw[hD]at I3
 generalize hcells:qbJ (D+2) scope.names (cA X.env.cells scope.names [])=cells at I3
 generalize hX':lcX X scope cells Nc s2 H2 (D+1) fp=X' at I3
 have hfpX:∀ {H':Hp}{ps:List (Addr×Obj)},(∀ b∈fp,H' b=none)->(∀ p∈ps,p.1=D)->∀ b∈fp,jY X' ps H' b:=λ{H' ps} hn hps b hb=>by
  have ok:=I3.ok
  refine⟨hn b hb,?_,?_,.inl (by rw[<-hX'];exact hb),?_,λp hp=>?_⟩
  ·exact (ok.exf b (by rw[<-hX'];exact hb)).1
  ·exact ok.exfs b (by rw[<-hX'];exact hb)
  ·exact (ok.exf b (by rw[<-hX'];exact hb)).2
  ·have hp':p∈([]:List (Addr×Obj))++ps:=by rw[<-hX']at hp;exact hp
   have e:p.1=D:=hps p (by simpa using hp')
   rw[e,<-hD]
   exact qb2 (fplt b hb)
 have Dex:D∈X'.ex\/X'.s₀.heap.objs.size<=D:=.inr (by rw[<-hX',<-hD];exact qal _)
 have Dloc:D≠X'.env.locals:=by rw[<-hX'];exact qaO (qbE _)
 have pD:=I3.pin (D,lo) (by rw[<-hX'];exact qau _ qaf)
 have Dfs:D∉X'.fs:=pD.2.2.2.1
 have Dcell:∀ x c,X'.env.cells.lookup x=some c->c≠D:=λx c hc' e=>by
  obtain⟨v,o,ho,hd⟩:=I3.cell x c hc'
  rw[e,pD.1]at ho
  cases ho
  exact pD.2.2.2.2 v hd
 -- the loop
 have loop:∀ s3:qak,s3={ s2 with heap:=qd0 ((s2.heap.push lo).push { cls:=.type "dict",data:=.dict #[] }) scope.names }->
   qeo (model X.prog X.w) X.A (.compLoop (.ListComp elt [⟨tg,iter,ifs,0⟩] scope pos) 0 (.ref it) (.ref D) (qfP scope cells (D+1) X.env))
    (compPost (model X.prog X.w) X.A X.xe none (EP X pins σ Q) (.ref D) (D+1)) s3:=by
  rintro s3 rfl
  refine gi (λn s'=>∃ i ys its k H',Inv X' [(D,{ cls:=.type "list",data:=.seq its.toArray k })] (emb σ) H' s'/\aU ys its/\tn i s'.heap/\(∀ b∈fp,H' b=none)/\ys.length<=qaN/\W i n ys H') ?_ m0
   ⟨0,[],[],0,H2,?_,.nil,?_,λb hb=>(f2 b hb).1,qb5 _,w0⟩
  ·rintro n s4 ⟨i,ys,its,k,H4,I4,rv,st4,fr4,hlen,w4⟩
   have hps:∀ p∈[(D,({ cls:=.type "list",data:=.seq its.toArray k }:Obj))],p.1=D:=λp hp=>by
    have:=qag.mp hp
    rw[this]
   rcases turn i n ys H4 w4 with⟨stop,qn⟩|⟨go,hlt,N,hN,step⟩
   ·-- the end
    have TD:=T.done X' (by rw[<-hX'];rfl) (by rw[<-hX'];rfl) (by rw[<-hX'];rfl) (by rw[<-hX'];exact hc) i _ s4 (emb σ) H4 (λ_ _=>False) I4 (hfpX fr4 hps) st4 stop
    rw[show X'.A=X.A by rw[<-hX'];rfl]at TD
    refine thn TD λr s5 ⟨hr,I5⟩=>?_
    subst hr
    obtain⟨m5,hn5,_⟩:=id I5.loc
    have eC:X'.env.locals=D+1:=by rw[<-hX'];rfl
    rw[eC]at hn5
    refine⟨m5,hn5,λh' hsb=>?_⟩
    have pD5:=I5.pin (D,{ cls:=.type "list",data:=.seq its.toArray k }) (by rw[<-hX'];exact qau _ qaf)
    have neC:∀ b u,H4 b=some u->b≠D+1:=λb u e z=>by
     have:=I5.free
     rw[eC,<-z,e]at this
     cases this
    have hD4:H4 D=none:=pD5.2.1
    have un:=I5.base
    have un':Un (frs X.stack) fp H2 H4 s2.heap s5.heap:=by rw[<-hX']at un;exact un
    have old_ne:∀ b o,s2.heap.get? b=some o->b≠D/\b≠D+1:=λb o e=>by
     have q:=qaz e
     rw[hD]at q
     exact⟨qaO q,qaO (qbn q)⟩
    have h2D:H2 D=none:=by rw[<-hD];exact I2.fresh
    have hok':HOk X.prog X.w H4 h':=λb u e=>by
     have ob:dI X.prog X.w H4 s5.heap b u:=by have:=I5.hok b u e;rw[<-hX']at this;exact this
     refine ob.stay (λc v hcv q=>(hsb.2 c ?_).trans q) (λ_ q=>q) λ_ _ q=>q
     rcases hcv with z|z
     ·rw[z];exact neC b u e
     ·exact neC c _ z
    have hokD:HOk X.prog X.w (upd H4 D (.lst ys)) h':=λb u e=>by
     by_cases hb:b=D
     ·subst hb
      rw[upd_same]at e
      cases e
      exact⟨hlen,its,k,rv,(hsb.2 b (qaO (qbE _))).trans pD5.1⟩
     ·rw[upd_ne hb]at e
      refine (hok' b u e).stay (λ_ _ _ q=>q) (λc q=>?_) λc z q=>?_
      all_goals first
       |(rw[upd_ne (aT q hD4)];exact q)
       |(rw[upd_ne (aT z hD4)];exact z)
    refine⟨.ref D,upd H4 D (.lst ys),?_,rfl,qn D hD4⟩
    refine I2.call' (s':={ s5 with heap:=h' }) (ch:=fp) ?_ ⟨λb o e nb hb hx=>?_,λb o e nb hb hx=>?_,λb o e nb hx=>?_,λb o e hx=>?_,λb xs e=>?_,λb o u e=>?_,λb ps e=>?_⟩ hokD I5.bare (λb hb=>?_)
    ·have:=I5.os
     rw[<-hX']at this
     exact this
    ·exact (hsb.2 b (old_ne b o e).2).trans (un'.keep b o e nb hb hx)
    ·obtain⟨sl,q⟩:=un'.slot b o e nb hb hx
     exact⟨sl,(hsb.2 b (old_ne b o e).2).trans q⟩
    ·rw[upd_ne (old_ne b o e).1]
     exact un'.free b o e nb hx
    ·obtain⟨o',q⟩:=un'.there b o e hx
     exact⟨o',(hsb.2 b (old_ne b o e).2).trans q⟩
    ·rw[upd_ne (aT e h2D)]
     exact un'.tups b xs e
    ·rw[upd_ne (aT e h2D)]
     exact un'.frzs b o u e
    ·obtain⟨m,q⟩:=un'.tbls b ps e
     exact⟨m,by rw[upd_ne (aT e h2D)];exact q⟩
    ·obtain⟨q0,q1,q2,q3,q4,q5⟩:=f2 b hb
     exact⟨q3,q1,q4,q5⟩
   ·-- a turn
    have hA:X'.A=X.A:=by rw[<-hX'];rfl
    have hP:X'.prog=X.prog:=by rw[<-hX'];rfl
    have hw:X'.w=X.w:=by rw[<-hX'];rfl
    have hE:X'.env=qfP scope cells (D+1) X.env:=by rw[<-hX'];rfl
    have hxe:X'.xe=λ_ _=>False:=by rw[<-hX'];rfl
    have TI':=T.item X' hP hw (by rw[<-hX'];rfl) (by rw[<-hX'];exact hc) i _ s4 (emb σ) H4 (λ_ _=>False) I4 (hfpX fr4 hps) st4 go
    rw[hA]at TI'
    refine thn TI' λr s5 ⟨u,hr,h5⟩=>?_
    subst hr
    refine thn h5 λ_ s6 ⟨x,H6,I6,r6,y6,st6,fr6⟩=>?_
    have I6':=I6.pinned (hfpX fr6 hps) (T.obj _ _ st6)
    have G:=hg cells s2 H2 (D+1) fp
    have TT':=ht cells s2 H2 (D+1) fp
    have EE:=he cells s2 H2 (D+1) fp
    rw[hX']at G TT' EE
    have G':=G _ s6 (emb σ) H6 x u _ I6' r6 (step x H6 y6)
    rw[hA,hP,hw,hE,hxe]at G'
    refine thn G' λ_ s7 ⟨σ7,H7,I7,sb7,q7⟩=>?_
    have T':=TT' _ s7 σ7 H7 _ I7 q7
    rw[hA,hP,hw,hE,hxe]at T'
    refine thn T' λok s8 ⟨H8,I8,q8⟩=>?_
    -- what is pinned
    have pin_fp:∀ {σ9:St}{H9:Hp}{s9:qak},Inv X' ([(D,({ cls:=.type "list",data:=.seq its.toArray k }:Obj))]++lu fp s6.heap) σ9 H9 s9->tn (i+1) s9.heap/\∀ b∈fp,H9 b=none:=λ{σ9 H9 s9} I9=>
     ⟨T.keep _ _ _ st6 λb hb o e=>(I9.pin (b,o) (qau _ (qau _ (eR hb e)))).1,λb hb=>by
      obtain⟨o,e,_⟩:=T.obj _ _ st6 b hb
      exact (I9.pin (b,o) (qau _ (qau _ (eR hb e)))).2.1⟩
    cases ok with
    |false=>
     rw[if_neg (by decide)]at q8
     rw[if_neg (by decide)]
     obtain⟨m',hm,w8⟩:=hN _ _ q8
     exact⟨m',hm,i+1,ys,its,k,H8,I8.unpinned.weak sb7.1 sb7.2,rv,(pin_fp I8).1,(pin_fp I8).2,hlen,w8⟩
    |true=>
     rw[if_pos rfl]at q8
     rw[if_pos rfl]
     have E':=EE _ s8 σ7 H8 _ I8 q8
     rw[hA,hP,hw,hE,hxe]at E'
     refine thn E' λy s9 ⟨v9,H9,I9,r9,n9⟩=>?_
     obtain⟨m',hm,w9⟩:=hN _ _ n9
     have pD9:=I9.pin (D,{ cls:=.type "list",data:=.seq its.toArray k }) (qau _ (qaY _ qaf))
     have hl:=rv.length
     have I9n:Inv X' [] σ7 H9 s9:=I9.pins_of λp hp=>nomatch hp
     refine qcX qeu ⟨_,pD9.1,rfl⟩ qeg (qd7 _ _) (qee D its.toArray k y (by rw[qay];lia)) ⟨pD9.1,?_⟩
     have up:∃ k':Nat,(s9.heap.update D (qcM λxs=>xs.push y)).get? D=some { cls:=.type "list",data:=.seq (its++[y]).toArray k' }:=by
      have q:=qd5 pD9.1 (λxs:Array Value=>xs.push y)
      simp only[qf9]at q
      exact⟨_,q⟩
     obtain⟨k',up⟩:=up
     have hoth:∀ b o,b≠D->s9.heap.get? b=some o->(s9.heap.update D (qcM λxs=>xs.push y)).get? b=some o:=λb o hb e=>(qcI s9.heap _ (qbu hb)).trans e
     have I10:=I9n.turned (t':=s9.toks) hoth pD9.2.1 Dloc Dex Dcell (λp hp=>absurd (show p∈([]:List (Addr×Obj)) by rw[<-hX']at hp;exact hp) (by simp))
     refine⟨m',hm,i+1,ys++[v9],its++[y],k',H9,(I10.weak sb7.1 sb7.2).pins_of (λp hp=>?_),rv.append (.cons r9 .nil),T.keep _ _ _ (pin_fp I9).1 (λb hb o e=>hoth b o (by rw[<-hD];exact qaO (fplt b hb)) e),(pin_fp I9).2,?_,w9⟩
     ·have:=qag.mp hp
      subst this
      exact⟨up,pD9.2.1,Dloc,Dfs,λv z=>by cases z⟩
     ·rw[qan,qbR]
      lia
  ·have q:lo={ cls:=.type "list",data:=.seq ([]:List Value).toArray 0 }:=hlo.symm
   rw[<-q]
   exact I3
  ·exact T.keep _ _ _ st2 λb hb o e=>qco _ _ b o (qai _ (qai _ e))
 refine qf5 ?_ ?_
 ·exact loop _ rfl
 ·refine T.self X.A 0 _ _ _ (T.keep _ _ _ st2 λb hb o e=>qco _ _ b o (qai _ (qai _ e))) ?_
  exact loop _ rfl
end
end L2
namespace L2
open PySem PySem.Spec PyProof.Rows
open PySem.AutoSeq1 (wpAny_loadPart')
section
variable {prog:qa1}{w:World}{A:qa8}{E:Value->qak->Prop}{s:qak}
theorem hW {it l:Addr}{i:Nat}{items}{x:Value}{Q:Value->qak->Prop} (hit:s.heap.IsTupleIter it l i)
  (hl:s.heap.IsTuple l items) (hx:items[i]?=some x)
  (hQ:∀ h',h'.IsTupleIter it l (i+1)->qde it s.heap h'->Q x { s with heap:=h' }) :
  wpAny (model prog w) A (qa4 (.ref it)) Q E s:=by
 obtain⟨o,ho,hc,hd⟩:=id hit
 obtain⟨ol,hol,_,nl,hdl⟩:=hl
 unfold qa4
 refine qae (qbF (name:=qcR "__next__") hit.typeIs qcr
  (qcd qcr hit.typeIs qe9 ?_ (qe3 _)))
 show wpAny _ _ (field (.ref it) 0 >>= _) _ _ s
 refine qae (qby ho hd (x:=.ref l) rfl ?_)
 show wpAny _ _ (if (Value.ref l==Value.none)=true then _ else _) _ _ s
 rw[if_neg (show ¬ ((Value.ref l==Value.none)=true) from qax)]
 show wpAny _ _ (field (.ref it) 1 >>= _) _ _ s
 refine qae (qby ho hd (x:=.int i 0) rfl ?_)
 show wpAny _ _ (seqItems? (.ref l) >>= _) _ _ s
 refine qae (qce hol hdl ?_)
 simp only[qbZ,hx]
 refine qae (qib ho hd (by simp) (qaq ⟨x,rfl,qaq (hQ _ ?_ (qeN ..))⟩))
 exact⟨_,qfp _ ho (Obj.isFreed_of_fields (qf8 hd _)),(Obj.cls_mapFields ..).trans hc,by
  rw[qf8 hd];simp[qfC]⟩
theorem iM {it l:Addr}{i:Nat}{items}{Q:Value->qak->Prop} (hh:A.handled=none)
  (hit:s.heap.IsTupleIter it l i) (hl:s.heap.IsTuple l items) (hx:items[i]?=none)
  (hE:∀ h' e,qh0 it s.heap h'->(∃ o,h'.get? e=some o/\o.cls=.type "StopIteration")->E (.ref e) { s with heap:=h' }) :
  wpAny (model prog w) A (qa4 (.ref it)) Q E s:=by
 obtain⟨o,ho,hc,hd⟩:=id hit
 obtain⟨ol,hol,_,nl,hdl⟩:=hl
 unfold qa4
 refine qae (qbF (name:=qcR "__next__") hit.typeIs qcr
  (qcd qcr hit.typeIs qe9 ?_ (qe3 _)))
 show wpAny _ _ (field (.ref it) 0 >>= _) _ _ s
 refine qae (qby ho hd (x:=.ref l) rfl ?_)
 show wpAny _ _ (if (Value.ref l==Value.none)=true then _ else _) _ _ s
 rw[if_neg (show ¬ ((Value.ref l==Value.none)=true) from qax)]
 show wpAny _ _ (field (.ref it) 1 >>= _) _ _ s
 refine qae (qby ho hd (x:=.int i 0) rfl ?_)
 show wpAny _ _ (seqItems? (.ref l) >>= _) _ _ s
 refine qae (qce hol hdl ?_)
 simp only[qbZ,hx]
 refine qae (qdC (qae (qib ho hd (by simp) ?_)))
 show wpAny _ _ (newExc (.type "StopIteration") [] >>= _) _ _ _
 refine qae ?_
 simp only[newExc,newTuple]
 refine qae (qbq ?_ (by size_fits))
 refine qae (m:=qif _ _) (wpAny_of_eq (a:=Value.none) (by first|rfl|(simp only[qif];rfl)) ?_)
 refine qbq ?_ (by size_fits)
 simp only[raiseNew]
 refine qae (wpAny_handled ?_)
 first|rw[show A.in1.handled=none from hh]|rw[hh]
 refine qae (qaq (wpAny_throw ?_))
 exact hE _ _ (((qeN ..).extBut.push _).push _) ⟨_,qaE _ rfl,rfl⟩
theorem jw (hh:A.handled=none) (it l:Addr) (hne:l≠it) (items:Array Value) :
  Draws prog w A it [it,l] items.size (λi v=>items[i]?=some v) (λi h=>h.IsTupleIter it l i/\h.IsTuple l items) where
 live:=λ_ _ st=>let ⟨o,ho,_⟩:=st.1;⟨o,ho⟩
 frame:=λ_ _ _ st hk=>⟨st.1.at λo e=>hk it (by simp) o e,by
  obtain⟨o,e,r⟩:=st.2
  exact⟨o,hk l (by simp) o e,r⟩⟩
 item:=λi s Q E hi st hQ=>by
  refine hW st.1 st.2 (x:=items[i]) (by simp[hi]) λh' hit' hs'=>?_
  refine hQ _ h' s.toks (by simp[hi]) ⟨hit',?_⟩ hs'
  obtain⟨o,e,r⟩:=st.2
  exact⟨o,(hs'.2 l hne).trans e,r⟩
 done:=λs Q E st hE=>iM hh st.1 st.2 (by simp) hE
end
theorem jv (l:Addr) (items:Array Value) (n:Nat) (dct:Option Addr) (sl:Array (Option Value)) :
  Meets (qgG.«enumerate.__new__» ⟨[.type "enumerate",.ref l],[]⟩) (λ_ R s=>s.heap.get? l=some { cls:=.type "tuple",dict:=dct,data:=.seq items n,slots:=sl }/\
   R (.ok (.ret (.ref (s.heap.push { cls:=.type "tuple_iterator",data:=.fields #[.ref l,.int 0 0] }).objs.size)))
    { s with heap:=(s.heap.push { cls:=.type "tuple_iterator",data:=.fields #[.ref l,.int 0 0] }).push { cls:=.type "enumerate",data:=.fields #[.none,.bool false,.ref s.heap.objs.size,qfC 0,.none,.none] } }):=
 .of_wp λprog w A R s h=>by
  obtain⟨hp,g,d,tk,os⟩:=s;obtain⟨hl,h⟩:=h
  have hsub:=sub_enumerate
  have hL:Heap.IsTuple (qfl ⟨hp,g,d,tk,os⟩) l items:=⟨_,hl,rfl,n,rfl⟩
  wp_walk using wpAny_loadPart' hl
  refine wpAny_stack_any λst=>qaq ?_
  split
  ·rename_i c _ _ _ _ _
   cases (c==Value.type "enumerate")
   ·wp_walk using wpAny_loadPart' hl,qcJ hL
    exact⟨_,rfl,h⟩
   ·wp_walk using wpAny_loadPart' hl,qcJ hL
    exact⟨_,rfl,h⟩
  ·wp_walk using wpAny_loadPart' hl,qcJ hL
   exact⟨_,rfl,h⟩
theorem jJ {prog:qa1}{w:World}{A:qa8}{E:Value->qak->Prop}{s:qak}{l:Addr}{items:Array Value}{Q:Value->qak->Prop} (hL:s.heap.IsTuple l items)
  (h:∀ h',IsEnum h' (s.heap.objs.size+1) s.heap.objs.size 0 .none->h'.IsTupleIter s.heap.objs.size l 0->h'.objs.size=s.heap.objs.size+2->
    (∀ b o,s.heap.get? b=some o->h'.get? b=some o)->Q (.ref (s.heap.objs.size+1)) { s with heap:=h' }) :
  wpAny (model prog w) A (call (.type "enumerate") [.ref l]) Q E s:=by
 obtain⟨⟨c,dct,dt,sl⟩,hl,hc,n,hd⟩:=hL
 replace hc:c=.type "tuple":=hc
 replace hd:dt=.seq items n:=hd
 subst hc hd
 refine callType_new F.called_enumerate (by decide) (F.typeCall_enumerate_1 _) (F.newCall_enumerate_1 _) (λobj=>F.args_object_init_2 obj _) F.entry_enumerate_new
  (jv l items n dct sl) ⟨hl,?_⟩
 have hz:(s.heap.push { cls:=.type "tuple_iterator",data:=.fields #[.ref l,.int 0 0] }).objs.size=s.heap.objs.size+1:=qbh ..
 show _/\_
 rw[hz]
 have he:IsEnum ((s.heap.push { cls:=.type "tuple_iterator",data:=.fields #[.ref l,.int 0 0] }).push
   { cls:=.type "enumerate",data:=.fields #[.none,.bool false,.ref s.heap.objs.size,qfC 0,.none,.none] }) (s.heap.objs.size+1) s.heap.objs.size 0 .none:=by
  have:=qaE (s.heap.push { cls:=.type "tuple_iterator",data:=.fields #[.ref l,.int 0 0] })
   (o:={ cls:=.type "enumerate",data:=.fields #[.none,.bool false,.ref s.heap.objs.size,qfC 0,.none,.none] }) rfl
  rw[hz]at this;exact this
 refine⟨⟨_,he,rfl⟩,h _ he ⟨_,qai _ (qaE _ rfl),rfl,rfl⟩ (by rw[qbh,hz]) λb o x=>qai _ (qai _ x)⟩
section
variable {X:Cx}{pins:List (Addr×Obj)}{σ:St}{H:Hp}{s:qak}{h':Heap}{fp:List Addr}
theorem jY.ch (hf:∀ b∈fp,jY X pins H b):∀ b∈fp,(b∈X.ex\/X.s₀.heap.objs.size<=b)/\b≠X.env.locals/\(∀ x c,X.env.cells.lookup x=some c->c≠b)/\∀ p∈X.pn++pins,p.1≠b:=λb hb=>
 let ⟨_,f1,_,f3,f4,f5⟩:=hf b hb
 ⟨f3,f1,f4,f5⟩
theorem Inv.turns {t':Nat} (I:Inv X pins σ H s) (hf:∀ b∈fp,jY X pins H b) (k:∀ b o,b∉fp->s.heap.get? b=some o->h'.get? b=some o):Inv X pins σ H { s with heap:=h',toks:=t' }:=by
 have nit:∀ b u,H b=some u->b∉fp:=λb u e z=>by have:=(hf b z).1;rw[e]at this;cases this
 refine I.step (g':=s.gens) (d':=s.drawn) (ch:=fp) (jY.ch hf) (λb o _ _ hc e _=>k b o hc e) (λb o _ _ hc e _=>⟨o.slots,k b o hc e⟩) (λ_ _ _ _ n=>n)
  (λb o hc e=>⟨o,k b o hc e⟩) (λ_ _ e=>e) (λ_ _ _ e=>e) (λb ps e=>⟨#[],by rw[e];simp⟩) (λm hm=>?_) (λb u e=>?_) I.bare
 ·obtain⟨o,es,ep,ho,r⟩:=hm
  exact⟨o,es,ep,k _ o (λz=>(hf _ z).2.1 rfl) ho,r⟩
 ·refine (I.hok b u e).stay (λc v hc q=>k c v ?_ q) (λ_ q=>q) λ_ _ q=>q
  rcases hc with z|z
  ·rw[z];exact nit b u e
  ·exact nit c _ z
theorem Inv.turnsT {t':Nat}{T:Addr}{xs:List V}{its:Array Value} (I:Inv X pins σ H s) (hf:∀ b∈fp,jY X pins H b) (k:∀ b o,b∉fp->s.heap.get? b=some o->h'.get? b=some o)
  (hT:s.heap.objs.size<=T) (ht:eS h' T its) (rv:aU xs its.toList) (hz:xs.length<=qaN):Inv X pins σ (upd H T (.tup xs)) { s with heap:=h',toks:=t' }:=by
 have nit:∀ b u,H b=some u->b∉fp:=λb u e z=>by have:=(hf b z).1;rw[e]at this;cases this
 have hTn:H T=none:=I.hok.fresh hT
 have lt:∀ b o,s.heap.get? b=some o->b≠T:=λb o e=>qaO (qaT (qaz e) hT)
 refine I.step (g':=s.gens) (d':=s.drawn) (ch:=fp) (jY.ch hf) (λb o _ _ hc e _=>k b o hc e) (λb o _ _ hc e _=>⟨o.slots,k b o hc e⟩) (λb o _ e n=>by rw[upd_ne (lt b o e)];exact n)
  (λb o hc e=>⟨o,k b o hc e⟩) (λb _ e=>by rw[upd_ne (aT e hTn)];exact e) (λb _ _ e=>by rw[upd_ne (aT e hTn)];exact e) (λb ps e=>⟨#[],by rw[upd_ne (aT e hTn),e];simp⟩) (λm hm=>?_) (λb u e=>?_) I.bare
 ·obtain⟨o,es,ep,ho,r⟩:=hm
  exact⟨o,es,ep,k _ o (λz=>(hf _ z).2.1 rfl) ho,r⟩
 ·by_cases hb:b=T
  ·subst hb
   rw[upd_same]at e
   cases e
   refine⟨hz,its.toList,rv,?_⟩
   show eS h' b its.toList.toArray
   simpa using ht
  ·rw[upd_ne hb]at e
   refine (I.hok b u e).stay (λc v hc q=>k c v ?_ q) (λc q=>?_) λc z q=>?_
   ·rcases hc with z|z
    ·rw[z];exact nit b u e
    ·exact nit c _ z
   all_goals first
    |(rw[upd_ne (aT q hTn)];exact q)
    |(rw[upd_ne (aT z hTn)];exact z)
end
def Ite (S:Hp->List V->Prop):It:=
 ⟨λi H=>∃ xs x,S H xs/\xs[i]?=some x,λi H x H'=>∃ T v,(∀ xs,S H xs->xs[i]?=some v)/\H T=none/\x=.ref T/\H'=upd H T (.tup [.int i,v]),λi H=>∃ xs,S H xs/\xs.length=i⟩
theorem sU {P:qa1}{w:World}{K:qac}{elts:List Expr}{k:Nat}{pos:Pos} (a it e:Addr) (hei:e≠it) (hae:a≠e) (hai:a≠it) :
  uw P w K (.Tuple elts k pos) (Ite λH xs=>SqL K H a xs) [e,it] e (λi h=>(∃ old,IsEnum h e it i old)/\h.IsListIter it a i) where
 mem:=by simp
 obj:=λi h st b hb=>by
  rcases qar.mp hb with rfl|hb
  ·obtain⟨⟨old,q⟩,_⟩:=st
   exact⟨_,q,λv z=>by cases z⟩
  ·rw[qag.mp hb]
   obtain⟨_,o,e,c,d⟩:=st
   exact⟨o,e,λv z=>by rw[d]at z;cases z⟩
 keep:=λi h h' st kk=>⟨let ⟨old,q⟩:=st.1;⟨old,kk e (by simp) _ q⟩,st.2.at λo q=>kk it (by simp) o q⟩
 item:=by
  intro X hP hw hK hc i pins s σ H E I hf st hg
  subst hP hw hK
  obtain⟨xs,x,hq,hx⟩:=hg
  obtain⟨its,rv,p,hz⟩:=I.list hq
  obtain⟨u,hu,ru⟩:=rv.get hx
  have W:=qea (qh1 (prog:=X.prog) (w:=X.w) (A:=X.A.in1) (I.ok.hd hc) it a hai its.toArray) e hei (by simp[hei,qbu hae]) (by simp)
  have hi:i<its.toArray.size:=by
   have:=(qao.mp hu).1
   simpa using this
  obtain⟨⟨ol,he0⟩,hit0⟩:=st
  refine qfJ (qh1 (prog:=X.prog) (w:=X.w) (A:=X.A.in1) (I.ok.hd hc) it a hai its.toArray) he0 ⟨hit0,p.isList⟩ hi hei (by simp[hei,qbu hae]) λy h1 t hy ho hs' ht hsz hk=>⟨_,rfl,?_⟩
  have hm:(λ(i:Nat) (T:Addr) (h:Heap)=>(∃ x,IsEnumOut h e it ((i:Int)+1) x T)/\_/\T≠e/\T≠it) i s.heap.objs.size h1:=⟨⟨_,ho⟩,hs',qb2 (qaz he0),qb2 (let ⟨_,q,_⟩:=hit0;qaz q)⟩
  have kk:∀ b o,b∉[e,it]->s.heap.get? b=some o->h1.get? b=some o:=λb o hb q=>hk b o (λz=>hb (by simp[z])) (λz=>hb (by simp[z])) q
  generalize eT:s.heap.objs.size=T at ht ho hm ⊢
  have hT:s.heap.objs.size<=T:=qcA eT
  have etk:∃ tk,tk=t+1:=⟨_,rfl⟩
  obtain⟨tk,etk⟩:=etk
  rw[<-etk]
  have ey:y=u:=by
   have hy':its[i]?=some y:=by simpa using hy
   rw[hu]at hy'
   exact (qaW hy').symm
  subst ey
  refine W.go elts k pos i T _ _ _ hm λh2 hst kk2=>?_
  have nT:T∉[e,it]:=W.apart i T _ hm
  refine⟨.ref T,upd H T (.tup [.int i,x]),?_,rfl,⟨T,x,λys hy=>by rw[I.list_inj hy hq];exact hx,I.hok.fresh hT,rfl,rfl⟩,⟨hst.1,hst.2.1⟩,λb hb=>?_⟩
  ·have ht2:eS h2 T #[.int i t,y]:=⟨_,kk2 T _ nT ht,rfl,⟨_,rfl⟩,rfl⟩
   have I2:Inv X pins σ (upd H T (.tup [.int i,x])) { s with heap:=h2,toks:=tk }:=
    I.turnsT (fp:=[e,it]) (h':=h2) (t':=tk) (its:=#[.int i t,y]) hf (λb o hb q=>kk2 b o hb (kk b o hb q)) hT ht2 (.cons ⟨t,rfl⟩ (.cons ru .nil)) (by show 2<=qaN;decide)
   exact I2
  ·rw[upd_ne (show b≠T from λz=>nT (z ▸ hb))]
   exact (hf b hb).1
 done:=by
  intro X hP hw hK hc i pins s σ H E I hf st hg
  subst hP hw hK
  obtain⟨xs,hq,hx⟩:=hg
  obtain⟨its,rv,p,hz⟩:=I.list hq
  have hl:=rv.length
  have hx':its.toArray[i]?=none:=by simp;lia
  obtain⟨⟨old,he⟩,hit⟩:=st
  -- the end at place i
  obtain⟨f0,f1,f2,f3,f4,f5⟩:=hf e (by simp)
  refine wpAny_pyNext_enum_end (I.ok.hd hc) he hit p.isList hx' λh' eb=>⟨rfl,?_⟩
  exact I.turns (t':=s.toks) (fp:=[e,it]) hf λb o hb q=>eb b o (by simp at hb;exact hb.2) q
 self:=λ_ _ _ _ _ st h=>let ⟨⟨_,he⟩,_⟩:=st;qdE he h
theorem uc {P:qa1}{w:World}{K:qac}{elts:List Expr}{k:Nat}{pos:Pos} (a it e:Addr) (hei:e≠it) (hae:a≠e) (hai:a≠it) :
  uw P w K (.Tuple elts k pos) (Ite λH xs=>SqT K H a xs) [e,it] e (λi h=>(∃ old,IsEnum h e it i old)/\h.IsTupleIter it a i) where
 mem:=by simp
 obj:=λi h st b hb=>by
  rcases qar.mp hb with rfl|hb
  ·obtain⟨⟨old,q⟩,_⟩:=st
   exact⟨_,q,λv z=>by cases z⟩
  ·rw[qag.mp hb]
   obtain⟨_,o,e,c,d⟩:=st
   exact⟨o,e,λv z=>by rw[d]at z;cases z⟩
 keep:=λi h h' st kk=>⟨let ⟨old,q⟩:=st.1;⟨old,kk e (by simp) _ q⟩,st.2.at λo q=>kk it (by simp) o q⟩
 item:=by
  intro X hP hw hK hc i pins s σ H E I hf st hg
  subst hP hw hK
  obtain⟨xs,x,hq,hx⟩:=hg
  obtain⟨its,rv,p,hz⟩:=I.tuple hq
  obtain⟨u,hu,ru⟩:=rv.get hx
  have W:=qea (jw (prog:=X.prog) (w:=X.w) (A:=X.A.in1) (I.ok.hd hc) it a hai its.toArray) e hei (by simp[hei,qbu hae]) (by simp)
  have hi:i<its.toArray.size:=by
   have:=(qao.mp hu).1
   simpa using this
  obtain⟨⟨ol,he0⟩,hit0⟩:=st
  refine qfJ (jw (prog:=X.prog) (w:=X.w) (A:=X.A.in1) (I.ok.hd hc) it a hai its.toArray) he0 ⟨hit0,p⟩ hi hei (by simp[hei,qbu hae]) λy h1 t hy ho hs' ht hsz hk=>⟨_,rfl,?_⟩
  have hm:(λ(i:Nat) (T:Addr) (h:Heap)=>(∃ x,IsEnumOut h e it ((i:Int)+1) x T)/\_/\T≠e/\T≠it) i s.heap.objs.size h1:=⟨⟨_,ho⟩,hs',qb2 (qaz he0),qb2 (let ⟨_,q,_⟩:=hit0;qaz q)⟩
  have kk:∀ b o,b∉[e,it]->s.heap.get? b=some o->h1.get? b=some o:=λb o hb q=>hk b o (λz=>hb (by simp[z])) (λz=>hb (by simp[z])) q
  generalize eT:s.heap.objs.size=T at ht ho hm ⊢
  have hT:s.heap.objs.size<=T:=qcA eT
  have etk:∃ tk,tk=t+1:=⟨_,rfl⟩
  obtain⟨tk,etk⟩:=etk
  rw[<-etk]
  have ey:y=u:=by
   have hy':its[i]?=some y:=by simpa using hy
   rw[hu]at hy'
   exact (qaW hy').symm
  subst ey
  refine W.go elts k pos i T _ _ _ hm λh2 hst kk2=>?_
  have nT:T∉[e,it]:=W.apart i T _ hm
  refine⟨.ref T,upd H T (.tup [.int i,x]),?_,rfl,⟨T,x,λys hy=>by rw[I.tuple_inj hy hq];exact hx,I.hok.fresh hT,rfl,rfl⟩,⟨hst.1,hst.2.1⟩,λb hb=>?_⟩
  ·have ht2:eS h2 T #[.int i t,y]:=⟨_,kk2 T _ nT ht,rfl,⟨_,rfl⟩,rfl⟩
   have I2:Inv X pins σ (upd H T (.tup [.int i,x])) { s with heap:=h2,toks:=tk }:=
    I.turnsT (fp:=[e,it]) (h':=h2) (t':=tk) (its:=#[.int i t,y]) hf (λb o hb q=>kk2 b o hb (kk b o hb q)) hT ht2 (.cons ⟨t,rfl⟩ (.cons ru .nil)) (by show 2<=qaN;decide)
   exact I2
  ·rw[upd_ne (show b≠T from λz=>nT (z ▸ hb))]
   exact (hf b hb).1
 done:=by
  intro X hP hw hK hc i pins s σ H E I hf st hg
  subst hP hw hK
  obtain⟨xs,hq,hx⟩:=hg
  obtain⟨its,rv,p,hz⟩:=I.tuple hq
  have hl:=rv.length
  have W:=qea (jw (prog:=X.prog) (w:=X.w) (A:=X.A.in1) (I.ok.hd hc) it a hai its.toArray) e hei (by simp[hei,qbu hae]) (by simp)
  have hi:i=its.toArray.size:=by simp;lia
  subst hi
  refine W.done s _ _ ⟨st.1,st.2,p⟩ λh' tk kk=>⟨rfl,I.turns (fp:=[e,it]) hf kk⟩
 self:=λ_ _ _ _ _ st h=>let ⟨⟨_,he⟩,_⟩:=st;qdE he h
end L2
namespace L2
open PySem PySem.Spec PyProof.Rows
section
variable {X:Cx}
def Bc (K:qac) (ta:TA):TI:=λσ H R=>ta σ H λvs H1=>∃ a,vs=[.ref a]/\(∃ xs,SqL K H1 a xs)/\R (Ite λH xs=>SqL K H a xs) H1
theorem xM {elts:List Expr}{k:Nat}{tpos:Pos}{a:Expr}{ta:TA}{p pos:Pos} (hg:Gl X "enumerate") (hm:X.mg "enumerate" = none) (ha:PA X [a] ta) (hs:qbk [a] X.env=[(false,eval a X.env)]:=by rfl) :
  PI X (.Tuple elts k tpos) (.Call (.Name "enumerate" p) [a] [] pos) (Bc X.K ta):=by
 intro pins s σ H R I h
 refine Call_ (kC I hg hm qig (qbL (thn (ha pos pins s σ H _ I h) λus s1 ⟨vs,H1,I1,r1,q1⟩=>?_) hs rfl))
 obtain⟨l,e,⟨xs,hq⟩,q⟩:=q1
 subst e
 cases r1 with
 |cons r rr=>
  cases rr
  cases r
  obtain⟨its,rv,p',hz⟩:=I1.list hq
  refine call_enumerate_list p'.isList λh' he hit hsz hk=>qdE he ?_
  have hlt:l<s1.heap.objs.size:=by obtain⟨_,_,e,_⟩:=p';exact qaz e
  refine⟨_,[s1.heap.objs.size+1,s1.heap.objs.size],_,_,H1,rfl,I1.kept (t':=s1.toks) hk,sU l s1.heap.objs.size (s1.heap.objs.size+1) (qgr _) (qaO (qbn hlt)) (qaO hlt),⟨⟨_,he⟩,hit⟩,λb hb=>?_,q⟩
  have hb':s1.heap.objs.size<=b:=by
   rcases qar.mp hb with e|hb
   ·rw[e];exact qdx _
   ·rw[qag.mp hb];exact qal _
  exact I1.fpOk hb' (I1.hok.fresh hb')
def Ak (K:qac) (ta:TA):TI:=λσ H R=>ta σ H λvs H1=>∃ a,vs=[.ref a]/\(∃ xs,SqT K H1 a xs)/\R (Ite λH xs=>SqT K H a xs) H1
theorem xC {elts:List Expr}{k:Nat}{tpos:Pos}{a:Expr}{ta:TA}{p pos:Pos} (hg:Gl X "enumerate") (hm:X.mg "enumerate" = none) (ha:PA X [a] ta) (hs:qbk [a] X.env=[(false,eval a X.env)]:=by rfl) :
  PI X (.Tuple elts k tpos) (.Call (.Name "enumerate" p) [a] [] pos) (Ak X.K ta):=by
 intro pins s σ H R I h
 refine Call_ (kC I hg hm qig (qbL (thn (ha pos pins s σ H _ I h) λus s1 ⟨vs,H1,I1,r1,q1⟩=>?_) hs rfl))
 obtain⟨l,e,⟨xs,hq⟩,q⟩:=q1
 subst e
 cases r1 with
 |cons r rr=>
  cases rr
  cases r
  obtain⟨its,rv,p',hz⟩:=I1.tuple hq
  refine jJ p' λh' he hit hsz hk=>qdE he ?_
  have hlt:l<s1.heap.objs.size:=by obtain⟨_,e,_⟩:=p';exact qaz e
  refine⟨_,[s1.heap.objs.size+1,s1.heap.objs.size],_,_,H1,rfl,I1.kept (t':=s1.toks) hk,uc l s1.heap.objs.size (s1.heap.objs.size+1) (qgr _) (qaO (qbn hlt)) (qaO hlt),⟨⟨_,he⟩,hit⟩,λb hb=>?_,q⟩
  have hb':s1.heap.objs.size<=b:=by
   rcases qar.mp hb with e|hb
   ·rw[e];exact qdx _
   ·rw[qag.mp hb];exact qal _
  exact I1.fpOk hb' (I1.hok.fresh hb')
theorem tZ {ns:List Int}:∀ {us:List Value},aU (ns.map V.int) us->∃ xs:Array (Int×Tok),us.toArray=intItems xs/\xs.toList.map (·.1)=ns:=by
 induction ns with
 |nil=>intro us r;cases r;exact⟨#[],by simp[intItems],rfl⟩
 |cons n ns ih=>
  intro us r
  rw[qaB]at r
  cases r with
  |cons r rr=>
   obtain⟨t,rfl⟩:=r
   obtain⟨xs,e,e2⟩:=ih rr
   refine⟨#[(n,t)]++xs,?_,by simp[e2]⟩
   apply Array.toList_inj.mp
   have e':=congrArg qfk e
   simp[intItems]at e' ⊢
   exact e'
theorem xb:dm X (.builtin "sum") (λxs H Q=>X.calm=true/\∃ (a:Addr) (ns:List Int),xs=[.ref a]/\SqL X.K H a (ns.map V.int)/\Q (.int ns.sum) H):=by
 intro pins s σ H xs us Q I rv h
 obtain⟨hc,a,ns,rfl,hq,q⟩:=h
 cases rv with
 |cons r rr=>
  cases rr
  cases r
  obtain⟨its,rv,p,hz⟩:=I.list hq
  obtain⟨ps,e1,e2⟩:=tZ rv
  have hl:=p.isList
  rw[e1]at hl
  refine sum_intListG (I.ok.hd hc) hl λh' tk t' hk=>?_
  refine⟨.int ns.sum,H,I.kept (t':=tk) hk,⟨t',?_⟩,q⟩
  rw[preSum_eq,qca (by simp),e2]
theorem wn:dm X (.builtin "all") (λxs H Q=>X.calm=true/\∃ (a:Addr) (bs:List Bool),xs=[.ref a]/\SqL X.K H a (bs.map V.bl)/\Q (.bl (bs.all id)) H):=by
 intro pins s σ H xs us Q I rv h
 obtain⟨hc,a,bs,rfl,hq,q⟩:=h
 cases rv with
 |cons r rr=>
  cases rr
  cases r
  obtain⟨its,rv,p,hz⟩:=I.list hq
  have hlt:a<s.heap.objs.size:=by obtain⟨_,_,e,_⟩:=p;exact qaz e
  have hlen:its.length=bs.length:=by have:=rv.length;simpa using this.symm
  refine call_all_walk (qdD p.isList ?_)
  refine⟨s.heap.objs.size,_,_,_,_,_,λi=>(bs[i]?).getD true,rfl,qhd (A:=X.A.in1) (I.ok.hd hc) s.heap.objs.size a (qaO hlt) its.toArray,⟨⟨_,qaE _ rfl,rfl,rfl⟩,p.isList.push _⟩,?_,λh' tk hk=>?_⟩
  ·intro i v s' Q' E' hv hQ'
   have hv':its[i]?=some v:=by simpa using hv
   have hi:i<its.length:=(qao.mp hv').1
   obtain⟨b,hb⟩:∃ b,bs[i]?=some b:=⟨bs[i]'(by lia),by simp[show i<bs.length by lia]⟩
   have:(bs.map V.bl)[i]?=some (.bl b):=by rw[qaS,hb];rfl
   obtain⟨u,hu,ru⟩:=rv.get this
   rw[hv']at hu
   cases hu
   cases ru
   have hQ2:Q' ((bs[i]?).getD true) s':=hQ'
   rw[hb]at hQ2
   exact qcs hQ2
  ·refine⟨.bl (bs.all id),H,I.kept (t':=tk) (λb o e=>hk b o (λz=>absurd (qaz e) (by rw[qag.mp z];exact qaX _)) (qai _ e)),?_,q⟩
   show Value.bool _=Value.bool _
   congr 1
   have:∀ n,n=bs.length->((qah n).all λi=>(bs[i]?).getD true)=bs.all id:=by
    intro n hn
    rw[qbK,qa9,qa9]
    constructor
    ·intro h b hb
     obtain⟨i,hi,e⟩:=qdO.mp hb
     have:=h i (qaG.mpr (by lia))
     simp[hi,e]at this
     exact this
    ·intro h i hi
     have hi':=qaG.mp hi
     have hlt':i<bs.length:=by lia
     simp[hlt']
     exact h _ (qcV _)
   exact this _ (by simpa using hlen)
end
def gI (k:Nat) (js:List Nat) (σ:St):St:=qaC k none++js.map λj=>(σ[j]?).getD none
def BY (scope:Scope) (ns:List (Str×qbP)) (N Nc:List Str) (k:Nat) (js:List Nat):Bool:=
 decide ((scope.names.map (·.1)).Nodup)&&decide Nc.Nodup&&decide (Nc.length=k+js.length) &&
 (scope.names.all λx=>x.2 != .free||ns.lookup x.1==some .cell||ns.lookup x.1==some .free) &&
 ((qah js.length).all λi=>match Nc[k+i]?,js[i]? with|some x,some j=>N[j]?==some x&&scope.names.lookup x==some .free|_,_=>false)
theorem cY {X:Cx}{scope:Scope} (ns:List (Str×qbP)) (N Nc:List Str) (k:Nat) (js:List Nat) (hns:X.env.scope.names=ns) (hN:X.N=N) (hk:scope.kind=.function) (h:BY scope ns N Nc k js=true):fU X scope Nc (gI k js):=by
 unfold BY at h
 simp only[qaR,decide_eq_true_eq]at h
 obtain⟨⟨⟨⟨h1,h2⟩,h3⟩,h4⟩,h5⟩:=h
 refine⟨hk,h1,h2,λx hx hf=>?_,λσ _=>?_,λσ _ i x v e1 e2=>?_⟩
 ·have:=qa9.mp h4 x hx
  rw[hf]at this
  simp only[qgw,beq_iff_eq,bne_self_eq_false,qbw,false_or]at this
  unfold Env.kindOf
  rw[hns]
  exact this
 ·unfold gI
  rw[qan,qch,qam,h3]
 ·unfold gI at e2
  by_cases hi:i<k
  ·rw[qaF (by simpa using hi),qcH,if_pos hi]at e2
   cases e2
  ·rw[qaI (by simpa using hi),qch,qaS]at e2
   cases ej:js[i - k]? with
   |none=>rw[ej]at e2;cases e2
   |some j=>
    rw[ej]at e2
    have hlt:=(qao.mp ej).1
    have:=qa9.mp h5 (i - k) (qaG.mpr hlt)
    rw[show k+(i - k)=i by lia,e1,ej]at this
    simp only[qaR,beq_iff_eq]at this
    refine⟨j,by rw[hN];exact this.1,?_,this.2⟩
    have e3:(σ[j]?).getD none=some v:=qaW e2
    cases eq:σ[j]? with
    |none=>rw[eq]at e3;cases e3
    |some o=>rw[eq]at e3;rw[show o=some v from e3]
section
variable {σe tl:St}{tt:TT}{te:TE}{H:Hp}{Q:VK}
end
section
variable {X:Cx}
theorem yw:OpR X (qbC .Mult) (rI qfZ λi j=>.int (i*j)):=opI λ_ _ _ _ _ _ _ hc q=>mul_int q hc
end
theorem bx.new {H:Hp}{p:Addr} (h:H p=none) (o:HO):bx H (upd H p o):=λb u q=>by rw[upd_ne (aT q h)];exact q
theorem qg {n:Nat} (h:n<=1000):n<=qaN:=qew (vM h)
theorem p18:sv 10 18:=⟨by decide,by decide,by decide⟩
end L2
namespace L2
open PySem PySem.Spec PyProof.Rows
open PySem.AutoSeq1 (wpAny_loadPart')
theorem xP (l:Addr) (items:Array Value) (n:Nat) (dct:Option Addr) (sl:Array (Option Value)) (u:Tok) :
  Meets (qgG.«tuple.__mul__» ⟨[.ref l,.int 1 u],[]⟩) (λ_ R s=>s.heap.get? l=some { cls:=.type "tuple",dict:=dct,data:=.seq items n,slots:=sl }/\R (.ok (.ret (.ref l))) s):=
 .of_wp λprog w A R s h=>by
  obtain⟨hp,g,d,tk,os⟩:=s;obtain⟨hl,h⟩:=h
  wp_walk using wpAny_loadPart' hl
  exact⟨_,rfl,h⟩
theorem vA (l:Addr) (items:Array Value) (n:Nat) (dct:Option Addr) (sl:Array (Option Value)) (x:Int) (u:Tok) (h2:2<=x) (h3:x<1000) (he:items.isEmpty=false) (hz:items.size<=1000)
  (hsz:((qaC x.toNat items).foldl (λx1 x2=>x1++x2) #[]).size<=qaN) :
  Meets (qgG.«tuple.__mul__» ⟨[.ref l,.int x u],[]⟩) (λ_ R s=>s.heap.get? l=some { cls:=.type "tuple",dict:=dct,data:=.seq items n,slots:=sl }/\
   R (.ok (.ret (.ref s.heap.objs.size))) { s with heap:=s.heap.push { cls:=.type "tuple",data:=.seq ((qaC x.toNat items).foldl (λx1 x2=>x1++x2) #[]) } }):=
 .of_wp λprog w A R s h=>by
  obtain⟨hp,g,d,tk,os⟩:=s;obtain⟨hl,h⟩:=h
  have c1:(x < -(2^63)||x>=2^63)=false:=by simp;lia
  have c2:(items.isEmpty||x==1)=false:=by rw[he];simp;lia
  have c3:(x<=0||items.isEmpty)=false:=by rw[he];simp;lia
  have hpr:(items.size:Int)*x<=1000000:=by
   have a1:(items.size:Int)*x<=1000*x:=qcT (by lia) (by lia)
   lia
  have c4:¬ ((items.size:Int)*x > (2^63 - 1) / 8):=by lia
  have c5:qdX ((items.size:Int)*x)=false:=by
   unfold qdX
   exact decide_eq_false (by have:(qaN:Nat)=16777216:=rfl
                             lia)
  wp_walk using wpAny_loadPart' hl
  refine qdY (decide_eq_false (by rw[c1];exact qax)) ?_
  wp_walk using wpAny_loadPart' hl
  refine qdY (decide_eq_false (by rw[c2];exact qax)) ?_
  wp_walk using wpAny_loadPart' hl
  refine qdY (decide_eq_false (by rw[c3];exact qax)) ?_
  wp_walk using wpAny_loadPart' hl
  refine qdY (decide_eq_false c4) ?_
  wp_walk using wpAny_loadPart' hl
  exact⟨_,rfl,h⟩
theorem lv:fillsNumberSlot (.type "tuple") "mul" = pure false:=
 PySem.fillsNumberSlot_seq (id:="tuple.__mul__") (r:=some (.builtin "tuple.__rmul__")) qdG.lookup (by decide +kernel) qgC.lookup (by decide +kernel)
theorem pw:seqRepeat? (.type "tuple")=pure (some (.builtin "tuple.__mul__")):=by
 unfold seqRepeat?
 rw[qf6 (T:="tuple") (name:="__mul__") (id:="tuple.__mul__") qdG.lookup (by decide +kernel),qf6 (T:="tuple") (name:="__rmul__") (id:="tuple.__rmul__") qgC.lookup (by decide +kernel)]
 rfl
theorem nu (a:Int) (t:Tok) (l:Addr) (items:Array Value) (n:Nat) (dct:Option Addr) (sl:Array (Option Value)) :
  Meets (qgG.«int.__rmul__» ⟨[.int a t,.ref l],[]⟩) (λ_ R s=>s.heap.get? l=some { cls:=.type "tuple",dict:=dct,data:=.seq items n,slots:=sl }/\R (.ok (.ret Value.notImplemented)) s):=
 .of_wp λprog w A R s h=>by obtain⟨hp,g,d,tk,os⟩:=s;obtain⟨hl,h⟩:=h;wp_walk using wpAny_loadPart' hl;exact⟨_,rfl,h⟩
section
variable {X:Cx}
def Bl (K:qac):R2:=λx y H Q=>∃ l k xs,x=.ref l/\y=.int k/\SqT K H l xs/\xs≠[]/\xs.length<=1000/\1<=k/\k<1000/\(k=1->Q (.ref l) H)/\
 (k≠1->∀ p,H p=none->Q (.ref p) (upd H p (.tup (qaC k.toNat xs).flatten)))
theorem y4:OpR X (qbC .Mult) (Bl X.K):=by
 intro pins s σ H x y v u Q I rx ry h
 obtain⟨l,k,xs,rfl,rfl,hq,hne,hl1,h1,h2,q1,q2⟩:=h
 cases rx
 obtain⟨t,rfl⟩:=ry
 obtain⟨its,rv,p,hz⟩:=I.tuple hq
 obtain⟨⟨c,dct,dt,sl⟩,e,hc,n,hd⟩:=p
 replace hc:c=.type "tuple":=hc
 replace hd:dt=.seq its.toArray n:=hd
 subst hc hd
 have hlen:=rv.length
 refine qfs (T:="tuple") (U:="int") (by decide) ⟨_,e,rfl⟩ (λs'=>qeQ s' k t) lv qg6 qdS pw qgN.lookup
  (qcX qdS (qeQ s k t) qgP (qgF _ _) (nu k t l its.toArray n dct sl) ⟨e,rfl,⟨_,e,rfl⟩,?_⟩)
 by_cases hk:k=1
 ·subst hk
  exact qcX qdG ⟨_,e,rfl⟩ qgD (qgv _ _) (xP l its.toArray n dct sl t) ⟨e,.ref l,H,I,rfl,q1 rfl⟩
 ·have f0:qe8 (λx1 x2=>x1++x2) #[] (qaC k.toNat its.toArray)=(qaC k.toNat its).flatten.toArray:=by
   have:=lA its k.toNat []
   rw[qcg]at this
   exact this
  have hsz:(qaC k.toNat xs).flatten.length<=qaN:=by
   rw[px]
   have:k.toNat*xs.length<=1000*1000:=qcQ (by lia) hl1
   have hs:qaN=16777216:=rfl
   lia
  have hsz2:(qaC k.toNat its).flatten.length<=qaN:=by
   rw[px]at hsz ⊢
   rw[<-hlen];exact hsz
  refine qcX qdG ⟨_,e,rfl⟩ qgD (qgv _ _) (vA l its.toArray n dct sl k t (by lia) h2 ?_ (by rw[qay];lia) (by rw[f0,qay];exact hsz2)) ⟨e,?_⟩
  ·cases its with
   |nil=>cases xs with
    |nil=>exact absurd rfl hne
    |cons _ _=>cases hlen
   |cons _ _=>rfl
  ·rw[f0]
   refine⟨.ref _,_,I.laid (t':=s.toks) (o:=.tup (qaC k.toNat xs).flatten) (λ_ _ q=>qai _ q) (qal _) ⟨hsz,(qaC k.toNat its).flatten,rv.rep k.toNat,⟨_,qaE _ rfl,rfl,⟨0,rfl⟩,rfl⟩⟩,rfl,q2 hk _ I.fresh⟩
end
end L2
namespace L2
open PySem PySem.Spec PyProof.Rows
section
variable {X:Cx}{K:qac}
theorem BP (hc:X.calm=true:=by rfl) (hK:X.K=K:=by rfl):dm X (.builtin "sum") (λxs H Q=>∃ (a:Addr) (ns:List Int),xs=[.ref a]/\SqL K H a (ns.map V.int)/\Q (.int ns.sum) H):=by
 subst hK
 intro pins s σ H xs us Q I rv h
 exact xb pins s σ H xs us Q I rv ⟨hc,h⟩
theorem BG (hc:X.calm=true:=by rfl) (hK:X.K=K:=by rfl):dm X (.builtin "all") (λxs H Q=>∃ (a:Addr) (bs:List Bool),xs=[.ref a]/\SqL K H a (bs.map V.bl)/\Q (.bl (bs.all id)) H):=by
 subst hK
 intro pins s σ H xs us Q I rv h
 exact wn pins s σ H xs us Q I rv ⟨hc,h⟩
end
section
variable {X:Cx}
end
theorem fV {n j:Nat} (h:j<n):ixN n (j:Int)=some j:=by
 unfold ixN
 rw[if_pos (by lia),if_pos (by lia),qbZ]
theorem Inv.bigG {X:Cx}{pins:List (Addr×Obj)}{σ:St}{H:Hp}{s:qak} (I:Inv X pins σ H s):qfB<s.heap.objs.size:=by
 have h:qat<s.heap.objs.size:=(I.mod.glob.keeps I.bk).lt
 exact qdJ (by decide) h
section
variable {X:Cx}{e:Expr}{ty:TE}{p1 p2 p3 p4 dpos apos cpos:Pos}{j1 j2 j3 j4:Nat}
end
end L2
namespace L2
open PySem PySem.Spec PyProof.Rows
open PySem.AutoSeq1 (wpAny_loadPart')
section
variable {prog:qa1}{w:World}{A:qa8}{E:Value->qak->Prop}{s:qak}
end
section
variable {X:Cx}
theorem yH:dm X (.type "range") (λxs H Q=>∃ j:Int,xs=[.int j]/\∀ p,H p=none->Q (.ref p) (upd H p (.rng 0 j))):=by
 intro pins s σ H xs us Q I rv h
 obtain⟨j,rfl,q⟩:=h
 cases rv with
 |cons r rr=>
  cases rr
  obtain⟨t,rfl⟩:=r
  exact call_range_1 ⟨.ref _,_,I.laid (o:=.rng 0 j) (λ_ _ q=>qai _ q) (qal _) ⟨_,_,_,qaE _ rfl⟩,rfl,q _ I.fresh⟩
end
section
variable {prog:qa1}{w:World}{A:qa8}{E:Value->qak->Prop}{s:qak}
theorem w6 (l:List Value):((qah l.length).filterMap λ(m:Nat)=>l.toArray[((l.length:Int) - 1+(m:Int)*(-1)).toNat]?)=l.reverse:=by
 have e:∀ k,k<=l.length->((qah k).filterMap λ(m:Nat)=>l.toArray[((l.length:Int) - 1+(m:Int)*(-1)).toNat]?)=l.reverse.take k:=by
  intro k
  induction k with
  |zero=>intro _;rfl
  |succ k ih=>
   intro hk
   have hi:((l.length:Int) - 1+(k:Int)*(-1)).toNat=l.length - 1 - k:=by lia
   have hlt:l.length - 1 - k<l.length:=by lia
   rw[qeJ,List.filterMap_append,ih (by lia),List.take_add_one]
   congr 1
   rw[List.getElem?_reverse (by lia)]
   show List.filterMap (λm:Nat=>l.toArray[((l.length:Int) - 1+(m:Int)*(-1)).toNat]?) [k]=_
   rw[qc4,hi]
   simp[hlt]
 rw[e _ (qal _),qca (by simp)]
theorem kR {t sl:Addr}{items:List Value}{tk:Tok}{Q:Value->qak->Prop} (ht:IsTup s.heap t items.toArray) (hs:s.heap.IsSliceOf sl .none .none (.int (-1) tk))
  (h:Q (.ref s.heap.objs.size) { s with heap:=s.heap.push { cls:=.type "tuple",data:=.seq items.reverse.toArray } })
  (hsz:items.length<=qaN):wpAny (model prog w) A (qd2 (.ref t) (.ref sl)) Q E s:=by
 obtain⟨os,hos,hcs,hds⟩:=id hs
 have hTs:s.TypeIs (.ref sl) "slice":=⟨os,hos,hcs⟩
 unfold qd2
 try with_reducible refine qcK ?_
 first|refine qae (qaq ?_)|skip
 refine qae (qeP ht.typeIs (by decide) ?_)
 refine qae (qbF (name:=qcR "__getitem__") ht.typeIs qa0
  (qcd qa0 ht.typeIs qen ?_ (qeD _ _)))
 show wpAny _ _ (qcP (.ref t) >>= _) _ _ s
 refine qae (qfK ht ?_)
 refine qae (qeX hTs ?_)
 rw[if_pos (by decide)]
 have happ:wpAny (model prog w) A.in1 (qb8 (.ref sl) (pure (items.toArray.size:Int))) (λx s'=>x=((items.length:Int) - 1,-1,items.length)/\s'=s) E s:=by
  unfold qb8 qd9
  refine qae (qae (qby hos hds (x:=.none) rfl (qae (qby hos hds (x:=.none) rfl (qae (qby hos hds (x:=.int (-1) tk) rfl (qaq ?_)))))))
  refine qae (slicePart_int ?_)
  show wpAny _ _ (if ((-1:Int)==0)=true then _ else _) _ _ s
  rw[if_neg (by decide)]
  refine qae (qej (qae (qej (qae (qaq ?_)))))
  refine qaq ⟨?_,rfl⟩
  show ((items.toArray.size:Int) - 1,(-1:Int),qbs ((items.toArray.size:Int) - 1) (-1) (-1))=_
  rw[qay]
  have:qbs ((items.length:Int) - 1) (-1) (-1)=items.length:=by
   unfold qbs
   rw[if_neg (by decide),show (-(-1:Int))=1 from rfl,qhZ]
   split<;>lia
  rw[this]
 refine qae (qct happ (λx s' hx=>?_) λ_ _ e=>e)
 obtain⟨rfl,rfl⟩:=hx
 have hno:¬ ((((items.length:Int) - 1)==0&&(-1:Int)==1&&items.length==items.toArray.size)=true):=by
  intro q
  rw[qaR,qaR]at q
  exact absurd q.1.2 (by decide)
 show wpAny _ _ (if (((items.length:Int) - 1)==0&&(-1:Int)==1&&items.length==items.toArray.size)=true then _ else _) _ _ _
 rw[if_neg hno]
 have hp:=w6 items
 have htake:sizeOk (.seq items.reverse.toArray):=by
  show items.reverse.toArray.size<=qaN
  rw[qay,qdW]
  exact hsz
 rw[hp]
 first
  |exact qae (m:=qbm _) (qbq (qaq ⟨_,rfl,qaq h⟩) htake)
  |exact qae (m:=qbm _) (qbq (qae (qaq (qaq ⟨_,rfl,qaq h⟩))) htake)
  |exact qae (qae (m:=qbm _) (qbq (qaq (qaq ⟨_,rfl,qaq h⟩)) htake))
  |exact qae (qae (m:=qbm _) (qbq (qaq ⟨_,rfl,qaq h⟩) htake))
end
section
variable {X:Cx}{e:Expr}{te:TE}{p1 p2 p3 pos:Pos}{j:Nat}
def CV (K:qac) (te:TE):TE:=λσ H Q=>te σ H λx H1=>∃ a xs,x=.ref a/\SqT K H1 a xs/\∀ p,H1 p=none->Q (.ref p) (upd H1 p (.tup xs.reverse))
theorem aU.rev:∀ {xs:List V}{us:List Value},aU xs us->aU xs.reverse us.reverse
 |_,_,.nil=>.nil
 |_,_,.cons r t=>by rw[qdp,qdp];exact aU.append (aU.rev t) (.cons r .nil)
theorem Ax (K:qac) (he:PE X e te) (hK:X.K=K:=by rfl):PE X (.Subscript e (.Slice none none (some (.UnaryOp .USub (.Constant (.int 1) j p1) p2)) p3) pos) (CV K te):=by
 subst hK
 intro pins s σ H Q I h
 refine qgZ (thn (he pins s σ H _ I h) λv s1 ⟨x,H1,I1,r1,a,xs,ex,hx,q1⟩=>?_)
 subst ex
 cases r1
 refine wpAny_Slice ?_
 rw[qfO]
 refine qaq (qaq ?_)
 rw[evalPart_some]
 refine thn ((zo wG xJ:PE X (.UnaryOp .USub (.Constant (.int 1) j p1) p2) _) pins s1 σ H1 (λy H2=>y=.int (-1)/\H2=H1) I1 ⟨1,rfl,rfl,rfl⟩) λu s2 ⟨y,H2,I2,r2,ey,eH⟩=>?_
 subst ey eH
 obtain⟨tk,rfl⟩:=r2
 have I4:Inv X pins σ H2 { s2 with heap:=s2.heap.push { cls:=.type "slice",data:=.fields #[.none,.none,.int (-1) tk] } }:=I2.kept (t':=s2.toks) λb ob q=>qai _ q
 obtain⟨its,rv,ht,hz⟩:=I4.tuple hx
 have hl:=rv.length
 show wpAny (model X.prog X.w) X.A (qfL e (.Slice none none (some (.UnaryOp .USub (.Constant (.int 1) j p1) p2)) p3) (.ref a) (.ref s2.heap.objs.size)) (EP X pins σ Q) X.xe { s2 with heap:=s2.heap.push { cls:=.type "slice",data:=.fields #[.none,.none,.int (-1) tk] } }
 refine tail_any (ops:=[.ref a,.ref s2.heap.objs.size]) ht.typeIs qa0.lookup ?_ (by with_unfolding_all rfl)
 refine kR ht (qeG ..) ?_ (by lia)
 exact⟨.ref _,_,I4.laid (t':=s2.toks) (o:=.tup xs.reverse) (λb ob q=>qai _ q) (qal _) ⟨by rw[qdW];exact hz,_,aU.rev rv,eS.new _ _⟩,rfl,q1 _ I4.fresh⟩
end
end L2
namespace L2
open PySem PySem.Spec PyProof.Rows
theorem aU.at {xs:List V}{us:List Value} (r:aU xs us):∀ (j:Nat) (h:j<us.length) ,∃ h':j<xs.length,bK xs[j] us[j]:=by
 induction r with
 |nil=>intro j h;exact absurd h (qc5 j)
 |cons a t ih=>
  intro j h
  cases j with
  |zero=>exact⟨Nat.zero_lt_succ _,a⟩
  |succ j=>
   obtain⟨h1,r1⟩:=ih j (Nat.lt_of_succ_lt_succ h)
   exact⟨Nat.succ_lt_succ h1,r1⟩
theorem mP (e:Nat->Bool) (n:Nat):(qah (n+1)).all e=(e 0&&(qah n).all λj=>e (j+1)):=by
 rw[qcb,qbp,qg4];rfl
section
variable {X:Cx}{K:qac}{pins:List (Addr×Obj)}{σ:St}{H:Hp}{s:qak}{A:qa8}{a b:Addr}{xs ys:List V}
end
section
variable {X:Cx}{pos p1 p2:Pos}{j1 j2:Nat}
def tD0:TE:=λ_ H Q=>∀ p,H p=none->Q (.ref p) (upd H p (.dT []))
theorem Cd:PE X (.Dict [] [] pos) tD0:=λpins s σ H Q I h=>
 wpAny_Dict_empty ⟨.ref s.heap.objs.size,_,I.laid (a:=s.heap.objs.size) (o:=.dT []) (t':=s.toks) (λ_ _ q=>qai _ q) (qal _)
  ⟨qb5 _,beq_eq_false_iff_ne.mpr (qbu (qaO I.bigG)),[],.nil,_,#[],0,qaE _ rfl,⟨rfl,rfl,rfl⟩,rfl,rfl,qcN⟩,rfl,h _ (I.hok.fresh (qal _))⟩
def tD1 (k v:Int):TE:=λ_ H Q=>∀ p,H p=none->Q (.ref p) (upd H p (.dK [(.inl k,.int v)]))
theorem B7 {k v:Int}:PE X (.Dict [some (.Constant (.int k) j1 p1)] [.Constant (.int v) j2 p2] pos) (tD1 k v):=by
 intro pins s σ H Q I h
 refine wpAny_Dict_walk (knd:=kQ X.prog X.w) rfl rfl (by simp) (by simp) ?_
 refine pairTrees_cons_walk (qeC (qeC (pairTrees_nil_walk ?_)))
 refine⟨[(.inl k,_)],⟨by simp[kQ,xj,qgY],rfl,trivial⟩,qia s.heap,λh' dd hs=>?_⟩
 have hk:∀ b o,s.heap.get? b=some o->h'.get? b=some o:=λb o q=>(hs.2 b (qaO (qaz q))).trans (qai _ q)
 refine⟨.ref s.heap.objs.size,_,I.laid (a:=s.heap.objs.size) (o:=.dK [(.inl k,.int v)]) hk (qal _) ?_,rfl,h _ (I.hok.fresh (qal _))⟩
 exact⟨by show 1<=qaN;decide,beq_eq_false_iff_ne.mpr (qbu (qaO I.bigG)),_,.cons ⟨rfl,_,rfl⟩ .nil,dd⟩
end
section
variable {K:qac}{H:Hp}
end
section
variable {X:Cx}{K:qac}
end
end L2
namespace HT
open PySem PySem.Spec PyProof.Rows L2
section
variable {prog:qa1}{w:World}{A:qa8}{E:Value->qak->Prop}{s:qak}
theorem getItem_tuple_all {t sl:Addr}{items:Array Value}{vl vu:Value}{lo hi:Option Int}{Q:Value->qak->Prop} (ht:IsTup s.heap t items) (hs:s.heap.IsSliceOf sl vl vu .none) (pl:qe0 vl lo) (pu:qe0 vu hi)
  (hw:sIx items.size 0 lo=0/\sIx items.size items.size hi=items.size) (h:Q (.ref t) s):wpAny (model prog w) A (qd2 (.ref t) (.ref sl)) Q E s:=by
 obtain⟨os,hos,hcs,hds⟩:=id hs
 have hTs:s.TypeIs (.ref sl) "slice":=⟨os,hos,hcs⟩
 unfold qd2
 try with_reducible refine qcK ?_
 first|refine qae (qaq ?_)|skip
 refine qae (qeP ht.typeIs (by decide) ?_)
 refine qae (qbF (name:=qcR "__getitem__") ht.typeIs qa0
  (qcd qa0 ht.typeIs qen ?_ (qeD _ _)))
 show wpAny _ _ (qcP (.ref t) >>= _) _ _ s
 refine qae (qfK ht ?_)
 refine qae (qeX hTs ?_)
 rw[if_pos (by decide)]
 refine qae (iG hs pl pu ?_)
 have hyes:(((sIx items.size 0 lo:Nat):Int)==0&&(1:Int)==1&&(sIx items.size items.size hi - sIx items.size 0 lo)==items.size)=true:=by
  rw[hw.1,hw.2]
  simp
 show wpAny _ _ (if (((sIx items.size 0 lo:Nat):Int)==0&&(1:Int)==1&&(sIx items.size items.size hi - sIx items.size 0 lo)==items.size)=true then _ else _) _ _ s
 rw[if_pos hyes]
 unfold qg8
 refine qae (qae (qeX ht.typeIs (qaq ?_)))
 show wpAny _ _ (if ((Value.type "tuple")==(Value.type "tuple"))=true then _ else _) _ _ s
 rw[if_pos (beq_self_eq_true _)]
 first
  |exact qae (qdC (qaq ⟨_,rfl,qaq h⟩))
  |exact qae (qae (qdC (qaq (qaq ⟨_,rfl,qaq h⟩))))
  |exact qae (qdC (qae (qaq (qaq ⟨_,rfl,qaq h⟩))))
  |exact qae (qdC (qae (qaq ⟨_,rfl,qaq h⟩)))
end
end HT
namespace L2
open PySem PySem.Spec PyProof.Rows
def Cq (K:qac):V->Option Int->Option Int->Hp->VK->Prop:=λx lo hi H Q=>∃ a xs,x=.ref a/\SqT K H a xs/\
 ((¬ (HT.sIx xs.length 0 lo=0/\HT.sIx xs.length xs.length hi=xs.length)/\∀ p,H p=none->Q (.ref p) (upd H p (.tup (pA xs lo hi))))\/
   ((HT.sIx xs.length 0 lo=0/\HT.sIx xs.length xs.length hi=xs.length)/\Q (.ref a) H))
theorem A5 {X:Cx}{K:qac} (hK:X.K=K:=by rfl):SlR X (Cq K):=by
 subst hK
 intro pins s σ H x v vl vu lo hi sl Q I rx hs pl pu h
 obtain⟨a,xs,rfl,hx,h⟩:=h
 rcases h with⟨hw,q⟩|⟨hw,q⟩
 ·exact AO pins s σ H _ v vl vu lo hi sl Q I rx hs pl pu ⟨a,xs,rfl,hx,hw,q⟩
 ·cases rx
  obtain⟨its,r,ht,hz⟩:=I.tuple hx
  have hlen:its.toArray.size=xs.length:=by rw[qay];exact r.length.symm
  refine⟨"tuple",_,qa0.lookup,ht.typeIs,?_⟩
  exact HT.getItem_tuple_all ht hs pl pu (by rw[hlen];exact hw) ⟨.ref a,H,I,rfl,q⟩
section
variable {X:Cx}{scope:Scope}{Nc:List Str}{emb:St->St}{elt iter tg:Expr}{ifs:List Expr}{pos:Pos}{wi:TI}{g:TG}{tt:TT}{te:TE}
theorem zr {i0:Nat}{x0:Str}{py spos:Pos} (hN0:X.N.Nodup) (hi0:X.N[i0]?=some x0) (hx0:Loc X.env.scope x0) (S:fU X scope Nc emb) (hc:X.calm=true) (hi:PI X tg iter wi)
  (hg:∀ cells s H C fp,PG (lcX X scope cells Nc s H C fp) tg g) (ht:∀ cells s H C fp,PTs (lcX X scope cells Nc s H C fp) ifs tt) (he:∀ cells s H C fp,PE (lcX X scope cells Nc s H C fp) elt te)
  (hsw:qcB (.ListComp elt [⟨tg,iter,ifs,0⟩] scope pos) (some (.Name x0 py)) spos.line X.env=pure true:=by rfl)
  (hf0:X.fn x0=true\/X.env.scope.names.lookup x0=some .local:=by first|exact .inl rfl|exact .inr rfl|assumption)
  (hs:∀ x,qbQ iter X.env x=pure x:=by intro _;rfl):PS X (.Assign [.Name x0 py] (.ListComp elt [⟨tg,iter,ifs,0⟩] scope pos) spos) (Bi (tLc emb wi g tt te) (rZ i0)):=by
 intro pins s σ H DD I h
 rw[exec_Assign_Name_used _ _ _ _ hsw]
 refine qae (qeA (qae ?_))
 show wpAny _ X.A (do let _ <-comprehension (.ListComp elt [⟨tg,iter,ifs,0⟩] scope pos) scope X.env _ (newList []) false (eval iter X.env) (some (qel (.Name x0 py) X.env))) _ _ s
 refine qae (qct (qfA (use:=some (qel (.Name x0 py) X.env)) (Q:=λ_ s'=>SP X pins DD .next s') rfl hs (ki (S.clos I.ok)) S.kind (λx hx hl=>gx S.nd (by rw[<-hl];exact hx)) ?_) (λ_ s' hq=>qaq (qaq hq)) λ_ _ e=>e)
 refine thn (hi pins s σ H _ I h) λv s1 h1=>thn h1 λitv s2 h2=>?_
 obtain⟨it,fp,tn,J,H2,e,I2,T,st2,f2,W,⟨m0,w0⟩,turn⟩:=h2
 subst e
 refine qbq (kX ?_)
 rw[show (s2.heap.push { cls:=.type "list",dict:=none,data:=.seq ([]:List Value).toArray }).objs.size=s2.heap.objs.size+1 from qbh ..]
 generalize hD:s2.heap.objs.size=D
 generalize hlo:({ cls:=.type "list",dict:=none,data:=.seq ([]:List Value).toArray }:Obj)=lo
 have fplt:∀ b∈fp,b<s2.heap.objs.size:=λb hb=>by obtain⟨o,e,_⟩:=T.obj _ _ st2 b hb;exact qaz e
 have I3:=rO (lo:=lo) S I2 f2 (λb hb=>by obtain⟨o,e,_⟩:=T.obj _ _ st2 b hb;exact⟨o,e⟩) (by rw[<-hlo];intro v z;cases z) (by rw[<-hlo];rfl)
 rw[hD]at I3
 generalize hcells:qbJ (D+2) scope.names (cA X.env.cells scope.names [])=cells at I3
 generalize hX':lcX X scope cells Nc s2 H2 (D+1) fp=X' at I3
 have hfpX:∀ {H':Hp}{ps:List (Addr×Obj)},(∀ b∈fp,H' b=none)->(∀ p∈ps,p.1=D)->∀ b∈fp,jY X' ps H' b:=λ{H' ps} hn hps b hb=>by
  have ok:=I3.ok
  refine⟨hn b hb,?_,?_,.inl (by rw[<-hX'];exact hb),?_,λp hp=>?_⟩
  ·exact (ok.exf b (by rw[<-hX'];exact hb)).1
  ·exact ok.exfs b (by rw[<-hX'];exact hb)
  ·exact (ok.exf b (by rw[<-hX'];exact hb)).2
  ·have hp':p∈([]:List (Addr×Obj))++ps:=by rw[<-hX']at hp;exact hp
   have e:p.1=D:=hps p (by simpa using hp')
   rw[e,<-hD]
   exact qb2 (fplt b hb)
 have Dex:D∈X'.ex\/X'.s₀.heap.objs.size<=D:=.inr (by rw[<-hX',<-hD];exact qal _)
 have Dloc:D≠X'.env.locals:=by rw[<-hX'];exact qaO (qbE _)
 have pD:=I3.pin (D,lo) (by rw[<-hX'];exact qau _ qaf)
 have Dfs:D∉X'.fs:=pD.2.2.2.1
 have Dcell:∀ x c,X'.env.cells.lookup x=some c->c≠D:=λx c hc' e=>by
  obtain⟨v,o,ho,hd⟩:=I3.cell x c hc'
  rw[e,pD.1]at ho
  cases ho
  exact pD.2.2.2.2 v hd
 -- the loop
 have loop:∀ s3:qak,s3={ s2 with heap:=qd0 ((s2.heap.push lo).push { cls:=.type "dict",data:=.dict #[] }) scope.names }->
   qeo (model X.prog X.w) X.A (.compLoop (.ListComp elt [⟨tg,iter,ifs,0⟩] scope pos) 0 (.ref it) (.ref D) (qfP scope cells (D+1) X.env))
    (compPost (model X.prog X.w) X.A X.xe (some (qel (.Name x0 py) X.env)) (λ_ s'=>SP X pins DD .next s') (.ref D) (D+1)) s3:=by
  rintro s3 rfl
  refine gi (λn s'=>∃ i ys its k H',Inv X' [(D,{ cls:=.type "list",data:=.seq its.toArray k })] (emb σ) H' s'/\aU ys its/\tn i s'.heap/\(∀ b∈fp,H' b=none)/\ys.length<=qaN/\W i n ys H') ?_ m0
   ⟨0,[],[],0,H2,?_,.nil,?_,λb hb=>(f2 b hb).1,qb5 _,w0⟩
  ·rintro n s4 ⟨i,ys,its,k,H4,I4,rv,st4,fr4,hlen,w4⟩
   have hps:∀ p∈[(D,({ cls:=.type "list",data:=.seq its.toArray k }:Obj))],p.1=D:=λp hp=>by
    have:=qag.mp hp
    rw[this]
   rcases turn i n ys H4 w4 with⟨stop,qn⟩|⟨go,hlt,N,hN,step⟩
   ·-- the end
    have TD:=T.done X' (by rw[<-hX'];rfl) (by rw[<-hX'];rfl) (by rw[<-hX'];rfl) (by rw[<-hX'];exact hc) i _ s4 (emb σ) H4 (λ_ _=>False) I4 (hfpX fr4 hps) st4 stop
    rw[show X'.A=X.A by rw[<-hX'];rfl]at TD
    refine thn TD λr s5 ⟨hr,I5⟩=>?_
    subst hr
    obtain⟨m5,hn5,_⟩:=id I5.loc
    have eC:X'.env.locals=D+1:=by rw[<-hX'];rfl
    rw[eC]at hn5
    suffices inv5:∀ h',qde (D+1) s5.heap h'->Inv X pins σ (upd H4 D (.lst ys)) { s5 with heap:=h' } by
     have I5X:Inv X pins σ (upd H4 D (.lst ys)) s5:=inv5 s5.heap ⟨rfl,λ_ _=>rfl⟩
     have hD4':H4 D=none:=(I5.pin (D,{ cls:=.type "list",data:=.seq its.toArray k }) (by rw[<-hX'];exact qau _ qaf)).2.1
     have hC4:upd H4 D (.lst ys) (D+1)=none:=by
      have:=I5.free
      rw[eC]at this
      rw[upd_ne (qb2 (qbE D))]
      exact this
     have fpC:∀ b∈[D+1],jY X pins (upd H4 D (.lst ys)) b:=λb hb=>by
      have e:=qag.mp hb
      subst e
      exact I2.fpOk (by rw[hD];exact qdx D) hC4
     obtain⟨oC,esC,epC,getC,datC,relC⟩:=id hn5
     have I5p:=I5X.pinned fpC λb hb=>by
      have e:=qag.mp hb
      subst e
      exact⟨oC,getC,λv z=>by rw[datC]at z;cases z⟩
     refine qgT (nX I5p hN0 hi0 hx0 (v:=.ref D) rfl (λs6 I6=>?_) hf0)
     have pC:=(I6.pin (D+1,oC) (qau _ (qau _ (eR qaf getC)))).1
     refine⟨m5,⟨oC,esC,epC,pC,datC,relC⟩,λh' hsb=>?_⟩
     have I6u:=I6.unpinned
     exact⟨_,_,I6u.turns (t':=s6.toks) fpC (λb o hb e=>(hsb.2 b (λz=>hb (by rw[z];exact qaf))).trans e),qn D hD4'⟩
    intro h' hsb
    have pD5:=I5.pin (D,{ cls:=.type "list",data:=.seq its.toArray k }) (by rw[<-hX'];exact qau _ qaf)
    have neC:∀ b u,H4 b=some u->b≠D+1:=λb u e z=>by
     have:=I5.free
     rw[eC,<-z,e]at this
     cases this
    have hD4:H4 D=none:=pD5.2.1
    have un:=I5.base
    have un':Un (frs X.stack) fp H2 H4 s2.heap s5.heap:=by rw[<-hX']at un;exact un
    have old_ne:∀ b o,s2.heap.get? b=some o->b≠D/\b≠D+1:=λb o e=>by
     have q:=qaz e
     rw[hD]at q
     exact⟨qaO q,qaO (qbn q)⟩
    have h2D:H2 D=none:=by rw[<-hD];exact I2.fresh
    have hok':HOk X.prog X.w H4 h':=λb u e=>by
     have ob:dI X.prog X.w H4 s5.heap b u:=by have:=I5.hok b u e;rw[<-hX']at this;exact this
     refine ob.stay (λc v hcv q=>(hsb.2 c ?_).trans q) (λ_ q=>q) λ_ _ q=>q
     rcases hcv with z|z
     ·rw[z];exact neC b u e
     ·exact neC c _ z
    have hokD:HOk X.prog X.w (upd H4 D (.lst ys)) h':=λb u e=>by
     by_cases hb:b=D
     ·subst hb
      rw[upd_same]at e
      cases e
      exact⟨hlen,its,k,rv,(hsb.2 b (qaO (qbE _))).trans pD5.1⟩
     ·rw[upd_ne hb]at e
      refine (hok' b u e).stay (λ_ _ _ q=>q) (λc q=>?_) λc z q=>?_
      all_goals first
       |(rw[upd_ne (aT q hD4)];exact q)
       |(rw[upd_ne (aT z hD4)];exact z)
    refine I2.call' (s':={ s5 with heap:=h' }) (ch:=fp) ?_ ⟨λb o e nb hb hx=>?_,λb o e nb hb hx=>?_,λb o e nb hx=>?_,λb o e hx=>?_,λb xs e=>?_,λb o u e=>?_,λb ps e=>?_⟩ hokD I5.bare (λb hb=>?_)
    ·have:=I5.os
     rw[<-hX']at this
     exact this
    ·exact (hsb.2 b (old_ne b o e).2).trans (un'.keep b o e nb hb hx)
    ·obtain⟨sl,q⟩:=un'.slot b o e nb hb hx
     exact⟨sl,(hsb.2 b (old_ne b o e).2).trans q⟩
    ·rw[upd_ne (old_ne b o e).1]
     exact un'.free b o e nb hx
    ·obtain⟨o',q⟩:=un'.there b o e hx
     exact⟨o',(hsb.2 b (old_ne b o e).2).trans q⟩
    ·rw[upd_ne (aT e h2D)]
     exact un'.tups b xs e
    ·rw[upd_ne (aT e h2D)]
     exact un'.frzs b o u e
    ·obtain⟨m,q⟩:=un'.tbls b ps e
     exact⟨m,by rw[upd_ne (aT e h2D)];exact q⟩
    ·obtain⟨q0,q1,q2,q3,q4,q5⟩:=f2 b hb
     exact⟨q3,q1,q4,q5⟩
   ·-- a turn
    have hA:X'.A=X.A:=by rw[<-hX'];rfl
    have hP:X'.prog=X.prog:=by rw[<-hX'];rfl
    have hw:X'.w=X.w:=by rw[<-hX'];rfl
    have hE:X'.env=qfP scope cells (D+1) X.env:=by rw[<-hX'];rfl
    have hxe:X'.xe=λ_ _=>False:=by rw[<-hX'];rfl
    have TI':=T.item X' hP hw (by rw[<-hX'];rfl) (by rw[<-hX'];exact hc) i _ s4 (emb σ) H4 (λ_ _=>False) I4 (hfpX fr4 hps) st4 go
    rw[hA]at TI'
    refine thn TI' λr s5 ⟨u,hr,h5⟩=>?_
    subst hr
    refine thn h5 λ_ s6 ⟨x,H6,I6,r6,y6,st6,fr6⟩=>?_
    have I6':=I6.pinned (hfpX fr6 hps) (T.obj _ _ st6)
    have G:=hg cells s2 H2 (D+1) fp
    have TT':=ht cells s2 H2 (D+1) fp
    have EE:=he cells s2 H2 (D+1) fp
    rw[hX']at G TT' EE
    have G':=G _ s6 (emb σ) H6 x u _ I6' r6 (step x H6 y6)
    rw[hA,hP,hw,hE,hxe]at G'
    refine thn G' λ_ s7 ⟨σ7,H7,I7,sb7,q7⟩=>?_
    have T':=TT' _ s7 σ7 H7 _ I7 q7
    rw[hA,hP,hw,hE,hxe]at T'
    refine thn T' λok s8 ⟨H8,I8,q8⟩=>?_
    -- what is pinned
    have pin_fp:∀ {σ9:St}{H9:Hp}{s9:qak},Inv X' ([(D,({ cls:=.type "list",data:=.seq its.toArray k }:Obj))]++lu fp s6.heap) σ9 H9 s9->tn (i+1) s9.heap/\∀ b∈fp,H9 b=none:=λ{σ9 H9 s9} I9=>
     ⟨T.keep _ _ _ st6 λb hb o e=>(I9.pin (b,o) (qau _ (qau _ (eR hb e)))).1,λb hb=>by
      obtain⟨o,e,_⟩:=T.obj _ _ st6 b hb
      exact (I9.pin (b,o) (qau _ (qau _ (eR hb e)))).2.1⟩
    cases ok with
    |false=>
     rw[if_neg (by decide)]at q8
     rw[if_neg (by decide)]
     obtain⟨m',hm,w8⟩:=hN _ _ q8
     exact⟨m',hm,i+1,ys,its,k,H8,I8.unpinned.weak sb7.1 sb7.2,rv,(pin_fp I8).1,(pin_fp I8).2,hlen,w8⟩
    |true=>
     rw[if_pos rfl]at q8
     rw[if_pos rfl]
     have E':=EE _ s8 σ7 H8 _ I8 q8
     rw[hA,hP,hw,hE,hxe]at E'
     refine thn E' λy s9 ⟨v9,H9,I9,r9,n9⟩=>?_
     obtain⟨m',hm,w9⟩:=hN _ _ n9
     have pD9:=I9.pin (D,{ cls:=.type "list",data:=.seq its.toArray k }) (qau _ (qaY _ qaf))
     have hl:=rv.length
     have I9n:Inv X' [] σ7 H9 s9:=I9.pins_of λp hp=>nomatch hp
     refine qcX qeu ⟨_,pD9.1,rfl⟩ qeg (qd7 _ _) (qee D its.toArray k y (by rw[qay];lia)) ⟨pD9.1,?_⟩
     have up:∃ k':Nat,(s9.heap.update D (qcM λxs=>xs.push y)).get? D=some { cls:=.type "list",data:=.seq (its++[y]).toArray k' }:=by
      have q:=qd5 pD9.1 (λxs:Array Value=>xs.push y)
      simp only[qf9]at q
      exact⟨_,q⟩
     obtain⟨k',up⟩:=up
     have hoth:∀ b o,b≠D->s9.heap.get? b=some o->(s9.heap.update D (qcM λxs=>xs.push y)).get? b=some o:=λb o hb e=>(qcI s9.heap _ (qbu hb)).trans e
     have I10:=I9n.turned (t':=s9.toks) hoth pD9.2.1 Dloc Dex Dcell (λp hp=>absurd (show p∈([]:List (Addr×Obj)) by rw[<-hX']at hp;exact hp) (by simp))
     refine⟨m',hm,i+1,ys++[v9],its++[y],k',H9,(I10.weak sb7.1 sb7.2).pins_of (λp hp=>?_),rv.append (.cons r9 .nil),T.keep _ _ _ (pin_fp I9).1 (λb hb o e=>hoth b o (by rw[<-hD];exact qaO (fplt b hb)) e),(pin_fp I9).2,?_,w9⟩
     ·have:=qag.mp hp
      subst this
      exact⟨up,pD9.2.1,Dloc,Dfs,λv z=>by cases z⟩
     ·rw[qan,qbR]
      lia
  ·have q:lo={ cls:=.type "list",data:=.seq ([]:List Value).toArray 0 }:=hlo.symm
   rw[<-q]
   exact I3
  ·exact T.keep _ _ _ st2 λb hb o e=>qco _ _ b o (qai _ (qai _ e))
 refine qf5 ?_ ?_
 ·exact loop _ rfl
 ·refine T.self X.A 0 _ _ _ (T.keep _ _ _ st2 λb hb o e=>qco _ _ b o (qai _ (qai _ e))) ?_
  exact loop _ rfl
end
def aP:Expr->Bool
 |.Starred _ _=>false
 |_=>true
theorem bG {e:Expr}{es:List Expr}{env:Env} (h:aP e=true):qbk (e::es) env=(false,eval e env)::qbk es env:=by
 cases e<;>first|(cases h;done)|rfl
theorem cF {pos:Pos}{env:Env}:∀ {es:List Expr},es.all aP=true->(qdL pos (qbk es env)).any (·.1)=false
 |[],_=>by simp[qbk,qdL]
 |e::es,h=>by
  rw[qbp,qaR]at h
  rw[bG h.1]
  have:=cF (pos:=pos) (env:=env) h.2
  unfold qdL at this ⊢
  rw[qaB,qdu,this]
  rfl
theorem rn {pos:Pos}{env:Env}{es:List Expr} (h:es.all aP=true) (hl:es.length < 30):((qdL pos (qbk es env)).all (λx=>!x.1) && (qgI pos (qfd [] env)).all (λx=>x.1.isSome)
   && decide (es.length+([]:List qgA).length+(if ([]:List qgA).isEmpty then 0 else 1)<30))=true:=by
 have h1:(qdL pos (qbk es env)).all (λx=>!x.1)=true:=by
  have:=cF (pos:=pos) (env:=env) h
  rw[qa9]
  intro x hx
  rw[qga]at this
  simpa using this x hx
 have h2:(qgI pos (qfd [] env)).all (λx=>x.1.isSome)=true:=by simp[qfd,qgI]
 rw[h1,h2]
 simpa using hl
theorem jl {e:Expr}{env:Env} (h:aP e=true):qbk [e] env=[(false,eval e env)]:=by rw[bG h];rfl
theorem wx {e e2:Expr}{env:Env} (h:aP e=true) (h2:aP e2=true):qbk [e,e2] env=[(false,eval e env),(false,eval e2 env)]:=by rw[bG h,jl h2]
def wd:Expr->Bool
 |.UnaryOp .Not _ _=>false
 |.BoolOp _ _ _=>false
 |.IfExp _ _ _ _=>false
 |.Compare _ _ _ _=>false
 |_=>true
theorem vH {a:Expr}{env:Env} (h:wd a=true):∀ whole,PySem.isTrue a env whole=(do let v <-whole;qh3 a.pos;qeR [v] (truthy v)):=by
 intro whole
 cases a with
 |UnaryOp op x p=>cases op<;>first|(cases h;done)|rfl
 |BoolOp _ _ _=>cases h
 |IfExp _ _ _ _=>cases h
 |Compare _ _ _ _=>cases h
 |_=>rfl
theorem nV {t:Expr}{ts:List Expr}{env:Env} (h:aP t=true):qbB (t::ts) env=(false,qel t env)::qbB ts env:=by
 cases t<;>first|(cases h;done)|rfl
theorem qA {env:Env}:∀ {ts:List Expr},ts.all aP=true->(qbB ts env).length=ts.length
 |[],_=>by simp[qbB]
 |t::ts,h=>by
  rw[qbp,qaR]at h
  rw[nV h.1,qas,qA h.2,qas]
theorem nE {env:Env}:∀ {ts:List Expr},ts.all aP=true->(qbB ts env).findIdx? (·.1)=none
 |[],_=>by simp[qbB]
 |t::ts,h=>by
  rw[qbp,qaR]at h
  rw[nV h.1,List.findIdx?_cons,nE h.2]
  rfl
theorem uU {t:Expr}{ts:List Expr}{env:Env} (h:aP t=true):(qbB (t::ts) env).map (·.2)=qel t env::(qbB ts env).map (·.2):=by rw[nV h];rfl
theorem mL {t:Expr}{env:Env} (h:aP t=true):(qbB [t] env).map (·.2)=[qel t env]:=by rw[uU h];simp[qbB]
def pG:Expr->Bool
 |.Slice _ _ _ _=>false
 |_=>true
theorem pL {o i:Expr}{pos:Pos}{env:Env} (h:pG i=true) (v:Value):qel (.Subscript o i pos) env v=(do
   let ov <-qeR [v] (eval o env)
   let iv <-qeR [v,ov] (eval i env)
   qh3 pos
   qeR [v,ov,iv] (setItem ov iv v)
   release [v,ov,iv] []):=by
 cases i<;>first|(cases h;done)|rfl
theorem si {i:Expr} (h:pG i=true):uG i:=by
 intro o j
 cases i<;>first|(cases h;done)|rfl
inductive D where
 |non|bl (b:Bool)|int (i:Int)|str (x:Str)|ty (n:String)|dct|scr (ns:List Int)|tup (ds:List D)|lst (ds:List D)|ob (ns:List Str) (ds:List D)
 deriving Inhabited
inductive W where
 |d (x:D)|h (n:Nat)
 deriving Inhabited
inductive C where
 |l (ds:List D)|n (ws:List W)|m (kvs:List (List Int×D))|k (kvs:List (Int×D))|o (fs:List (Str×W))
 deriving Inhabited
abbrev Sto:=List C
def lg (st:Sto) (n:Nat):Option (List D):=match st[n]? with
 |some (.l ds)=>some ds
 |_=>none
def CJ (l:List Int):List Key:=l.map Sum.inl
abbrev Ev:=List (Option W)
def KLs (K:qac) (a:Addr) (xs:List V):Prop:=
 ∃ (o:Obj) (its:Array Value) (n:Nat),K.lookup a=some o/\o.cls=.type "list"/\o.dict=none/\o.data=.seq its n/\its.size<=qaN/\aU xs its.toList
section
variable (K:qac) (H:Hp) (φ:List Addr)
mutual
def Rl:D->V->Prop
 |.non,v=>v=.non
 |.bl b,v=>v=.bl b
 |.int i,v=>v=.int i
 |.str x,v=>v=.str x
 |.ty n,v=>v=.ty n
 |.dct,v=>∃ a,v=.ref a/\a∉φ/\((∃ d,H a=some (.dK d))\/∃ d,H a=some (.dT d))
 |.scr ns,v=>∃ a,v=.ref a/\((∃ o,H a=some (.frz o (.lst (ns.map V.int))))\/KLs K a (ns.map V.int))
 |.tup ds,v=>∃ a vs,v=.ref a/\H a=some (.tup vs)/\Rls ds vs
 |.lst ds,v=>∃ a vs,v=.ref a/\a∉φ/\Rd H a (.lst vs)/\Rls ds vs
 |.ob ns ds,v=>∃ a Cl dx fs vs,v=.ref a/\a∉φ/\H a=some (.ins Cl dx fs)/\fs=ns.zip vs/\ns.length=vs.length/\5<ns.length/\Cls K Cl/\(∀ f∈ns,en K Cl f)/\Rls ds vs
def Rls:List D->List V->Prop
 |[],vs=>vs=[]
 |d::ds,vs=>∃ v r,vs=v::r/\Rl d v/\Rls ds r
end
def Rw:W->V->Prop
 |.d x,v=>Rl K H φ x v
 |.h n,v=>∃ a,φ[n]?=some a/\v=.ref a
def Rws:List W->List V->Prop
 |[],vs=>vs=[]
 |d::ds,vs=>∃ v r,vs=v::r/\Rw K H φ d v/\Rws ds r
def Rkv:List (List Int×D)->List (List Key×V)->Prop
 |[],vs=>vs=[]
 |(k,d)::ds,vs=>∃ v r,vs=(CJ k,v)::r/\Rl K H φ d v/\Rkv ds r
def Rkk:List (Int×D)->List (Key×V)->Prop
 |[],vs=>vs=[]
 |(k,d)::ds,vs=>∃ v r,vs=(Sum.inl k,v)::r/\Rl K H φ d v/\Rkk ds r
def Rfs:List (Str×W)->List (Str×V)->Prop
 |[],vs=>vs=[]
 |(k,d)::ds,vs=>∃ v r,vs=(k,v)::r/\Rw K H φ d v/\Rfs ds r
def Rc (k:Nat) (a:Addr):C->Prop
 |.l ds=>∃ vs,H a=some (.lst vs)/\Rls K H φ ds vs
 |.n ws=>∃ vs,H a=some (.lst vs)/\Rws K H φ ws vs/\∀ m,W.h m∈ws->m<k
 |.m kvs=>∃ vs,H a=some (.dT vs)/\Rkv K H φ kvs vs
 |.k kvs=>∃ vs,H a=some (.dK vs)/\Rkk K H φ kvs vs
 |.o fs=>∃ Cl dx vs,H a=some (.ins Cl dx vs)/\Rfs K H φ fs vs/\(∀ m,W.h m∈fs.map (·.2)->m<k)/\Cls K Cl/\∀ p∈fs,en K Cl p.1
structure Sr (st:Sto):Prop where
 nd:φ.Nodup
 len:φ.length=st.length
 at_:∀ (n:Nat) a c,φ[n]?=some a->st[n]?=some c->Rc K H φ n a c
structure Er (env:Ev) (σ:St):Prop where
 len:env.length=σ.length
 at_:∀ (i:Nat) w,env[i]?=some (some w)->∃ v,σ[i]?=some (some v)/\Rw K H φ w v
end
structure Fw (φ φ':List Addr) (H H':Hp):Prop where
 ext:∃ ψ,φ'=φ++ψ/\∀ a∈ψ,H a=none
 keep:∀ b o,b∉φ->H b=some o->H' b=some o
 there:∀ b o,H b=some o->∃ o',H' b=some o'
section
variable {K:qac}{H H1 H2 H':Hp}{φ φ1 φ2 φ':List Addr}{st st':Sto}
theorem Fw.refl (φ:List Addr) (H:Hp):Fw φ φ H H:=⟨⟨[],by simp,by simp⟩,λ_ _ _ h=>h,λ_ o h=>⟨o,h⟩⟩
theorem Fw.trans (a:Fw φ φ1 H H1) (b:Fw φ1 φ2 H1 H2):Fw φ φ2 H H2:=by
 obtain⟨ψ,rfl,e1⟩:=a.ext
 obtain⟨ψ2,rfl,e2⟩:=b.ext
 refine⟨⟨ψ++ψ2,by rw[qbY],λc hc=>?_⟩,λc o hc h=>?_,λc o h=>?_⟩
 ·rcases qaM.mp hc with z|z
  ·exact e1 c z
  ·cases q:H c with
   |none=>rfl
   |some o=>
    obtain⟨o',q'⟩:=a.there c o q
    rw[e2 c z]at q';cases q'
 ·refine b.keep c o (λz=>?_) (a.keep c o hc h)
  rcases qaM.mp z with z|z
  ·exact hc z
  ·rw[e1 c z]at h;cases h
 ·obtain⟨o',q⟩:=a.there c o h
  exact b.there c o' q
theorem Fw.same (s:bx H H'):Fw φ φ H H':=⟨⟨[],by simp,by simp⟩,λb o _ h=>s b o h,λb o h=>⟨o,s b o h⟩⟩
theorem Fw.new {p:Addr}{o:HO} (hp:H p=none):Fw φ φ H (upd H p o):=.same (bx.new hp o)
theorem Fw.get (f:Fw φ φ' H H') {n:Nat}{a:Addr} (h:φ[n]?=some a):φ'[n]?=some a:=by
 obtain⟨ψ,rfl,_⟩:=f.ext
 rw[qaF (qao.mp h).1];exact h
theorem Fw.nin (f:Fw φ φ' H H') {a:Addr}{o:HO} (h:a∉φ) (q:H a=some o):a∉φ':=by
 obtain⟨ψ,rfl,e⟩:=f.ext
 intro z
 rcases qaM.mp z with z|z
 ·exact h z
 ·rw[e a z]at q;cases q
def Bx:HO->Bool
 |.lst _=>true
 |.dT _=>true
 |.dK _=>true
 |.ins _ _ _=>true
 |_=>false
theorem Rc.ob {k:Nat}{a:Addr}{c:C} (h:Rc K H φ k a c):∃ o,H a=some o/\Bx o=true:=by
 cases c with
 |l ds=>obtain⟨vs,q,_⟩:=h;exact⟨_,q,rfl⟩
 |n ds=>obtain⟨vs,q,_⟩:=h;exact⟨_,q,rfl⟩
 |m ds=>obtain⟨vs,q,_⟩:=h;exact⟨_,q,rfl⟩
 |k ds=>obtain⟨vs,q,_⟩:=h;exact⟨_,q,rfl⟩
 |o ds=>obtain⟨_,_,vs,q,_⟩:=h;exact⟨_,q,rfl⟩
theorem Sr.lst (S:Sr K H φ st) {a:Addr} (h:a∈φ):∃ o,H a=some o/\Bx o=true:=by
 obtain⟨n,hn,e⟩:=qdO.mp h
 have hs:n<st.length:=by rw[<-S.len];exact hn
 exact (S.at_ n a st[n] (by rw[qaK hn,e]) (by rw[qaK hs])).ob
theorem uI {st:Sto}{n:Nat}{ds:List D} (h:lg st n=some ds):st[n]?=some (.l ds):=by
 unfold lg at h
 split at h
 ·rename_i q;cases h;exact q
 ·cases h
theorem Sr.atl (S:Sr K H φ st) (n:Nat) (a:Addr) (ds:List D) (e1:φ[n]?=some a) (e2:lg st n=some ds):∃ vs,H a=some (.lst vs)/\Rls K H φ ds vs:=S.at_ n a _ e1 (uI e2)
theorem Sr.nin (S:Sr K H φ st) {a:Addr} (h:H a=none):a∉φ:=λz=>by
 obtain⟨vs,q,_⟩:=S.lst z
 rw[q]at h;cases h
theorem Rd.nin (S:Sr K H φ st) {a:Addr}{vs:List V} (h:Rd H a (.tup vs)):a∉φ:=λz=>by
 obtain⟨ws,q,qm⟩:=S.lst z
 rcases h with h|⟨o,h⟩<;>(rw[q]at h;cases h;cases qm)
theorem Rd.fw (f:Fw φ φ' H H') {a:Addr}{u:HO} (hn:a∉φ) (h:Rd H a u):Rd H' a u:=by
 rcases h with h|⟨o,h⟩
 ·exact .inl (f.keep _ _ hn h)
 ·exact .inr ⟨o,f.keep _ _ hn h⟩
theorem SqT.fw (S:Sr K H φ st) (f:Fw φ φ' H H') {a:Addr}{vs:List V} (h:SqT K H a vs):SqT K H' a vs:=by
 rcases h with h|h
 ·exact .inl (f.keep _ _ (Rd.nin S (.inl h)) h)
 ·exact .inr h
theorem Rd.some {a:Addr}{u:HO} (h:Rd H a u):∃ o,H a=some o:=by
 rcases h with h|⟨o,h⟩
 ·exact⟨_,h⟩
 ·exact⟨_,h⟩
mutual
theorem Rl.fw (S:Sr K H φ st) (f:Fw φ φ' H H'):∀ {d:D}{v:V},Rl K H φ d v->Rl K H' φ' d v
 |.non,_,h=>h
 |.bl _,_,h=>h
 |.int _,_,h=>h
 |.str _,_,h=>h
 |.ty _,_,h=>h
 |.dct,_,h=>by
  obtain⟨a,rfl,hn,h⟩:=h
  rcases h with⟨d,h⟩|⟨d,h⟩
  ·exact⟨a,rfl,f.nin hn h,.inl ⟨d,f.keep _ _ hn h⟩⟩
  ·exact⟨a,rfl,f.nin hn h,.inr ⟨d,f.keep _ _ hn h⟩⟩
 |.scr ns,_,h=>by
  obtain⟨a,rfl,h⟩:=h
  refine⟨a,rfl,?_⟩
  rcases h with⟨o,h⟩|h
  ·refine .inl ⟨o,f.keep _ _ (λz=>?_) h⟩
   obtain⟨ws,q,qm⟩:=S.lst z
   rw[q]at h;cases h;cases qm
  ·exact .inr h
 |.tup ds,_,h=>by
  obtain⟨a,vs,rfl,h1,h2⟩:=h
  exact⟨a,vs,rfl,f.keep _ _ (Rd.nin S (.inl h1)) h1,Rls.fw S f h2⟩
 |.lst ds,_,h=>by
  obtain⟨a,vs,rfl,h0,h1,h2⟩:=h
  obtain⟨o,e⟩:=h1.some
  exact⟨a,vs,rfl,f.nin h0 e,h1.fw f h0,Rls.fw S f h2⟩
 |.ob ns ds,_,h=>by
  obtain⟨a,Cl,dx,fs,vs,rfl,h0,h1,h2,h3,h4,h5,h7,h6⟩:=h
  exact⟨a,Cl,dx,fs,vs,rfl,f.nin h0 h1,f.keep _ _ h0 h1,h2,h3,h4,h5,h7,Rls.fw S f h6⟩
theorem Rls.fw (S:Sr K H φ st) (f:Fw φ φ' H H'):∀ {ds:List D}{vs:List V},Rls K H φ ds vs->Rls K H' φ' ds vs
 |[],_,h=>h
 |d::ds,_,h=>by
  obtain⟨v,r,rfl,h1,h2⟩:=h
  exact⟨v,r,rfl,Rl.fw S f h1,Rls.fw S f h2⟩
end
theorem Rw.fw (S:Sr K H φ st) (f:Fw φ φ' H H') {w:W}{v:V} (h:Rw K H φ w v):Rw K H' φ' w v:=by
 cases w with
 |d x=>exact Rl.fw S f h
 |h n=>obtain⟨a,e,rfl⟩:=h;exact⟨a,f.get e,rfl⟩
theorem Rws.fw (S:Sr K H φ st) (f:Fw φ φ' H H'):∀ {ws:List W}{vs:List V},Rws K H φ ws vs->Rws K H' φ' ws vs
 |[],_,h=>h
 |d::ds,_,h=>by
  obtain⟨v,r,rfl,h1,h2⟩:=h
  exact⟨v,r,rfl,h1.fw S f,Rws.fw S f h2⟩
theorem Er.fw (S:Sr K H φ st) (f:Fw φ φ' H H') {env:Ev}{σ:St} (h:Er K H φ env σ):Er K H' φ' env σ:=
 ⟨h.len,λi w e=>let ⟨v,e1,r⟩:=h.at_ i w e;⟨v,e1,r.fw S f⟩⟩
theorem Rkv.fw (S:Sr K H φ st) (f:Fw φ φ' H H'):∀ {ds:List (List Int×D)}{vs:List (List Key×V)},Rkv K H φ ds vs->Rkv K H' φ' ds vs
 |[],_,h=>h
 |(k,d)::ds,_,h=>by
  obtain⟨v,r,rfl,h1,h2⟩:=h
  exact⟨v,r,rfl,Rl.fw S f h1,Rkv.fw S f h2⟩
theorem Rkk.fw (S:Sr K H φ st) (f:Fw φ φ' H H'):∀ {ds:List (Int×D)}{vs:List (Key×V)},Rkk K H φ ds vs->Rkk K H' φ' ds vs
 |[],_,h=>h
 |(k,d)::ds,_,h=>by
  obtain⟨v,r,rfl,h1,h2⟩:=h
  exact⟨v,r,rfl,Rl.fw S f h1,Rkk.fw S f h2⟩
theorem Rfs.fw (S:Sr K H φ st) (f:Fw φ φ' H H'):∀ {ds:List (Str×W)}{vs:List (Str×V)},Rfs K H φ ds vs->Rfs K H' φ' ds vs
 |[],_,h=>h
 |(k,d)::ds,_,h=>by
  obtain⟨v,r,rfl,h1,h2⟩:=h
  exact⟨v,r,rfl,h1.fw S f,Rfs.fw S f h2⟩
theorem Rc.fw (S:Sr K H φ st) (f:Fw φ φ' H H') {k:Nat}{a:Addr}{c:C} (e:∀ o,H a=some o->H' a=some o) (h:Rc K H φ k a c):Rc K H' φ' k a c:=by
 cases c with
 |l ds=>obtain⟨vs,q,r⟩:=h;exact⟨vs,e _ q,r.fw S f⟩
 |n ds=>obtain⟨vs,q,r,b⟩:=h;exact⟨vs,e _ q,r.fw S f,b⟩
 |m ds=>obtain⟨vs,q,r⟩:=h;exact⟨vs,e _ q,r.fw S f⟩
 |k ds=>obtain⟨vs,q,r⟩:=h;exact⟨vs,e _ q,r.fw S f⟩
 |o ds=>obtain⟨Cl,dx,vs,q,r,b⟩:=h;exact⟨Cl,dx,vs,e _ q,r.fw S f,b⟩
theorem Sr.same (S:Sr K H φ st) (s:bx H H'):Sr K H' φ st:=
 ⟨S.nd,S.len,λn a c e1 e2=>(S.at_ n a c e1 e2).fw S (Fw.same s) λo h=>s _ _ h⟩
theorem Sr.new (S:Sr K H φ st) {p:Addr}{o:HO} (hp:H p=none):Sr K (upd H p o) φ st:=S.same (bx.new hp o)
theorem Rls.length:∀ {ds:List D}{vs:List V},Rls K H φ ds vs->ds.length=vs.length
 |[],_,h=>by cases h;rfl
 |d::ds,_,h=>by
  obtain⟨v,r,rfl,h1,h2⟩:=h
  rw[qas,qas,Rls.length h2]
theorem Rws.length:∀ {ds:List W}{vs:List V},Rws K H φ ds vs->ds.length=vs.length
 |[],_,h=>by cases h;rfl
 |d::ds,_,h=>by
  obtain⟨v,r,rfl,h1,h2⟩:=h
  rw[qas,qas,Rws.length h2]
theorem Rls.append:∀ {ds es:List D}{vs us:List V},Rls K H φ ds vs->Rls K H φ es us->Rls K H φ (ds++es) (vs++us)
 |[],_,_,_,h,h'=>by cases h;exact h'
 |d::ds,_,_,_,h,h'=>by
  obtain⟨v,r,rfl,h1,h2⟩:=h
  exact⟨v,r++_,rfl,h1,Rls.append h2 h'⟩
theorem Rls.get:∀ {ds:List D}{vs:List V},Rls K H φ ds vs->∀ {i:Nat}{d:D},ds[i]?=some d->∃ v,vs[i]?=some v/\Rl K H φ d v
 |[],_,h,i,d,e=>by simp at e
 |d::ds,_,h,i,e,q=>by
  obtain⟨v,r,rfl,h1,h2⟩:=h
  cases i with
  |zero=>simp at q;subst q;exact⟨v,rfl,h1⟩
  |succ i=>simpa using Rls.get h2 (i:=i) (d:=e) (by simpa using q)
theorem Rls.take:∀ {ds:List D}{vs:List V} (n:Nat),Rls K H φ ds vs->Rls K H φ (ds.take n) (vs.take n)
 |_,_,0,_=>by rw[qcp,qcp];exact rfl
 |[],_,n+1,h=>by cases h;exact rfl
 |d::ds,_,n+1,h=>by
  obtain⟨v,r,rfl,h1,h2⟩:=h
  exact⟨v,_,rfl,h1,Rls.take n h2⟩
theorem Rls.drop:∀ {ds:List D}{vs:List V} (n:Nat),Rls K H φ ds vs->Rls K H φ (ds.drop n) (vs.drop n)
 |_,_,0,h=>h
 |[],_,n+1,h=>by cases h;exact rfl
 |d::ds,_,n+1,h=>by
  obtain⟨v,r,rfl,h1,h2⟩:=h
  exact Rls.drop n h2
theorem Rls.set:∀ {ds:List D}{vs:List V} (n:Nat) {d:D}{v:V},Rls K H φ ds vs->Rl K H φ d v->Rls K H φ (ds.set n d) (vs.set n v)
 |[],_,_,_,_,h,_=>by cases h;exact rfl
 |e::ds,_,0,d,v,h,hd=>by
  obtain⟨u,r,rfl,h1,h2⟩:=h
  exact⟨v,r,rfl,hd,h2⟩
 |e::ds,_,n+1,d,v,h,hd=>by
  obtain⟨u,r,rfl,h1,h2⟩:=h
  exact⟨u,_,rfl,h1,Rls.set n h2 hd⟩
theorem Rls.rep {ds:List D}{vs:List V} (h:Rls K H φ ds vs):∀ k:Nat,Rls K H φ (qaC k ds).flatten (qaC k vs).flatten
 |0=>rfl
 |k+1=>by rw[qbe,qbe,qcl,qcl];exact h.append (Rls.rep h k)
theorem Rls.rev:∀ {ds:List D}{vs:List V},Rls K H φ ds vs->Rls K H φ ds.reverse vs.reverse
 |[],_,h=>by cases h;exact rfl
 |d::ds,_,h=>by
  obtain⟨v,r,rfl,h1,h2⟩:=h
  rw[qdp,qdp]
  exact (Rls.rev h2).append ⟨v,[],rfl,h1,rfl⟩
theorem Rls.ints:∀ {ns:List Int}{vs:List V},Rls K H φ (ns.map D.int) vs->vs=ns.map V.int
 |[],_,h=>h
 |n::ns,_,h=>by
  obtain⟨v,r,rfl,h1,h2⟩:=h
  rw[show v=.int n from h1,Rls.ints h2];rfl
theorem Rls.bools:∀ {ns:List Bool}{vs:List V},Rls K H φ (ns.map D.bl) vs->vs=ns.map V.bl
 |[],_,h=>h
 |n::ns,_,h=>by
  obtain⟨v,r,rfl,h1,h2⟩:=h
  rw[show v=.bl n from h1,Rls.bools h2];rfl
theorem Rls.of_ints:∀ (ns:List Int),Rls K H φ (ns.map D.int) (ns.map V.int)
 |[]=>rfl
 |n::ns=>⟨_,_,rfl,rfl,Rls.of_ints ns⟩
theorem Rl.less {ψ:List Addr}:∀ {d:D}{v:V},Rl K H (φ++ψ) d v->Rl K H φ d v:=by
 intro d v
 refine (?_:∀ v,Rl K H (φ++ψ) d v->Rl K H φ d v) v
 refine D.rec (motive_1:=λd=>∀ v,Rl K H (φ++ψ) d v->Rl K H φ d v) (motive_2:=λds=>∀ vs,Rls K H (φ++ψ) ds vs->Rls K H φ ds vs) ?_ ?_ ?_ ?_ ?_ ?_ ?_ ?_ ?_ ?_ ?_ ?_ d
 ·exact λv h=>h
 ·exact λb v h=>h
 ·exact λb v h=>h
 ·exact λb v h=>h
 ·exact λb v h=>h
 ·rintro v ⟨a,e,hn,h⟩;exact⟨a,e,λz=>hn (qaY _ z),h⟩
 ·exact λns v h=>h
 ·rintro ds ih v ⟨a,vs,rfl,h1,h2⟩;exact⟨a,vs,rfl,h1,ih vs h2⟩
 ·rintro ds ih v ⟨a,vs,rfl,h0,h1,h2⟩;exact⟨a,vs,rfl,λz=>h0 (qaY _ z),h1,ih vs h2⟩
 ·rintro ns ds ih v ⟨a,Cl,dx,fs,vs,rfl,h0,h1,h2,h3,h4,h5,h7,h6⟩;exact⟨a,Cl,dx,fs,vs,rfl,λz=>h0 (qaY _ z),h1,h2,h3,h4,h5,h7,ih vs h6⟩
 ·exact λvs h=>h
 ·rintro d ds ih1 ih2 vs ⟨v,r,rfl,h1,h2⟩;exact⟨v,r,rfl,ih1 v h1,ih2 r h2⟩
theorem Rls.less {ψ:List Addr}:∀ {ds:List D}{vs:List V},Rls K H (φ++ψ) ds vs->Rls K H φ ds vs
 |[],_,h=>h
 |d::ds,_,h=>by
  obtain⟨v,r,rfl,h1,h2⟩:=h
  exact⟨v,r,rfl,Rl.less h1,Rls.less h2⟩
theorem Rkv.less {ψ:List Addr}:∀ {ds:List (List Int×D)}{vs:List (List Key×V)},Rkv K H (φ++ψ) ds vs->Rkv K H φ ds vs
 |[],_,h=>h
 |(k,d)::ds,_,h=>by
  obtain⟨v,r,rfl,h1,h2⟩:=h
  exact⟨v,r,rfl,Rl.less h1,Rkv.less h2⟩
theorem Rkk.less {ψ:List Addr}:∀ {ds:List (Int×D)}{vs:List (Key×V)},Rkk K H (φ++ψ) ds vs->Rkk K H φ ds vs
 |[],_,h=>h
 |(k,d)::ds,_,h=>by
  obtain⟨v,r,rfl,h1,h2⟩:=h
  exact⟨v,r,rfl,Rl.less h1,Rkk.less h2⟩
theorem Rws.less {ψ:List Addr}:∀ {ds:List W}{vs:List V},(∀ m,W.h m∈ds->m<φ.length)->Rws K H (φ++ψ) ds vs->Rws K H φ ds vs
 |[],_,_,h=>h
 |d::ds,_,hm,h=>by
  obtain⟨v,r,rfl,h1,h2⟩:=h
  refine⟨v,r,rfl,?_,Rws.less (λm z=>hm m (qaj _ z)) h2⟩
  cases d with
  |d x=>exact Rl.less h1
  |h m=>
   obtain⟨a,e,rfl⟩:=h1
   rw[qaF (hm m qaf)]at e
   exact⟨a,e,rfl⟩
theorem Rfs.less {ψ:List Addr}:∀ {ds:List (Str×W)}{vs:List (Str×V)},(∀ m,W.h m∈ds.map (·.2)->m<φ.length)->Rfs K H (φ++ψ) ds vs->Rfs K H φ ds vs
 |[],_,_,h=>h
 |(k,d)::ds,_,hm,h=>by
  obtain⟨v,r,rfl,h1,h2⟩:=h
  refine⟨v,r,rfl,?_,Rfs.less (λm z=>hm m (qaj _ z)) h2⟩
  cases d with
  |d x=>exact Rl.less h1
  |h m=>
   obtain⟨a,e,rfl⟩:=h1
   rw[qaF (hm m qaf)]at e
   exact⟨a,e,rfl⟩
theorem Rc.less {ψ:List Addr}{k:Nat}{a:Addr}{c:C} (hk:k<φ.length) (h:Rc K H (φ++ψ) k a c):Rc K H φ k a c:=by
 cases c with
 |l ds=>obtain⟨vs,q,r⟩:=h;exact⟨vs,q,r.less⟩
 |n ds=>obtain⟨vs,q,r,b⟩:=h;exact⟨vs,q,r.less λm z=>qdJ (b m z) hk,b⟩
 |m ds=>obtain⟨vs,q,r⟩:=h;exact⟨vs,q,r.less⟩
 |k ds=>obtain⟨vs,q,r⟩:=h;exact⟨vs,q,r.less⟩
 |o ds=>obtain⟨Cl,dx,vs,q,r,b,c⟩:=h;exact⟨Cl,dx,vs,q,r.less λm z=>qdJ (b m z) hk,b,c⟩
theorem Sr.less {ψ:List Addr} (S:Sr K H (φ++ψ) st):Sr K H φ (st.take φ.length):=by
 have hl:=S.len
 rw[qan]at hl
 refine⟨(qck.mp S.nd).1,by rw[qcv];lia,λn a ds e1 e2=>?_⟩
 have hn:=(qao.mp e1).1
 rw[qe7 hn]at e2
 exact (S.at_ n a ds (by rw[qaF hn];exact e1) e2).less hn
end
end L2
namespace L2
open PySem PySem.Spec PyProof.Rows
abbrev Ef:=Ev->Sto->Option (W×Sto)
abbrev Af:=Ev->Sto->Option (List W×Sto)
abbrev Tf:=Ev->Sto->Option (Bool×Sto)
abbrev Lf:=Ev->Sto->Option (List D×Sto)
abbrev Fn:=List W->Sto->Option (W×Sto)
section
variable (K:qac)
def tI (env:Ev) (st:Sto) (r:W×Sto):TE:=λσ H Q=>∃ φ,Er K H φ env σ/\Sr K H φ st/\∀ v H' φ',Fw φ φ' H H'->Sr K H' φ' r.2->Rw K H' φ' r.1 v->Q v H'
def tIA (env:Ev) (st:Sto) (r:List W×Sto):TA:=λσ H Q=>∃ φ,Er K H φ env σ/\Sr K H φ st/\∀ vs H' φ',Fw φ φ' H H'->Sr K H' φ' r.2->Rws K H' φ' r.1 vs->Q vs H'
def tIT (env:Ev) (st:Sto) (r:Bool×Sto):TT:=λσ H Q=>∃ φ,Er K H φ env σ/\Sr K H φ st/\∀ H' φ',Fw φ φ' H H'->Sr K H' φ' r.2->Q r.1 H'
def tIL (env:Ev) (st:Sto) (r:List D×Sto):TE:=λσ H Q=>∃ φ,Er K H φ env σ/\Sr K H φ st/\∀ a vs H1 φ',Fw φ φ' H H1->Sr K H1 φ' r.2->H1 a=none->Rls K H1 φ' r.1 vs->Q (.ref a) (upd H1 a (.lst vs))
structure IE (X:Cx) (e:Expr) (f:Ef):Prop where
 run:∀ env st r,f env st=some r->PE X e (tI K env st r)
structure IA (X:Cx) (es:List Expr) (f:Af):Prop where
 run:∀ env st r,f env st=some r->PA X es (tIA K env st r)
structure IT (X:Cx) (e:Expr) (f:Tf):Prop where
 run:∀ env st r,f env st=some r->PT X e (tIT K env st r)
structure ITW (X:Cx) (e:Expr) (f:Tf):Prop where
 run:∀ env st r,f env st=some r->PW X e (tIT K env st r)
structure IL (X:Cx) (e:Expr) (f:Lf):Prop where
 run:∀ env st r,f env st=some r->PE X e (tIL K env st r)
def rD (st:Sto) (x y:W) (d:D):R2:=λvx vy H Q=>∃ φ,Sr K H φ st/\Rw K H φ x vx/\Rw K H φ y vy/\∀ v H',bx H H'->Rl K H' φ d v->Q v H'
structure OpD (X:Cx) (f:Value->Value->Sem Value) (g:Sto->W->W->Option D):Prop where
 run:∀ st x y d,g st x y=some d->OpR X f (rD K st x y d)
def rCD (st:Sto) (ws:List W) (d:D):List V->Hp->VK->Prop:=λvs H Q=>∃ φ,Sr K H φ st/\Rws K H φ ws vs/\∀ v H',bx H H'->Rl K H' φ d v->Q v H'
structure ja (X:Cx) (f:Value) (g:Sto->List W->Option D):Prop where
 run:∀ st ws d,g st ws=some d->dm X f (rCD K st ws d)
def rCL (st:Sto) (ws:List W) (ds:List D):List V->Hp->VK->Prop:=λvs H Q=>∃ φ,Sr K H φ st/\Rws K H φ ws vs/\∀ a us H1,bx H H1->H1 a=none->Rls K H1 φ ds us->Q (.ref a) (upd H1 a (.lst us))
structure zl (X:Cx) (f:Value) (g:Sto->List W->Option (List D)):Prop where
 run:∀ st ws d,g st ws=some d->dm X f (rCL K st ws d)
end
def iV (i:Nat):Ef
 |env,st=>(env.getD i none).map λw=>(w,st)
def iC (d:D):Ef
 |_,st=>some (.d d,st)
def iOp (g:Sto->W->W->Option D) (a b:Ef):Ef
 |env,st=>(a env st).bind λx=>(b env x.2).bind λy=>(g y.2 x.1 y.1).map λd=>(.d d,y.2)
def rF:D->Option Bool
 |.bl b=>some b
 |_=>none
def blW:W->Option Bool
 |.d (.bl b)=>some b
 |_=>none
def bh (g:Sto->W->W->Option D) (a b:Ef):Tf
 |env,st=>(a env st).bind λx=>(b env x.2).bind λy=>(g y.2 x.1 y.1).bind λd=>(rF d).map λk=>(k,y.2)
def iUn (g:W->Option D) (a:Ef):Ef
 |env,st=>(a env st).bind λx=>(g x.1).map λd=>(.d d,x.2)
def uQ (a:Ef):Ef
 |env,st=>(a env st).bind λx=>(blW x.1).map λk=>(.d (.bl (!k)),x.2)
def d7 (a b:Ef):Ef
 |env,st=>(a env st).bind λx=>(blW x.1).bind λk=>if k=true then b env x.2 else some (.d (.bl false),x.2)
def my (c:Tf) (a b:Ef):Ef
 |env,st=>(c env st).bind λr=>if r.1=true then a env r.2 else b env r.2
def bB (c:Tf):Tf
 |env,st=>(c env st).map λr=>(!r.1,r.2)
def pb (a b:Tf):Tf
 |env,st=>(a env st).bind λr=>if r.1=true then b env r.2 else some (false,r.2)
def cG (a b:Tf):Tf
 |env,st=>(a env st).bind λr=>if r.1=true then some (true,r.2) else b env r.2
def bM (g:Sto->W->Option Bool) (a:Ef):Tf
 |env,st=>(a env st).bind λx=>(g x.2 x.1).map λk=>(k,x.2)
def ae:Af
 |_,st=>some ([],st)
def aa (a:Ef) (r:Af):Af
 |env,st=>(a env st).bind λx=>(r env x.2).map λy=>(x.1::y.1,y.2)
def iCB (g:Sto->List W->Option D) (a:Af):Ef
 |env,st=>(a env st).bind λr=>(g r.2 r.1).map λd=>(.d d,r.2)
def iCL (g:Sto->List W->Option (List D)) (a:Af):Lf
 |env,st=>(a env st).bind λr=>(g r.2 r.1).map λd=>(d,r.2)
def av (m:Fn) (a:Af):Ef
 |env,st=>(a env st).bind λr=>m r.1 r.2
def mY:List W->Option (List D)
 |[]=>some []
 |.d x::ws=>(mY ws).map λr=>x::r
 |.h _::_=>none
def bE (a:Af):Ef
 |env,st=>(a env st).bind λr=>(mY r.1).bind λds=>if ds.length<=1000 then some (.d (.tup ds),r.2) else none
def cf (a:Af):Lf
 |env,st=>(a env st).bind λr=>(mY r.1).bind λds=>if ds.length<=1000 then some (ds,r.2) else none
def aA (a:Lf):Ef
 |env,st=>(a env st).map λr=>(.d (.lst r.1),r.2)
def fF (a:Lf):Ef
 |env,st=>(a env st).map λr=>(.h r.2.length,r.2++[.l r.1])
section
variable {K:qac}{X:Cx}{e a b c:Expr}{es:List Expr}{pos:Pos}{f fa fb fc:Ef}
theorem PE.imp {t t':TE} (h:PE X e t) (m:∀ σ H Q,t' σ H Q->t σ H Q):PE X e t':=λpins s σ H Q I q=>h pins s σ H Q I (m σ H Q q)
theorem PT.imp {t t':TT} (h:PT X e t) (m:∀ σ H Q,t' σ H Q->t σ H Q):PT X e t':=λpins s σ H Q I q=>h pins s σ H Q I (m σ H Q q)
theorem PW.imp {t t':TT} (h:PW X e t) (m:∀ σ H Q,t' σ H Q->t σ H Q):PW X e t':=λwh pins s σ H Q I q=>h wh pins s σ H Q I (m σ H Q q)
theorem PA.imp {t t':TA} (h:PA X es t) (m:∀ σ H Q,t' σ H Q->t σ H Q):PA X es t':=λpos pins s σ H Q I q=>h pos pins s σ H Q I (m σ H Q q)
theorem OpR.imp {g:Value->Value->Sem Value}{r r':R2} (h:OpR X g r) (m:∀ x y H Q,r' x y H Q->r x y H Q):OpR X g r':=λpins s σ H x y v u Q I rx ry q=>h pins s σ H x y v u Q I rx ry (m _ _ _ _ q)
theorem dm.imp {g:Value}{r r':List V->Hp->VK->Prop} (h:dm X g r) (m:∀ xs H Q,r' xs H Q->r xs H Q):dm X g r':=λpins s σ H xs us Q I rx q=>h pins s σ H xs us Q I rx (m _ _ _ q)
theorem nD:PE X e (λ_ _ _=>False):=λ_ _ _ _ _ _ q=>q.elim
theorem sE:PW X e (λ_ _ _=>False):=λ_ _ _ _ _ _ _ q=>q.elim
theorem AG {i:Nat}{x:Str}{t:TE} (h:PE X (.Name x pos) (sB i)):IE K X (.Name x pos) (iV i):=by
 refine⟨λenv st r hr=>?_⟩
 unfold iV at hr
 obtain⟨w,hw,rfl⟩:=qad.mp hr
 refine h.imp ?_
 rintro σ H Q ⟨φ,hE,hS,q⟩
 have hi:env[i]?=some (some w):=by
  rw[qeL]at hw
  cases q:env[i]? with
  |none=>rw[q]at hw;cases hw
  |some o=>rw[q]at hw;rw[show o=some w from hw]
 obtain⟨v,e1,r⟩:=hE.at_ i w hi
 exact⟨v,e1,q v H φ (Fw.refl φ H) hS r⟩
theorem iv (i:Nat) {x:Str} (hN:X.N[i]?=some x:=by rfl) (hv:Vis X.env.scope x:=by first|exact Or.inl rfl|exact Or.inr (Or.inl rfl)|exact Or.inr (Or.inr rfl)) (hd:(x==("__debug__" : Str))=false:=by decide)
  (hcd:(x==("__classdict__" : Str))=false:=by decide):IE K X (.Name x pos) (iV i):=AG (t:=sB i) (kI hN hv hd hcd)
theorem xH {d:D}{v:V} (h:PE X e (tC v)) (r:∀ H φ,Rl K H φ d v):IE K X e (iC d):=by
 refine⟨λenv st r hr=>?_⟩
 cases hr
 refine h.imp ?_
 rintro σ H Q ⟨φ,hE,hS,q⟩
 exact q v H φ (Fw.refl φ H) hS (r H φ)
theorem ak {i j}:IE K X (.Constant (.int i) j pos) (iC (.int i)):=xH xJ λ_ _=>rfl
theorem fq {i j}:IE K X (.Constant (.bool i) j pos) (iC (.bl i)):=xH Co λ_ _=>rfl
theorem iy {j}:IE K X (.Constant .none j pos) (iC .non):=xH Ai λ_ _=>rfl
theorem de {x j}:IE K X (.Constant (.str x) j pos) (iC (.str x)):=xH zH λ_ _=>rfl
theorem pV {env:Ev}{st:Sto}{x y:W×Sto}{d:D}{σ:St}{H:Hp}{Q:VK} (h:tI K env st (.d d,y.2) σ H Q):tOp (rD K y.2 x.1 y.1 d) (tI K env st x) (tI K env x.2 y) σ H Q:=by
 obtain⟨φ,hE,hS,q⟩:=h
 refine⟨φ,hE,hS,λv H1 φ1 f1 s1 w1=>⟨φ1,hE.fw hS f1,s1,λu H2 φ2 f2 s2 w2=>⟨φ2,s2,w1.fw s1 f2,w2,λv3 H3 f3 w3=>?_⟩⟩⟩
 exact q v3 H3 φ2 ((f1.trans f2).trans (Fw.same f3)) (s2.same f3) w3
theorem aI {op:Operator}{g:Sto->W->W->Option D} (ho:OpD K X (qbC op) g) (ha:IE K X a fa) (hb:IE K X b fb):IE K X (.BinOp a op b pos) (iOp g fa fb):=by
 refine⟨λenv st r hr=>?_⟩
 simp only[iOp,qaa,qad]at hr
 obtain⟨x,hx,y,hy,d,hd,rfl⟩:=hr
 exact (zp (ho.run _ _ _ _ hd) (ha.run _ _ _ hx) (hb.run _ _ _ hy)).imp λσ H Q h=>pV h
theorem dF {op:CmpOp}{g:Sto->W->W->Option D} (ho:OpD K X (qbA op) g) (ha:IE K X a fa) (hb:IE K X b fb) (hm:qda op b=false):IE K X (.Compare a [op] [b] pos) (iOp g fa fb):=by
 refine⟨λenv st r hr=>?_⟩
 simp only[iOp,qaa,qad]at hr
 obtain⟨x,hx,y,hy,d,hd,rfl⟩:=hr
 exact (yO (ho.run _ _ _ _ hd) (ha.run _ _ _ hx) (hb.run _ _ _ hy) hm).imp λσ H Q h=>pV h
theorem vS {d:D}{k:Bool} (h:rF d=some k):d=.bl k:=by
 cases d<;>first|(cases h;done)|(injection h with h;subst h;rfl)
theorem sF {d:W}{k:Bool} (h:blW d=some k):d=.d (.bl k):=by
 cases d with
 |h n=>cases h
 |d x=>cases x<;>first|(cases h;done)|(injection h with h;subst h;rfl)
theorem bz {op:CmpOp}{g:Sto->W->W->Option D} (ho:OpD K X (qbA op) g) (ha:IE K X a fa) (hb:IE K X b fb) (hm:qda op b=false):IT K X (.Compare a [op] [b] pos) (bh g fa fb):=by
 refine⟨λenv st r hr=>?_⟩
 simp only[bh,qaa,qad]at hr
 obtain⟨x,hx,y,hy,d,hd,k,hk,rfl⟩:=hr
 cases vS hk
 refine (yU (ho.run _ _ _ _ hd) (ha.run _ _ _ hx) (hb.run _ _ _ hy) hm).imp λσ H Q h=>?_
 obtain⟨φ,hE,hS,q⟩:=h
 refine pV ⟨φ,hE,hS,λv H1 φ1 f1 s1 w1=>⟨k,w1,q H1 φ1 f1 s1⟩⟩
def mq:W->Option D
 |.d (.int i)=>some (.int (-i))
 |_=>none
theorem lG (ha:IE K X a fa):IE K X (.UnaryOp .USub a pos) (iUn mq fa):=by
 refine⟨λenv st r hr=>?_⟩
 simp only[iUn,qaa,qad]at hr
 obtain⟨⟨x,s1⟩,hx,d,hd,rfl⟩:=hr
 cases x with
 |h n=>cases hd
 |d x=>
  cases x with
  |int i=>
   cases hd
   refine (zo wG (ha.run _ _ _ hx)).imp ?_
   rintro σ H Q ⟨φ,hE,hS,q⟩
   exact⟨φ,hE,hS,λv H1 φ1 f1 s1 w1=>⟨i,w1,q _ H1 φ1 f1 s1 rfl⟩⟩
  |_=>cases hd
theorem wQ (ha:IE K X a fa):IE K X (.UnaryOp .Not a pos) (uQ fa):=by
 refine⟨λenv st r hr=>?_⟩
 simp only[uQ,qaa,qad]at hr
 obtain⟨x,hx,k,hk,rfl⟩:=hr
 have e:=sF hk
 refine (zP (ha.run _ _ _ hx)).imp ?_
 rintro σ H Q ⟨φ,hE,hS,q⟩
 exact⟨φ,hE,hS,λv H1 φ1 f1 s1 w1=>⟨k,by rw[e]at w1;exact w1,q _ H1 φ1 f1 s1 rfl⟩⟩
theorem iU {op} (h:IE K X a fa):IE K X (.BoolOp op [a] pos) fa:=⟨λenv st r hr=>Aw (h.run env st r hr)⟩
theorem iR {rest:List Expr} (ha:IE K X a fa) (hb:IE K X (.BoolOp .And (b::rest) pos) fb):IE K X (.BoolOp .And (a::b::rest) pos) (d7 fa fb):=by
 refine⟨λenv st r hr=>?_⟩
 simp only[d7,qaa]at hr
 obtain⟨x,hx,k,hk,hr⟩:=hr
 have e:=sF hk
 cases k with
 |false=>
  rw[if_neg qax]at hr
  cases hr
  refine (wy (ha.run _ _ _ hx) nD).imp ?_
  rintro σ H Q ⟨φ,hE,hS,q⟩
  refine⟨φ,hE,hS,λv H1 φ1 f1 s1 w1=>⟨false,by rw[e]at w1;exact w1,?_⟩⟩
  rw[if_neg qax]
  exact q _ H1 φ1 f1 s1 rfl
 |true=>
  rw[if_pos rfl]at hr
  refine (wy (ha.run _ _ _ hx) (hb.run _ _ _ hr)).imp ?_
  rintro σ H Q ⟨φ,hE,hS,q⟩
  refine⟨φ,hE,hS,λv H1 φ1 f1 s1 w1=>⟨true,by rw[e]at w1;exact w1,?_⟩⟩
  rw[if_pos rfl]
  exact⟨φ1,hE.fw hS f1,s1,λu H2 φ2 f2 s2 w2=>q u H2 φ2 (f1.trans f2) s2 w2⟩
variable {ta tb:Tf}
theorem dB (ha:IT K X a ta):IT K X (.UnaryOp .Not a pos) (bB ta):=by
 refine⟨λenv st r hr=>?_⟩
 simp only[bB,qad]at hr
 obtain⟨x,hx,rfl⟩:=hr
 refine (zY (ha.run _ _ _ hx)).imp ?_
 rintro σ H Q ⟨φ,hE,hS,q⟩
 exact⟨φ,hE,hS,λH1 φ1 f1 s1=>q H1 φ1 f1 s1⟩
theorem fP (h:ITW K X a ta):IT K X a ta:=⟨λenv st r hr=>(h.run env st r hr).pt⟩
theorem wO (h:IT K X a ta):ITW K X (.BoolOp .And [a] pos) ta:=⟨λenv st r hr=>yn (h.run env st r hr)⟩
theorem eG (h:IT K X a ta):ITW K X (.BoolOp .Or [a] pos) ta:=⟨λenv st r hr=>Ah (h.run env st r hr)⟩
theorem yS {rest:List Expr} (ha:IT K X a ta) (hb:ITW K X (.BoolOp .And (b::rest) pos) tb):ITW K X (.BoolOp .And (a::b::rest) pos) (pb ta tb):=by
 refine⟨λenv st r hr=>?_⟩
 simp only[pb,qaa]at hr
 obtain⟨⟨k,s1⟩,hx,hr⟩:=hr
 cases k with
 |false=>
  rw[if_neg qax]at hr
  cases hr
  refine (wq (ha.run _ _ _ hx) sE).imp ?_
  rintro σ H Q ⟨φ,hE,hS,q⟩
  refine⟨φ,hE,hS,λH1 φ1 f1 s1=>?_⟩
  refine sV ?_
  exact q H1 φ1 f1 s1
 |true=>
  rw[if_pos rfl]at hr
  refine (wq (ha.run _ _ _ hx) (hb.run _ _ _ hr)).imp ?_
  rintro σ H Q ⟨φ,hE,hS,q⟩
  refine⟨φ,hE,hS,λH1 φ1 f1 s1=>?_⟩
  refine sN ?_
  exact⟨φ1,hE.fw hS f1,s1,λH2 φ2 f2 s2=>q H2 φ2 (f1.trans f2) s2⟩
theorem d8 {rest:List Expr} (ha:IT K X a ta) (hb:ITW K X (.BoolOp .Or (b::rest) pos) tb):ITW K X (.BoolOp .Or (a::b::rest) pos) (cG ta tb):=by
 refine⟨λenv st r hr=>?_⟩
 simp only[cG,qaa]at hr
 obtain⟨⟨k,s1⟩,hx,hr⟩:=hr
 cases k with
 |true=>
  rw[if_pos rfl]at hr
  cases hr
  refine (zw (ha.run _ _ _ hx) sE).imp ?_
  rintro σ H Q ⟨φ,hE,hS,q⟩
  refine⟨φ,hE,hS,λH1 φ1 f1 s1=>?_⟩
  refine sN ?_
  exact q H1 φ1 f1 s1
 |false=>
  rw[if_neg qax]at hr
  refine (zw (ha.run _ _ _ hx) (hb.run _ _ _ hr)).imp ?_
  rintro σ H Q ⟨φ,hE,hS,q⟩
  refine⟨φ,hE,hS,λH1 φ1 f1 s1=>?_⟩
  refine sV ?_
  exact⟨φ1,hE.fw hS f1,s1,λH2 φ2 f2 s2=>q H2 φ2 (f1.trans f2) s2⟩
theorem xf {tc:Tf} (hc:IT K X c tc) (ha:IE K X a fa) (hb:IE K X b fb):IE K X (.IfExp c a b pos) (my tc fa fb):=by
 refine⟨λenv st r hr=>?_⟩
 simp only[my,qaa]at hr
 obtain⟨⟨k,s1⟩,hx,hr⟩:=hr
 cases k with
 |true=>
  rw[if_pos rfl]at hr
  refine (qM (hc.run _ _ _ hx) (ha.run _ _ _ hr) nD).imp ?_
  rintro σ H Q ⟨φ,hE,hS,q⟩
  refine⟨φ,hE,hS,λH1 φ1 f1 s1=>?_⟩
  refine sN ?_
  exact⟨φ1,hE.fw hS f1,s1,λu H2 φ2 f2 s2 w2=>q u H2 φ2 (f1.trans f2) s2 w2⟩
 |false=>
  rw[if_neg qax]at hr
  refine (qM (hc.run _ _ _ hx) nD (hb.run _ _ _ hr)).imp ?_
  rintro σ H Q ⟨φ,hE,hS,q⟩
  refine⟨φ,hE,hS,λH1 φ1 f1 s1=>?_⟩
  refine sV ?_
  exact⟨φ1,hE.fw hS f1,s1,λu H2 φ2 f2 s2 w2=>q u H2 φ2 (f1.trans f2) s2 w2⟩
def iT (st:Sto):W->Option (List D)
 |.d (.tup ds)=>some ds
 |.d (.lst ds)=>some ds
 |.d (.scr ns)=>some (ns.map D.int)
 |.h n=>lg st n
 |_=>none
theorem qS {st:Sto}{H:Hp}{φ:List Addr}{w:W}{v:V}{ds:List D} (S:Sr K H φ st) (r:Rw K H φ w v) (e:iT st w=some ds):∃ a vs,v=.ref a/\(SqL K H a vs\/H a=some (.tup vs))/\Rls K H φ ds vs:=by
 cases w with
 |h n=>
  obtain⟨a,ea,rfl⟩:=r
  obtain⟨vs,q,rl⟩:=S.atl n a ds ea e
  exact⟨a,vs,rfl,.inl (SqL.of q),rl⟩
 |d x=>
  cases x with
  |tup es=>cases e;obtain⟨a,vs,rfl,h1,h2⟩:=r;exact⟨a,vs,rfl,.inr h1,h2⟩
  |lst es=>cases e;obtain⟨a,vs,rfl,h0,h1,h2⟩:=r;exact⟨a,vs,rfl,.inl (.inl h1),h2⟩
  |scr ns=>
   cases e
   obtain⟨a,rfl,h⟩:=r
   refine⟨a,_,rfl,.inl ?_,Rls.of_ints ns⟩
   rcases h with⟨o,h⟩|h
   ·exact .inl (.inr ⟨o,h⟩)
   ·exact .inr h
  |_=>cases e
theorem jV {st:Sto}{H:Hp}{φ:List Addr}{w:W}{v:V}{ds:List D} (S:Sr K H φ st) (r:Rw K H φ w v) (e:iT st w=some ds):∃ a vs,v=.ref a/\(SqL K H a vs\/SqT K H a vs)/\Rls K H φ ds vs:=by
 obtain⟨a,vs,h0,h1,h2⟩:=qS S r e
 exact⟨a,vs,h0,h1.imp id SqT.of,h2⟩
def bN (st:Sto):W->Option Bool
 |.d .non=>some false
 |.d (.bl b)=>some b
 |.d (.int i)=>some (i != 0)
 |w=>(iT st w).map λds=>!ds.isEmpty
theorem xW {st:Sto}{H:Hp}{φ:List Addr}{w:W}{v:V}{k:Bool} (S:Sr K H φ st) (r:Rw K H φ w v) (e:bN st w=some k):yM K v H k:=by
 have seq:∀ ds,iT st w=some ds->k=!ds.isEmpty->yM K v H k:=λds h hk=>by
  obtain⟨a,vs,rfl,h1,h2⟩:=jV S r h
  have hl:=h2.length
  have e':k=!vs.isEmpty:=by
   rw[hk]
   cases ds<;>cases vs<;>first|rfl|cases hl
  rcases h1 with h1|h1
  ·exact .inl ⟨vs,h1,e'⟩
  ·exact .inr (.inl ⟨vs,h1,e'⟩)
 cases w with
 |h n=>
  obtain⟨ds,h1,h2⟩:=qad.mp e
  exact seq ds h1 h2.symm
 |d x=>
  cases x with
  |non=>have r':v=.non:=r;subst r';cases e;exact rfl
  |bl b=>have r':v=.bl b:=r;subst r';cases e;exact rfl
  |int i=>have r':v=.int i:=r;subst r';cases e;exact rfl
  |tup ds=>exact seq ds rfl (qaW e).symm
  |lst ds=>exact seq ds rfl (qaW e).symm
  |scr ds=>exact seq _ rfl (qaW e).symm
  |_=>cases e
theorem cc (ha:IE K X a fa) (he:wd a=true:=by rfl) (hK:X.K=K:=by rfl):IT K X a (bM bN fa):=by
 subst hK
 refine⟨λenv st r hr=>?_⟩
 simp only[bM,qaa,qad]at hr
 obtain⟨x,hx,k,hk,rfl⟩:=hr
 refine (xr (ha.run _ _ _ hx) (vH he)).imp ?_
 rintro σ H Q ⟨φ,hE,hS,q⟩
 exact⟨φ,hE,hS,λv H1 φ1 f1 s1 w1=>⟨k,xW s1 w1 hk,q H1 φ1 f1 s1⟩⟩
variable {af:Af}
theorem ag:IA K X [] ae:=by
 refine⟨λenv st r hr=>?_⟩
 cases hr
 refine qc.imp ?_
 rintro σ H Q ⟨φ,hE,hS,q⟩
 exact q [] H φ (Fw.refl φ H) hS rfl
theorem ab (ha:IE K X e fa) (hr:IA K X es af) (hs:aP e=true:=by rfl):IA K X (e::es) (aa fa af):=by
 refine⟨λenv st r h=>?_⟩
 simp only[aa,qaa,qad]at h
 obtain⟨x,hx,y,hy,rfl⟩:=h
 refine (mM (ha.run _ _ _ hx) (hr.run _ _ _ hy) (bG hs)).imp ?_
 rintro σ H Q ⟨φ,hE,hS,q⟩
 refine⟨φ,hE,hS,λv H1 φ1 f1 s1 w1=>⟨φ1,hE.fw hS f1,s1,λu H2 φ2 f2 s2 w2=>?_⟩⟩
 exact q _ H2 φ2 (f1.trans f2) s2 ⟨v,u,rfl,w1.fw s1 f2,w2⟩
theorem bg {x:Str}{id:String}{p:Pos}{g:Sto->List W->Option D} (hc:ja K X (.builtin id) g) (hg:Gl X x) (hm:X.mg x=none) (hv:qb9 x=some (.builtin id)) (ha:IA K X (e::es) af)
  (hn:x≠"__name__":=by decide) (hdb:(x==("__debug__" : Str))=false:=by decide) (hs:aP e=true:=by rfl) (hp:es.all aP=true:=by rfl) :
  IE K X (.Call (.Name x p) (e::es) [] pos) (iCB g af):=by
 refine⟨λenv st r hr=>?_⟩
 simp only[iCB,qaa,qad]at hr
 obtain⟨y,hy,d,hd,rfl⟩:=hr
 refine (xR (hc.run _ _ _ hd) hg hm hv (ha.run _ _ _ hy) hn hdb (bG hs) (cF hp)).imp ?_
 rintro σ H Q ⟨φ,hE,hS,q⟩
 exact⟨φ,hE,hS,λv H1 φ1 f1 s1 w1=>⟨φ1,s1,w1,λu H2 f2 w2=>q u H2 φ1 (f1.trans (Fw.same f2)) (s1.same f2) w2⟩⟩
theorem jH {x:Str}{T:String}{p:Pos}{g:Sto->List W->Option D} (hc:ja K X (.type T) g) (hg:Gl X x) (hm:X.mg x=none) (hv:qb9 x=some (.type T)) (ha:IA K X (e::es) af)
  (hn:x≠"__name__":=by decide) (hdb:(x==("__debug__" : Str))=false:=by decide) (hs:aP e=true:=by rfl) (hp:es.all aP=true:=by rfl) :
  IE K X (.Call (.Name x p) (e::es) [] pos) (iCB g af):=by
 refine⟨λenv st r hr=>?_⟩
 simp only[iCB,qaa,qad]at hr
 obtain⟨y,hy,d,hd,rfl⟩:=hr
 refine (fH (hc.run _ _ _ hd) hg hm hv (ha.run _ _ _ hy) hn hdb (bG hs) (cF hp)).imp ?_
 rintro σ H Q ⟨φ,hE,hS,q⟩
 exact⟨φ,hE,hS,λv H1 φ1 f1 s1 w1=>⟨φ1,s1,w1,λu H2 f2 w2=>q u H2 φ1 (f1.trans (Fw.same f2)) (s1.same f2) w2⟩⟩
theorem wg {x:Str}{T:String}{p:Pos}{g:Sto->List W->Option (List D)} (hc:zl K X (.type T) g) (hg:Gl X x) (hm:X.mg x=none) (hv:qb9 x=some (.type T)) (ha:IA K X (e::es) af)
  (hn:x≠"__name__":=by decide) (hdb:(x==("__debug__" : Str))=false:=by decide) (hs:aP e=true:=by rfl) (hp:es.all aP=true:=by rfl) :
  IL K X (.Call (.Name x p) (e::es) [] pos) (iCL g af):=by
 refine⟨λenv st r hr=>?_⟩
 simp only[iCL,qaa,qad]at hr
 obtain⟨y,hy,d,hd,rfl⟩:=hr
 refine (fH (hc.run _ _ _ hd) hg hm hv (ha.run _ _ _ hy) hn hdb (bG hs) (cF hp)).imp ?_
 rintro σ H Q ⟨φ,hE,hS,q⟩
 exact⟨φ,hE,hS,λv H1 φ1 f1 s1 w1=>⟨φ1,s1,w1,λa us H2 f2 n2 w2=>q a us H2 φ1 (f1.trans (Fw.same f2)) (s1.same f2) n2 w2⟩⟩
theorem mQ {H:Hp}{φ:List Addr}:∀ {ws:List W}{vs:List V}{ds:List D},mY ws=some ds->Rws K H φ ws vs->Rls K H φ ds vs
 |[],_,_,e,h=>by cases e;exact h
 |.d x::ws,_,_,e,h=>by
  obtain⟨v,r,rfl,h1,h2⟩:=h
  obtain⟨es,e1,rfl⟩:=qad.mp e
  exact⟨v,r,rfl,h1,mQ e1 h2⟩
 |.h n::ws,_,_,e,h=>by cases e
theorem cB {x1} (h:IA K X es af):IE K X (.Tuple es x1 pos) (bE af):=by
 refine⟨λenv st r hr=>?_⟩
 simp only[bE,qaa]at hr
 obtain⟨y,hy,ds,hd,hr⟩:=hr
 split at hr
 ·cases hr
  rename_i hl
  refine (zM (h.run _ _ _ hy)).imp ?_
  rintro σ H Q ⟨φ,hE,hS,q⟩
  refine⟨φ,hE,hS,λvs H1 φ1 f1 s1 w1=>?_⟩
  have w:=mQ hd w1
  refine⟨by rw[<-w.length];exact qg hl,λp hp=>?_⟩
  exact q _ _ φ1 (f1.trans (Fw.new hp)) (s1.new hp) ⟨p,vs,rfl,upd_same,w.fw s1 (Fw.new hp)⟩
 ·cases hr
theorem cw (h:IA K X es af):IL K X (.List es pos) (cf af):=by
 refine⟨λenv st r hr=>?_⟩
 simp only[cf,qaa]at hr
 obtain⟨y,hy,ds,hd,hr⟩:=hr
 split at hr
 ·cases hr
  rename_i hl
  refine (Au (h.run _ _ _ hy)).imp ?_
  rintro σ H Q ⟨φ,hE,hS,q⟩
  refine⟨φ,hE,hS,λvs H1 φ1 f1 s1 w1=>?_⟩
  have w:=mQ hd w1
  exact⟨by rw[<-w.length];exact qg hl,λp hp=>q p vs H1 φ1 f1 s1 hp w⟩
 ·cases hr
theorem aG {lf:Lf} (h:IL K X e lf):IE K X e (aA lf):=by
 refine⟨λenv st r hr=>?_⟩
 simp only[aA,qad]at hr
 obtain⟨y,hy,rfl⟩:=hr
 refine (h.run _ _ _ hy).imp ?_
 rintro σ H Q ⟨φ,hE,hS,q⟩
 refine⟨φ,hE,hS,λa vs H1 φ1 f1 s1 n1 w1=>?_⟩
 exact q _ _ φ1 (f1.trans (Fw.new n1)) (s1.new n1) ⟨a,vs,rfl,s1.nin n1,.inl upd_same,w1.fw s1 (Fw.new n1)⟩
theorem Sr.moreC {H:Hp}{φ:List Addr}{st:Sto}{a:Addr}{o:HO}{c:C} (S:Sr K H φ st) (n:H a=none) (w:Rc K (upd H a o) (φ++[a]) φ.length a c):Sr K (upd H a o) (φ++[a]) (st++[c]):=by
 have f:Fw φ (φ++[a]) H (upd H a o):=⟨⟨[a],rfl,λb hb=>by rw[qag.mp hb];exact n⟩,λb o _ h=>bx.new n _ b o h,λb o h=>⟨o,bx.new n _ b o h⟩⟩
 refine⟨?_,by rw[qan,qan,S.len];rfl,λi b es e1 e2=>?_⟩
 ·rw[qck]
  refine⟨S.nd,by simp,λx hx y hy e=>?_⟩
  rw[qag.mp hy]at e
  rw[e]at hx
  exact S.nin n hx
 ·by_cases hi:i<φ.length
  ·rw[qaF hi]at e1
   rw[qaF (by rw[<-S.len];exact hi)]at e2
   exact (S.at_ i b es e1 e2).fw S f λo h=>bx.new n _ _ _ h
  ·have e:i=φ.length:=by
    have:=(qao.mp e1).1
    rw[qan]at this
    simp at this
    lia
   subst e
   rw[qaI (qal _)]at e1
   rw[S.len,qaI (qal _)]at e2
   simp at e1 e2
   subst e1 e2
   exact w
theorem Fw.moreO {H:Hp}{φ:List Addr}{a:Addr}{o:HO} (n:H a=none):Fw φ (φ++[a]) H (upd H a o):=
 ⟨⟨[a],rfl,λb hb=>by rw[qag.mp hb];exact n⟩,λb o _ h=>bx.new n _ b o h,λb o h=>⟨o,bx.new n _ b o h⟩⟩
theorem Fw.more {H:Hp}{φ:List Addr}{a:Addr}{vs:List V} (n:H a=none):Fw φ (φ++[a]) H (upd H a (.lst vs)):=Fw.moreO n
theorem Sr.more {H:Hp}{φ:List Addr}{st:Sto}{a:Addr}{vs:List V}{ds:List D} (S:Sr K H φ st) (n:H a=none) (w:Rls K H φ ds vs):Sr K (upd H a (.lst vs)) (φ++[a]) (st++[.l ds]):=
 S.moreC n ⟨vs,upd_same,w.fw S (Fw.moreO n)⟩
theorem iX {lf:Lf} (h:IL K X e lf):IE K X e (fF lf):=by
 refine⟨λenv st r hr=>?_⟩
 simp only[fF,qad]at hr
 obtain⟨y,hy,rfl⟩:=hr
 refine (h.run _ _ _ hy).imp ?_
 rintro σ H Q ⟨φ,hE,hS,q⟩
 refine⟨φ,hE,hS,λa vs H1 φ1 f1 s1 n1 w1=>?_⟩
 exact q _ _ (φ1++[a]) (f1.trans (Fw.more n1)) (s1.more n1 w1) ⟨a,by rw[<-s1.len];simp,rfl⟩
def spI (K:qac) (m:Fn):Sp:=λvs H Q _=>∃ φ st ws r,m ws st=some r/\Rws K H φ ws vs/\Sr K H φ st/\∀ v H' φ',Fw φ φ' H H'->Sr K H' φ' r.2->Rw K H' φ' r.1 v->Q v H'
theorem ax {x:Str}{k j:Nat}{ff:Addr}{fd:qaV}{ps:List Str}{m:Fn}{p:Pos} (F:bR X.prog X.w X.K X.mg X.base CX0 j ff fd ps (spI K m)) (hjk:j<=k) (hr:dW k X.A) (hg:Gl X x) (hm:X.mg x=some (.ref ff)) (hk:qav X.K (.ref ff)=true) (hb:bC X.K fd ps [])
  (ha:IA K X (e::es) af) (hdb:(x==("__debug__" : Str))=false:=by decide) (hs:aP e=true:=by rfl) (hp:es.all aP=true:=by rfl) :
  IE K X (.Call (.Name x p) (e::es) [] pos) (av m af):=by
 refine⟨λenv st r h=>?_⟩
 simp only[av,qaa]at h
 obtain⟨y,hy,h⟩:=h
 refine (uN (F.mono hjk) hr hg hm hk hb .nil xD (ha.run _ _ _ hy) hdb (bG hs) (cF hp)).imp ?_
 rintro σ H Q ⟨φ,hE,hS,q⟩
 refine⟨φ,hE,hS,λvs H1 φ1 f1 s1 w1=>?_⟩
 show spI K m (vs++[]) H1 Q E0
 rw[qbO]
 exact⟨φ1,y.2,y.1,r,h,w1,s1,λv H2 φ2 f2 s2 w2=>q v H2 φ2 (f1.trans f2) s2 w2⟩
end
inductive Fl where
 |nx (env:Ev) (st:Sto)|rt (w:W) (st:Sto)|bk (env:Ev) (st:Sto)|ct (env:Ev) (st:Sto)
abbrev Sf:=Ev->Sto->Option Fl
def wY (K:qac) (φ:List Addr) (H:Hp) (D:ow):Fl->Prop
 |.nx e s=>∀ σ' H' φ',Fw φ φ' H H'->Er K H' φ' e σ'->Sr K H' φ' s->D.nx σ' H'
 |.rt w s=>∀ v H' φ',Fw φ φ' H H'->Sr K H' φ' s->Rw K H' φ' w v->D.rt v H'
 |.bk e s=>∀ σ' H' φ',Fw φ φ' H H'->Er K H' φ' e σ'->Sr K H' φ' s->D.bk σ' H'
 |.ct e s=>∀ σ' H' φ',Fw φ φ' H H'->Er K H' φ' e σ'->Sr K H' φ' s->D.ct σ' H'
theorem wY.fw {K:qac}{φ φ1:List Addr}{H H1:Hp}{D:ow}{r:Fl} (h:wY K φ H D r) (f:Fw φ φ1 H H1):wY K φ1 H1 D r:=by
 cases r with
 |nx e s=>exact λσ' H' φ' f'=>h σ' H' φ' (f.trans f')
 |rt w s=>exact λv H' φ' f'=>h v H' φ' (f.trans f')
 |bk e s=>exact λσ' H' φ' f'=>h σ' H' φ' (f.trans f')
 |ct e s=>exact λσ' H' φ' f'=>h σ' H' φ' (f.trans f')
def tS (K:qac) (env:Ev) (st:Sto) (r:Fl):TS:=λD σ H=>∃ φ,Er K H φ env σ/\Sr K H φ st/\wY K φ H D r
structure IS (K:qac) (X:Cx) (s:Stmt) (g:Sf):Prop where
 run:∀ env st r,g env st=some r->PS X s (tS K env st r)
structure ISs (K:qac) (X:Cx) (s:List Stmt) (g:Sf):Prop where
 run:∀ env st r,g env st=some r->PSs X s (tS K env st r)
inductive Tg where
 |nm (i:Nat)|tp (is:List Nat)|tq (i:Nat) (is:List Nat)
def tR:Tg->List Nat
 |.nm i=>[i]
 |.tp is=>is
 |.tq i is=>i::is
def nL:List Nat->List D->Ev->Ev
 |i::is,d::ds,env=>nL is ds (env.set i (some (.d d)))
 |_,_,env=>env
def e9:Tg->W->Ev->Option Ev
 |.nm i,w,env=>some (env.set i (some w))
 |.tp is,.d (.tup ds),env=>if is.length=ds.length then some (nL is ds env) else none
 |.tp is,.d (.lst ds),env=>if is.length=ds.length then some (nL is ds env) else none
 |.tq i is,.d (.tup [d,.tup ds]),env=>if is.length=ds.length then some (nL is ds (env.set i (some (.d d)))) else none
 |_,_,_=>none
def yZ (is:List Nat) (σ σ':St):Prop:=σ'.length=σ.length/\∀ j,j∉is->σ'[j]?=σ[j]?
def tG (K:qac) (g:Tg):TG:=λv σ H Q=>∃ φ st env w env',Er K H φ env σ/\Sr K H φ st/\Rw K H φ w v/\e9 g w env=some env'/\∀ σ',Er K H φ env' σ'->yZ (tR g) σ σ'->Q σ' H
def tGs (K:qac) (is:List Nat):TGs:=λvs σ H Q=>∃ φ st env ds,Er K H φ env σ/\Sr K H φ st/\Rls K H φ ds vs/\is.length=ds.length/\∀ σ',Er K H φ (nL is ds env) σ'->yZ is σ σ'->Q σ' H
def bm:Sf
 |env,st=>some (.nx env st)
def ar (a b:Sf):Sf
 |env,st=>(a env st).bind λr=>match r with
 |.nx e s=>b e s
 |r=>some r
def aN (g:Tg) (f:Ef):Sf
 |env,st=>(f env st).bind λr=>(e9 g r.1 env).map λe=>.nx e r.2
def hU (st:Sto) (o i v:W):Option Sto:=match o,i,v with
 |.h n,.d (.int k),.d x=>(lg st n).bind λds=>(ixN ds.length k).map λj=>st.set n (.l (ds.set j x))
 |_,_,_=>none
def cn (o i v:Ef):Sf
 |env,st=>(v env st).bind λrv=>(o env rv.2).bind λro=>(i env ro.2).bind λri=>(hU ri.2 ro.1 ri.1 rv.1).map λs=>.nx env s
def br (f:Ef):Sf
 |env,st=>(f env st).map λr=>.rt r.1 r.2
def kg (f:Ef):Sf
 |env,st=>(f env st).map λr=>.nx env r.2
def ca (c:Tf) (a b:Sf):Sf
 |env,st=>(c env st).bind λr=>if r.1=true then a env r.2 else b env r.2
def sS:Sf
 |env,st=>some (.bk env st)
def oY:Sf
 |env,st=>some (.ct env st)
def dY (g:Tg) (body:Sf):List D->Ev->Sto->Option Fl
 |[],env,st=>some (.nx env st)
 |d::ds,env,st=>(e9 g (.d d) env).bind λe=>(body e st).bind λr=>match r with
  |.nx e s=>dY g body ds e s
  |.ct e s=>dY g body ds e s
  |.bk e s=>some (.nx e s)
  |.rt w s=>some (.rt w s)
def jh (fi:Lf) (g:Tg) (body:Sf):Sf
 |env,st=>(fi env st).bind λr=>dY g body r.1 env r.2
def d9 (c:Tf) (body:Sf):Nat->Ev->Sto->Option Fl
 |0,_,_=>none
 |n+1,env,st=>(c env st).bind λk=>if k.1=true then (body env k.2).bind λr=>match r with
   |.nx e s=>d9 c body n e s
   |.ct e s=>d9 c body n e s
   |.bk e s=>some (.nx e s)
   |.rt w s=>some (.rt w s)
  else some (.nx env k.2)
def lcI (g:Tg) (tt:Tf) (te:Ef) (env:Ev):List D->Sto->Option (List D×Sto)
 |[],st=>some ([],st)
 |d::ds,st=>(e9 g (.d d) env).bind λe=>(tt e st).bind λb=>if b.1=true then (te e b.2).bind λx=>(mY [x.1]).bind λys=>(lcI g tt te env ds x.2).map λr=>(ys++r.1,r.2)
   else lcI g tt te env ds b.2
def jg (k:Nat) (js:List Nat) (env:Ev):Ev:=qaC k none++js.map λj=>env.getD j none
def iLc (k:Nat) (js:List Nat) (fi:Lf) (g:Tg) (tt:Tf) (te:Ef):Lf
 |env,st=>(fi env st).bind λr=>if r.1.length<=1000000 then lcI g tt te (jg k js env) r.1 r.2 else none
def bn:Tf
 |_,st=>some (true,st)
def bj (f:Ef):Lf
 |env,st=>(f env st).bind λr=>match r.1 with
 |.d (.tup ds)=>some (ds,r.2)
 |.d (.lst ds)=>some (ds,r.2)
 |_=>none
def dn (lo:Int) (n:Nat):List D:=(qah n).map λk:Nat=>D.int (lo+k)
def cO (a:Af):Lf
 |env,st=>(a env st).bind λr=>match r.1 with
 |[.d (.int j)]=>if -(2^62)<=j/\j<2^62 then some (dn 0 j.toNat,r.2) else none
 |_=>none
def jx:Nat->List D->List D
 |_,[]=>[]
 |k,d::ds=>.tup [.int k,d]::jx (k+1) ds
def gu (a:Af):Lf
 |env,st=>(a env st).bind λr=>match r.1 with
 |[.d (.tup ds)]=>some (jx 0 ds,r.2)
 |[.d (.lst ds)]=>some (jx 0 ds,r.2)
 |_=>none
section
variable {K:qac}{X:Cx}{pos:Pos}
theorem PS.imp {s:Stmt}{t t':TS} (h:PS X s t) (m:∀ D σ H,t' D σ H->t D σ H):PS X s t':=λpins s σ H D I q=>h pins s σ H D I (m D σ H q)
theorem PSs.imp {s:List Stmt}{t t':TS} (h:PSs X s t) (m:∀ D σ H,t' D σ H->t D σ H):PSs X s t':=λpins s σ H D I q=>h pins s σ H D I (m D σ H q)
theorem Er.set {H:Hp}{φ:List Addr}{env:Ev}{σ:St} (h:Er K H φ env σ) (i:Nat) {w:W}{v:V} (r:Rw K H φ w v):Er K H φ (env.set i (some w)) (σ.set i (some v)):=by
 refine⟨by rw[qbx,qbx,h.len],λj w' e=>?_⟩
 by_cases hj:i=j
 ·subst hj
  have hi:i<env.length:=by
   have:=(qao.mp e).1
   rwa [qbx]at this
  rw[qba hi]at e
  cases e
  exact⟨v,by rw[qba (by rw[<-h.len];exact hi)],r⟩
 ·rw[qbo hj]at e
  obtain⟨v',e1,r1⟩:=h.at_ j w' e
  exact⟨v',by rw[qbo hj];exact e1,r1⟩
theorem xq (i:Nat) (σ:St) (v:Option V):yZ [i] σ (σ.set i v):=⟨by rw[qbx],λj hj=>by rw[qbo (by rintro rfl;simp at hj)]⟩
theorem bD {i:Nat}{x:Str} (h:PG X (.Name x pos) (rZ i)):PG X (.Name x pos) (tG K (.nm i)):=by
 intro pins s σ H v u Q I rv q
 obtain⟨φ,st,env,w,env',hE,hS,r,e,q⟩:=q
 cases e
 exact h pins s σ H v u Q I rv (q _ (hE.set i r) (xq i σ _))
theorem dC:PGs X [] (tGs K []):=by
 intro pins s σ H vs us Q I rv q
 obtain⟨φ,st,env,ds,hE,hS,r,e,q⟩:=q
 cases ds with
 |nil=>cases r;exact yi pins s σ H [] us Q I rv ⟨rfl,q σ hE ⟨rfl,λ_ _=>rfl⟩⟩
 |cons _ _=>cases e
theorem aS {i:Nat}{is:List Nat}{x:Str}{es:List Expr} (h1:PG X (.Name x pos) (rZ i)) (h2:PGs X es (tGs K is)):PGs X (.Name x pos::es) (tGs K (i::is)):=by
 intro pins s σ H vs us Q I rv q
 obtain⟨φ,st,env,ds,hE,hS,r,e,q⟩:=q
 cases ds with
 |nil=>cases e
 |cons d ds=>
  obtain⟨v,vr,rfl,r1,r2⟩:=r
  refine xE h1 h2 (uU rfl) pins s σ H _ us Q I rv ⟨v,vr,rfl,φ,st,_,ds,hE.set i (w:=.d d) r1,hS,r2,by simpa using e,λσ' e' s'=>q σ' e' ?_⟩
  refine⟨by rw[s'.1,qbx],λj hj=>?_⟩
  rw[s'.2 j (λz=>hj (qaj _ z)),qbo (by rintro rfl;exact hj qaf)]
def C7 (K:qac) (n:Nat) (t:TGs):TG:=λv σ H Q=>∃ a xs,v=.ref a/\SqL K H a xs/\xs.length=n/\t xs σ H Q
theorem zS {es:List Expr}{k:Nat}{t:TGs}{n:Nat} (hc:X.calm=true) (h:PGs X es t) (hn:(qbB es X.env).length=n) (hst:(qbB es X.env).findIdx? (·.1)=none):PG X (.Tuple es k pos) (C7 X.K n t):=by
 intro pins s σ H v u Q I r hw
 obtain⟨a,xs,e1,hq,hl,hw⟩:=hw
 subst e1
 cases r
 obtain⟨its,rv,p,hz⟩:=I.list hq
 rw[assign_Tuple]
 refine qae (qeA ?_)
 unfold unpack
 rw[show (qbB es X.env).length=its.toArray.size by simp[hn,<-hl,rv.length],hst]
 refine qae (qcK (PySem.W.kun_itemsOf (I.ok.hd hc) p.isList λh' hx=>?_))
 have I1:Inv X pins σ H { s with heap:=h' }:=I.kept (t':=s.toks) λb o e=>hx b o (qaO (qaz e)) e
 exact h pins _ σ H xs _ Q I1 (by simpa using rv) hw
theorem fB {es:List Expr}{k n:Nat}{is:List Nat} (h:PGs X es (tGs K is)) (hes:es.all aP=true:=by rfl) (hn:es.length=n:=by rfl) (hi:is.length=n:=by rfl) (hc:X.calm=true:=by rfl) (hK:X.K=K:=by rfl):PG X (.Tuple es k pos) (tG K (.tp is)):=by
 subst hK
 intro pins s σ H v u Q I rv q
 obtain⟨φ,st,env,w,env',hE,hS,r,e,q⟩:=q
 cases w with
 |h n=>cases e
 |d x=>
  cases x with
  |tup ds=>
   have e':(if is.length=ds.length then some (nL is ds env) else none)=some env':=e
   by_cases hl:is.length=ds.length
   ·rw[if_pos hl]at e'
    cases e'
    obtain⟨a,vs,rfl,hq,hr⟩:=r
    exact zC hc h ((qA hes).trans hn) (nE hes) pins s σ H _ u Q I rv ⟨a,vs,rfl,(SqT.of hq),by rw[<-hr.length,<-hl,hi],φ,st,env,ds,hE,hS,hr,hl,q⟩
   ·rw[if_neg hl]at e'
    cases e'
  |lst ds=>
   have e':(if is.length=ds.length then some (nL is ds env) else none)=some env':=e
   by_cases hl:is.length=ds.length
   ·rw[if_pos hl]at e'
    cases e'
    obtain⟨a,vs,rfl,_,hq,hr⟩:=r
    exact zS hc h ((qA hes).trans hn) (nE hes) pins s σ H _ u Q I rv ⟨a,vs,rfl,.inl hq,by rw[<-hr.length,<-hl,hi],φ,st,env,ds,hE,hS,hr,hl,q⟩
   ·rw[if_neg hl]at e'
    cases e'
  |_=>cases e
variable {s:Stmt}{ss rest:List Stmt}{e a b c:Expr}{ga gb:Sf}{f fa fb fc:Ef}
theorem aR:ISs K X [] bm:=by
 refine⟨λenv st r hr=>?_⟩
 cases hr
 exact yg.imp λD σ H ⟨φ,hE,hS,q⟩=>q σ H φ (Fw.refl φ H) hE hS
theorem ao (h:IS K X s ga):ISs K X [s] ga:=⟨λenv st r hr=>uY (h.run env st r hr)⟩
theorem aj (h1:IS K X s ga) (h2:ISs K X rest gb):ISs K X (s::rest) (ar ga gb):=by
 refine⟨λenv st r hr=>?_⟩
 simp only[ar,qaa]at hr
 obtain⟨r1,e1,hr⟩:=hr
 cases r1 with
 |nx e s1=>
  refine (gn (h1.run _ _ _ e1) (h2.run _ _ _ hr)).imp ?_
  rintro D σ H ⟨φ,hE,hS,q⟩
  exact⟨φ,hE,hS,λσ' H' φ' f' e' s'=>⟨φ',e',s',q.fw f'⟩⟩
 |rt w s1=>
  cases hr
  exact (gn (h1.run _ _ _ e1) iJ).imp λD σ H ⟨φ,hE,hS,q⟩=>⟨φ,hE,hS,q⟩
 |bk w s1=>
  cases hr
  exact (gn (h1.run _ _ _ e1) iJ).imp λD σ H ⟨φ,hE,hS,q⟩=>⟨φ,hE,hS,q⟩
 |ct w s1=>
  cases hr
  exact (gn (h1.run _ _ _ e1) iJ).imp λD σ H ⟨φ,hE,hS,q⟩=>⟨φ,hE,hS,q⟩
theorem aJ {i:Nat}{x:Str}{pos':Pos} (hN:X.N.Nodup) (hi:X.N[i]?=some x) (hx:Loc X.env.scope x) (he:IE K X e f) (hs:qcB e (some (.Name x pos')) pos.line X.env=pure false:=by rfl) (hf:X.fn x=true\/X.env.scope.names.lookup x=some .local:=by first|exact .inl rfl|exact .inr rfl|assumption) :
  IS K X (.Assign [.Name x pos'] e pos) (aN (.nm i) f):=by
 refine⟨λenv st r hr=>?_⟩
 simp only[aN,e9,qaa,qad]at hr
 obtain⟨y,hy,e',ee,rfl⟩:=hr
 cases ee
 refine (zI hN hi hx (he.run _ _ _ hy) hs hf).imp ?_
 rintro D σ H ⟨φ,hE,hS,q⟩
 exact⟨φ,hE,hS,λv H1 φ1 f1 s1 w1=>q _ H1 φ1 f1 ((hE.fw hS f1).set i w1) s1⟩
theorem wH {tg:Expr}{g:Tg} (he:IE K X e f) (hg:PG X tg (tG K g)) (hs:qdH [tg] e pos.line X.env=pure false:=by rfl) (hw:qdI [tg] e X.env=pure none:=by rfl)
  (h1:aP tg=true:=by rfl):IS K X (.Assign [tg] e pos) (aN g f):=by
 refine⟨λenv st r hr=>?_⟩
 simp only[aN,qaa,qad]at hr
 obtain⟨y,hy,e',ee,rfl⟩:=hr
 refine (qx (he.run _ _ _ hy) hg hs hw (mL h1)).imp ?_
 rintro D σ H ⟨φ,hE,hS,q⟩
 exact⟨φ,hE,hS,λv H1 φ1 f1 s1 w1=>⟨φ1,y.2,env,y.1,e',hE.fw hS f1,s1,w1,ee,λσ' e'' _=>q σ' H1 φ1 f1 e'' s1⟩⟩
theorem Sr.putC {H:Hp}{φ:List Addr}{st:Sto}{n:Nat}{a:Addr}{o:HO}{c:C} (S:Sr K H φ st) (hn:φ[n]?=some a) (w:Fw φ φ H (upd H a o)->Rc K (upd H a o) φ n a c) :
  Fw φ φ H (upd H a o)/\Sr K (upd H a o) φ (st.set n c):=by
 have ha:a∈φ:=qbD hn
 have f:Fw φ φ H (upd H a o):=⟨⟨[],by simp,by simp⟩,λb o hb h=>by rw[upd_ne (λz=>hb (by rw[z];exact ha))];exact h,λb o h=>by
  by_cases z:b=a
  ·subst z;exact⟨_,upd_same⟩
  ·exact⟨o,by rw[upd_ne z];exact h⟩⟩
 refine⟨f,S.nd,by rw[qbx];exact S.len,λm b es e1 e2=>?_⟩
 by_cases hm:n=m
 ·subst hm
  rw[e1]at hn;cases hn
  have hl:n<st.length:=by rw[<-S.len];exact (qao.mp e1).1
  rw[qba hl]at e2
  cases e2
  exact w f
 ·rw[qbo hm]at e2
  have q:=S.at_ m b es e1 e2
  have hne:b≠a:=by
   rintro rfl
   obtain⟨h1,h1'⟩:=qao.mp hn
   obtain⟨h2,h2'⟩:=qao.mp e1
   exact hm ((qex S.nd).mp (h1'.trans h2'.symm))
  exact q.fw S f λo h=>by rw[upd_ne hne];exact h
theorem Sr.put {H:Hp}{φ:List Addr}{st:Sto}{n:Nat}{a:Addr}{vs:List V}{ds:List D} (S:Sr K H φ st) (hn:φ[n]?=some a) (w:Rls K H φ ds vs) :
  Fw φ φ H (upd H a (.lst vs))/\Sr K (upd H a (.lst vs)) φ (st.set n (.l ds)):=S.putC hn λf=>⟨vs,upd_same,w.fw S f⟩
theorem tE {st s':Sto}{o i v:W} (h:hU st o i v=some s'):∃ n k x ds j,o=.h n/\i=.d (.int k)/\v=.d x/\lg st n=some ds/\ixN ds.length k=some j/\s'=st.set n (.l (ds.set j x)):=by
 unfold hU at h
 split at h
 ·obtain⟨ds,e1,h⟩:=qaa.mp h
  obtain⟨j,e2,h⟩:=qad.mp h
  exact⟨_,_,_,ds,j,rfl,rfl,rfl,e1,e2,h.symm⟩
 ·cases h
theorem eD {tpos:Pos} (ho:IE K X a fa) (hi:IE K X b fb) (hv:IE K X e f) (hb:pG b=true:=by rfl) (hs:qdH [.Subscript a b tpos] e pos.line X.env=pure false:=by rfl) (hw:qdI [.Subscript a b tpos] e X.env=pure none:=by rfl) :
  IS K X (.Assign [.Subscript a b tpos] e pos) (cn fa fb f):=by
 refine⟨λenv st r hr=>?_⟩
 simp only[cn,qaa,qad]at hr
 obtain⟨rv,ev,ro,eo,ri,ei,s',es,rfl⟩:=hr
 refine (qx (hv.run _ _ _ ev) (sR (ho.run _ _ _ eo) (hi.run _ _ _ ei) nO (pL hb)) hs hw (mL rfl)).imp ?_
 rintro D σ H ⟨φ,hE,hS,q⟩
 refine⟨φ,hE,hS,λv H1 φ1 f1 s1 w1=>⟨φ1,hE.fw hS f1,s1,λo H2 φ2 f2 s2 w2=>⟨φ2,(hE.fw hS f1).fw s1 f2,s2,λi H3 φ3 f3 s3 w3=>?_⟩⟩⟩
 have e3:=((hE.fw hS f1).fw s1 f2).fw s2 f3
 have w1':=(w1.fw s1 f2).fw s2 f3
 have w2':=w2.fw s2 f3
 obtain⟨ro1,ro2⟩:=ro
 obtain⟨rv1,rv2⟩:=rv
 obtain⟨ri1,ri2⟩:=ri
 obtain⟨n,k,x,ds,j,rfl,rfl,rfl,eds,ej,rfl⟩:=tE es
 obtain⟨p,ep,rfl⟩:=w2'
 obtain⟨vs,hp,rl⟩:=s3.atl n p ds ep eds
 have w3':i=.int k:=w3
 subst w3'
 obtain⟨f4,s4⟩:=s3.put ep (Rls.set j rl w1')
 refine⟨p,vs,k,j,rfl,rfl,hp,by rw[<-rl.length];exact ej,?_⟩
 exact q _ _ φ3 (((f1.trans f2).trans f3).trans f4) (e3.fw s3 f4) s4
theorem aD (h:IE K X e f):IS K X (.Return (some e) pos) (br f):=by
 refine⟨λenv st r hr=>?_⟩
 simp only[br,qad]at hr
 obtain⟨y,hy,rfl⟩:=hr
 exact (Bf (h.run _ _ _ hy)).imp λD σ H ⟨φ,hE,hS,q⟩=>⟨φ,hE,hS,q⟩
theorem qH (h:IE K X e f) (hs:qcB e none pos.line X.env=pure false:=by rfl):IS K X (.Expr e pos) (kg f):=by
 refine⟨λenv st r hr=>?_⟩
 simp only[kg,qad]at hr
 obtain⟨y,hy,rfl⟩:=hr
 exact (yY (h.run _ _ _ hy) hs).imp λD σ H ⟨φ,hE,hS,q⟩=>⟨φ,hE,hS,λv H1 φ1 f1 s1 w1=>q σ H1 φ1 f1 (hE.fw hS f1) s1⟩
theorem bS {tc:Tf}{sa sb:List Stmt} (hc:IT K X c tc) (ha:ISs K X sa ga) (hb:ISs K X sb gb):IS K X (.If c sa sb pos) (ca tc ga gb):=by
 refine⟨λenv st r hr=>?_⟩
 simp only[ca,qaa]at hr
 obtain⟨⟨k,s1⟩,hx,hr⟩:=hr
 cases k with
 |true=>
  rw[if_pos rfl]at hr
  refine (zk (hc.run _ _ _ hx) (ha.run _ _ _ hr) iJ).imp ?_
  rintro D σ H ⟨φ,hE,hS,q⟩
  refine⟨φ,hE,hS,λH1 φ1 f1 s1=>sN ?_⟩
  exact⟨φ1,hE.fw hS f1,s1,q.fw f1⟩
 |false=>
  rw[if_neg qax]at hr
  refine (zk (hc.run _ _ _ hx) iJ (hb.run _ _ _ hr)).imp ?_
  rintro D σ H ⟨φ,hE,hS,q⟩
  refine⟨φ,hE,hS,λH1 φ1 f1 s1=>sV ?_⟩
  exact⟨φ1,hE.fw hS f1,s1,q.fw f1⟩
theorem wp:IS K X (.Break pos) sS:=by
 refine⟨λenv st r hr=>?_⟩
 cases hr
 exact xO.imp λD σ H ⟨φ,hE,hS,q⟩=>q σ H φ (Fw.refl φ H) hE hS
theorem vg:IS K X (.Continue pos) oY:=by
 refine⟨λenv st r hr=>?_⟩
 cases hr
 exact qX.imp λD σ H ⟨φ,hE,hS,q⟩=>q σ H φ (Fw.refl φ H) hE hS
def BV (K:qac) (g:Sf):TS:=λD σ H=>∃ env st r,g env st=some r/\tS K env st r D σ H
def wE (K:qac) (f:Ef):TE:=λσ H Q=>∃ env st r,f env st=some r/\tI K env st r σ H Q
def u4 (K:qac) (f:Tf):TT:=λσ H Q=>∃ env st r,f env st=some r/\tIT K env st r σ H Q
theorem ISs.any (h:ISs K X ss ga):PSs X ss (BV K ga):=λpins s σ H D I ⟨env,st,r,e,q⟩=>h.run env st r e pins s σ H D I q
theorem IE.any (h:IE K X e f):PE X e (wE K f):=λpins s σ H D I ⟨env,st,r,e,q⟩=>h.run env st r e pins s σ H D I q
theorem IT.any {tf:Tf} (h:IT K X e tf):PT X e (u4 K tf):=λpins s σ H D I ⟨env,st,r,e,q⟩=>h.run env st r e pins s σ H D I q
def Yl (K:qac) (φ0:List Addr) (H0:Hp) (J:It) (ds:List D):Prop:=∀ (H:Hp) (φ:List Addr) (st:Sto) (i:Nat),Fw φ0 φ H0 H->Sr K H φ st->
 (∀ d,ds[i]?=some d->J.go i H/\∀ x H',J.yld i H x H'->bx H H'/\Rl K H' φ d x)/\(ds.length=i->J.stop i H)
def tII (K:qac) (env:Ev) (st:Sto) (r:List D×Sto):TI:=λσ H R=>∃ φ,Er K H φ env σ/\Sr K H φ st/\∀ J H' φ',Fw φ φ' H H'->Sr K H' φ' r.2->Yl K φ' H' J r.1->R J H'
structure II (K:qac) (X:Cx) (tg iter:Expr) (f:Lf):Prop where
 run:∀ env st r,f env st=some r->PI X tg iter (tII K env st r)
theorem PI.imp {tg iter:Expr}{t t':TI} (h:PI X tg iter t) (m:∀ σ H R,t' σ H R->t σ H R):PI X tg iter t':=λpins s σ H R I q=>h pins s σ H R I (m σ H R q)
variable {tg:Expr}
end
section
variable {K:qac}{X:Cx}{pos:Pos}{tg e a b:Expr}{f:Ef}{af:Af}
theorem dA (h:IE K X e f) (hK:X.K=K:=by rfl):II K X tg e (bj f):=by
 subst hK
 refine⟨λenv st r hr=>?_⟩
 simp only[bj,qaa]at hr
 obtain⟨⟨w,s1⟩,hy,hr⟩:=hr
 match w,hr with
 |.d (.tup ds),hr=>
  cases hr
  refine (AZ (h.run _ _ _ hy)).imp ?_
  rintro σ H R ⟨φ,hE,hS,q⟩
  refine⟨φ,hE,hS,λv H1 φ1 f1 s1 w1=>?_⟩
  obtain⟨a,vs,rfl,hq,hr⟩:=w1
  refine⟨a,rfl,⟨vs,(SqT.of hq)⟩,q _ H1 φ1 f1 s1 λH2 φ2 st2 i f2 s2=>?_⟩
  have hq2:=(SqT.of hq).fw s1 f2
  have hr2:=hr.fw s1 f2
  refine⟨λd hd=>?_,λhi=>⟨vs,hq2,by rw[<-hr2.length];exact qcA hi⟩⟩
  obtain⟨v,ev,rv⟩:=hr2.get hd
  refine⟨⟨vs,v,hq2,ev⟩,λx H' y=>?_⟩
  obtain⟨rfl,y⟩:=y
  have:=y vs hq2
  rw[ev]at this
  cases this
  exact⟨bx.refl _,rv⟩
 |.d (.lst ds),hr=>
  cases hr
  refine (uF (h.run _ _ _ hy)).imp ?_
  rintro σ H R ⟨φ,hE,hS,q⟩
  refine⟨φ,hE,hS,λv H1 φ1 f1 s1 w1=>?_⟩
  obtain⟨a,vs,rfl,h0,hq,hr⟩:=w1
  refine⟨a,rfl,⟨vs,.inl hq⟩,q _ H1 φ1 f1 s1 λH2 φ2 st2 i f2 s2=>?_⟩
  have hq2:SqL X.K H2 a vs:=.inl (hq.fw f2 h0)
  have hr2:=hr.fw s1 f2
  refine⟨λd hd=>?_,λhi=>⟨vs,hq2,by rw[<-hr2.length];exact qcA hi⟩⟩
  obtain⟨v,ev,rv⟩:=hr2.get hd
  refine⟨⟨vs,v,hq2,ev⟩,λx H' y=>?_⟩
  obtain⟨rfl,y⟩:=y
  have:=y vs hq2
  rw[ev]at this
  cases this
  exact⟨bx.refl _,rv⟩
theorem we (lo:Int) (n i:Nat):(dn lo n)[i]?=if i<n then some (.int (lo+i)) else none:=by
 unfold dn
 rw[qaS]
 by_cases h:i<n
 ·rw[qbH h,if_pos h];rfl
 ·rw[qbb (by simpa using h),if_neg h];rfl
theorem rq (lo:Int) (n:Nat):(dn lo n).length=n:=by unfold dn;rw[qam,qap]
theorem zX (lo:Int) (n:Nat) {φ:List Addr}{H:Hp}:Yl K φ H (Itr lo n) (dn lo n):=by
 intro H2 φ2 st2 i f2 s2
 refine⟨λd hd=>?_,λhi=>by rw[rq]at hi;exact qcA hi⟩
 rw[we]at hd
 by_cases h:i<n
 ·rw[if_pos h]at hd
  cases hd
  refine⟨h,λx H' y=>?_⟩
  obtain⟨rfl,rfl⟩:=y
  exact⟨bx.refl _,rfl⟩
 ·rw[if_neg h]at hd;cases hd
theorem io {p:Pos} (hg:Gl X "range") (hm:X.mg "range" = none) (ha:IA K X [a] af) (hs:aP a=true:=by rfl):II K X tg (.Call (.Name "range" p) [a] [] pos) (cO af):=by
 refine⟨λenv st r hr=>?_⟩
 simp only[cO,qaa]at hr
 obtain⟨⟨ws,s1⟩,hy,hr⟩:=hr
 match ws,hr with
 |[.d (.int j)],hr=>
  have hr':(if -(2^62)<=j/\j<2^62 then some (dn 0 j.toNat,s1) else none)=some r:=hr
  by_cases hj:-(2^62)<=j/\j<2^62
  ·rw[if_pos hj]at hr'
   cases hr'
   refine (wa hg hm (ha.run _ _ _ hy) (jl hs)).imp ?_
   rintro σ H R ⟨φ,hE,hS,q⟩
   refine⟨φ,hE,hS,λvs H1 φ1 f1 s1 w1=>?_⟩
   obtain⟨v,r,rfl,r1,rfl⟩:=w1
   exact⟨j,by rw[show v=.int j from r1],hj.1,hj.2,q _ H1 φ1 f1 s1 (zX 0 _)⟩
  ·rw[if_neg hj]at hr';cases hr'
theorem lL:∀ (ds:List D) (k i:Nat),(jx k ds)[i]?=(ds[i]?).map λd=>D.tup [.int ((k+i:Nat):Int),d]
 |[],k,i=>by simp[jx]
 |d::ds,k,0=>by simp[jx]
 |d::ds,k,i+1=>by
  have:=lL ds (k+1) i
  rw[show k+1+i=k+(i+1) by lia]at this
  simpa [jx] using this
theorem pd:∀ (ds:List D) (k:Nat),(jx k ds).length=ds.length
 |[],_=>rfl
 |d::ds,k=>by rw[jx,qas,qas,pd ds]
theorem u6 {S:Hp->List V->Prop}{ds:List D}{vs:List V}{φ:List Addr}{H:Hp} (hS:∀ H' φ',Fw φ φ' H H'->S H' vs) (hr:∀ H' φ',Fw φ φ' H H'->Rls K H' φ' ds vs):Yl K φ H (Ite S) (jx 0 ds):=by
 intro H2 φ2 st2 i f2 s2
 have q2:=hS H2 φ2 f2
 have r2:=hr H2 φ2 f2
 refine⟨λd hd=>?_,λhi=>⟨vs,q2,by rw[<-r2.length,<-pd ds 0];exact hi⟩⟩
 rw[lL,qad]at hd
 obtain⟨d',hd',rfl⟩:=hd
 obtain⟨v,ev,rv⟩:=r2.get hd'
 refine⟨⟨vs,v,q2,ev⟩,λx H' y=>?_⟩
 obtain⟨T,v',y1,hT,rfl,rfl⟩:=y
 have:=y1 vs q2
 rw[ev]at this
 cases this
 refine⟨bx.new hT _,T,_,rfl,upd_same,_,_,rfl,?_,_,_,rfl,rv.fw s2 (Fw.new hT),rfl⟩
 show V.int (i:Int)=V.int ((0+i:Nat):Int)
 rw[qbN]
theorem kU {elts:List Expr}{k:Nat}{tpos p:Pos} (hg:Gl X "enumerate") (hm:X.mg "enumerate" = none) (ha:IA K X [a] af) (hs:aP a=true:=by rfl) (hK:X.K=K:=by rfl) :
  II K X (.Tuple elts k tpos) (.Call (.Name "enumerate" p) [a] [] pos) (gu af):=by
 subst hK
 refine⟨λenv st r hr=>?_⟩
 simp only[gu,qaa]at hr
 obtain⟨⟨ws,s1⟩,hy,hr⟩:=hr
 match ws,hr with
 |[.d (.tup ds)],hr=>
  cases hr
  refine (xC hg hm (ha.run _ _ _ hy) (jl hs)).imp ?_
  rintro σ H R ⟨φ,hE,hS,q⟩
  refine⟨φ,hE,hS,λvs H1 φ1 f1 s1 w1=>?_⟩
  obtain⟨v,r,rfl,⟨a,us,rfl,hq,hr⟩,rfl⟩:=w1
  exact⟨a,rfl,⟨us,(SqT.of hq)⟩,q _ H1 φ1 f1 s1 (u6 (λH' φ' f=>(SqT.of hq).fw s1 f) λH' φ' f=>hr.fw s1 f)⟩
 |[.d (.lst ds)],hr=>
  cases hr
  refine (xM hg hm (ha.run _ _ _ hy) (jl hs)).imp ?_
  rintro σ H R ⟨φ,hE,hS,q⟩
  refine⟨φ,hE,hS,λvs H1 φ1 f1 s1 w1=>?_⟩
  obtain⟨v,r,rfl,⟨a,us,rfl,h0,hq,hr⟩,rfl⟩:=w1
  exact⟨a,rfl,⟨us,.inl hq⟩,q _ H1 φ1 f1 s1 (u6 (λH' φ' f=>.inl (hq.fw f h0)) λH' φ' f=>hr.fw s1 f)⟩
theorem fN {iter:Expr}{body:List Stmt}{fi:Lf}{g:Tg}{gb:Sf} (hi:II K X tg iter fi) (hg:PG X tg (tG K g)) (hb:ISs K X body gb) (hp:qgi (model X.prog X.w) X.A X.env X.xe) (hc:X.calm=true:=by rfl)
  (hs:∀ x,qbQ iter X.env x=pure x:=by intro _;rfl):IS K X (.For tg iter body [] pos) (jh fi g gb):=by
 refine⟨λenv st r hr=>?_⟩
 simp only[jh,qaa]at hr
 obtain⟨⟨ds,s1⟩,hy,hr⟩:=hr
 refine (zG hp hc (hi.run _ _ _ hy) hg hb.any hs).imp ?_
 rintro D σ H ⟨φ,hE,hS,q⟩
 refine⟨φ,hE,hS,λJ H1 φ1 f1 S1 yl=>?_⟩
 refine⟨λi m σ H=>m=ds.length - i/\i<=ds.length/\∃ env st φ2,Fw φ1 φ2 H1 H/\Er K H φ2 env σ/\Sr K H φ2 st/\dY g gb (ds.drop i) env st=some r,⟨ds.length,by simp,qb5 _,env,s1,φ1,Fw.refl _ _,hE.fw hS f1,S1,hr⟩,?_⟩
 rintro i m σ H2 ⟨rfl,hi,env2,st2,φ2,f2,e2,S2,h2⟩
 obtain⟨y1,y2⟩:=yl H2 φ2 st2 i f2 S2
 by_cases hlt:i<ds.length
 ·obtain⟨go,yld⟩:=y1 ds[i] (qaK hlt)
  rw[qdh hlt]at h2
  simp only[dY,qaa]at h2
  obtain⟨e3,he3,r3,hr3,h3⟩:=h2
  refine .inr ⟨go,λσ' H'=>i+1<=ds.length/\∃ env st φ2,Fw φ1 φ2 H1 H'/\Er K H' φ2 env σ'/\Sr K H' φ2 st/\dY g gb (ds.drop (i+1)) env st=some r,λσ' H' ⟨hn,p'⟩=>⟨ds.length - (i+1),by lia,rfl,hn,p'⟩,λx H' y=>?_⟩
  obtain⟨sm,rx⟩:=yld x H' y
  have S3:=S2.same sm
  have f3:=f2.trans (Fw.same (φ:=φ2) sm)
  refine⟨φ2,st2,env2,.d ds[i],e3,e2.fw S2 (Fw.same sm),S3,rx,he3,λσ' e' _=>?_⟩
  refine⟨e3,st2,r3,hr3,φ2,e',S3,?_⟩
  cases r3 with
  |nx e4 s4=>exact λσ4 H4 φ4 f4 e4' s4'=>⟨hlt,e4,s4,φ4,f3.trans f4,e4',s4',h3⟩
  |ct e4 s4=>exact λσ4 H4 φ4 f4 e4' s4'=>⟨hlt,e4,s4,φ4,f3.trans f4,e4',s4',h3⟩
  |bk e4 s4=>
   cases h3
   exact λσ4 H4 φ4 f4 e4' s4'=>q σ4 H4 φ4 (f1.trans (f3.trans f4)) e4' s4'
  |rt w s4=>
   cases h3
   exact λv H4 φ4 f4 s4' w4=>q v H4 φ4 (f1.trans (f3.trans f4)) s4' w4
 ·have hi':i=ds.length:=by lia
  subst hi'
  rw[qey]at h2
  cases h2
  exact .inl ⟨y2 rfl,q σ H2 φ2 (f1.trans f2) e2 S2⟩
def uB (n:Nat) (c:Tf) (b:Sf):Sf
 |env,st=>d9 c b n env st
theorem re {c:Expr}{body:List Stmt}{tc:Tf}{gb:Sf} (n:Nat) (hc:IT K X c tc) (hb:ISs K X body gb) (hp:qgi (model X.prog X.w) X.A X.env X.xe):IS K X (.While c body [] pos) (uB n tc gb):=by
 refine⟨λenv st r hr=>?_⟩
 refine (wm hp hc.any hb.any).imp ?_
 rintro D σ H ⟨φ,hE,hS,q⟩
 refine⟨λm σ H'=>∃ env st φ2,Fw φ φ2 H H'/\Er K H' φ2 env σ/\Sr K H' φ2 st/\d9 tc gb m env st=some r,⟨n,env,st,φ,Fw.refl _ _,hE,hS,hr⟩,?_⟩
 rintro m σ H2 ⟨env2,st2,φ2,f2,e2,S2,h2⟩
 cases m with
 |zero=>cases h2
 |succ m=>
  simp only[d9,qaa]at h2
  obtain⟨⟨k,s3⟩,hk,h2⟩:=h2
  refine⟨env2,st2,_,hk,φ2,e2,S2,λH3 φ3 f3 S3=>?_⟩
  cases k with
  |false=>
   rw[if_neg qax]at h2
   cases h2
   exact sV (q σ H3 φ3 (f2.trans f3) (e2.fw S2 f3) S3)
  |true=>
   simp only[if_true,qaa]at h2
   obtain⟨r3,hr3,h3⟩:=h2
   refine sN ⟨λσ' H'=>∃ env st φ2,Fw φ φ2 H H'/\Er K H' φ2 env σ'/\Sr K H' φ2 st/\d9 tc gb m env st=some r,λσ' H' p'=>⟨m,qbE _,p'⟩,?_⟩
   refine⟨env2,s3,r3,hr3,φ3,e2.fw S2 f3,S3,?_⟩
   have f3':=f2.trans f3
   cases r3 with
   |nx e4 s4=>exact λσ4 H4 φ4 f4 e4' s4'=>⟨e4,s4,φ4,f3'.trans f4,e4',s4',h3⟩
   |ct e4 s4=>exact λσ4 H4 φ4 f4 e4' s4'=>⟨e4,s4,φ4,f3'.trans f4,e4',s4',h3⟩
   |bk e4 s4=>
    cases h3
    exact λσ4 H4 φ4 f4 e4' s4'=>q σ4 H4 φ4 (f3'.trans f4) e4' s4'
   |rt w s4=>
    cases h3
    exact λv H4 φ4 f4 s4' w4=>q v H4 φ4 (f3'.trans f4) s4' w4
structure ITs (K:qac) (X:Cx) (ifs:List Expr) (t:Tf):Prop where
 run:PTs X ifs (u4 K t)
theorem bI:ITs K X [] bn:=by
 refine⟨λpins s σ H Q I ⟨env,st,r,e,φ,hE,hS,q⟩=>?_⟩
 cases e
 exact yJ pins s σ H Q I (q H φ (Fw.refl φ H) hS)
theorem y7 {c:Expr}{t:Tf} (h:IT K X c t):ITs K X [c] t:=⟨x3 h.any⟩
theorem Er.emb {H:Hp}{φ:List Addr}{env:Ev}{σ:St} (h:Er K H φ env σ) (k:Nat) (js:List Nat):Er K H φ (jg k js env) (gI k js σ):=by
 refine⟨by unfold jg gI;simp,λi w e=>?_⟩
 unfold jg at e
 unfold gI
 by_cases hi:i<k
 ·rw[qaF (by simpa using hi),qcH,if_pos hi]at e
  cases e
 ·rw[qaI (by simpa using hi),qch,qaS,qad]at e
  obtain⟨j,ej,e⟩:=e
  have ej2:env[j]?=some (some w):=by
   rw[qeL]at e
   cases q:env[j]? with
   |none=>rw[q]at e;cases e
   |some o=>rw[q]at e;rw[show o=some w from e]
  obtain⟨v,ev,rv⟩:=h.at_ j w ej2
  refine⟨v,?_,rv⟩
  rw[qaI (by simpa using hi),qch,qaS,ej]
  show some ((σ[j]?).getD none)=_
  rw[ev];rfl
theorem Sub.stay {k:Nat}{js is:List Nat}{σ σ':St} (h:yZ is (gI k js σ) σ') (hi:∀ j∈is,j<k):Sub (gI k js σ) σ':=by
 refine⟨h.1.symm,λj v e=>?_⟩
 by_cases hj:j∈is
 ·have:=hi j hj
  unfold gI at e
  rw[qaF (by simpa using this),qcH,if_pos this]at e
  cases e
 ·rw[h.2 j hj];exact e
theorem ud {k:Nat}{js:List Nat}{g:Tg}{tt:Tf}{te:Ef}{env:Ev}{st s1:Sto}{ds:List D}{r:List D×Sto} (hgi:∀ j∈tR g,j<k) (hdl:ds.length<=1000000) (hr':lcI g tt te (jg k js env) ds s1=some r) :
  ∀ σ H Q,tIL K env st r σ H Q->tLc (gI k js) (tII K env st (ds,s1)) (tG K g) (u4 K tt) (wE K te) σ H Q:=by
 rintro σ H Q ⟨φ,hE,hS,q⟩
 refine⟨φ,hE,hS,λJ H1 φ1 f1 S1 yl=>?_⟩
 have hE1:=(hE.fw hS f1).emb k js
 refine⟨λi m ys H2=>m=ds.length - i/\i<=ds.length/\∃ st φ2 es r2,Fw φ1 φ2 H1 H2/\Sr K H2 φ2 st/\Rls K H2 φ2 es ys/\es.length<=i/\lcI g tt te (jg k js env) (ds.drop i) st=some r2/\r=(es++r2.1,r2.2),⟨ds.length,by simp,qb5 _,s1,φ1,[],r,Fw.refl _ _,S1,rfl,qal _,hr',rfl⟩,?_⟩
 rintro i m ys H2 ⟨rfl,hi,st2,φ2,es,r2,f2,S2,rl2,hle,h2,rfl⟩
 obtain⟨y1,y2⟩:=yl H2 φ2 st2 i f2 S2
 by_cases hlt:i<ds.length
 ·obtain⟨go,yld⟩:=y1 ds[i] (qaK hlt)
  rw[qdh hlt]at h2
  simp only[lcI,qaa]at h2
  obtain⟨e3,he3,⟨kb,s3⟩,hb3,h3⟩:=h2
  have hz:ys.length<qaN:=by
   rw[<-rl2.length]
   have:qaN=16777216:=qdj
   lia
  refine .inr ⟨go,hz,λys' H'=>i+1<=ds.length/\∃ st φ2 es' r2',Fw φ1 φ2 H1 H'/\Sr K H' φ2 st/\Rls K H' φ2 es' ys'/\es'.length<=i+1/\lcI g tt te (jg k js env) (ds.drop (i+1)) st=some r2'/\(es++r2.1,r2.2)=(es'++r2'.1,r2'.2),λys' H' ⟨hn,p'⟩=>⟨ds.length - (i+1),by lia,rfl,hn,p'⟩,λx H' y=>?_⟩
  obtain⟨sm,rx⟩:=yld x H' y
  have S3:=S2.same sm
  have f3:=f2.trans (Fw.same (φ:=φ2) sm)
  refine⟨φ2,st2,jg k js env,.d ds[i],e3,hE1.fw S1 f3,S3,rx,he3,λσ' e' stay=>⟨Sub.stay stay hgi,?_⟩⟩
  refine⟨e3,st2,_,hb3,φ2,e',S3,λH4 φ4 f4 S4=>?_⟩
  cases kb with
  |false=>
   rw[if_neg qax]at h3
   exact sV ⟨hlt,s3,φ4,es,r2,f3.trans f4,S4,(rl2.fw S2 (Fw.same sm)).fw S3 f4,by lia,h3,rfl⟩
  |true=>
   simp only[if_true,qaa,qad]at h3
   obtain⟨x5,hx5,zs,hzs,r5,hr5,rfl⟩:=h3
   refine sN ⟨e3,s3,x5,hx5,φ4,e'.fw S3 f4,S4,λv H5 φ5 f5 S5 w5=>?_⟩
   obtain⟨x5,s5⟩:=x5
   cases x5 with
   |h n=>cases hzs
   |d z=>
    cases hzs
    refine⟨hlt,s5,φ5,es++[z],r5,(f3.trans f4).trans f5,S5,(((rl2.fw S2 (Fw.same sm)).fw S3 f4).fw S4 f5).append ⟨v,[],rfl,w5,rfl⟩,by rw[qan];simp;lia,hr5,?_⟩
    simp
 ·have hi':i=ds.length:=by lia
  subst hi'
  rw[qey]at h2
  cases h2
  refine .inl ⟨y2 rfl,λDn hD=>?_⟩
  have:=q Dn ys H2 φ2 (f1.trans f2) S2 hD
  exact this (by simpa using rl2)
theorem eB {scope:Scope}{Nc:List Str}{k:Nat}{js:List Nat}{elt iter:Expr}{ifs:List Expr}{fi:Lf}{g:Tg}{tt:Tf}{te:Ef}
  (S:fU X scope Nc (gI k js)) (hc:X.calm=true) (hgi:∀ j∈tR g,j<k) (hi:II K X tg iter fi)
  (hg:∀ cells s H C fp,PG (lcX X scope cells Nc s H C fp) tg (tG K g)) (ht:∀ cells s H C fp,ITs K (lcX X scope cells Nc s H C fp) ifs tt) (he:∀ cells s H C fp,IE K (lcX X scope cells Nc s H C fp) elt te)
  (hs:∀ x,qbQ iter X.env x=pure x:=by intro _;rfl):IL K X (.ListComp elt [⟨tg,iter,ifs,0⟩] scope pos) (iLc k js fi g tt te):=by
 refine⟨λenv st r hr=>?_⟩
 simp only[iLc,qaa]at hr
 obtain⟨⟨ds,s1⟩,hy,hr⟩:=hr
 have hr':(if ds.length<=1000000 then lcI g tt te (jg k js env) ds s1 else none)=some r:=hr
 by_cases hdn:¬ ds.length<=1000000
 ·rw[if_neg hdn]at hr';cases hr'
 have hdl:ds.length<=1000000:=by lia
 rw[if_pos hdl]at hr'
 refine (zh S hc (hi.run _ _ _ hy) hg (λcells s H C fp=>(ht cells s H C fp).run) (λcells s H C fp=>(he cells s H C fp).any) hs).imp (ud hgi hdl hr')
theorem ww {scope:Scope}{Nc:List Str}{k:Nat}{js:List Nat}{elt iter:Expr}{ifs:List Expr}{fi:Lf}{g:Tg}{tt:Tf}{te:Ef}{i0:Nat}{x0:Str}{py spos:Pos}
  (hN0:X.N.Nodup) (hi0:X.N[i0]?=some x0) (hx0:Loc X.env.scope x0) (S:fU X scope Nc (gI k js)) (hc:X.calm=true) (hgi:∀ j∈tR g,j<k) (hi:II K X tg iter fi)
  (hg:∀ cells s H C fp,PG (lcX X scope cells Nc s H C fp) tg (tG K g)) (ht:∀ cells s H C fp,ITs K (lcX X scope cells Nc s H C fp) ifs tt) (he:∀ cells s H C fp,IE K (lcX X scope cells Nc s H C fp) elt te)
  (hsw:qcB (.ListComp elt [⟨tg,iter,ifs,0⟩] scope pos) (some (.Name x0 py)) spos.line X.env=pure true:=by rfl)
  (hf0:X.fn x0=true\/X.env.scope.names.lookup x0=some .local:=by first|exact .inl rfl|exact .inr rfl|assumption)
  (hs:∀ x,qbQ iter X.env x=pure x:=by intro _;rfl):IS K X (.Assign [.Name x0 py] (.ListComp elt [⟨tg,iter,ifs,0⟩] scope pos) spos) (aN (.nm i0) (aA (iLc k js fi g tt te)))/\
   IS K X (.Assign [.Name x0 py] (.ListComp elt [⟨tg,iter,ifs,0⟩] scope pos) spos) (aN (.nm i0) (fF (iLc k js fi g tt te))):=by
 have key:∀ env st r0 r,iLc k js fi g tt te env st=some r->(∀ σ φ H (D:ow),Er K H φ env σ->Sr K H φ st->wY K φ H D r0->∀ a vs H1 φ',Fw φ φ' H H1->Sr K H1 φ' r.2->H1 a=none->Rls K H1 φ' r.1 vs->D.nx (σ.set i0 (some (.ref a))) (upd H1 a (.lst vs)))->
   PS X (.Assign [.Name x0 py] (.ListComp elt [⟨tg,iter,ifs,0⟩] scope pos) spos) (tS K env st r0):=by
  intro env st r0 r hr h
  simp only[iLc,qaa]at hr
  obtain⟨⟨ds,s1⟩,hy,hr⟩:=hr
  have hr':(if ds.length<=1000000 then lcI g tt te (jg k js env) ds s1 else none)=some r:=hr
  by_cases hdn:¬ ds.length<=1000000
  ·rw[if_neg hdn]at hr';cases hr'
  have hdl:ds.length<=1000000:=by lia
  rw[if_pos hdl]at hr'
  refine (zr hN0 hi0 hx0 S hc (hi.run _ _ _ hy) hg (λcells s H C fp=>(ht cells s H C fp).run) (λcells s H C fp=>(he cells s H C fp).any) hsw hf0 hs).imp ?_
  rintro D σ H ⟨φ,hE,hS,q⟩
  exact ud hgi hdl hr' σ H _ ⟨φ,hE,hS,h σ φ H D hE hS q⟩
 constructor
 ·refine⟨λenv st r hr=>?_⟩
  simp only[aN,aA,e9,qaa,qad]at hr
  obtain⟨y,⟨r2,hy,rfl⟩,e',ee,rfl⟩:=hr
  cases ee
  refine key _ _ _ _ hy λσ φ H D hE hS q a vs H1 φ1 f1 s1 n1 w1=>?_
  exact q _ _ φ1 (f1.trans (Fw.new n1)) ((((hE.fw hS f1).fw s1 (Fw.new n1))).set i0 (w:=.d (.lst r2.1)) ⟨a,vs,rfl,s1.nin n1,.inl upd_same,w1.fw s1 (Fw.new n1)⟩) (s1.new n1)
 ·refine⟨λenv st r hr=>?_⟩
  simp only[aN,fF,e9,qaa,qad]at hr
  obtain⟨y,⟨r2,hy,rfl⟩,e',ee,rfl⟩:=hr
  cases ee
  refine key _ _ _ _ hy λσ φ H D hE hS q a vs H1 φ1 f1 s1 n1 w1=>?_
  exact q _ _ (φ1++[a]) (f1.trans (Fw.more n1)) (((hE.fw hS f1).fw s1 (Fw.more n1)).set i0 (w:=.h r2.2.length) ⟨a,by rw[<-s1.len];simp,rfl⟩) (s1.more n1 w1)
end
def cC (n k:Nat) (b:Sf):Fn
 |ws,st=>if ws.length=k then (b (ws.map some++qaC (n - k) none) st).bind λr=>match r with
 |.nx _ s=>some (.d .non,s)
 |.rt w s=>some (w,s)
 |_=>none
 else none
def xm (n:Nat) (w:W) (s:Sto):Option (W×Sto):=match w with
 |.d x=>some (.d x,s.take n)
 |.h m=>if m<n then some (.h m,s.take n) else (lg s m).map λds=>(.d (.lst ds),s.take n)
def jX (n k:Nat) (b:Sf):Fn
 |ws,st=>if ws.length=k then (b (ws.map some++qaC (n - k) none) st).bind λr=>match r with
 |.nx _ s=>some (.d .non,s.take st.length)
 |.rt w s=>xm st.length w s
 |_=>none
 else none
section
variable {P:qa1}{w:World}{K:qac}{mg:Str->Option Value}{base:Heap}
theorem n6 {H:Hp}{φ:List Addr}{N:List Str}{k:Nat}:∀ {ws:List W}{vs:List V},Rws K H φ ws vs->ws.length=k->Er K H φ (ws.map some++qaC (N.length - k) none) (ii N vs):=by
 intro ws vs r hk
 have hl:=r.length
 refine⟨by unfold ii;simp;lia,λi x e=>?_⟩
 unfold ii
 by_cases hi:i<ws.length
 ·rw[qaF (by simpa using hi),qaS,qad]at e
  obtain⟨y,ey,e⟩:=e
  have:∃ v,vs[i]?=some v/\Rw K H φ y v:=by
   clear hk hl hi e
   induction ws generalizing vs i with
   |nil=>simp at ey
   |cons w ws ih=>
    obtain⟨v,r',rfl,r1,r2⟩:=r
    cases i with
    |zero=>simp at ey;subst ey;exact⟨v,rfl,r1⟩
    |succ i=>simpa using ih r2 i (by simpa using ey)
  obtain⟨v,ev,rv⟩:=this
  cases e
  refine⟨v,?_,rv⟩
  rw[qaF (by rw[qam,<-hl];exact hi),qaS,ev];rfl
 ·rw[qaI (by simpa using hi)]at e
  have:=qbD e
  have:=(List.mem_replicate.mp this).2
  cases this
theorem fL {x qual:Str}{st:Stmt}{f:Addr}{fd:qaV}{N ps:List Str}{k:Nat}{b:Sf} (F:Fun K x qual st f fd) (S:aM N ps (ah st))
  (hb:∀ (cdv:Value) (A:qa8) (outer:List Env) (s:qak) (H:Hp) (E:XK),dW k (A.deeper (qek qual (ah st) s.heap.objs.size f cdv))->ISs K (nj CX0 P w K mg base N qual (ah st) f cdv A outer s H E).nox (aF st) b) :
  bR P w K mg base CX0 (k+1) f fd ps (spI K (cC N.length ps.length b)):=by
 refine F.ok S (λvs H Q E h=>?_) λcdv A outer s H vs Q E hr h=>?_
 ·obtain⟨φ,st,ws,r,e,rw,_⟩:=h
  rw[cC]at e
  by_cases hl:ws.length=ps.length
  ·rw[<-rw.length,hl]
  ·rw[if_neg hl]at e;cases e
 ·obtain⟨φ,st',ws,r,e,rw,S',q⟩:=h
  rw[cC]at e
  by_cases hl:ws.length=ps.length
  ·rw[if_pos hl]at e
   obtain⟨fl,e1,e2⟩:=qaa.mp e
   refine⟨_,(hb cdv A outer s H E hr).run _ _ _ e1,φ,n6 rw hl,S',?_⟩
   cases fl with
   |nx e s=>cases e2;exact λσ' H' φ' f' e' s'=>q .non H' φ' f' s' rfl
   |rt w s=>cases e2;exact λv H' φ' f' s' w'=>q v H' φ' f' s' w'
   |bk e s=>cases e2
   |ct e s=>cases e2
  ·rw[if_neg hl]at e;cases e
theorem Fw.less {φ φ':List Addr}{H H':Hp} (f:Fw φ φ' H H'):Fw φ φ H H':=⟨⟨[],by simp,by simp⟩,f.keep,f.there⟩
theorem rh {x qual:Str}{st:Stmt}{f:Addr}{fd:qaV}{N ps:List Str}{k:Nat}{b:Sf} (F:Fun K x qual st f fd) (S:aM N ps (ah st))
  (hb:∀ (cdv:Value) (A:qa8) (outer:List Env) (s:qak) (H:Hp) (E:XK),dW k (A.deeper (qek qual (ah st) s.heap.objs.size f cdv))->ISs K (nj CX0 P w K mg base N qual (ah st) f cdv A outer s H E).nox (aF st) b) :
  bR P w K mg base CX0 (k+1) f fd ps (spI K (jX N.length ps.length b)):=by
 refine F.ok S (λvs H Q E h=>?_) λcdv A outer s H vs Q E hr h=>?_
 ·obtain⟨φ,st,ws,r,e,rw,_⟩:=h
  rw[jX]at e
  by_cases hl:ws.length=ps.length
  ·rw[<-rw.length,hl]
  ·rw[if_neg hl]at e;cases e
 ·obtain⟨φ,st',ws,r,e,rw,S',q⟩:=h
  rw[jX]at e
  by_cases hl:ws.length=ps.length
  ·rw[if_pos hl]at e
   obtain⟨fl,e1,e2⟩:=qaa.mp e
   refine⟨_,(hb cdv A outer s H E hr).run _ _ _ e1,φ,n6 rw hl,S',?_⟩
   have less:∀ {H':Hp}{φ':List Addr}{s':Sto},Fw φ φ' H H'->Sr K H' φ' s'->Sr K H' φ (s'.take st'.length):=λ{H' φ' s'} f' S2=>by
    obtain⟨ψ,rfl,_⟩:=f'.ext
    rw[<-S'.len]
    exact S2.less
   cases fl with
   |nx e s=>cases e2;exact λσ' H' φ' f' e' s'=>q .non H' φ f'.less (less f' s') rfl
   |rt w s=>
    intro v H' φ' f' s' w'
    have e3:xm st'.length w s=some r:=e2
    obtain⟨ψ,eψ,_⟩:=f'.ext
    cases w with
    |d x=>
     cases e3
     subst eψ
     exact q v H' φ f'.less (less f' s') (Rl.less w')
    |h m=>
     obtain⟨a,ea,rfl⟩:=w'
     unfold xm at e3
     by_cases hm:m<st'.length
     ·have e4:some (W.h m,s.take st'.length)=some r:=by
       have:=e3
       simp only[hm,if_true]at this
       exact this
      cases e4
      subst eψ
      rw[qaF (by rw[S'.len];exact hm)]at ea
      exact q _ H' φ f'.less (less f' s') ⟨a,ea,rfl⟩
     ·simp only[hm,if_false]at e3
      obtain⟨ds,eds,rfl⟩:=qad.mp e3
      obtain⟨vs,hv,rl⟩:=s'.atl m a ds ea eds
      have hn:a∉φ:=λz=>by
       obtain⟨i,hi,ei⟩:=qdO.mp z
       have h1:φ'[i]?=some a:=by subst eψ;rw[qaF hi,qaK hi,ei]
       obtain⟨h2,h2'⟩:=qao.mp h1
       obtain⟨h3,h3'⟩:=qao.mp ea
       have:=(qex s'.nd).mp (h2'.trans h3'.symm)
       rw[S'.len]at hi
       lia
      subst eψ
      exact q _ H' φ f'.less (less f' s') ⟨a,vs,rfl,hn,.inl hv,rl.less⟩
   |bk e s=>cases e2
   |ct e s=>cases e2
  ·rw[if_neg hl]at e;cases e
end
def eW:D->Bool
 |.non=>true
 |.bl _=>true
 |.int _=>true
 |.str _=>true
 |_=>false
def vOf:D->V
 |.bl b=>.bl b
 |.int i=>.int i
 |.str x=>.str x
 |_=>.non
mutual
def eqD:D->D->Bool
 |.non,.non=>true
 |.bl a,.bl b=>a==b
 |.bl a,.int b=>(if a then 1 else 0)==b
 |.int a,.bl b=>a==(if b then 1 else 0)
 |.int a,.int b=>a==b
 |.str a,.str b=>a==b
 |.tup as,.tup bs=>jZ as bs
 |.lst as,.lst bs=>jZ as bs
 |_,_=>false
def jZ:List D->List D->Bool
 |[],[]=>true
 |a::as,b::bs=>eqD a b&&jZ as bs
 |_,_=>false
end
def okD:Nat->D->Bool
 |_,.non=>true
 |_,.bl _=>true
 |_,.int _=>true
 |_,.str _=>true
 |n+1,.tup ds=>ds.all (okD n)
 |n+1,.lst ds=>ds.all (okD n)
 |_,_=>false
def lsD (st:Sto):W->Option (List D)
 |.d (.lst ds)=>some ds
 |.h n=>lg st n
 |_=>none
def cg (st:Sto) (x y:W):Option D:=match x,y with
 |.d (.int i),.d (.int j)=>some (.int (i+j))
 |.d (.tup a),.d (.tup b)=>if a.length+b.length<=1000000 then some (.tup (a++b)) else none
 |.d (.str a),.d (.str b)=>if a.length+b.length<=1000000 then some (.str (a++b)) else none
 |x,y=>(lsD st x).bind λa=>(lsD st y).bind λb=>if a.length+b.length<=1000000 then some (.lst (a++b)) else none
def oi (_:Sto):W->W->Option D
 |.d (.int i),.d (.int j)=>some (.int (i - j))
 |_,_=>none
instance (a b:Int):Decidable (qfZ a b):=by unfold qfZ;infer_instance
def cv (_:Sto):W->W->Option D
 |.d (.int i),.d (.int j)=>if qfZ i j then some (.int (i*j)) else none
 |.d (.tup a),.d (.int k)=>if a≠[]/\a.length<=1000/\1<=k/\k<1000 then some (.tup (qaC k.toNat a).flatten) else none
 |.d (.lst a),.d (.int k)=>if a.length<=1000/\-1000<=k/\k<1000 then some (.lst (qaC k.toNat a).flatten) else none
 |_,_=>none
def nh (_:Sto):W->W->Option D
 |.d (.int i),.d (.int j)=>if 0<j/\j<1073741824 then some (.int (i / j)) else none
 |_,_=>none
def jD (_:Sto):W->W->Option D
 |.d (.int i),.d (.int j)=>if 0<j then some (.int (i%j)) else none
 |_,_=>none
instance (i j:Int):Decidable (sv i j):=by unfold sv;infer_instance
def mz (_:Sto):W->W->Option D
 |.d (.int i),.d (.int j)=>if sv i j then some (.int (i^j.toNat)) else none
 |_,_=>none
def dLt (_:Sto):W->W->Option D
 |.d (.int i),.d (.int j)=>some (.bl (decide (i<j)))
 |_,_=>none
def dLe (_:Sto):W->W->Option D
 |.d (.int i),.d (.int j)=>some (.bl (decide (i<=j)))
 |_,_=>none
def dGt (_:Sto):W->W->Option D
 |.d (.int i),.d (.int j)=>some (.bl (decide (j<i)))
 |_,_=>none
def dGe (_:Sto):W->W->Option D
 |.d (.int i),.d (.int j)=>some (.bl (decide (j<=i)))
 |_,_=>none
def wL:D->Bool
 |.non=>true
 |_=>false
def kA (_:Sto):W->W->Option D
 |.d x,.d .non=>some (.bl (wL x))
 |_,_=>none
def zu (_:Sto):W->W->Option D
 |.d x,.d .non=>some (.bl (!wL x))
 |_,_=>none
def inD (x:D) (ds:List D):Bool:=ds.any λy=>eqD y x
def dIn (st:Sto) (x y:W):Option D:=match x with
 |.d x=>(iT st y).bind λds=>if eW x=true/\ds.all eW=true then some (.bl (inD x ds)) else none
 |_=>none
def jj (st:Sto) (x y:W):Option D:=match x with
 |.d x=>(iT st y).bind λds=>if eW x=true/\ds.all eW=true then some (.bl (!inD x ds)) else none
 |_=>none
section
variable {K:qac}{X:Cx}
theorem iP {H:Hp}{φ:List Addr}{d:D}{v:V} (h:eW d=true) (r:Rl K H φ d v):v=vOf d/\gX v=true:=by
 cases d with
 |non=>cases (show v=.non from r);exact⟨rfl,rfl⟩
 |bl b=>cases (show v=.bl b from r);exact⟨rfl,rfl⟩
 |int b=>cases (show v=.int b from r);exact⟨rfl,rfl⟩
 |str b=>cases (show v=.str b from r);exact⟨rfl,rfl⟩
 |_=>cases h
theorem pB {a b:D} (ha:eW a=true) (hb:eW b=true):eqV (vOf a) (vOf b)=eqD a b:=by
 cases a<;>cases b<;>first|rfl|(cases ha;done)|(cases hb;done)|(simp[eqV,vOf,eqD];done)
theorem oa {H:Hp}{φ:List Addr}:∀ {ds:List D}{vs:List V},ds.all eW=true->Rls K H φ ds vs->vs=ds.map vOf/\vs.all gX=true
 |[],_,_,h=>by cases h;exact⟨rfl,rfl⟩
 |d::ds,_,h,r=>by
  rw[qbp,qaR]at h
  obtain⟨v,vr,rfl,r1,r2⟩:=r
  obtain⟨e1,e2⟩:=iP h.1 r1
  obtain⟨e3,e4⟩:=oa h.2 r2
  exact⟨by rw[e1,e3];rfl,by rw[qbp,e2,e4];rfl⟩
theorem qG {x:D} (hx:eW x=true):∀ {ds:List D},ds.all eW=true->inV (vOf x) (ds.map vOf)=inD x ds
 |[],_=>rfl
 |d::ds,h=>by
  rw[qbp,qaR]at h
  have ih:=qG hx h.2
  unfold inV inD at ih ⊢
  rw[qaB,qdu,qdu,ih,pB h.1 hx]
theorem iS {f:Value->Value->Sem Value}{g:Sto->W->W->Option D} (h:∀ st x y d,g st x y=some d->∃ i j,x=.d (.int i)/\y=.d (.int j)/\OpR X f (λvx vy H Q=>vx=.int i/\vy=.int j/\Q (vOf d) H)/\eW d=true):OpD K X f g:=by
 refine⟨λst x y d hd=>?_⟩
 obtain⟨i,j,rfl,rfl,ho,hf⟩:=h st x y d hd
 refine ho.imp ?_
 rintro vx vy H Q ⟨φ,S,r1,r2,q⟩
 refine⟨r1,r2,q _ H (bx.refl H) ?_⟩
 cases d<;>first|rfl|cases hf
theorem lD:OpD K X (qbC .Sub) oi:=iS λst x y d h=>by
 match x,y,h with
 |.d (.int i),.d (.int j),h=>cases h;exact⟨i,j,rfl,rfl,AE.imp λvx vy H Q ⟨a,b,q⟩=>⟨i,j,a,b,q⟩,rfl⟩
theorem lj:OpD K X (qbA .Lt) dLt:=iS λst x y d h=>by
 match x,y,h with
 |.d (.int i),.d (.int j),h=>cases h;exact⟨i,j,rfl,rfl,BQ.imp λvx vy H Q ⟨a,b,q⟩=>⟨i,j,a,b,q⟩,rfl⟩
theorem wU:OpD K X (qbA .LtE) dLe:=iS λst x y d h=>by
 match x,y,h with
 |.d (.int i),.d (.int j),h=>cases h;exact⟨i,j,rfl,rfl,Bw.imp λvx vy H Q ⟨a,b,q⟩=>⟨i,j,a,b,q⟩,rfl⟩
theorem lZ:OpD K X (qbA .Gt) dGt:=iS λst x y d h=>by
 match x,y,h with
 |.d (.int i),.d (.int j),h=>cases h;exact⟨i,j,rfl,rfl,Ce.imp λvx vy H Q ⟨a,b,q⟩=>⟨i,j,a,b,q⟩,rfl⟩
theorem oU:OpD K X (qbA .GtE) dGe:=iS λst x y d h=>by
 match x,y,h with
 |.d (.int i),.d (.int j),h=>cases h;exact⟨i,j,rfl,rfl,BB.imp λvx vy H Q ⟨a,b,q⟩=>⟨i,j,a,b,q⟩,rfl⟩
theorem uM:OpD K X (qbC .FloorDiv) nh:=iS λst x y d h=>by
 match x,y,h with
 |.d (.int i),.d (.int j),h=>
  simp only[nh]at h
  split at h
  ·rename_i hc
   cases h;exact⟨i,j,rfl,rfl,xX.imp λvx vy H Q ⟨a,b,q⟩=>⟨i,j,a,b,hc,q⟩,rfl⟩
  ·cases h
theorem jL:OpD K X (qbC .Mod) jD:=iS λst x y d h=>by
 match x,y,h with
 |.d (.int i),.d (.int j),h=>
  simp only[jD]at h
  split at h
  ·rename_i hc
   cases h;exact⟨i,j,rfl,rfl,AH.imp λvx vy H Q ⟨a,b,q⟩=>⟨i,j,a,b,hc,q⟩,rfl⟩
  ·cases h
theorem ut:OpD K X (qbC .Pow) mz:=iS λst x y d h=>by
 match x,y,h with
 |.d (.int i),.d (.int j),h=>
  simp only[mz]at h
  split at h
  ·rename_i hc
   cases h;exact⟨i,j,rfl,rfl,Aa.imp λvx vy H Q ⟨a,b,q⟩=>⟨i,j,a,b,hc,q⟩,rfl⟩
  ·cases h
theorem wB {H:Hp}{φ:List Addr}{d:D}{v:V} (r:Rl K H φ d v):decide (v=.non)=wL d:=by
 cases d with
 |non=>cases (show v=.non from r);rfl
 |bl b=>cases (show v=.bl b from r);rfl
 |int b=>cases (show v=.int b from r);rfl
 |str b=>cases (show v=.str b from r);rfl
 |ty b=>cases (show v=.ty b from r);rfl
 |dct=>obtain⟨a,rfl,_⟩:=r;rfl
 |scr ns=>obtain⟨a,rfl,_⟩:=r;rfl
 |tup ds=>obtain⟨a,vs,rfl,_⟩:=r;rfl
 |lst ds=>obtain⟨a,vs,rfl,_⟩:=r;rfl
 |ob ns ds=>obtain⟨a,_,_,_,vs,rfl,_⟩:=r;rfl
theorem pY:OpD K X (qbA .Is) kA:=by
 refine⟨λst x y d h=>?_⟩
 match x,y,h with
 |.d x,.d .non,h=>
  cases h
  refine AU.imp ?_
  rintro vx vy H Q ⟨φ,S,r1,r2,q⟩
  refine⟨r2,q _ H (bx.refl H) ?_⟩
  rw[wB r1];rfl
theorem yW:OpD K X (qbA .IsNot) zu:=by
 refine⟨λst x y d h=>?_⟩
 match x,y,h with
 |.d x,.d .non,h=>
  cases h
  refine yo.imp ?_
  rintro vx vy H Q ⟨φ,S,r1,r2,q⟩
  refine⟨r2,q _ H (bx.refl H) ?_⟩
  rw[wB r1];rfl
theorem Cp (hK:X.K=K:=by rfl):OpD K X (qbA .In) dIn:=by
 subst hK
 refine⟨λst x y d h=>?_⟩
 match x,h with
 |.d x,h=>
  simp only[dIn,qaa]at h
  obtain⟨ds,hs,h⟩:=h
  split at h
  ·rename_i hc
   cases h
   refine vU.imp ?_
   rintro vx vy H Q ⟨φ,S,r1,r2,q⟩
   obtain⟨a,vs,rfl,h1,h2⟩:=jV S r2 hs
   obtain⟨e1,e2⟩:=iP hc.1 r1
   obtain⟨e3,e4⟩:=oa hc.2 h2
   refine⟨a,vs,rfl,h1,e2,e4,q _ H (bx.refl H) ?_⟩
   rw[e1,e3,qG hc.1 hc.2];rfl
  ·cases h
theorem su (hK:X.K=K:=by rfl):OpD K X (qbA .NotIn) jj:=by
 subst hK
 refine⟨λst x y d h=>?_⟩
 match x,h with
 |.d x,h=>
  simp only[jj,qaa]at h
  obtain⟨ds,hs,h⟩:=h
  split at h
  ·rename_i hc
   cases h
   refine qC.imp ?_
   rintro vx vy H Q ⟨φ,S,r1,r2,q⟩
   obtain⟨a,vs,rfl,h1,h2⟩:=jV S r2 hs
   obtain⟨e1,e2⟩:=iP hc.1 r1
   obtain⟨e3,e4⟩:=oa hc.2 h2
   refine⟨a,vs,rfl,h1,e2,e4,q _ H (bx.refl H) ?_⟩
   rw[e1,e3,qG hc.1 hc.2];rfl
  ·cases h
end
end L2
namespace L2
open PySem PySem.Spec PyProof.Rows
section
variable {K:qac}{X:Cx}
theorem yT:OpR X (qbC .Add) (λx y H Q=>∃ l b xs zs,x=.ref l/\y=.ref b/\Rd H l (.lst xs)/\Rd H b (.lst zs)/\xs.length+zs.length<=qaN/\∀ p,H p=none->Q (.ref p) (upd H p (.lst (xs++zs)))):=by
 intro pins s σ H x y v u Q I rx ry h
 obtain⟨l,b,xs,zs,rfl,rfl,hH,hB,hz,q⟩:=h
 cases rx
 cases ry
 obtain⟨z,its,n,r,e⟩:=hH.ok I.hok
 obtain⟨z2,its2,n2,r2,e2⟩:=hB.ok I.hok
 have hl:=r.length
 have hl2:=r2.length
 refine PySem.P.add_list e e2 ?_ (by rw[qay,qay];lia)
 have ea:its.toArray++its2.toArray=(its++its2).toArray:=by simp
 rw[ea]
 exact⟨.ref _,_,I.lnew (t':=s.toks) (r.append r2) (by rw[qan];lia),rfl,q _ I.fresh⟩
theorem xT:OpR X (qbC .Add) (λx y H Q=>∃ a b xs ys,x=.ref a/\y=.ref b/\SqT X.K H a xs/\SqT X.K H b ys/\xs.length+ys.length<=qaN/\
  (xs=[]->Q (.ref b) H)/\(ys=[]->Q (.ref a) H)/\∀ p,H p=none->Q (.ref p) (upd H p (.tup (xs++ys)))):=by
 intro pins s σ H x y v u Q I rx ry h
 obtain⟨a,b,xs,ys,rfl,rfl,ha,hb,hz,q0,q1,q2⟩:=h
 by_cases hx:xs=[]
 ·cases rx
  cases ry
  obtain⟨its,r1,p1,_⟩:=I.tuple ha
  obtain⟨its2,r2,p2,_⟩:=I.tuple hb
  obtain⟨⟨cls,dd,data,sl⟩,ho,hc,n,hd⟩:=id p1
  obtain⟨⟨cls2,dd2,data2,sl2⟩,ho2,hc2,n2,hd2⟩:=id p2
  simp only at hc hd hc2 hd2
  subst hc hd hc2 hd2
  exact qgf ⟨_,ho,rfl⟩ ⟨_,ho2,rfl⟩ qe4 qfM qdq qdl (qdc _ _)
   (tuple_addW0 a b its.toArray its2.toArray n n2 dd dd2 sl sl2 (by simp[r1.nil_iff.mpr hx])) ⟨ho,ho2,.ref b,H,I,rfl,q0 hx⟩
 ·exact xY pins s σ H _ _ v u Q I rx ry ⟨a,b,xs,ys,rfl,rfl,ha,hb,hx,hz,q1,λ_ p hp=>q2 p hp⟩
theorem qk {st:Sto}{H:Hp}{φ:List Addr}{w:W}{v:V}{ds:List D} (S:Sr K H φ st) (r:Rw K H φ w v) (e:lsD st w=some ds):∃ a vs,v=.ref a/\Rd H a (.lst vs)/\Rls K H φ ds vs:=by
 cases w with
 |h n=>
  obtain⟨a,ea,rfl⟩:=r
  obtain⟨vs,q,rl⟩:=S.atl n a ds ea e
  exact⟨a,vs,rfl,.inl q,rl⟩
 |d x=>
  cases x with
  |lst es=>cases e;obtain⟨a,vs,rfl,h0,h1,h2⟩:=r;exact⟨a,vs,rfl,h1,h2⟩
  |_=>cases e
theorem mil:(1000000:Nat)<=qaN:=by rw[qdj];decide
theorem bX (hK:X.K=K:=by rfl):OpD K X (qbC .Add) cg:=by
 subst hK
 refine⟨λst x y d h=>?_⟩
 have lists:(lsD st x).bind (λa=>(lsD st y).bind λb=>if a.length+b.length<=1000000 then some (.lst (a++b)) else none)=some d->OpR X (qbC .Add) (rD X.K st x y d):=λh=>by
  simp only[qaa]at h
  obtain⟨as,ha,bs,hb,h⟩:=h
  split at h
  ·rename_i hl
   cases h
   refine yT.imp ?_
   rintro vx vy H Q ⟨φ,S,r1,r2,q⟩
   obtain⟨a,us,rfl,h1,h2⟩:=qk S r1 ha
   obtain⟨b,vs,rfl,h3,h4⟩:=qk S r2 hb
   refine⟨a,b,us,vs,rfl,rfl,h1,h3,by rw[<-h2.length,<-h4.length];exact qa2 hl mil,λp hp=>q _ _ (bx.new hp _) ?_⟩
   exact⟨p,_,rfl,S.nin hp,.inl upd_same,(h2.append h4).fw S (Fw.new hp)⟩
  ·cases h
 match x,y,h with
 |.d (.int i),.d (.int j),h=>
  cases h
  refine Ag.imp ?_
  rintro vx vy H Q ⟨φ,S,r1,r2,q⟩
  exact⟨i,j,r1,r2,q _ H (bx.refl H) rfl⟩
 |.d (.tup as),.d (.tup bs),h=>
  simp only[cg]at h
  split at h
  ·rename_i hl
   cases h
   refine xT.imp ?_
   rintro vx vy H Q ⟨φ,S,⟨a,us,rfl,h1,h2⟩,⟨b,vs,rfl,h3,h4⟩,q⟩
   refine⟨a,b,us,vs,rfl,rfl,(SqT.of h1),(SqT.of h3),by rw[<-h2.length,<-h4.length];exact qa2 hl mil,λe=>?_,λe=>?_,λp hp=>?_⟩
   ·subst e
    have:as=[]:=by cases as with|nil=>rfl|cons _ _=>cases h2.length
    subst this
    exact q _ H (bx.refl H) ⟨b,vs,rfl,h3,h4⟩
   ·subst e
    have:bs=[]:=by cases bs with|nil=>rfl|cons _ _=>cases h4.length
    subst this
    exact q _ H (bx.refl H) ⟨a,us,rfl,h1,by rw[qbO];exact h2⟩
   ·exact q _ _ (bx.new hp _) ⟨p,_,rfl,upd_same,(h2.append h4).fw S (Fw.new hp)⟩
  ·cases h
 |.d (.str as),.d (.str bs),h=>
  simp only[cg]at h
  split at h
  ·rename_i hl
   cases h
   refine ux.imp ?_
   rintro vx vy H Q ⟨φ,S,r1,r2,q⟩
   exact⟨as,bs,r1,r2,qa2 hl mil,q _ H (bx.refl H) rfl⟩
  ·cases h
 |.d (.lst as),y,h=>exact lists (by cases y with|h n=>exact h|d y=>cases y<;>exact h)
 |.h n,y,h=>exact lists (by cases y with|h n=>exact h|d y=>cases y<;>exact h)
theorem vh:OpR X (qbC .Mult) (λx y H Q=>∃ l k xs,x=.ref l/\y=.int k/\Rd H l (.lst xs)/\-(2 ^ 63)<=k/\k < 2 ^ 63/\xs.length*k.toNat<=qaN/\
 ∀ p,H p=none->Q (.ref p) (upd H p (.lst (qaC k.toNat xs).flatten))):=by
 intro pins s σ H x y v u Q I rx ry h
 obtain⟨l,k,xs,rfl,rfl,hH,h1,h2,hz,q⟩:=h
 cases rx
 obtain⟨t,rfl⟩:=ry
 obtain⟨z,its,n,r,e⟩:=hH.ok I.hok
 have hl:=r.length
 have hlen:its.toArray.size*k.toNat<=qaN:=by rw[qay,<-hl];exact hz
 have hcap:¬ its.toArray.size*k.toNat > (2^63 - 1) / 8:=by
  have:(qaN:Nat)<=(2^63 - 1) / 8:=by decide
  lia
 have hfit:¬ (!Builtin.List.listFitsIndex k)=true:=by
  rw[fitsIndex_both h1 h2]
  exact qax
 have hlong:¬ qcY (its.toArray.size*k.toNat)=true:=by
  rw[xB hlen]
  exact qax
 have hnew:qe8 (λx1 x2=>x1++x2) #[] (qaC (if its.toArray.isEmpty=true then 0 else k.toNat) its.toArray)=(qaC k.toNat its).flatten.toArray:=by
  have f0:∀ m:Nat,qe8 (λx1 x2=>x1++x2) #[] (qaC m its.toArray)=(qaC m its).flatten.toArray:=λm=>by
   have:=lA its m []
   rw[qcg]at this
   exact this
  rw[f0]
  cases its with
  |nil=>simp
  |cons a r'=>rw[if_neg (by simp)]
 refine qfs (T:="list") (U:="int") (by decide) ⟨_,e,rfl⟩ (λs'=>qeQ s' k t) noFill_list_mul qg6 qdS repeat_list qgN.lookup
  (qcX qdS (qeQ s k t) qgP (qgF _ _) (int___rmul___int_list k t l its.toArray n)
    ⟨e,rfl,⟨_,e,rfl⟩,qcX F.slot_list_mul ⟨_,e,rfl⟩ F.entry_list_mul (F.args_list_mul_2 _ _) (AutoListH.list___mul___list_int_3 l its.toArray n k t hfit hcap hlong) ⟨e,?_⟩⟩)
 rw[hnew]
 exact⟨.ref _,_,I.lnew (t':=s.toks) (r.rep k.toNat) (by rw[px,qfv];exact hz),rfl,q _ I.fresh⟩
theorem ck (hK:X.K=K:=by rfl):OpD K X (qbC .Mult) cv:=by
 subst hK
 refine⟨λst x y d h=>?_⟩
 match x,y,h with
 |.d (.int i),.d (.int j),h=>
  simp only[cv]at h
  split at h
  ·rename_i hl
   cases h
   refine yw.imp ?_
   rintro vx vy H Q ⟨φ,S,r1,r2,q⟩
   exact⟨i,j,r1,r2,hl,q _ H (bx.refl H) rfl⟩
  ·cases h
 |.d (.tup as),.d (.int k),h=>
  simp only[cv]at h
  split at h
  ·rename_i hl
   cases h
   refine y4.imp ?_
   rintro vx vy H Q ⟨φ,S,⟨a,us,rfl,h1,h2⟩,r2,q⟩
   have hne:us≠[]:=by rintro rfl;cases as with|nil=>exact hl.1 rfl|cons _ _=>cases h2.length
   refine⟨a,k,us,rfl,r2,(SqT.of h1),hne,by rw[<-h2.length];exact hl.2.1,hl.2.2.1,hl.2.2.2,λe=>?_,λ_ p hp=>?_⟩
   ·subst e
    exact q _ H (bx.refl H) ⟨a,us,rfl,h1,by simpa using h2⟩
   ·exact q _ _ (bx.new hp _) ⟨p,_,rfl,upd_same,(h2.rep _).fw S (Fw.new hp)⟩
  ·cases h
 |.d (.lst as),.d (.int k),h=>
  simp only[cv]at h
  split at h
  ·rename_i hl
   cases h
   refine vh.imp ?_
   rintro vx vy H Q ⟨φ,S,⟨a,us,rfl,h0,h1,h2⟩,r2,q⟩
   refine⟨a,k,us,rfl,r2,h1,by lia,by lia,?_,λp hp=>?_⟩
   ·rw[<-h2.length]
    have:as.length*k.toNat<=1000*1000:=qcQ hl.1 (by lia)
    exact qa2 this mil
   ·exact q _ _ (bx.new hp _) ⟨p,_,rfl,S.nin hp,.inl upd_same,(h2.rep _).fw S (Fw.new hp)⟩
  ·cases h
def dIx (st:Sto) (x y:W):Option D:=match x,y with
 |.d (.str z),.d (.int i)=>if z.length<=1000000 then (atI z.cps.toList i).map λc=>.str ⟨#[c]⟩ else none
 |x,.d (.int i)=>(iT st x).bind λds=>atI ds i
 |_,_=>none
theorem AA {H:Hp}{φ:List Addr}{ds:List D}{vs:List V}{i:Int}{d:D} (r:Rls K H φ ds vs) (e:atI ds i=some d):∃ v,atI vs i=some v/\Rl K H φ d v:=by
 unfold atI at e ⊢
 rw[<-r.length]
 obtain⟨j,e1,e2⟩:=qaa.mp e
 obtain⟨v,ev,rv⟩:=r.get e2
 exact⟨v,by rw[e1];exact ev,rv⟩
theorem IxR.imp {r r':R2} (h:IxR X r) (m:∀ x y H Q,r' x y H Q->r x y H Q):IxR X r':=λvalue slice pins s σ H x y v u Q I rx ry q hs=>h value slice pins s σ H x y v u Q I rx ry (m _ _ _ _ q) hs
theorem BK (st:Sto) (x y:W) (d:D) (h:dIx st x y=some d) (hK:X.K=K):IxR X (rD K st x y d):=by
 subst hK
 match y,h with
 |.d (.int i),h=>
  have seq:(iT st x).bind (λds=>atI ds i)=some d->IxR X (rD X.K st x (.d (.int i)) d):=λh=>by
   obtain⟨ds,e1,e2⟩:=qaa.mp h
   refine t9.imp ?_
   rintro vx vy H Q ⟨φ,S,r1,r2,q⟩
   obtain⟨a,vs,rfl,h1,h2⟩:=jV S r1 e1
   obtain⟨v,ev,rv⟩:=AA h2 e2
   rcases h1 with h1|h1
   ·exact .inl ⟨a,vs,i,v,rfl,r2,h1,ev,q _ H (bx.refl H) rv⟩
   ·exact .inr (.inl ⟨a,vs,i,v,rfl,r2,h1,ev,q _ H (bx.refl H) rv⟩)
  match x,h with
  |.d (.str z),h=>
   simp only[dIx]at h
   split at h
   ·rename_i hl
    obtain⟨c,e1,rfl⟩:=qad.mp h
    refine t9.imp ?_
    rintro vx vy H Q ⟨φ,S,r1,r2,q⟩
    exact .inr (.inr ⟨z,i,c,r1,r2,qa2 hl mil,e1,q _ H (bx.refl H) rfl⟩)
   ·cases h
  |.d (.tup z),h=>exact seq h
  |.d (.lst z),h=>exact seq h
  |.d (.scr z),h=>exact seq h
  |.h z,h=>exact seq h
 |.d .non,h=>cases x with|h n=>cases h|d x=>cases x<;>cases h
 |.d (.ob _ _),h=>cases x with|h n=>cases h|d x=>cases x<;>cases h
 |.d (.bl _),h=>cases x with|h n=>cases h|d x=>cases x<;>cases h
 |.d (.str _),h=>cases x with|h n=>cases h|d x=>cases x<;>cases h
 |.d (.ty _),h=>cases x with|h n=>cases h|d x=>cases x<;>cases h
 |.d (.scr _),h=>cases x with|h n=>cases h|d x=>cases x<;>cases h
 |.d .dct,h=>cases x with|h n=>cases h|d x=>cases x<;>cases h
 |.d (.tup _),h=>cases x with|h n=>cases h|d x=>cases x<;>cases h
 |.d (.lst _),h=>cases x with|h n=>cases h|d x=>cases x<;>cases h
 |.h _,h=>cases x with|h n=>cases h|d x=>cases x<;>cases h
variable {e a b:Expr}{pos p2:Pos}{f fa fb:Ef}
theorem aB (ha:IE K X a fa) (hb:IE K X b fb) (hs:pG b=true:=by rfl) (hK:X.K=K:=by rfl):IE K X (.Subscript a b pos) (iOp dIx fa fb):=by
 refine⟨λenv st r hr=>?_⟩
 simp only[iOp,qaa,qad]at hr
 obtain⟨x,hx,y,hy,d,hd,rfl⟩:=hr
 exact (zf (BK _ _ _ _ hd hK) (ha.run _ _ _ hx) (hb.run _ _ _ hy) (si hs)).imp λσ H Q h=>pV h
abbrev Pf:=Ev->Sto->Option (Option Int×Sto)
def iPn:Pf
 |_,st=>some (none,st)
def By:W->Option Int
 |.d (.int i)=>some i
 |_=>none
theorem vL {w:W}{i:Int} (h:By w=some i):w=.d (.int i):=by
 cases w with
 |h n=>cases h
 |d x=>cases x<;>first|(cases h;done)|(injection h with h;subst h;rfl)
def iPs (f:Ef):Pf
 |env,st=>(f env st).bind λr=>(By r.1).map λi=>(some i,r.2)
def tIO (K:qac) (env:Ev) (st:Sto) (r:Option Int×Sto):TO:=λσ H Q=>∃ φ,Er K H φ env σ/\Sr K H φ st/\∀ H' φ',Fw φ φ' H H'->Sr K H' φ' r.2->Q r.1 H'
structure IO (K:qac) (X:Cx) (e:Option Expr) (f:Pf):Prop where
 run:∀ env st r,f env st=some r->PO X e (tIO K env st r)
theorem PO.imp {e:Option Expr}{t t':TO} (h:PO X e t) (m:∀ σ H Q,t' σ H Q->t σ H Q):PO X e t':=λpins s σ H Q I q=>h pins s σ H Q I (m σ H Q q)
theorem kK:IO K X none iPn:=by
 refine⟨λenv st r hr=>?_⟩
 cases hr
 exact x8.imp λσ H Q ⟨φ,hE,hS,q⟩=>q H φ (Fw.refl φ H) hS
theorem kW (h:IE K X e f):IO K X (some e) (iPs f):=by
 refine⟨λenv st r hr=>?_⟩
 simp only[iPs,qaa,qad]at hr
 obtain⟨⟨x,s1⟩,hx,i,hi,rfl⟩:=hr
 cases vL hi
 refine (yc (h.run _ _ _ hx)).imp ?_
 rintro σ H Q ⟨φ,hE,hS,q⟩
 exact⟨φ,hE,hS,λv H1 φ1 f1 s1 w1=>⟨i,w1,q H1 φ1 f1 s1⟩⟩
def je (xs:List D) (lo hi:Option Int):List D:=(xs.drop (HT.sIx xs.length 0 lo)).take (HT.sIx xs.length xs.length hi - HT.sIx xs.length 0 lo)
theorem uO {H:Hp}{φ:List Addr}{ds:List D}{vs:List V} (r:Rls K H φ ds vs) (lo hi:Option Int):Rls K H φ (je ds lo hi) (pA vs lo hi):=by
 unfold je pA
 rw[r.length]
 exact (r.drop _).take _
def dSl (st:Sto) (x:W) (lo hi:Option Int):Option D:=match x with
 |.d (.tup ds)=>some (.tup (je ds lo hi))
 |.d (.lst ds)=>some (.lst (je ds lo hi))
 |.h n=>(lg st n).map λds=>.lst (je ds lo hi)
 |.d (.scr ns)=>some (.lst (je (ns.map D.int) lo hi))
 |_=>none
def iSl (f:Ef) (lo hi:Pf):Ef
 |env,st=>(f env st).bind λx=>(lo env x.2).bind λl=>(hi env l.2).bind λu=>(dSl u.2 x.1 l.1 u.1).map λd=>(.d d,u.2)
theorem uS {lo hi:Option Expr}{fl fh:Pf} (h:IE K X e f) (hl:IO K X lo fl) (hh:IO K X hi fh) (hK:X.K=K:=by rfl):IE K X (.Subscript e (.Slice lo hi none p2) pos) (iSl f fl fh):=by
 subst hK
 refine⟨λenv st r hr=>?_⟩
 simp only[iSl,qaa,qad]at hr
 obtain⟨⟨x,s1⟩,hx,l,hl',u,hu',d,hd,rfl⟩:=hr
 have list:(∀ {H:Hp}{φ:List Addr}{v:V},Sr X.K H φ u.2->Rw X.K H φ x v->∃ a vs ds,v=.ref a/\SqL X.K H a vs/\Rls X.K H φ ds vs/\d=.lst (je ds l.1 u.1))->PE X (.Subscript e (.Slice lo hi none p2) pos) (tI X.K env st (.d d,u.2)):=λhq=>by
  refine (n5 yD (h.run _ _ _ hx) (hl.run _ _ _ hl') (hh.run _ _ _ hu')).imp ?_
  rintro σ H Q ⟨φ,hE,hS,q⟩
  refine⟨φ,hE,hS,λv H1 φ1 f1 s1 w1=>⟨φ1,hE.fw hS f1,s1,λH2 φ2 f2 s2=>⟨φ2,(hE.fw hS f1).fw s1 f2,s2,λH3 φ3 f3 s3=>?_⟩⟩⟩
  obtain⟨a,vs,ds,rfl,h1,h2,rfl⟩:=hq s3 ((w1.fw s1 f2).fw s2 f3)
  refine⟨a,vs,rfl,h1,λp hp=>q _ _ φ3 (((f1.trans f2).trans f3).trans (Fw.new hp)) (s3.new hp) ?_⟩
  exact⟨p,_,rfl,s3.nin hp,.inl upd_same,(uO h2 _ _).fw s3 (Fw.new hp)⟩
 match x,hd with
 |.d (.tup ds),hd=>
  cases hd
  refine (n5 (A5 (K:=X.K) rfl) (h.run _ _ _ hx) (hl.run _ _ _ hl') (hh.run _ _ _ hu')).imp ?_
  rintro σ H Q ⟨φ,hE,hS,q⟩
  refine⟨φ,hE,hS,λv H1 φ1 f1 s1 w1=>⟨φ1,hE.fw hS f1,s1,λH2 φ2 f2 s2=>⟨φ2,(hE.fw hS f1).fw s1 f2,s2,λH3 φ3 f3 s3=>?_⟩⟩⟩
  obtain⟨a,vs,rfl,h1,h2⟩:=(w1.fw s1 f2).fw s2 f3
  refine⟨a,vs,rfl,(SqT.of h1),?_⟩
  by_cases hc:HT.sIx vs.length 0 l.1=0/\HT.sIx vs.length vs.length u.1=vs.length
  ·refine .inr ⟨hc,q _ _ φ3 ((f1.trans f2).trans f3) s3 ⟨a,vs,rfl,h1,?_⟩⟩
   have e:je ds l.1 u.1=ds:=by
    unfold je
    rw[h2.length,hc.1,hc.2,qeZ,qhT,<-h2.length,qdy]
   rw[e]
   exact h2
  ·exact .inl ⟨hc,λp hp=>q _ _ φ3 (((f1.trans f2).trans f3).trans (Fw.new hp)) (s3.new hp) ⟨p,_,rfl,upd_same,(uO h2 _ _).fw s3 (Fw.new hp)⟩⟩
 |.d (.lst ds),hd=>
  cases hd
  refine list λ{H φ v} S w=>?_
  obtain⟨a,vs,rfl,h0,h1,h2⟩:=w
  exact⟨a,vs,ds,rfl,.inl h1,h2,rfl⟩
 |.d (.scr ns),hd=>
  cases hd
  refine list λ{H φ v} S w=>?_
  obtain⟨a,rfl,h⟩:=w
  refine⟨a,_,_,rfl,?_,Rls.of_ints ns,rfl⟩
  rcases h with⟨o,h⟩|h
  ·exact .inl (.inr ⟨o,h⟩)
  ·exact .inr h
 |.h n,hd=>
  obtain⟨ds,e1,rfl⟩:=qad.mp hd
  refine list λ{H φ v} S w=>?_
  obtain⟨a,ea,rfl⟩:=w
  obtain⟨vs,q,rl⟩:=S.atl n a ds ea e1
  exact⟨a,vs,ds,rfl,SqL.of q,rl,rfl⟩
def wK (f:Ef):Ef
 |env,st=>(f env st).bind λx=>match x.1 with
 |.d (.tup ds)=>some (.d (.tup ds.reverse),x.2)
 |_=>none
theorem AY {j:Nat}{p1 p2 p3:Pos} (h:IE K X e f) (hK:X.K=K:=by rfl):IE K X (.Subscript e (.Slice none none (some (.UnaryOp .USub (.Constant (.int 1) j p1) p2)) p3) pos) (wK f):=by
 subst hK
 refine⟨λenv st r hr=>?_⟩
 simp only[wK,qaa]at hr
 obtain⟨⟨x,s1⟩,hx,hr⟩:=hr
 match x,hr with
 |.d (.tup ds),hr=>
  cases hr
  refine (Ax X.K (h.run _ _ _ hx)).imp ?_
  rintro σ H Q ⟨φ,hE,hS,q⟩
  refine⟨φ,hE,hS,λv H1 φ1 f1 s1 w1=>?_⟩
  obtain⟨a,vs,rfl,h1,h2⟩:=w1
  exact⟨a,vs,rfl,(SqT.of h1),λp hp=>q _ _ φ1 (f1.trans (Fw.new hp)) (s1.new hp) ⟨p,_,rfl,upd_same,h2.rev.fw s1 (Fw.new hp)⟩⟩
end
section
variable {K:qac}{X:Cx}{pins:List (Addr×Obj)}{σ:St}{H:Hp}{s:qak}{φ:List Addr}{st:Sto}
theorem gP:∀ (xs ys:List D),((qah (min xs.length ys.length)).all (λj=>eqD (xs.getD j .non) (ys.getD j .non))&&xs.length==ys.length)=jZ xs ys
 |[],[]=>rfl
 |[],y::ys=>by simp[jZ]
 |x::xs,[]=>by simp[jZ]
 |x::xs,y::ys=>by
  show ((qah (min (xs.length+1) (ys.length+1))).all (λj=>eqD ((x::xs).getD j .non) ((y::ys).getD j .non))&&(xs.length+1==ys.length+1))=(eqD x y&&jZ xs ys)
  rw[show min (xs.length+1) (ys.length+1)=min xs.length ys.length+1 by lia,mP,<-gP xs ys]
  have e:(xs.length+1==ys.length+1)=(xs.length==ys.length):=by rw[qbK];simp
  rw[e,Bool.and_assoc]
  rfl
theorem j8 {xs ys:List D} (h:xs.length=ys.length):(qah xs.length).all (λj=>eqD (xs.getD j .non) (ys.getD j .non))=jZ xs ys:=by
 rw[<-gP xs ys,<-h,Nat.min_self];simp
theorem rW:∀ {xs ys:List D},xs.length≠ys.length->jZ xs ys=false
 |[],[],h=>absurd rfl h
 |[],_::_,_=>rfl
 |_::_,[],_=>rfl
 |x::xs,y::ys,h=>by
  show (eqD x y&&jZ xs ys)=false
  rw[rW (by intro e;apply h;rw[qas,qas,e]),qdU]
theorem yj (I:Inv X pins σ H s) {a:Addr}{vs ws:List V} (h:Rd H a (.lst vs)) (h':Rd H a (.lst ws)):vs=ws:=I.list_inj (.inl h) (.inl h')
theorem u2 (I:Inv X pins σ H s):∀ (n:Nat) {d e:D}{v:V},Rl X.K H φ d v->Rl X.K H φ e v->okD n d=true->okD n e=true->eqD d e=true:=by
 intro n
 induction n with
 |zero=>
  intro d e v r1 r2 o1 o2
  cases d<;>first|(cases o1;done)|skip
  all_goals (cases e<;>first|(cases o2;done)|skip)
  all_goals (first|rfl|(cases r1.symm.trans r2;done)|(cases r1.symm.trans r2;simp[eqD]))
 |succ n ih=>
  have lists:∀ {ds es:List D}{vs:List V},Rls X.K H φ ds vs->Rls X.K H φ es vs->(∀ d∈ds,okD n d=true)->(∀ d∈es,okD n d=true)->jZ ds es=true:=by
   intro ds
   induction ds with
   |nil=>
    intro es vs r1 r2 _ _
    cases r1
    cases es with
    |nil=>rfl
    |cons e es=>obtain⟨_,_,q,_⟩:=r2;cases q
   |cons d ds ihd=>
    intro es vs r1 r2 o1 o2
    obtain⟨v,r,rfl,a1,a2⟩:=r1
    cases es with
    |nil=>cases r2
    |cons e es=>
     obtain⟨v',r',q,b1,b2⟩:=r2
     cases q
     show (eqD d e&&jZ ds es)=true
     rw[ih a1 b1 (o1 d qaf) (o2 e qaf),ihd a2 b2 (λx hx=>o1 x (qaj _ hx)) (λx hx=>o2 x (qaj _ hx))]
     rfl
  intro d e v r1 r2 o1 o2
  cases d with
  |tup ds=>
   obtain⟨a,vs,rfl,h1,h2⟩:=r1
   cases e with
   |tup es=>
    obtain⟨b,us,q,h3,h4⟩:=r2
    cases q
    rw[I.tuple_inj (SqT.of h3) (SqT.of h1)]at h4
    exact lists h2 h4 (qa9.mp o1) (qa9.mp o2)
   |lst es=>
    obtain⟨b,us,q,_,h3,h4⟩:=r2
    cases q
    obtain⟨_,_,p1,_⟩:=I.tuple (SqT.of h1)
    obtain⟨_,_,p2,_⟩:=I.list (.inl h3)
    exact absurd rfl (qfa p2.isList p1)
   |_=>first|(cases o2;done)|(cases r2;done)
  |lst ds=>
   obtain⟨a,vs,rfl,h0,h1,h2⟩:=r1
   cases e with
   |lst es=>
    obtain⟨b,us,q,_,h3,h4⟩:=r2
    cases q
    rw[yj I h3 h1]at h4
    exact lists h2 h4 (qa9.mp o1) (qa9.mp o2)
   |tup es=>
    obtain⟨b,us,q,h3,h4⟩:=r2
    cases q
    obtain⟨_,_,p1,_⟩:=I.tuple (SqT.of h3)
    obtain⟨_,_,p2,_⟩:=I.list (.inl h1)
    exact absurd rfl (qfa p2.isList p1)
   |_=>first|(cases o2;done)|(cases r2;done)
  |non=>cases e<;>first|rfl|(cases o2;done)|(cases r1.symm.trans r2;done)|(cases r1;obtain⟨_,_,q,_⟩:=r2;cases q)
  |bl b=>cases e<;>first|(cases o2;done)|(cases r1.symm.trans r2;simp[eqD];done)|(cases r1.symm.trans r2;done)|(cases r1;obtain⟨_,_,q,_⟩:=r2;cases q)
  |int b=>cases e<;>first|(cases o2;done)|(cases r1.symm.trans r2;simp[eqD];done)|(cases r1.symm.trans r2;done)|(cases r1;obtain⟨_,_,q,_⟩:=r2;cases q)
  |str b=>cases e<;>first|(cases o2;done)|(cases r1.symm.trans r2;simp[eqD];done)|(cases r1.symm.trans r2;done)|(cases r1;obtain⟨_,_,q,_⟩:=r2;cases q)
  |ty b=>cases o1
  |scr b=>cases o1
  |dct=>cases o1
  |ob _ _=>cases o1
theorem gC {ds:List D}{vs:List V}{us:List Value} (r:Rls K H φ ds vs) (rv:aU vs us):∀ (j:Nat) (h:j<us.length),∃ v,Rl K H φ (ds.getD j .non) v/\bK v us[j]/\ds.getD j .non∈ds:=by
 intro j h
 obtain⟨h',q⟩:=rv.at j h
 have hd:j<ds.length:=by rw[r.length];exact h'
 have e:ds[j]?=some ds[j]:=qaK hd
 obtain⟨v,ev,rl⟩:=r.get e
 rw[qaK h']at ev
 cases ev
 refine⟨_,?_,q,?_⟩
 ·rw[qeL,e];exact rl
 ·rw[qeL,e];exact qcV hd
theorem AB (I:Inv X pins σ H s):∀ (n:Nat) {A:qa8}{d e:D}{v u:V}{vv uu:Value},Rl X.K H φ d v->Rl X.K H φ e u->bK v vv->bK u uu->okD n d=true->okD n e=true->A.units+n<cLine->qdk A s vv uu (eqD d e):=by
 have flat:∀ {A:qa8}{d e:D}{v u:V}{vv uu:Value},eW d=true->eW e=true->Rl X.K H φ d v->Rl X.K H φ e u->bK v vv->bK u uu->qdk A s vv uu (eqD d e):=by
  intro A d e v u vv uu f1 f2 r1 r2 q1 q2
  obtain⟨e1,g1⟩:=iP f1 r1
  obtain⟨e2,g2⟩:=iP f2 r2
  rw[<-pB f1 f2,<-e1,<-e2]
  exact xF q1 q2 g1 g2
 intro n
 induction n with
 |zero=>
  intro A d e v u vv uu r1 r2 q1 q2 o1 o2 hu
  refine flat ?_ ?_ r1 r2 q1 q2
  ·cases d<;>first|rfl|cases o1
  ·cases e<;>first|rfl|cases o2
 |succ n ih=>
  intro A d e v u vv uu r1 r2 q1 q2 o1 o2 hu
  have hu0:A.units<cLine:=by lia
  have hu1:A.in1.units+n<cLine:=by show A.units+1+n<cLine;lia
  cases d with
  |tup ds=>
   obtain⟨a,vs,rfl,h1,h2⟩:=r1
   cases q1
   obtain⟨its,rv,p1,_⟩:=I.tuple (SqT.of h1)
   cases e with
   |tup es=>
    obtain⟨b,us,rfl,h3,h4⟩:=id r2
    cases q2
    by_cases hab:a=b
    ·subst hab
     rw[u2 I (n+1) (d:=.tup ds) ⟨a,vs,rfl,h1,h2⟩ r2 o1 o2]
     exact qeb _
    ·obtain⟨its2,rv2,p2,_⟩:=I.tuple (SqT.of h3)
     have z:=qdM (A:=A) (e:=λj=>eqD (ds.getD j .non) (es.getD j .non)) p1 p2 hu0 λj g1 g2=>by
      obtain⟨v1,k1,k2,k3⟩:=gC h2 rv j (by simpa using g1)
      obtain⟨v2,k4,k5,k6⟩:=gC h4 rv2 j (by simpa using g2)
      exact ih k1 k4 (by simpa using k2) (by simpa using k5) (qa9.mp o1 _ k3) (qa9.mp o2 _ k6) hu1
     have e1:its.toArray.size=ds.length:=by simp[<-rv.length,h2.length]
     have e2:its2.toArray.size=es.length:=by simp[<-rv2.length,h4.length]
     rw[e1,e2,gP]at z
     exact qdF hab z
   |lst es=>
    obtain⟨b,us,rfl,_,h3,h4⟩:=id r2
    cases q2
    obtain⟨its2,rv2,p2,_⟩:=I.list (.inl h3)
    exact qiS p1 p2.isList hu0
   |non=>cases r2;cases q2;exact qiR p1 hu0
   |bl x=>cases r2;cases q2;exact qiU x p1 hu0
   |int x=>cases r2;obtain⟨t,rfl⟩:=q2;exact qiT x t p1 hu0
   |str x=>cases r2;obtain⟨t,rfl⟩:=q2;exact qiQ x t p1 hu0
   |ty _=>cases o2
   |scr _=>cases o2
   |dct=>cases o2
   |ob _ _=>cases o2
  |lst ds=>
   obtain⟨a,vs,rfl,h0,h1,h2⟩:=r1
   cases q1
   obtain⟨its,rv,p1,_⟩:=I.list (.inl h1)
   cases e with
   |lst es=>
    obtain⟨b,us,rfl,_,h3,h4⟩:=id r2
    cases q2
    by_cases hab:a=b
    ·subst hab
     rw[u2 I (n+1) (d:=.lst ds) ⟨a,vs,rfl,h0,h1,h2⟩ r2 o1 o2]
     exact qeb _
    ·obtain⟨its2,rv2,p2,_⟩:=I.list (.inl h3)
     have e1:its.toArray.size=ds.length:=by simp[<-rv.length,h2.length]
     have e2:its2.toArray.size=es.length:=by simp[<-rv2.length,h4.length]
     by_cases hl:ds.length=es.length
     ·have z:=qff (A:=A) (e:=λj=>eqD (ds.getD j .non) (es.getD j .non)) p1.isList p2.isList (by rw[e1,e2,hl]) hu0 λj g1 g2=>by
       obtain⟨v1,k1,k2,k3⟩:=gC h2 rv j (by simpa using g1)
       obtain⟨v2,k4,k5,k6⟩:=gC h4 rv2 j (by simpa using g2)
       exact ih k1 k4 (by simpa using k2) (by simpa using k5) (qa9.mp o1 _ k3) (qa9.mp o2 _ k6) hu1
      rw[e1,j8 hl]at z
      exact qdF hab z
     ·have z:=qep (A:=A) p1.isList p2.isList (by rw[e1,e2];simpa using hl) hu0
      show qdk A s _ _ (jZ ds es)
      rw[rW hl]
      exact qdF hab z
   |tup es=>
    obtain⟨b,us,rfl,h3,h4⟩:=id r2
    cases q2
    obtain⟨its2,rv2,p2,_⟩:=I.tuple (SqT.of h3)
    exact qi5 p1.isList p2 hu0
   |non=>cases r2;cases q2;exact qi7 p1.isList hu0
   |bl x=>cases r2;cases q2;exact qi9 x p1.isList hu0
   |int x=>cases r2;obtain⟨t,rfl⟩:=q2;exact qi8 x t p1.isList hu0
   |str x=>cases r2;obtain⟨t,rfl⟩:=q2;exact qi6 x t p1.isList hu0
   |ty _=>cases o2
   |scr _=>cases o2
   |dct=>cases o2
   |ob _ _=>cases o2
  |non=>
   cases r1;cases q1
   cases e with
   |tup es=>obtain⟨b,us,rfl,h3,h4⟩:=r2;cases q2;obtain⟨_,_,p2,_⟩:=I.tuple (SqT.of h3);exact qi0 p2 hu0
   |lst es=>obtain⟨b,us,rfl,_,h3,h4⟩:=r2;cases q2;obtain⟨_,_,p2,_⟩:=I.list (.inl h3);exact qi2 p2.isList hu0
   |_=>first|(cases o2;done)|exact flat rfl rfl (d:=.non) rfl r2 (v:=.non) rfl q2
  |bl x=>
   cases r1;cases q1
   cases e with
   |tup es=>obtain⟨b,us,rfl,h3,h4⟩:=r2;cases q2;obtain⟨_,_,p2,_⟩:=I.tuple (SqT.of h3);exact qjf x p2 hu0
   |lst es=>obtain⟨b,us,rfl,_,h3,h4⟩:=r2;cases q2;obtain⟨_,_,p2,_⟩:=I.list (.inl h3);exact qji x p2.isList hu0
   |_=>first|(cases o2;done)|exact flat rfl rfl (d:=.bl x) rfl r2 (v:=.bl x) rfl q2
  |int x=>
   cases r1;obtain⟨t1,rfl⟩:=q1
   cases e with
   |tup es=>obtain⟨b,us,rfl,h3,h4⟩:=r2;cases q2;obtain⟨_,_,p2,_⟩:=I.tuple (SqT.of h3);exact qja x t1 p2 hu0
   |lst es=>obtain⟨b,us,rfl,_,h3,h4⟩:=r2;cases q2;obtain⟨_,_,p2,_⟩:=I.list (.inl h3);exact qjc x t1 p2.isList hu0
   |_=>first|(cases o2;done)|exact flat rfl rfl (d:=.int x) rfl r2 (v:=.int x) ⟨t1,rfl⟩ q2
  |str x=>
   cases r1;obtain⟨t1,rfl⟩:=q1
   cases e with
   |tup es=>obtain⟨b,us,rfl,h3,h4⟩:=r2;cases q2;obtain⟨_,_,p2,_⟩:=I.tuple (SqT.of h3);exact qiV x t1 p2 hu0
   |lst es=>obtain⟨b,us,rfl,_,h3,h4⟩:=r2;cases q2;obtain⟨_,_,p2,_⟩:=I.list (.inl h3);exact qiY x t1 p2.isList hu0
   |_=>first|(cases o2;done)|exact flat rfl rfl (d:=.str x) rfl r2 (v:=.str x) ⟨t1,rfl⟩ q2
  |ty _=>cases o1
  |scr _=>cases o1
  |dct=>cases o1
  |ob _ _=>cases o1
theorem Ba {A:qa8}{y x:V}{u v:Value} (ry:bK y u) (rx:bK x v) (fy:gX y=true) (fx:gX x=true):qhO A s u v (eqV y x):=by
 cases y with
 |non=>
  cases ry
  cases x with
  |non=>cases rx;exact qiv
  |bl b=>cases rx;exact qiy b
  |int b=>obtain⟨t,rfl⟩:=rx;exact qix b t
  |str b=>obtain⟨t,rfl⟩:=rx;exact qiu b t
  |_=>cases fx
 |bl a=>
  cases ry
  cases x with
  |non=>cases rx;exact qiM a
  |bl b=>cases rx;exact qiP a b
  |int b=>obtain⟨t,rfl⟩:=rx;exact qiO a b t
  |str b=>obtain⟨t,rfl⟩:=rx;exact qiL a b t
  |_=>cases fx
 |int a=>
  obtain⟨t',rfl⟩:=ry
  cases x with
  |non=>cases rx;exact qiG a t'
  |bl b=>cases rx;exact qiJ a t' b
  |int b=>obtain⟨t,rfl⟩:=rx;exact qiI a t' b t
  |str b=>obtain⟨t,rfl⟩:=rx;exact qiF a t' b t
  |_=>cases fx
 |str a=>
  obtain⟨t',rfl⟩:=ry
  cases x with
  |non=>cases rx;exact qip a t'
  |bl b=>cases rx;exact qis a t' b
  |int b=>obtain⟨t,rfl⟩:=rx;exact qir a t' b t
  |str b=>obtain⟨t,rfl⟩:=rx;exact qio a t' b t
  |_=>cases fx
 |_=>cases fy
theorem wD {A:qa8}{y x:V}{u v:Value} (ry:bK y u) (rx:bK x v) (fy:gX y=true) (fx:gX x=true):qgJ A s u v (!eqV y x):=by
 cases y with
 |non=>
  cases ry
  cases x with
  |non=>cases rx;exact qhr
  |bl b=>cases rx;exact qhu b
  |int b=>obtain⟨t,rfl⟩:=rx;exact qht b t
  |str b=>obtain⟨t,rfl⟩:=rx;exact qhq b t
  |_=>cases fx
 |bl a=>
  cases ry
  cases x with
  |non=>cases rx;exact qhK a
  |bl b=>cases rx;exact qhN a b
  |int b=>obtain⟨t,rfl⟩:=rx;exact qhM a b t
  |str b=>obtain⟨t,rfl⟩:=rx;exact qhJ a b t
  |_=>cases fx
 |int a=>
  obtain⟨t',rfl⟩:=ry
  cases x with
  |non=>cases rx;exact qhE a t'
  |bl b=>cases rx;exact qhH a t' b
  |int b=>obtain⟨t,rfl⟩:=rx;exact qhG a t' b t
  |str b=>obtain⟨t,rfl⟩:=rx;exact qhD a t' b t
  |_=>cases fx
 |str a=>
  obtain⟨t',rfl⟩:=ry
  cases x with
  |non=>cases rx;exact qhl a t'
  |bl b=>cases rx;exact qho a t' b
  |int b=>obtain⟨t,rfl⟩:=rx;exact qhn a t' b t
  |str b=>obtain⟨t,rfl⟩:=rx;exact qhk a t' b t
  |_=>cases fx
 |_=>cases fy
inductive Kin where
 |fl (d:D)|tp (ds:List D)|ls (ds:List D)
def rS (st:Sto):W->Option Kin
 |.d (.tup ds)=>some (.tp ds)
 |.d (.lst ds)=>some (.ls ds)
 |.h n=>(lg st n).map .ls
 |.d .non=>some (.fl .non)
 |.d (.bl b)=>some (.fl (.bl b))
 |.d (.int i)=>some (.fl (.int i))
 |.d (.str x)=>some (.fl (.str x))
 |_=>none
def eqK:Kin->Kin->Option Bool
 |.fl a,.fl b=>some (eqD a b)
 |.tp as,.tp bs=>if (as.isEmpty||bs.isEmpty)=true then some (as.isEmpty&&bs.isEmpty) else if as.all (okD 60)=true/\bs.all (okD 60)=true then some (jZ as bs) else none
 |.ls as,.ls bs=>if as.length=bs.length then (if as.all (okD 60)=true/\bs.all (okD 60)=true then some (jZ as bs) else none) else some false
 |.fl _,.tp _=>some false
 |.tp _,.fl _=>some false
 |.fl _,.ls _=>some false
 |.ls _,.fl _=>some false
 |.tp _,.ls _=>some false
 |.ls _,.tp _=>some false
def dEq (st:Sto) (x y:W):Option D:=(rS st x).bind λa=>(rS st y).bind λb=>(eqK a b).map λk=>.bl k
def dNe (st:Sto) (x y:W):Option D:=(rS st x).bind λa=>(rS st y).bind λb=>(eqK a b).map λk=>.bl (!k)
def A6 (K:qac) (H:Hp) (φ:List Addr):Kin->V->Prop
 |.fl d,v=>eW d=true/\Rl K H φ d v
 |.tp ds,v=>∃ a vs,v=.ref a/\SqT K H a vs/\Rls K H φ ds vs
 |.ls ds,v=>∃ a vs,v=.ref a/\Rd H a (.lst vs)/\Rls K H φ ds vs
theorem mN {w:W}{v:V}{k:Kin} (S:Sr K H φ st) (r:Rw K H φ w v) (e:rS st w=some k):A6 K H φ k v:=by
 cases w with
 |h n=>
  obtain⟨a,ea,rfl⟩:=r
  obtain⟨ds,e1,rfl⟩:=qad.mp e
  obtain⟨vs,q,rl⟩:=S.atl n a ds ea e1
  exact⟨a,vs,rfl,.inl q,rl⟩
 |d x=>
  cases x with
  |tup es=>cases e;obtain⟨a,vs,rfl,h1,h2⟩:=r;exact⟨a,vs,rfl,SqT.of h1,h2⟩
  |lst es=>cases e;obtain⟨a,vs,rfl,h0,h1,h2⟩:=r;exact⟨a,vs,rfl,h1,h2⟩
  |non=>cases e;exact⟨rfl,r⟩
  |bl b=>cases e;exact⟨rfl,r⟩
  |int b=>cases e;exact⟨rfl,r⟩
  |str b=>cases e;exact⟨rfl,r⟩
  |_=>cases e
theorem Bg {A:qa8}{k:Nat} (hr:dW k A):A.in1.units+60<cLine:=by
 have:=hr.un
 show A.units+1+60<cLine
 lia
theorem wt {k:Nat} (hr:dW k X.A) (I:Inv X pins σ H s) {a b:Kin}{v u:V}{vv uu:Value}{r:Bool} (ra:A6 X.K H φ a v) (rb:A6 X.K H φ b u) (qa:bK v vv) (qb:bK u uu) (e:eqK a b=some r) :
  qhO X.A s vv uu r/\qgJ X.A s vv uu (!r):=by
 have hu0:=hr.units0
 have items:∀ {ds es:List D}{vs us:List V}{its its2:List Value},Rls X.K H φ ds vs->Rls X.K H φ es us->aU vs its->aU us its2->ds.all (okD 60)=true->es.all (okD 60)=true->
   ∀ j (g1:j<its.toArray.size) (g2:j<its2.toArray.size),qdk X.A.in1 s its.toArray[j] its2.toArray[j] (eqD (ds.getD j .non) (es.getD j .non)):=by
  intro ds es vs us its its2 h2 h4 rv rv2 o1 o2 j g1 g2
  obtain⟨v1,k1,k2,k3⟩:=gC h2 rv j (by simpa using g1)
  obtain⟨v2,k4,k5,k6⟩:=gC h4 rv2 j (by simpa using g2)
  exact AB I 60 k1 k4 (by simpa using k2) (by simpa using k5) (qa9.mp o1 _ k3) (qa9.mp o2 _ k6) (Bg hr)
 match a,b,e with
 |.fl d,.fl d',e=>
  cases e
  obtain⟨f1,r1⟩:=ra
  obtain⟨f2,r2⟩:=rb
  obtain⟨e1,g1⟩:=iP f1 r1
  obtain⟨e2,g2⟩:=iP f2 r2
  rw[<-pB f1 f2,<-e1,<-e2]
  exact⟨Ba qa qb g1 g2,wD qa qb g1 g2⟩
 |.tp ds,.tp es,e=>
  simp only[eqK]at e
  obtain⟨a,vs,rfl,h1,h2⟩:=ra
  obtain⟨b,us,rfl,h3,h4⟩:=rb
  cases qa;cases qb
  obtain⟨its,rv,p1,_⟩:=I.tuple h1
  obtain⟨its2,rv2,p2,_⟩:=I.tuple h3
  have e1:its.toArray.size=ds.length:=by simp[<-rv.length,h2.length]
  have e2:its2.toArray.size=es.length:=by simp[<-rv2.length,h4.length]
  split at e
  ·rename_i hc
   cases e
   have hv:∀ j (g1:j<its.toArray.size) (g2:j<its2.toArray.size),qdk X.A.in1 s its.toArray[j] its2.toArray[j] (eqD (ds.getD j .non) (es.getD j .non)):=λj g1 g2=>by
    rw[e1]at g1
    rw[e2]at g2
    rw[qgw]at hc
    rcases hc with hc|hc
    ·rw[qgm.mp hc]at g1;exact absurd g1 (qc5 _)
    ·rw[qgm.mp hc]at g2;exact absurd g2 (qc5 _)
   have z:=qdM (A:=X.A) p1 p2 hu0 hv
   have z':=qeH (A:=X.A) p1 p2 hu0 hv
   rw[e1,e2,gP]at z z'
   have e3:jZ ds es=(ds.isEmpty&&es.isEmpty):=by
    cases ds with
    |nil=>cases es<;>rfl
    |cons _ _=>cases es with
     |nil=>rfl
     |cons _ _=>cases hc
   rw[e3]at z z'
   exact⟨z,z'⟩
  ·split at e
   ·rename_i hc
    cases e
    have z:=qdM (A:=X.A) p1 p2 hu0 (items h2 h4 rv rv2 hc.1 hc.2)
    have z':=qeH (A:=X.A) p1 p2 hu0 (items h2 h4 rv rv2 hc.1 hc.2)
    rw[e1,e2,gP]at z z'
    exact⟨z,z'⟩
   ·cases e
 |.ls ds,.ls es,e=>
  simp only[eqK]at e
  obtain⟨a,vs,rfl,h1,h2⟩:=ra
  obtain⟨b,us,rfl,h3,h4⟩:=rb
  cases qa;cases qb
  obtain⟨its,rv,p1,_⟩:=I.list (.inl h1)
  obtain⟨its2,rv2,p2,_⟩:=I.list (.inl h3)
  have e1:its.toArray.size=ds.length:=by simp[<-rv.length,h2.length]
  have e2:its2.toArray.size=es.length:=by simp[<-rv2.length,h4.length]
  split at e
  ·rename_i hl
   split at e
   ·rename_i hc
    cases e
    have z:=qff (A:=X.A) p1.isList p2.isList (by rw[e1,e2,hl]) hu0 (items h2 h4 rv rv2 hc.1 hc.2)
    have z':=qhw (A:=X.A) p1.isList p2.isList (by rw[e1,e2,hl]) hu0 (items h2 h4 rv rv2 hc.1 hc.2)
    rw[e1,j8 hl]at z z'
    exact⟨z,z'⟩
   ·cases e
  ·rename_i hl
   cases e
   have z:=qep (A:=X.A) p1.isList p2.isList (by rw[e1,e2];simpa using hl) hu0
   have z':=qhv (A:=X.A) p1.isList p2.isList (by rw[e1,e2];simpa using hl) hu0
   exact⟨z,z'⟩
 |.fl d,.tp es,e=>
  cases e
  obtain⟨f1,r1⟩:=ra
  obtain⟨b,us,rfl,h3,h4⟩:=rb
  cases qb
  obtain⟨its2,rv2,p2,_⟩:=I.tuple h3
  cases d with
  |non=>cases r1;cases qa;exact⟨qit p2 hu0,qhp p2 hu0⟩
  |bl x=>cases r1;cases qa;exact⟨qiK x p2 hu0,qhI x p2 hu0⟩
  |int x=>cases r1;obtain⟨t,rfl⟩:=qa;exact⟨qiE x t p2 hu0,qhC x t p2 hu0⟩
  |str x=>cases r1;obtain⟨t,rfl⟩:=qa;exact⟨qin x t p2 hu0,qhj x t p2 hu0⟩
  |_=>cases f1
 |.tp es,.fl d,e=>
  cases e
  obtain⟨f1,r1⟩:=rb
  obtain⟨b,us,rfl,h3,h4⟩:=ra
  cases qa
  obtain⟨its2,rv2,p2,_⟩:=I.tuple h3
  cases d with
  |non=>cases r1;cases qb;exact⟨qij p2 hu0,qhf p2 hu0⟩
  |bl x=>cases r1;cases qb;exact⟨qim x p2 hu0,qhi x p2 hu0⟩
  |int x=>cases r1;obtain⟨t,rfl⟩:=qb;exact⟨qil x t p2 hu0,qhh x t p2 hu0⟩
  |str x=>cases r1;obtain⟨t,rfl⟩:=qb;exact⟨qii x t p2 hu0,qhe x t p2 hu0⟩
  |_=>cases f1
 |.fl d,.ls es,e=>
  cases e
  obtain⟨f1,r1⟩:=ra
  obtain⟨b,us,rfl,h3,h4⟩:=rb
  cases qb
  obtain⟨its2,rv2,p2,_⟩:=I.list (.inl h3)
  replace p2:=p2.isList
  cases d with
  |non=>cases r1;cases qa;exact⟨qiw p2 hu0,qhs p2 hu0⟩
  |bl x=>cases r1;cases qa;exact⟨qiN x p2 hu0,qhL x p2 hu0⟩
  |int x=>cases r1;obtain⟨t,rfl⟩:=qa;exact⟨qiH x t p2 hu0,qhF x t p2 hu0⟩
  |str x=>cases r1;obtain⟨t,rfl⟩:=qa;exact⟨qiq x t p2 hu0,qhm x t p2 hu0⟩
  |_=>cases f1
 |.ls es,.fl d,e=>
  cases e
  obtain⟨f1,r1⟩:=rb
  obtain⟨b,us,rfl,h3,h4⟩:=ra
  cases qa
  obtain⟨its2,rv2,p2,_⟩:=I.list (.inl h3)
  replace p2:=p2.isList
  cases d with
  |non=>cases r1;cases qb;exact⟨qiB p2 hu0,qhz p2 hu0⟩
  |bl x=>cases r1;cases qb;exact⟨qiD x p2 hu0,qhB x p2 hu0⟩
  |int x=>cases r1;obtain⟨t,rfl⟩:=qb;exact⟨qiC x t p2 hu0,qhA x t p2 hu0⟩
  |str x=>cases r1;obtain⟨t,rfl⟩:=qb;exact⟨qiA x t p2 hu0,qhy x t p2 hu0⟩
  |_=>cases f1
 |.tp ds,.ls es,e=>
  cases e
  obtain⟨a,vs,rfl,h1,h2⟩:=ra
  obtain⟨b,us,rfl,h3,h4⟩:=rb
  cases qa;cases qb
  obtain⟨its,rv,p1,_⟩:=I.tuple h1
  obtain⟨its2,rv2,p2,_⟩:=I.list (.inl h3)
  exact⟨qik p1 p2.isList hu0,qhg p1 p2.isList hu0⟩
 |.ls ds,.tp es,e=>
  cases e
  obtain⟨a,vs,rfl,h1,h2⟩:=ra
  obtain⟨b,us,rfl,h3,h4⟩:=rb
  cases qa;cases qb
  obtain⟨its,rv,p1,_⟩:=I.list (.inl h1)
  obtain⟨its2,rv2,p2,_⟩:=I.tuple h3
  exact⟨qiz p1.isList p2 hu0,qhx p1.isList p2 hu0⟩
theorem jc {k:Nat} (hr:dW k X.A) (hK:X.K=K:=by rfl):OpD K X (qbA .Eq) dEq:=by
 subst hK
 refine⟨λst x y d h=>?_⟩
 simp only[dEq,qaa,qad]at h
 obtain⟨a,ha,b,hb,r,e,rfl⟩:=h
 intro pins s σ H vx vy v u Q I rx ry q
 obtain⟨φ,S,r1,r2,q⟩:=q
 exact (wt hr I (mN S r1 ha) (mN S r2 hb) rx ry e).1 _ _ _ _ ⟨.bl r,H,I,rfl,q _ H (bx.refl H) rfl⟩
theorem pj {k:Nat} (hr:dW k X.A) (hK:X.K=K:=by rfl):OpD K X (qbA .NotEq) dNe:=by
 subst hK
 refine⟨λst x y d h=>?_⟩
 simp only[dNe,qaa,qad]at h
 obtain⟨a,ha,b,hb,r,e,rfl⟩:=h
 intro pins s σ H vx vy v u Q I rx ry q
 obtain⟨φ,S,r1,r2,q⟩:=q
 exact (wt hr I (mN S r1 ha) (mN S r2 hb) rx ry e).2 _ _ _ _ ⟨.bl (!r),H,I,rfl,q _ H (bx.refl H) rfl⟩
end
section
variable {K:qac}{X:Cx}
def jo:List D->Option (List Int)
 |[]=>some []
 |.int i::ds=>(jo ds).map λr=>i::r
 |_=>none
theorem jp:∀ {ds:List D}{ns:List Int},jo ds=some ns->ds=ns.map D.int
 |[],_,h=>by cases h;rfl
 |.int i::ds,_,h=>by
  obtain⟨r,e,rfl⟩:=qad.mp h
  rw[jp e];rfl
 |.non::_,_,h=>by cases h
 |.bl _::_,_,h=>by cases h
 |.str _::_,_,h=>by cases h
 |.ty _::_,_,h=>by cases h
 |.dct::_,_,h=>by cases h
 |.scr _::_,_,h=>by cases h
 |.tup _::_,_,h=>by cases h
 |.lst _::_,_,h=>by cases h
theorem kq:∀ (ns:List Int),jo (ns.map D.int)=some ns
 |[]=>rfl
 |n::ns=>by rw[qaB,jo,kq ns];rfl
def jI:List D->Option (List Bool)
 |[]=>some []
 |.bl i::ds=>(jI ds).map λr=>i::r
 |_=>none
theorem jt:∀ {ds:List D}{ns:List Bool},jI ds=some ns->ds=ns.map D.bl
 |[],_,h=>by cases h;rfl
 |.bl i::ds,_,h=>by
  obtain⟨r,e,rfl⟩:=qad.mp h
  rw[jt e];rfl
 |.non::_,_,h=>by cases h
 |.int _::_,_,h=>by cases h
 |.str _::_,_,h=>by cases h
 |.ty _::_,_,h=>by cases h
 |.dct::_,_,h=>by cases h
 |.scr _::_,_,h=>by cases h
 |.tup _::_,_,h=>by cases h
 |.lst _::_,_,h=>by cases h
theorem ku:∀ (ns:List Bool),jI (ns.map D.bl)=some ns
 |[]=>rfl
 |n::ns=>by rw[qaB,jI,ku ns];rfl
def bf (st:Sto):List W->Option D
 |[.d (.str x)]=>if x.length<=1000000 then some (.int x.length) else none
 |[w]=>(iT st w).map λds=>.int ds.length
 |_=>none
def tu (_:Sto):List W->Option D
 |[.d (.int i)]=>some (.int (if i<0 then -i else i))
 |_=>none
def yd (_:Sto):List W->Option D
 |[.d (.int i),.d (.int j)]=>some (.int (if j<i then j else i))
 |_=>none
def vo (_:Sto):List W->Option D
 |[.d (.int i)]=>some (.int i)
 |[.d (.bl k)]=>some (.int (if k then 1 else 0))
 |_=>none
def qh (_:Sto):List W->Option D
 |[.d (.lst ds)]=>(jo ds).map λns=>.int ns.sum
 |_=>none
def ms (_:Sto):List W->Option D
 |[.d (.lst ds)]=>(jI ds).map λns=>.bl (ns.all id)
 |_=>none
def jE (st:Sto):List W->Option D
 |[w]=>(iT st w).map λds=>.tup ds
 |_=>none
def mT (st:Sto):List W->Option (List D)
 |[w]=>iT st w
 |_=>none
def Be (st:Sto):W->Option String
 |.d .non=>some "NoneType"
 |.d (.bl _)=>some "bool"
 |.d (.int _)=>some "int"
 |.d (.str _)=>some "str"
 |.d (.tup _)=>some "tuple"
 |.d (.lst _)=>some "list"
 |.d .dct=>some "dict"
 |.h n=>(lg st n).map λ_=>"list"
 |_=>none
def Av (t c:String):Option Bool:=
 if c = "int" then some (t=="int" || t=="bool")
 else if c = "bool"\/c = "str"\/c = "tuple"\/c = "list" then some (t==c)
 else none
def gm (st:Sto):List W->Option D
 |[w,.d (.ty c)]=>(Be st w).bind λt=>(Av t c).map λb=>.bl b
 |_=>none
theorem bU (hK:X.K=K:=by rfl):ja K X (.builtin "len") bf:=by
 subst hK
 refine⟨λst ws d h=>?_⟩
 have seq:∀ w,(iT st w).map (λds=>D.int ds.length)=some d->dm X (.builtin "len") (rCD X.K st [w] d):=λw h=>by
  obtain⟨ds,e,rfl⟩:=qad.mp h
  refine pE.imp ?_
  rintro vs H Q ⟨φ,S,⟨v,r,rfl,r1,rfl⟩,q⟩
  obtain⟨a,us,rfl,h1,h2⟩:=jV S r1 e
  exact⟨a,us,rfl,h1,q _ H (bx.refl H) (by rw[<-h2.length];rfl)⟩
 cases ws with
 |nil=>cases h
 |cons w tl=>
  cases tl with
  |cons _ _=>
   cases w with
   |h n=>cases h
   |d x=>cases x<;>cases h
  |nil=>
   cases w with
   |h n=>exact seq _ h
   |d x=>
    cases x with
    |str x=>
     simp only[bf]at h
     split at h
     ·rename_i hl
      cases h
      refine qw.imp ?_
      rintro vs H Q ⟨φ,S,⟨v,r,rfl,r1,rfl⟩,q⟩
      exact⟨x,by rw[show v=.str x from r1],qa2 hl mil,q _ H (bx.refl H) rfl⟩
     ·cases h
    |tup ds=>exact seq _ h
    |lst ds=>exact seq _ h
    |scr ds=>exact seq _ h
    |_=>cases h
theorem uj:ja K X (.builtin "abs") tu:=by
 refine⟨λst ws d h=>?_⟩
 match ws,h with
 |[.d (.int i)],h=>
  cases h
  refine xo.imp ?_
  rintro vs H Q ⟨φ,S,⟨v,r,rfl,r1,rfl⟩,q⟩
  exact⟨i,by rw[show v=.int i from r1],q _ H (bx.refl H) rfl⟩
theorem Al (hc:X.calm=true:=by rfl):ja K X (.builtin "min") yd:=by
 refine⟨λst ws d h=>?_⟩
 match ws,h with
 |[.d (.int i),.d (.int j)],h=>
  cases h
  refine (vG hc).imp ?_
  rintro vs H Q ⟨φ,S,⟨v,r,rfl,r1,u,r',rfl,r2,rfl⟩,q⟩
  exact⟨i,j,by rw[show v=.int i from r1,show u=.int j from r2],q _ H (bx.refl H) rfl⟩
theorem wZ:ja K X (.type "int") vo:=by
 refine⟨λst ws d h=>?_⟩
 match ws,h with
 |[.d (.int i)],h=>
  cases h
  refine oT.imp ?_
  rintro vs H Q ⟨φ,S,⟨v,r,rfl,r1,rfl⟩,q⟩
  exact .inl ⟨i,by rw[show v=.int i from r1],q _ H (bx.refl H) rfl⟩
 |[.d (.bl i)],h=>
  cases h
  refine oT.imp ?_
  rintro vs H Q ⟨φ,S,⟨v,r,rfl,r1,rfl⟩,q⟩
  exact .inr ⟨i,by rw[show v=.bl i from r1],q _ H (bx.refl H) rfl⟩
theorem uv (hc:X.calm=true:=by rfl) (hK:X.K=K:=by rfl):ja K X (.builtin "sum") qh:=by
 subst hK
 refine⟨λst ws d h=>?_⟩
 match ws,h with
 |[.d (.lst ds)],h=>
  obtain⟨ns,e,rfl⟩:=qad.mp h
  cases jp e
  refine (BP (K:=X.K) hc rfl).imp ?_
  rintro vs H Q ⟨φ,S,⟨v,r,rfl,⟨a,us,rfl,h0,h1,h2⟩,rfl⟩,q⟩
  cases h2.ints
  exact⟨a,ns,rfl,.inl h1,q _ H (bx.refl H) rfl⟩
theorem ny (hc:X.calm=true:=by rfl) (hK:X.K=K:=by rfl):ja K X (.builtin "all") ms:=by
 subst hK
 refine⟨λst ws d h=>?_⟩
 match ws,h with
 |[.d (.lst ds)],h=>
  obtain⟨ns,e,rfl⟩:=qad.mp h
  cases jt e
  refine (BG (K:=X.K) hc rfl).imp ?_
  rintro vs H Q ⟨φ,S,⟨v,r,rfl,⟨a,us,rfl,h0,h1,h2⟩,rfl⟩,q⟩
  cases h2.bools
  exact⟨a,ns,rfl,.inl h1,q _ H (bx.refl H) rfl⟩
theorem jq (hK:X.K=K:=by rfl):ja K X (.type "tuple") jE:=by
 subst hK
 refine⟨λst ws d h=>?_⟩
 match ws,h with
 |[w],h=>
  obtain⟨ds,e,rfl⟩:=qad.mp h
  refine oG.imp ?_
  rintro vs H Q ⟨φ,S,⟨v,r,rfl,r1,rfl⟩,q⟩
  obtain⟨a,us,rfl,h1,h2⟩:=qS S r1 e
  refine⟨a,us,rfl,?_⟩
  rcases h1 with h1|h1
  ·exact .inl ⟨h1,λl hl=>q _ _ (bx.new hl _) ⟨l,us,rfl,upd_same,h2.fw S (Fw.new hl)⟩⟩
  ·exact .inr ⟨SqT.of h1,q _ H (bx.refl H) ⟨a,us,rfl,h1,h2⟩⟩
theorem mE (hK:X.K=K:=by rfl):zl K X (.type "list") mT:=by
 subst hK
 refine⟨λst ws d h=>?_⟩
 match ws,h with
 |[w],h=>
  refine pU.imp ?_
  rintro vs H Q ⟨φ,S,⟨v,r,rfl,r1,rfl⟩,q⟩
  obtain⟨a,us,rfl,h1,h2⟩:=jV S r1 h
  exact⟨a,us,rfl,h1,λl hl=>q l us H (bx.refl H) hl h2⟩
theorem iA {t c:String}{b:Bool} (ht:t = "NoneType"\/t = "bool"\/t = "int"\/t = "str"\/t = "tuple"\/t = "list"\/t = "dict") (h:Av t c=some b):qf7 K (.type t) (.type c)=some b:=by
 unfold Av at h
 split at h
 ·rename_i hc
  subst hc
  rcases ht with rfl|rfl|rfl|rfl|rfl|rfl|rfl<;>(cases h;rfl)
 ·split at h
  ·rename_i _ hc
   rcases hc with rfl|rfl|rfl|rfl<;>rcases ht with rfl|rfl|rfl|rfl|rfl|rfl|rfl<;>(cases h;rfl)
  ·cases h
theorem eP (hK:X.K=K:=by rfl):ja K X (.builtin "isinstance") gm:=by
 subst hK
 refine⟨λst ws d h=>?_⟩
 match ws,h with
 |[w,.d (.ty c)],h=>
  simp only[gm,qaa,qad]at h
  obtain⟨t,ht,b,hb,rfl⟩:=h
  intro pins s σ H xs us Q I rv q
  obtain⟨φ,S,⟨v,r,rfl,r1,u,r',rfl,r2,rfl⟩,q⟩:=q
  cases (show u=.ty c from r2)
  obtain⟨vv,uu,rfl,rv1,rv2⟩:=rv.two
  cases rv2
  have fin:∀ tk,EP X pins σ Q (.bool b) { s with toks:=tk }:=λtk=>⟨.bl b,H,I.tok tk,rfl,q _ H (bx.refl H) rfl⟩
  cases w with
  |h n=>
   obtain⟨a,ea,rfl⟩:=r1
   obtain⟨ds,eds,rfl⟩:=qad.mp ht
   obtain⟨vs,hv,_⟩:=S.atl n a ds ea eds
   exact dS I rv1 (.lst hv) (iA (by simp) hb) fin
  |d x=>
   cases x with
   |non=>cases ht;cases r1;exact dS I rv1 .non (iA (by simp) hb) fin
   |ob _ _=>cases ht
   |bl x=>cases ht;cases r1;exact dS I rv1 (.bl x) (iA (by simp) hb) fin
   |int x=>cases ht;cases r1;exact dS I rv1 (.int x) (iA (by simp) hb) fin
   |str x=>cases ht;cases r1;exact dS I rv1 (.str x) (iA (by simp) hb) fin
   |lst ds=>
    cases ht
    obtain⟨a,vs,rfl,h0,h1,h2⟩:=r1
    rcases h1 with h1|⟨o,h1⟩
    ·exact dS I rv1 (.lst h1) (iA (by simp) hb) fin
    ·exact dS I rv1 (.frz h1) (iA (by simp) hb) fin
   |tup ds=>
    cases ht
    obtain⟨a,vs,rfl,h1,h2⟩:=r1
    cases rv1
    obtain⟨its,_,p,_⟩:=I.tuple (SqT.of h1)
    obtain⟨o,e1,e2,_⟩:=p
    exact qbv qfn I.kIn ⟨o,e1,e2⟩ (iA (by simp) hb) (λz=>nomatch z) fin
   |dct=>
    cases ht
    obtain⟨a,rfl,_,h1⟩:=r1
    rcases h1 with⟨d,h1⟩|⟨d,h1⟩
    ·exact dS I rv1 (.dK h1) (iA (by simp) hb) fin
    ·exact dS I rv1 (.dT h1) (iA (by simp) hb) fin
   |ty x=>cases ht
   |scr x=>cases ht
variable {e a b:Expr}{es:List Expr}{pos:Pos}{f fa fb:Ef}{af:Af}
theorem gG {x:Str}{c:String} (hg:Gl X x) (hm:X.mg x=none) (hv:qb9 x=some (.type c)) (hn:x≠"__name__":=by decide) (hd:(x==("__debug__" : Str))=false:=by decide):IE K X (.Name x pos) (iC (.ty c)):=
 xH (v:=.ty c) (yV hg hm hv rfl hn hd) λ_ _=>rfl
theorem zg:IE K X (.Dict [] [] pos) (iC .dct):=by
 refine⟨λenv st r hr=>?_⟩
 cases hr
 refine Cd.imp ?_
 rintro σ H Q ⟨φ,hE,hS,q⟩
 exact λp hp=>q _ _ φ (Fw.new hp) (hS.new hp) ⟨p,rfl,hS.nin hp,.inr ⟨_,upd_same⟩⟩
theorem Cv {k v:Int}{j1 j2:Nat}{p1 p2:Pos}:IE K X (.Dict [some (.Constant (.int k) j1 p1)] [.Constant (.int v) j2 p2] pos) (iC .dct):=by
 refine⟨λenv st r hr=>?_⟩
 cases hr
 refine B7.imp ?_
 rintro σ H Q ⟨φ,hE,hS,q⟩
 exact λp hp=>q _ _ φ (Fw.new hp) (hS.new hp) ⟨p,rfl,hS.nin hp,.inl ⟨_,upd_same⟩⟩
def lW (g:List D->List W->Option (D×List D)) (o:Ef) (a:Af):Ef
 |env,st=>(o env st).bind λx=>(a env x.2).bind λr=>match x.1 with
 |.h n=>(lg x.2 n).bind λ_=>(lg r.2 n).bind λds=>(g ds r.1).map λy=>(.d y.1,r.2.set n (.l y.2))
 |_=>none
def hZ (ds:List D):List W->Option (D×List D)
 |[.d x]=>if ds.length<1000000 then some (.non,ds++[x]) else none
 |_=>none
theorem Ap {name:Str}{id:String}{apos:Pos}{rr:V->List V->Hp->VK->Prop}{g:List D->List W->Option (D×List D)} (slot:Slot "list" name id) (hty:typeOf (.builtin id)=pure (.type "method_descriptor")) (hm:MtR X id rr)
  (hg:∀ (H:Hp) (φ:List Addr) (st:Sto) (n:Nat) (ad:Addr) (ds:List D) (vs:List V) (ws:List W) (us:List V) (y:D×List D) (Q:VK),Sr K H φ st->φ[n]?=some ad->lg st n=some ds->H ad=some (.lst vs)->Rls K H φ ds vs->Rws K H φ ws us->g ds ws=some y->
    (∀ v vs',Rl K H φ y.1 v->Rls K H φ y.2 vs'->(∀ b,v≠.ref b)->Q v (upd H ad (.lst vs')))->rr (.ref ad) us H Q)
  (hfl:∀ ds ws y,g ds ws=some y->eW y.1=true)
  (ho:IE K X a fa) (ha:IA K X (e::es) af) (hbase:qcL a name X.env (eval a X.env)=eval a X.env:=by rfl)
  (hall:(e::es).all aP=true:=by rfl) (hfl30:(e::es).length<30:=by decide) (hline:(apos.endLine==pos.line)=true:=by rfl) (hK:X.K=K:=by rfl) :
  IE K X (.Call (.Attribute a name apos) (e::es) [] pos) (lW g fa af):=by
 subst hK
 have hall2:aP e=true/\es.all aP=true:=by rw[qbp,qaR]at hall;exact hall
 refine⟨λenv st r hr=>?_⟩
 simp only[lW,qaa]at hr
 obtain⟨⟨x,s1⟩,hx,⟨ws,s2⟩,hw,hr⟩:=hr
 cases x with
 |d x=>cases hr
 |h n=>
  simp only[qaa,qad]at hr
  obtain⟨ds1,hds1,ds,hds,y,hy,rfl⟩:=hr
  refine (zt qeT slot hty hm (ho.run _ _ _ hx) (ha.run _ _ _ hw) hbase (rn hall hfl30) hline (bG hall2.1) (cF hall2.2)).imp ?_
  rintro σ H Q ⟨φ,hE,hS,q⟩
  refine⟨φ,hE,hS,λv H1 φ1 f1 S1 w1=>?_⟩
  obtain⟨ad,ea,rfl⟩:=w1
  obtain⟨vs1,hv1,_⟩:=S1.atl n ad _ ea hds1
  refine⟨.inl ⟨rfl,vs1,SqL.of hv1⟩,φ1,hE.fw hS f1,S1,λus H2 φ2 f2 S2 w2=>?_⟩
  have ea2:=f2.get ea
  obtain⟨vs2,hv2,rl2⟩:=S2.atl n ad ds ea2 hds
  refine hg H2 φ2 s2 n ad ds vs2 ws us y _ S2 ea2 hds hv2 rl2 w2 hy λv vs' r1 r2 hb=>?_
  obtain⟨f3,S3⟩:=S2.put ea2 r2
  exact q v _ φ2 ((f1.trans f2).trans f3) S3 (r1.fw S2 f3)
theorem pf {apos:Pos} (ho:IE K X a fa) (ha:IA K X (e::es) af) (hbase:qcL a "append" X.env (eval a X.env)=eval a X.env:=by rfl)
  (hall:(e::es).all aP=true:=by rfl) (hfl30:(e::es).length<30:=by decide) (hline:(apos.endLine==pos.line)=true:=by rfl) (hK:X.K=K:=by rfl) :
  IE K X (.Call (.Attribute a "append" apos) (e::es) [] pos) (lW hZ fa af):=by
 refine Ap PySem.F.slot_list_append PySem.F.type_list_append vE (λH φ st n ad ds vs ws us y Q S ea eds hv rl rw hy q=>?_) (λds ws y h=>?_) ho ha hbase hall hfl30 hline hK
 ·match ws,hy with
  |[.d x],hy=>
   simp only[hZ]at hy
   split at hy
   ·rename_i hl
    cases hy
    obtain⟨v,r,rfl,r1,rfl⟩:=rw
    exact⟨ad,vs,v,rfl,rfl,hv,by rw[<-rl.length];exact qaT hl mil,q _ _ rfl (rl.append ⟨v,[],rfl,r1,rfl⟩) (λb z=>nomatch z)⟩
   ·cases hy
 ·match ws,h with
  |[.d x],h=>
   simp only[hZ]at h
   split at h
   ·cases h;rfl
   ·cases h
end
section
variable {K:qac}{X:Cx}{e a b:Expr}{es:List Expr}{pos:Pos}{f fa fb:Ef}{af:Af}
def rL (K:qac) (st:Sto) (x y:W) (ds:List D):R2:=λvx vy H Q=>∃ φ,Sr K H φ st/\Rw K H φ x vx/\Rw K H φ y vy/\∀ p us,H p=none->Rls K H φ ds us->Q (.ref p) (upd H p (.lst us))
structure OpL (K:qac) (X:Cx) (f:Value->Value->Sem Value) (g:Sto->W->W->Option (List D)):Prop where
 run:∀ st x y d,g st x y=some d->OpR X f (rL K st x y d)
def ui (g:Sto->W->W->Option (List D)) (a b:Ef):Lf
 |env,st=>(a env st).bind λx=>(b env x.2).bind λy=>(g y.2 x.1 y.1).map λd=>(d,y.2)
theorem xK {op:Operator}{g:Sto->W->W->Option (List D)} (ho:OpL K X (qbC op) g) (ha:IE K X a fa) (hb:IE K X b fb):IL K X (.BinOp a op b pos) (ui g fa fb):=by
 refine⟨λenv st r hr=>?_⟩
 simp only[ui,qaa,qad]at hr
 obtain⟨x,hx,y,hy,d,hd,rfl⟩:=hr
 refine (zp (ho.run _ _ _ _ hd) (ha.run _ _ _ hx) (hb.run _ _ _ hy)).imp ?_
 rintro σ H Q ⟨φ,hE,hS,q⟩
 exact⟨φ,hE,hS,λv H1 φ1 f1 s1 w1=>⟨φ1,hE.fw hS f1,s1,λu H2 φ2 f2 s2 w2=>⟨φ2,s2,w1.fw s1 f2,w2,λp us hp r=>q p us H2 φ2 (f1.trans f2) s2 hp r⟩⟩⟩
def oq (_:Sto):W->W->Option (List D)
 |.d (.lst a),.d (.int k)=>if a.length<=1000/\-1000<=k/\k<1000 then some (qaC k.toNat a).flatten else none
 |_,_=>none
theorem ub:OpL K X (qbC .Mult) oq:=by
 refine⟨λst x y d h=>?_⟩
 match x,y,h with
 |.d (.lst as),.d (.int k),h=>
  simp only[oq]at h
  split at h
  ·rename_i hl
   cases h
   refine vh.imp ?_
   rintro vx vy H Q ⟨φ,S,⟨a,us,rfl,h0,h1,h2⟩,r2,q⟩
   refine⟨a,k,us,rfl,r2,h1,by lia,by lia,?_,λp hp=>q p _ hp (h2.rep _)⟩
   rw[<-h2.length]
   have:as.length*k.toNat<=1000*1000:=qcQ hl.1 (by lia)
   exact qa2 this mil
  ·cases h
theorem yx {H:Hp}{ad:Addr}{ns:List Int}{m:Fn} (hO:yb H) (hS:SqL K H ad (ns.map V.int)) (h:∃ st,m [.d (.scr ns)] []=some (.d (.bl true),st)):spI K m [.ref ad] H (λv _=>v=.bl true) λ_ _ _=>False:=by
 obtain⟨st,h⟩:=h
 refine⟨[],[],[.d (.scr ns)],_,h,⟨_,[],rfl,⟨ad,rfl,?_⟩,rfl⟩,⟨qcN,rfl,λn a ds e=>by simp at e⟩,λv H' φ' _ _ r=>r⟩
 rcases hS with (h|h)|h
 ·rcases hO ad with z|⟨o,xs,z⟩
  ·rw[h]at z;cases z
  ·rw[h]at z;cases z
 ·exact .inl h
 ·exact .inr h
end
end L2
namespace L2
open PySem
theorem fm {g:Tg}{body:Sf}:∀ {ds:List D} (Pv:Nat->Ev->Sto->Prop) {env:Ev}{st:Sto},Pv 0 env st->
  (∀ i d env st,ds[i]?=some d->Pv i env st->∃ e1 e2 s2,e9 g (.d d) env=some e1/\(body e1 st=some (.nx e2 s2)\/body e1 st=some (.ct e2 s2))/\Pv (i+1) e2 s2)->
  ∃ env' st',dY g body ds env st=some (.nx env' st')/\Pv ds.length env' st'
 |[],Pv,env,st,h0,_=>⟨env,st,rfl,h0⟩
 |d::ds,Pv,env,st,h0,hs=>by
  obtain⟨e1,e2,s2,h1,h2,h3⟩:=hs 0 d env st rfl h0
  obtain⟨e',s',h4,h5⟩:=fm (g:=g) (body:=body) (ds:=ds) (λi=>Pv (i+1)) h3 λi d' env' st' hd p=>hs (i+1) d' env' st' (by simpa using hd) p
  refine⟨e',s',?_,h5⟩
  unfold dY
  rw[h1,qab]
  rcases h2 with h2|h2<;>(rw[h2,qab];exact h4)
theorem pW {g:Tg}{tt:Tf}{te:Ef}{env:Ev}:∀ {ds:List D} (Pv:Nat->List D->Sto->Prop) {st:Sto}{ys0:List D},Pv 0 ys0 st->
  (∀ i d ys st,ds[i]?=some d->Pv i ys st->∃ e1,e9 g (.d d) env=some e1/\((∃ s1 x s2,tt e1 st=some (true,s1)/\te e1 s1=some (.d x,s2)/\Pv (i+1) (ys++[x]) s2)\/∃ s1,tt e1 st=some (false,s1)/\Pv (i+1) ys s1))->
  ∃ ys st',lcI g tt te env ds st=some (ys,st')/\Pv ds.length (ys0++ys) st'
 |[],Pv,st,ys0,h0,_=>⟨[],st,rfl,by rw[qbO];exact h0⟩
 |d::ds,Pv,st,ys0,h0,hs=>by
  obtain⟨e1,h1,h2⟩:=hs 0 d ys0 st rfl h0
  rcases h2 with⟨s1,x,s2,h2,h3,h4⟩|⟨s1,h2,h4⟩
  ·obtain⟨ys,s',h5,h6⟩:=pW (g:=g) (tt:=tt) (te:=te) (env:=env) (ds:=ds) (λi=>Pv (i+1)) h4 λi d' ys' st' hd p=>hs (i+1) d' ys' st' (by simpa using hd) p
   refine⟨x::ys,s',?_,by simpa using h6⟩
   unfold lcI
   rw[h1,qab,h2,qab,if_pos rfl,h3,qab,h5]
   rfl
  ·obtain⟨ys,s',h5,h6⟩:=pW (g:=g) (tt:=tt) (te:=te) (env:=env) (ds:=ds) (λi=>Pv (i+1)) h4 λi d' ys' st' hd p=>hs (i+1) d' ys' st' (by simpa using hd) p
   refine⟨ys,s',?_,by simpa using h6⟩
   unfold lcI
   rw[h1,qab,h2,qab,if_neg qax,h5]
theorem qQ {g:Tg}{tt:Tf}{te:Ef}{env:Ev}{st:Sto} (p:D->Bool) (F:D->D):∀ {ds:List D},(∀ d∈ds,∃ e1,e9 g (.d d) env=some e1/\tt e1 st=some (p d,st)/\(p d=true->te e1 st=some (.d (F d),st)))->
  lcI g tt te env ds st=some ((ds.filter p).map F,st)
 |[],_=>rfl
 |d::ds,h=>by
  obtain⟨e1,h1,h2,h3⟩:=h d qaf
  have ih:=qQ (g:=g) (tt:=tt) (te:=te) (env:=env) (st:=st) p F (ds:=ds) λx hx=>h x (qaj _ hx)
  unfold lcI
  rw[h1,qab,h2,qab]
  cases hp:p d with
  |true=>rw[if_pos rfl,h3 hp,qab,ih,qgo,hp];rfl
  |false=>rw[if_neg qax,ih,qgo,hp];rfl
theorem yt {g:Tg}{te:Ef}{env:Ev}{st:Sto} (F:D->D) {ds:List D} (h:∀ d∈ds,∃ e1,e9 g (.d d) env=some e1/\te e1 st=some (.d (F d),st)):lcI g bn te env ds st=some (ds.map F,st):=by
 have:=qQ (g:=g) (tt:=bn) (te:=te) (env:=env) (st:=st) (λ_=>true) F (ds:=ds) λd hd=>by
  obtain⟨e1,h1,h2⟩:=h d hd
  exact⟨e1,h1,rfl,λ_=>h2⟩
 rw[this,qfI.mpr λ_ _=>rfl]
def bT (st:Sto) (n:Nat):Prop:=∃ x y z:Int,0<=x/\st[n]?=some (.l [.int x,.int y,.int z])
def Stp (n:Nat) (st st':Sto):Prop:=(∃ v,st'=st.set n v)/\bT st' n
theorem bT.lt {st:Sto}{n:Nat} (h:bT st n):n<st.length:=by
 obtain⟨x,y,z,_,e⟩:=h
 exact (qao.mp e).1
theorem Stp.refl {st:Sto}{n:Nat} (h:bT st n):Stp n st st:=by
 obtain⟨x,y,z,h0,e⟩:=id h
 exact⟨⟨_,(List.set_getElem_self (h.lt)).symm⟩,h⟩
theorem Stp.trans {n:Nat}{a b c:Sto} (h:Stp n a b) (h':Stp n b c):Stp n a c:=by
 obtain⟨⟨v,rfl⟩,_⟩:=h
 obtain⟨⟨u,rfl⟩,q⟩:=h'
 exact⟨⟨u,by rw[qet]⟩,q⟩
theorem Stp.hand {n:Nat}{a b:Sto} (h:Stp n a b):bT b n:=h.2
theorem Stp.len {n:Nat}{a b:Sto} (h:Stp n a b):b.length=a.length:=by obtain⟨⟨v,rfl⟩,_⟩:=h;rw[qbx]
theorem kM {a b:Int} (h:-(2^64)<a/\a<2^64):qbr a b:=yG.ok (.inl h)
theorem mH {a b:Int} (h:-(2^64)<b/\b<2^64):qbr a b:=yG.ok (.inr h)
theorem kZ {st:Sto}{n:Nat}{v:C} (h:n<st.length):(st.set n v)[n]?=some v:=qba h
theorem xL {α:Type} (a:α) (l:List α):atI (a::l) 0=some a:=dD (j:=0) rfl
theorem Ci {α:Type} (a b:α) (l:List α):atI (a::b::l) 1=some b:=dD (j:=1) rfl
theorem Aj {α:Type} (a b c:α) (l:List α):atI (a::b::c::l) 2=some c:=dD (j:=2) rfl
theorem CU (n:Nat):ixN (n+1) 0=some 0:=fV (j:=0) (by lia)
theorem BW (n:Nat):ixN (n+2) 1=some 1:=fV (j:=1) (by lia)
theorem zF (n:Nat):ixN (n+3) 2=some 2:=fV (j:=2) (by lia)
theorem bT.app {st:Sto}{n:Nat} (h:bT st n) (u:Sto):bT (st++u) n:=by
 obtain⟨x,y,z,h0,e⟩:=id h
 exact⟨x,y,z,h0,by rw[qaF h.lt];exact e⟩
theorem Stp.unapp {n:Nat}{a s:Sto}{u:Sto} (hn:n<a.length) (h:Stp n (a++u) s):∃ b,s=b++u/\Stp n a b:=by
 obtain⟨⟨v,rfl⟩,x,y,z,h0,e⟩:=h
 rw[List.set_append_left _ _ hn]at e ⊢
 exact⟨_,rfl,⟨v,rfl⟩,x,y,z,h0,by rw[qaF (by rw[qbx];exact hn)]at e;exact e⟩
end L2
namespace L2
open PySem PySem.Spec PyProof.Rows
section
variable {prog:qa1}{w:World}{A:qa8}{E:Value->qak->Prop}{s:qak}{κ:qeE}{O:qfh}{rk:Keyed->O.α}{S:Keyed->Prop}
variable {a0:Array Keyed}{lo:Nat}{p0:Array (Nat×Nat×Nat)}{g0:Nat}{st:qgg}
end
section
variable {prog:qa1}{w:World}{A:qa8}{E:Value->qak->Prop}{s:qak}{κ:qeE}{O:qfh}{rk:Keyed->O.α}{S:Keyed->Prop}
variable {a0:Array Keyed}{lo:Nat}{p0:Array (Nat×Nat×Nat)}{g0:Nat}{st:qgg}
end
section
variable {prog:qa1}{w:World}{A:qa8}{E:Value->qak->Prop}{s:qak}{κ:qeE}{O:qfh}{rk:Keyed->O.α}{S:Keyed->Prop}
variable {a0:Array Keyed}{lo:Nat}{p0:Array (Nat×Nat×Nat)}{g0:Nat}{st:qgg}
end
section
variable {O:qfh}{rk:Keyed->O.α}
variable {a b out:Array Keyed}{ia ib:Nat}
variable {na nb:Nat}
end
section
variable {prog:qa1}{w:World}{A:qa8}{E:Value->qak->Prop}{s:qak}{κ:qeE}{O:qfh}{rk:Keyed->O.α}{S:Keyed->Prop}{st:qgg}{a b:Array Keyed}
end
section
variable {prog:qa1}{w:World}{A:qa8}{E:Value->qak->Prop}{s:qak}{κ:qeE}{O:qfh}{rk:Keyed->O.α}{S:Keyed->Prop}{st:qgg}{a b out:Array Keyed}{na nb:Nat}
end
section
variable {prog:qa1}{w:World}{A:qa8}{E:Value->qak->Prop}{s:qak}{κ:qeE}{O:qfh}{rk:Keyed->O.α}{S:Keyed->Prop}{st:qgg}{arr:Array Keyed}{n1 n2:Nat}
end
section
variable {prog:qa1}{w:World}{A:qa8}{E:Value->qak->Prop}{s:qak}{κ:qeE}{O:qfh}{rk:Keyed->O.α}{S:Keyed->Prop}{st:qgg}{a0:Array Keyed}
end
end L2
namespace L2
open PySem PySem.Spec PyProof.Rows PySem.SeqAt
open MeetsSeq MeetsSeq2 MeetsSeq3 SeqRoads2
open AutoSeq1 (wpAny_loadPart')
section
variable {A:qa8}{s:qak}{p q:Addr}{us vs:Array Value}{e l:Nat->Bool}
end
end L2
namespace L2
open PySem PySem.Spec PyProof.Rows PySem.SeqAt PySem.W
section
variable {prog:qa1}{w:World}{A:qa8}{E:Value->qak->Prop}{s:qak}{x y:Value}{l m:List Int}
end
section
variable {prog:qa1}{w:World}{A:qa8}{E:Value->qak->Prop}{s:qak}{O:qfh}{rk:Keyed->O.α}{S:Keyed->Prop}{vs:List Value}
end
section
variable {prog:qa1}{w:World}{A:qa8}{E:Value->qak->Prop}{s:qak}
end
section
variable {K:qac}{X:Cx}{pins:List (Addr×Obj)}{σ:St}{H:Hp}{s:qak}{φ:List Addr}
end
end L2
namespace L2
open PySem PySem.Spec PyProof.Rows
open PySem.AutoSeq1 (wpAny_loadPart')
def SIt (k:Bool) (h:Heap) (it l:Addr) (i:Nat):Prop:=match k with
 |true=>h.IsTupleIter it l i
 |false=>h.IsListIter it l i
def SIs (k:Bool) (h:Heap) (l:Addr) (xs:Array Value):Prop:=match k with
 |true=>h.IsTuple l xs
 |false=>h.IsList l xs
theorem SIt.to {k:Bool}{h h':Heap}{it l:Addr}{i:Nat} (a:SIt k h it l i) (f:∀ o,h.get? it=some o->h'.get? it=some o):SIt k h' it l i:=by
 cases k with
 |true=>exact Heap.IsTupleIter.at a f
 |false=>exact Heap.IsListIter.at a f
theorem SIs.to {k:Bool}{h h':Heap}{l:Addr}{xs:Array Value} (a:SIs k h l xs) (f:∀ o,h.get? l=some o->h'.get? l=some o):SIs k h' l xs:=by
 cases k with
 |true=>obtain⟨o,e,r⟩:=a;exact⟨o,f o e,r⟩
 |false=>exact Heap.IsList.at a f
theorem SIt.live {k:Bool}{h:Heap}{it l:Addr}{i:Nat} (a:SIt k h it l i):∃ o vs,h.get? it=some o/\o.data=.fields vs:=by
 cases k with
 |true=>obtain⟨o,e,_,d⟩:=a;exact⟨o,_,e,d⟩
 |false=>obtain⟨o,e,_,d⟩:=a;exact⟨o,_,e,d⟩
section
variable {prog:qa1}{w:World}{A:qa8}{E:Value->qak->Prop}{s:qak}{k k2:Bool}
theorem pH {it l:Addr}{i:Nat}{xs:Array Value}{x:Value}{Q:Value->qak->Prop} (hit:SIt k s.heap it l i) (hl:SIs k s.heap l xs) (hx:xs[i]?=some x)
  (hQ:∀ h',SIt k h' it l (i+1)->qde it s.heap h'->Q x { s with heap:=h' }):wpAny (model prog w) A (qa4 (.ref it)) Q E s:=by
 cases k with
 |true=>exact hW hit hl hx hQ
 |false=>exact wpAny_nextOf_list_item hit hl hx hQ
theorem xS {it l:Addr}{i:Nat}{xs:Array Value}{Q:Value->qak->Prop} (hh:A.handled=none) (hit:SIt k s.heap it l i) (hl:SIs k s.heap l xs) (hx:xs[i]?=none)
  (hE:∀ h' e,qh0 it s.heap h'->(∃ o,h'.get? e=some o/\o.cls=.type "StopIteration")->E (.ref e) { s with heap:=h' }):wpAny (model prog w) A (qa4 (.ref it)) Q E s:=by
 cases k with
 |true=>exact iM hh hit hl hx hE
 |false=>exact wpAny_nextOf_list_end hh hit hl hx hE
variable {z TI TO i1 i2 l1 l2:Addr}{n:Nat}{xs ys:Array Value}{a b:Value}
structure ZSt (k k2:Bool) (z TI TO i1 i2 l1 l2:Addr) (f0:Value) (n:Nat) (h:Heap):Prop where
 z:IsZip h z TI TO f0
 ti:qfi h TI (.ref i1) (.ref i2)
 to:∃ a b,qfi h TO a b
 t1:SIt k h i1 l1 n
 t2:SIt k2 h i2 l2 n
set_option maxHeartbeats 1000000 in
theorem xA {x y:Value}{Q:Option Value->qak->Prop} (D:ZipApart z TI TO i1 i2 l1 l2) (hs:ZSt k k2 z TI TO i1 i2 l1 l2 .none n s.heap) (hl1:SIs k s.heap l1 xs) (hl2:SIs k2 s.heap l2 ys) (hx:xs[n]?=some x) (hy:ys[n]?=some y)
  (hQ:∀ h',ZSt k k2 z TI TO i1 i2 l1 l2 (qfC s.heap.objs.size) (n+1) h'->qfi h' s.heap.objs.size x y->h'.objs.size=s.heap.objs.size+1->
    (∀ c o,c≠z->c≠TO->c≠i1->c≠i2->s.heap.get? c=some o->h'.get? c=some o)->Q (some (.ref s.heap.objs.size)) { s with heap:=h' }) :
  wpAny (model prog w) A (qge (.ref z)) Q E s:=by
 obtain⟨hz,hTI,⟨a,b,hTO⟩,h1,h2⟩:=hs
 have hT:s.TypeIs (.ref z) "zip":=⟨_,hz,rfl⟩
 unfold qge
 refine qae (wpAny_attempt (qbF (name:=qcR "__next__") hT qdR (qcd qdR hT qgO ?_ (qgE _))))
 show wpAny _ _ (field (.ref z) 2 >>= _) _ _ _
 refine qae (qby hz rfl (x:=.bool false) rfl ?_)
 show wpAny _ _ (field (.ref z) 3 >>= _) _ _ _
 refine qae (qby hz rfl (x:=.ref TI) rfl (qae (qce hTI rfl ?_)))
 show wpAny _ _ (qbI (.ref z) >>= _) _ _ _
 refine qae ?_
 unfold qbI
 refine qae (qby hz rfl (x:=.none) rfl (qaq ?_))
 simp only[if_true]
 refine qae (qdC (qae (qby hz rfl (x:=.ref TO) rfl ?_)))
 refine qae (qcj hz (by simp) λg1 hz1 s1=>?_)
 replace hz1:IsZip g1 z TI TO .ellipsis:=hz1
 refine qae ?_
 simp only[qgk,qgu,qeM,qdQ]
 have e1:=s1.extBut
 refine qae (qae (qeB ?_))
 show wpAny _ _ (qa4 (.ref i1) >>= _) _ _ _
 refine qae (pH (h1.to λo q=>e1 _ o D.i1z q) (hl1.to λo q=>e1 _ o D.l1z q) hx λg2 h12 s2=>qaq ?_)
 have e2:=s2.extBut
 have hTO2:qfi g2 TO a b:=e2 _ _ D.TOi1 (e1 _ _ D.TOz hTO)
 refine qae (qce hTO2 rfl (qae (qed hTO2 λg3 hTO3 s3=>?_)))
 replace hTO3:qfi g3 TO x b:=hTO3
 have e3:=s3.extBut
 refine qae (qgx (qaq ?_))
 refine qae (qae (qeB ?_))
 show wpAny _ _ (qa4 (.ref i2) >>= _) _ _ _
 refine qae (pH (h2.to λo q=>e3 _ o D.TOi2.symm (e2 _ o D.i12.symm (e1 _ o D.i2z q))) (hl2.to λo q=>e3 _ o D.l2TO (e2 _ o D.l2i1 (e1 _ o D.l2z q))) hy λg4 h24 s4=>qaq ?_)
 have e4:=s4.extBut
 have hTO4:qfi g4 TO x b:=e4 _ _ D.TOi2 hTO3
 refine qae (qce hTO4 rfl (qae (qed hTO4 λg5 hTO5 s5=>?_)))
 replace hTO5:qfi g5 TO x y:=hTO5
 have e5:=s5.extBut
 refine qae (qgx (qaq (qaq ?_)))
 refine qae (qce hTO5 rfl (qae (wpAny_newTuple ?_)))
 have hsz:g5.objs.size=s.heap.objs.size:=by rw[s5.1,s4.1,s3.1,s2.1,s1.1]
 have hz5:IsZip g5 z TI TO .ellipsis:=e5 _ _ D.TOz.symm (e4 _ _ D.i2z.symm (e3 _ _ D.TOz.symm (e2 _ _ D.i1z.symm hz1)))
 have kp:∀ c o,c≠z->c≠TO->c≠i1->c≠i2->s.heap.get? c=some o->g5.get? c=some o:=λc o c1 c2 c3 c4 e=>e5 _ _ c2 (e4 _ _ c4 (e3 _ _ c2 (e2 _ _ c3 (e1 _ _ c1 e))))
 have h15:SIt k g5 i1 l1 (n+1):=h12.to λo q=>e5 _ o D.TOi1.symm (e4 _ o D.i12 (e3 _ o D.TOi1.symm q))
 have h25:SIt k2 g5 i2 l2 (n+1):=h24.to λo q=>e5 _ o D.TOi2.symm q
 have hzlt:z<g5.objs.size:=qaz hz5
 show wpAny _ _ (qc8 (.ref z) (.ref g5.objs.size) >>= _) _ _ _
 refine qae ?_
 unfold qc8
 have hz6:IsZip (g5.push { cls:=.type "tuple",data:=.seq #[x,y] }) z TI TO .ellipsis:=qai _ hz5
 refine qae (qcj hz6 (by simp) λg7 hz7 s7=>?_)
 replace hz7:IsZip g7 z TI TO (qfC g5.objs.size):=hz7
 refine qcj hz7 (by simp) λg8 hz8 s8=>?_
 replace hz8:IsZip g8 z TI TO (qfC g5.objs.size):=hz8
 have up:∀ c o,c≠z->g5.get? c=some o->g8.get? c=some o:=λc o c1 e=>s8.extBut _ _ c1 (s7.extBut _ _ c1 (qai _ e))
 have hT8:qfi g8 g5.objs.size x y:=s8.extBut _ _ (qb2 hzlt) (s7.extBut _ _ (qb2 hzlt) (qaE _ rfl))
 have hz9:g8.objs.size=g5.objs.size+1:=by rw[s8.1,s7.1,qbh]
 rw[hsz]at hz8 hT8 hz9
 refine qaq ⟨_,rfl,qaq ?_⟩
 show Q (some (.ref g5.objs.size)) _
 rw[hsz]
 exact hQ g8 ⟨hz8,up _ _ D.TIz (kp _ _ D.TIz D.TITO D.TIi1 D.TIi2 hTI),⟨_,_,up _ _ D.TOz hTO5⟩,h15.to λo q=>up _ o D.i1z q,h25.to λo q=>up _ o D.i2z q⟩ hT8 hz9 λc o c1 c2 c3 c4 e=>up c o c1 (kp c o c1 c2 c3 c4 e)
set_option maxHeartbeats 1000000 in
theorem yQ {Q:Option Value->qak->Prop} (hh:A.in1.handled=none) (D:ZipApart z TI TO i1 i2 l1 l2) (hs:ZSt k k2 z TI TO i1 i2 l1 l2 .none n s.heap) (hl1:SIs k s.heap l1 xs) (hl2:SIs k2 s.heap l2 ys) (hend:xs[n]?=none\/ys[n]?=none)
  (hQ:∀ h',(∀ c o,c≠z->c≠TO->c≠i1->c≠i2->s.heap.get? c=some o->h'.get? c=some o)->Q none { s with heap:=h' }):wpAny (model prog w) A (qge (.ref z)) Q E s:=by
 obtain⟨hz,hTI,⟨a,b,hTO⟩,h1,h2⟩:=hs
 have hT:s.TypeIs (.ref z) "zip":=⟨_,hz,rfl⟩
 have fin:∀ (h':Heap) (e:Addr),(∀ c o,c≠z->c≠TO->c≠i1->c≠i2->s.heap.get? c=some o->h'.get? c=some o)->(∃ o,h'.get? e=some o/\o.cls=.type "StopIteration")->
   wpAny (model prog w) A (do if (<-isInstance (.ref e) (.type "StopIteration")) then pure none else throw (.ref e)) Q E { s with heap:=h' }:=λh' e hk ⟨o,ho,hc⟩=>
  qae (wpAny_isInstance (T:="StopIteration") (b:=true) ⟨o,ho,hc⟩ isSubtype_stop (qaq (hQ _ hk)))
 unfold qge
 refine qae (wpAny_attempt (qbF (name:=qcR "__next__") hT qdR (qcd qdR hT qgO ?_ (qgE _))))
 show wpAny _ _ (field (.ref z) 2 >>= _) _ _ _
 refine qae (qby hz rfl (x:=.bool false) rfl ?_)
 show wpAny _ _ (field (.ref z) 3 >>= _) _ _ _
 refine qae (qby hz rfl (x:=.ref TI) rfl (qae (qce hTI rfl ?_)))
 show wpAny _ _ (qbI (.ref z) >>= _) _ _ _
 refine qae ?_
 unfold qbI
 refine qae (qby hz rfl (x:=.none) rfl (qaq ?_))
 simp only[if_true]
 refine qae (qdC (qae (qby hz rfl (x:=.ref TO) rfl ?_)))
 refine qae (qcj hz (by simp) λg1 hz1 s1=>?_)
 replace hz1:IsZip g1 z TI TO .ellipsis:=hz1
 refine qae ?_
 simp only[qgk,qgu,qeM,qdQ]
 have e1:=s1.extBut
 refine qae (qae (qeB ?_))
 show wpAny _ _ (qa4 (.ref i1) >>= _) _ _ _
 cases hx:xs[n]? with
 |none=>
  refine qae (xS hh (h1.to λo q=>e1 _ o D.i1z q) (hl1.to λo q=>e1 _ o D.l1z q) hx λg2 e s2 he=>?_)
  obtain⟨oe,hoe,hce⟩:=he
  have hz2:IsZip g2 z TI TO .ellipsis:=s2 _ _ D.i1z.symm hz1
  have hez:e≠z:=λx=>by subst x;rw[hz2]at hoe;cases hoe;simp at hce
  exact qcj hz2 (by simp) λg3 _ s3=>fin g3 e (λc o c1 _ c3 _ x=>s3.extBut _ _ c1 (s2 _ _ c3 (e1 _ _ c1 x))) ⟨oe,s3.extBut _ _ hez hoe,hce⟩
 |some x=>
  have hy:ys[n]?=none:=by rcases hend with h|h;rw[hx]at h;cases h;exact h
  refine qae (pH (h1.to λo q=>e1 _ o D.i1z q) (hl1.to λo q=>e1 _ o D.l1z q) hx λg2 h12 s2=>qaq ?_)
  have e2:=s2.extBut
  have hTO2:qfi g2 TO a b:=e2 _ _ D.TOi1 (e1 _ _ D.TOz hTO)
  refine qae (qce hTO2 rfl (qae (qed hTO2 λg3 hTO3 s3=>?_)))
  have e3:=s3.extBut
  refine qae (qgx (qaq ?_))
  refine qae (qae (qeB ?_))
  show wpAny _ _ (qa4 (.ref i2) >>= _) _ _ _
  refine qae (xS hh (h2.to λo q=>e3 _ o D.TOi2.symm (e2 _ o D.i12.symm (e1 _ o D.i2z q))) (hl2.to λo q=>e3 _ o D.l2TO (e2 _ o D.l2i1 (e1 _ o D.l2z q))) hy λg4 e s4 he=>?_)
  obtain⟨oe,hoe,hce⟩:=he
  have hz4:IsZip g4 z TI TO .ellipsis:=s4 _ _ D.i2z.symm (e3 _ _ D.TOz.symm (e2 _ _ D.i1z.symm hz1))
  have hez:e≠z:=λx=>by subst x;rw[hz4]at hoe;cases hoe;simp at hce
  exact qcj hz4 (by simp) λg5 _ s5=>fin g5 e (λc o c1 c2 c3 c4 x=>s5.extBut _ _ c1 (s4 _ _ c4 (e3 _ _ c2 (e2 _ _ c3 (e1 _ _ c1 x))))) ⟨oe,s5.extBut _ _ hez hoe,hce⟩
end
def Cs (k:Bool):Value:=if k=true then .type "tuple_iterator" else .type "list_iterator"
def n8 (k:Bool) (l:Addr):Obj:={ cls:=Cs k,data:=.fields #[.ref l,.int 0 0] }
abbrev zH1 (k:Bool) (h:Heap) (l1:Addr):Heap:=h.push (n8 k l1)
abbrev zH2 (k k2:Bool) (h:Heap) (l1 l2:Addr):Heap:=(zH1 k h l1).push (n8 k2 l2)
abbrev zH3 (k k2:Bool) (h:Heap) (l1 l2:Addr):Heap:=(zH2 k k2 h l1 l2).push { cls:=.type "tuple",data:=.seq #[.ref h.objs.size,.ref (zH1 k h l1).objs.size] }
abbrev zH4 (k k2:Bool) (h:Heap) (l1 l2:Addr):Heap:=(zH3 k k2 h l1 l2).push { cls:=.type "tuple",data:=.seq #[.none,.none] }
abbrev zH5 (k k2:Bool) (h:Heap) (l1 l2:Addr):Heap:=(zH4 k k2 h l1 l2).push { cls:=.type "zip",data:=.fields #[.none,.bool false,.bool false,.ref (zH2 k k2 h l1 l2).objs.size,.ref (zH3 k k2 h l1 l2).objs.size] }
section
variable {prog:qa1}{w:World}{A:qa8}{E:Value->qak->Prop}{s:qak}{k k2:Bool}
theorem rJ {l:Addr}{xs:Array Value}{Q:Value->qak->Prop} (hl:SIs k s.heap l xs) (h:Q (.ref s.heap.objs.size) { s with heap:=s.heap.push (n8 k l) }):wpAny (model prog w) A (pyIter (.ref l)) Q E s:=by
 cases k with
 |true=>exact qcJ hl h
 |false=>exact qdD hl h
theorem oE (l1 l2:Addr) (xs ys:Array Value) (k k2:Bool) :
  Meets (qgG.«zip.__new__» ⟨[.type "zip",.ref l1,.ref l2],[]⟩) (λ_ R s=>SIs k s.heap l1 xs/\SIs k2 s.heap l2 ys/\R (.ok (.ret (.ref (zH4 k k2 s.heap l1 l2).objs.size))) { s with heap:=zH5 k k2 s.heap l1 l2 }):=
 .of_wp λprog w A R s h=>by
  obtain⟨hp,g,d,tk,os⟩:=s
  obtain⟨hl1,hl2,h⟩:=h
  have hsub:=sub_zip
  have hL1:SIs k (qfl ⟨hp,g,d,tk,os⟩) l1 xs:=hl1
  have hL2:SIs k2 (qfl ⟨hp.push (n8 k l1),g,d,tk,os⟩) l2 ys:=hl2.to λo q=>qai _ q
  wp_walk using rJ hL1,rJ hL2
  exact⟨_,rfl,h⟩
theorem qN (k:Bool) {h:Heap}{it l:Addr} (e:h.get? it=some (n8 k l)):SIt k h it l 0:=by
 cases k with
 |true=>exact⟨_,e,rfl,rfl⟩
 |false=>exact⟨_,e,rfl,rfl⟩
theorem qL {l1 l2:Addr}{xs ys:Array Value}{Q:Value->qak->Prop} (hl1:SIs k s.heap l1 xs) (hl2:SIs k2 s.heap l2 ys)
  (h:∀ h',ZSt k k2 (s.heap.objs.size+4) (s.heap.objs.size+2) (s.heap.objs.size+3) s.heap.objs.size (s.heap.objs.size+1) l1 l2 .none 0 h'->
    (∀ c o,s.heap.get? c=some o->h'.get? c=some o)->Q (.ref (s.heap.objs.size+4)) { s with heap:=h' }) :
  wpAny (model prog w) A (call (.type "zip") [.ref l1,.ref l2]) Q E s:=by
 refine callType_new F.called_zip (by decide) (F.typeCall_zip_2 _ _) (F.newCall_zip_2 _ _) (λobj=>F.args_object_init_3 obj _ _) F.entry_zip_new (oE l1 l2 xs ys k k2) ⟨hl1,hl2,?_⟩
 have z1:(zH1 k s.heap l1).objs.size=s.heap.objs.size+1:=qbh ..
 have z2:(zH2 k k2 s.heap l1 l2).objs.size=s.heap.objs.size+2:=by rw[qbh,z1]
 have z3:(zH3 k k2 s.heap l1 l2).objs.size=s.heap.objs.size+3:=by rw[qbh,z2]
 have z4:(zH4 k k2 s.heap l1 l2).objs.size=s.heap.objs.size+4:=by rw[qbh,z3]
 have up:∀ {h:Heap}{o':Obj}{c:Addr}{o:Obj},h.get? c=some o->(h.push o').get? c=some o:=λe=>qai _ e
 have g5:(zH5 k k2 s.heap l1 l2).get? (zH4 k k2 s.heap l1 l2).objs.size=some _:=qaE _ rfl
 have g4:(zH5 k k2 s.heap l1 l2).get? (zH3 k k2 s.heap l1 l2).objs.size=some _:=up (qaE _ rfl)
 have g3:(zH5 k k2 s.heap l1 l2).get? (zH2 k k2 s.heap l1 l2).objs.size=some _:=up (up (qaE _ rfl))
 have g2:(zH5 k k2 s.heap l1 l2).get? (zH1 k s.heap l1).objs.size=some (n8 k2 l2):=up (up (up (qaE _ rfl)))
 have g1:(zH5 k k2 s.heap l1 l2).get? s.heap.objs.size=some (n8 k l1):=up (up (up (up (qaE _ rfl))))
 show _/\_
 rw[z2,z3,z4]at g5
 rw[z1,z2]at g3
 rw[z3]at g4
 rw[z1]at g2
 rw[z4]
 exact⟨⟨_,g5,rfl⟩,h _ ⟨g5,g3,⟨_,_,g4⟩,qN k g1,qN k2 g2⟩ λc o x=>up (up (up (up (up x))))⟩
end
def SqK (k:Bool) (K:qac) (H:Hp) (a:Addr) (xs:List V):Prop:=match k with
 |true=>SqT K H a xs
 |false=>SqL K H a xs
def Itz (S1 S2:Hp->List V->Prop):It:=
 ⟨λi H=>∃ xs ys x y,S1 H xs/\S2 H ys/\xs[i]?=some x/\ys[i]?=some y,λi H x H'=>∃ T v u,(∀ xs,S1 H xs->xs[i]?=some v)/\(∀ ys,S2 H ys->ys[i]?=some u)/\H T=none/\x=.ref T/\H'=upd H T (.tup [v,u]),
  λi H=>∃ xs ys,S1 H xs/\S2 H ys/\(xs[i]?=none\/ys[i]?=none)⟩
theorem Inv.seqK {X:Cx}{pins:List (Addr×Obj)}{σ:St}{H:Hp}{s:qak}{k:Bool}{a:Addr}{xs:List V} (I:Inv X pins σ H s) (h:SqK k X.K H a xs):∃ its:List Value,aU xs its/\SIs k s.heap a its.toArray:=by
 cases k with
 |true=>obtain⟨its,r,p,_⟩:=I.tuple h;exact⟨its,r,p⟩
 |false=>obtain⟨its,r,p,_⟩:=I.list h;exact⟨its,r,p.isList⟩
theorem Inv.seqK_inj {X:Cx}{pins:List (Addr×Obj)}{σ:St}{H:Hp}{s:qak}{k:Bool}{a:Addr}{xs ys:List V} (I:Inv X pins σ H s) (h:SqK k X.K H a xs) (h':SqK k X.K H a ys):xs=ys:=by
 cases k with
 |true=>exact I.tuple_inj h h'
 |false=>exact I.list_inj h h'
theorem wr {P:qa1}{w:World}{K:qac}{elts:List Expr}{kk:Nat}{pos:Pos}{k k2:Bool}{z TI TO i1 i2 l1 l2:Addr} (D:ZipApart z TI TO i1 i2 l1 l2) :
  uw P w K (.Tuple elts kk pos) (Itz (λH xs=>SqK k K H l1 xs) λH xs=>SqK k2 K H l2 xs) [z,TI,TO,i1,i2] z (λi h=>ZSt k k2 z TI TO i1 i2 l1 l2 .none i h) where
 mem:=by simp
 obj:=λi h st b hb=>by
  simp only[qar,qa5,or_false]at hb
  rcases hb with rfl|rfl|rfl|rfl|rfl
  ·exact⟨_,st.z,λv z=>by cases z⟩
  ·exact⟨_,st.ti,λv z=>by cases z⟩
  ·obtain⟨a,b,e⟩:=st.to;exact⟨_,e,λv z=>by cases z⟩
  ·obtain⟨o,vs,e,d⟩:=st.t1.live;exact⟨o,e,λv z=>by rw[d]at z;cases z⟩
  ·obtain⟨o,vs,e,d⟩:=st.t2.live;exact⟨o,e,λv z=>by rw[d]at z;cases z⟩
 keep:=λi h h' st kp=>by
  obtain⟨a,b,e⟩:=st.to
  exact⟨kp z (by simp) _ st.z,kp TI (by simp) _ st.ti,⟨a,b,kp TO (by simp) _ e⟩,st.t1.to λo q=>kp i1 (by simp) o q,st.t2.to λo q=>kp i2 (by simp) o q⟩
 item:=by
  intro X hP hw hK hc i pins s σ H E I hf st hg
  subst hP hw hK
  obtain⟨xs,ys,x,y,hq1,hq2,hx,hy⟩:=hg
  obtain⟨us,rv1,p1⟩:=I.seqK hq1
  obtain⟨vs,rv2,p2⟩:=I.seqK hq2
  obtain⟨u,hu,ru⟩:=rv1.get hx
  obtain⟨v,hv,rv⟩:=rv2.get hy
  refine xA D st p1 p2 (x:=u) (y:=v) (by simpa using hu) (by simpa using hv) λh1 st1 hT hsz kp=>⟨_,rfl,?_⟩
  refine wpAny_letOwnedTupleGo_zip st1.z λh2 hz2 s2=>?_
  have e2:=s2.extBut
  obtain⟨c1,c2,hto⟩:=st1.to
  have nz:∀ b∈[z,TI,TO,i1,i2],b≠s.heap.objs.size:=λb hb e=>by
   obtain⟨o,ho,_⟩:=(show ∃ o,s.heap.get? b=some o/\True by
    simp only[qar,qa5,or_false]at hb
    obtain⟨a',b',e'⟩:=st.to
    obtain⟨o1,_,q1,_⟩:=st.t1.live
    obtain⟨o2,_,q2,_⟩:=st.t2.live
    rcases hb with rfl|rfl|rfl|rfl|rfl
    ·exact⟨_,st.z,trivial⟩
    ·exact⟨_,st.ti,trivial⟩
    ·exact⟨_,e',trivial⟩
    ·exact⟨_,q1,trivial⟩
    ·exact⟨_,q2,trivial⟩)
   have:=qaz ho
   rw[e]at this
   exact qaX _ this
  have hT2:eS h2 s.heap.objs.size #[u,v]:=⟨_,e2 _ _ (qbu (nz z (by simp))) hT,rfl,⟨_,rfl⟩,rfl⟩
  refine⟨.ref s.heap.objs.size,upd H s.heap.objs.size (.tup [x,y]),?_,rfl,⟨s.heap.objs.size,x,y,λzs hz=>by rw[I.seqK_inj hz hq1];exact hx,λzs hz=>by rw[I.seqK_inj hz hq2];exact hy,I.hok.fresh (qal _),rfl,rfl⟩,?_,λb hb=>?_⟩
  ·have I2:Inv X pins σ (upd H s.heap.objs.size (.tup [x,y])) { s with heap:=h2,toks:=s.toks }:=I.turnsT (fp:=[z,TI,TO,i1,i2]) (h':=h2) (t':=s.toks) (its:=#[u,v]) hf (λb o hb q=>by
    simp only[qar,qa5,or_false,not_or]at hb
    exact e2 b o hb.1 (kp b o hb.1 hb.2.2.1 hb.2.2.2.1 hb.2.2.2.2 q)) (qal _) hT2 (.cons ru (.cons rv .nil)) (by show 2<=qaN;decide)
   exact I2
  ·exact⟨hz2,e2 _ _ D.TIz st1.ti,⟨c1,c2,e2 _ _ D.TOz hto⟩,st1.t1.to λo q=>e2 _ o D.i1z q,st1.t2.to λo q=>e2 _ o D.i2z q⟩
  ·rw[upd_ne (nz b hb)];exact (hf b hb).1
 done:=by
  intro X hP hw hK hc i pins s σ H E I hf st hg
  subst hP hw hK
  obtain⟨xs,ys,hq1,hq2,hend⟩:=hg
  obtain⟨us,rv1,p1⟩:=I.seqK hq1
  obtain⟨vs,rv2,p2⟩:=I.seqK hq2
  have hl1:=rv1.length
  have hl2:=rv2.length
  refine yQ (I.ok.hd hc) D st p1 p2 (by
   rcases hend with h|h
   ·left;rw[qcq]at h;simp;lia
   ·right;rw[qcq]at h;simp;lia) λh' kp=>⟨rfl,I.turns (t':=s.toks) (fp:=[z,TI,TO,i1,i2]) hf λb o hb q=>?_⟩
  simp only[qar,qa5,or_false,not_or]at hb
  exact kp b o hb.1 hb.2.2.1 hb.2.2.2.1 hb.2.2.2.2 q
 self:=λ_ _ _ _ _ st h=>qhb st.z h
def CS (K:qac) (k k2:Bool) (ta:TA):L2.TI:=λσ H R=>ta σ H λvs H1=>∃ a b,vs=[.ref a,.ref b]/\(∃ xs,SqK k K H1 a xs)/\(∃ xs,SqK k2 K H1 b xs)/\R (Itz (λH xs=>SqK k K H a xs) λH xs=>SqK k2 K H b xs) H1
theorem Ad {X:Cx}{elts:List Expr}{kk:Nat}{tpos:Pos}{a b:Expr}{ta:TA}{p pos:Pos}{k k2:Bool} (hg:Gl X "zip") (hm:X.mg "zip" = none) (ha:PA X [a,b] ta) (hs:qbk [a,b] X.env=[(false,eval a X.env),(false,eval b X.env)]:=by rfl) (hs2:qbk [b] X.env=[(false,eval b X.env)]:=by rfl) :
  PI X (.Tuple elts kk tpos) (.Call (.Name "zip" p) [a,b] [] pos) (CS X.K k k2 ta):=by
 intro pins s σ H R I h
 refine Call_ (kC I hg hm boot_zip (qbL (thn (ha pos pins s σ H _ I h) λus s1 ⟨vs,H1,I1,r1,q1⟩=>?_) (by rw[hs,hs2]) (by rw[hs2];rfl)))
 obtain⟨l,m,e,⟨xs,hq⟩,⟨ys,hq2⟩,q⟩:=q1
 subst e
 cases r1 with
 |cons r rr=>
  cases rr with
  |cons r' rr=>
   cases rr
   cases r
   cases r'
   obtain⟨us,rv1,p1⟩:=I1.seqK hq
   obtain⟨vs,rv2,p2⟩:=I1.seqK hq2
   have lt:∀ {k:Bool}{l:Addr}{us:Array Value},SIs k s1.heap l us->l<s1.heap.objs.size:=λ{k l us} hl=>by
    cases k with
    |true=>obtain⟨_,he,_⟩:=hl;exact qaz he
    |false=>obtain⟨_,he,_⟩:=hl;exact qaz he
   refine qL p1 p2 λh' hst hk=>qhb hst.z ?_
   refine⟨_,[s1.heap.objs.size+4,s1.heap.objs.size+2,s1.heap.objs.size+3,s1.heap.objs.size,s1.heap.objs.size+1],_,_,H1,rfl,I1.kept (t':=s1.toks) hk,wr (zipApart_new (lt p1) (lt p2)),hst,λb hb=>?_,q⟩
   have hb':s1.heap.objs.size<=b:=by
    simp only[qar,qa5,or_false]at hb
    rcases hb with rfl|rfl|rfl|rfl|rfl
    ·exact qcw _ 4
    ·exact qcw _ 2
    ·exact qcw _ 3
    ·exact qal _
    ·exact qcw _ 1
   exact I1.fpOk hb' (I1.hok.fresh hb')
def jK:List D->List D->List D
 |d::ds,e::es=>.tup [d,e]::jK ds es
 |_,_=>[]
def zW:W->Option (Bool×List D)
 |.d (.tup ds)=>some (true,ds)
 |.d (.lst ds)=>some (false,ds)
 |_=>none
def eE (af:Af):Lf
 |env,st=>(af env st).bind λr=>match r.1 with
  |[x,y]=>(zW x).bind λa=>(zW y).map λb=>(jK a.2 b.2,r.2)
  |_=>none
theorem jB:∀ (ds es:List D) (i:Nat),(jK ds es)[i]?=(ds[i]?).bind λd=>(es[i]?).map λe=>D.tup [d,e]
 |[],es,i=>by simp[jK]
 |d::ds,[],i=>by cases i<;>simp[jK]
 |d::ds,e::es,0=>by simp[jK]
 |d::ds,e::es,i+1=>by simpa [jK] using jB ds es i
theorem sq:∀ (ds es:List D),(jK ds es).length=min ds.length es.length
 |[],es=>by simp[jK]
 |d::ds,[]=>by simp[jK]
 |d::ds,e::es=>by simp[jK,sq ds es]
section
variable {K:qac}{X:Cx}{a b:Expr}{pos:Pos}{af:Af}
theorem vd {st:Sto}{H:Hp}{φ:List Addr}{w:W}{v:V}{p:Bool×List D} (r:Rw K H φ w v) (e:zW w=some p) (S:Sr K H φ st):∃ a vs,v=.ref a/\SqK p.1 K H a vs/\(∀ H' φ',Fw φ φ' H H'->SqK p.1 K H' a vs)/\Rls K H φ p.2 vs:=by
 cases w with
 |h n=>cases e
 |d x=>
  cases x with
  |tup ds=>
   cases e
   obtain⟨a,us,rfl,hq,hr⟩:=r
   exact⟨a,us,rfl,(SqT.of hq),λH' φ' f=>(SqT.of hq).fw S f,hr⟩
  |lst ds=>
   cases e
   obtain⟨a,us,rfl,h0,hq,hr⟩:=r
   exact⟨a,us,rfl,.inl hq,λH' φ' f=>.inl (hq.fw f h0),hr⟩
  |_=>cases e
theorem AK {S1 S2:Hp->List V->Prop}{ds es:List D}{vs us:List V}{φ:List Addr}{H:Hp} (h1:∀ H' φ',Fw φ φ' H H'->S1 H' vs) (h2:∀ H' φ',Fw φ φ' H H'->S2 H' us) (r1:∀ H' φ',Fw φ φ' H H'->Rls K H' φ' ds vs) (r2:∀ H' φ',Fw φ φ' H H'->Rls K H' φ' es us) :
  Yl K φ H (Itz S1 S2) (jK ds es):=by
 intro H2 φ2 st2 i f2 s2
 have q1:=h1 H2 φ2 f2
 have q2:=h2 H2 φ2 f2
 have w1:=r1 H2 φ2 f2
 have w2:=r2 H2 φ2 f2
 refine⟨λd hd=>?_,λhi=>⟨vs,us,q1,q2,?_⟩⟩
 ·rw[jB,qaa]at hd
  obtain⟨d1,hd1,hd⟩:=hd
  obtain⟨d2,hd2,rfl⟩:=qad.mp hd
  obtain⟨v,ev,rv⟩:=w1.get hd1
  obtain⟨u,eu,ru⟩:=w2.get hd2
  refine⟨⟨vs,us,v,u,q1,q2,ev,eu⟩,λx H' y=>?_⟩
  obtain⟨T,v',u',y1,y2,hT,rfl,rfl⟩:=y
  have z1:=y1 vs q1
  have z2:=y2 us q2
  rw[ev]at z1
  rw[eu]at z2
  cases z1
  cases z2
  exact⟨bx.new hT _,T,_,rfl,upd_same,_,_,rfl,rv.fw s2 (Fw.new hT),_,_,rfl,ru.fw s2 (Fw.new hT),rfl⟩
 ·rw[sq]at hi
  have l1:=w1.length
  have l2:=w2.length
  rw[qcq,qcq]
  lia
theorem ko {elts:List Expr}{k:Nat}{tpos p:Pos} (hg:Gl X "zip") (hm:X.mg "zip" = none) (ha:IA K X [a,b] af) (hs:aP a=true:=by rfl) (hs2:aP b=true:=by rfl) (hK:X.K=K:=by rfl) :
  II K X (.Tuple elts k tpos) (.Call (.Name "zip" p) [a,b] [] pos) (eE af):=by
 subst hK
 refine⟨λenv st r hr=>?_⟩
 simp only[eE,qaa]at hr
 obtain⟨⟨ws,s1⟩,hy,hr⟩:=hr
 match ws,hr with
 |[x,y],hr=>
  simp only[qaa,qad]at hr
  obtain⟨p1,hp1,p2,hp2,rfl⟩:=hr
  refine (Ad (k:=p1.1) (k2:=p2.1) hg hm (ha.run _ _ _ hy) (wx hs hs2) (jl hs2)).imp ?_
  rintro σ H R ⟨φ,hE,hS,q⟩
  refine⟨φ,hE,hS,λvs H1 φ1 f1 s1 w1=>?_⟩
  obtain⟨v,r,rfl,rx,v2,r',rfl,ry,rfl⟩:=w1
  obtain⟨a,us,rfl,hq,hq',hr⟩:=vd rx hp1 s1
  obtain⟨b,us2,rfl,hq2,hq2',hr2⟩:=vd ry hp2 s1
  exact⟨a,b,rfl,⟨us,hq⟩,⟨us2,hq2⟩,q _ H1 φ1 f1 s1 (AK hq' hq2' (λH' φ' f=>hr.fw s1 f) λH' φ' f=>hr2.fw s1 f)⟩
end
end L2
namespace L2
open PySem PySem.Spec PyProof.Rows
section
variable {prog:qa1}{w:World}{A:qa8}{s:qak}{I l S:Addr}{items:Array Value}{ns:List Int}{kw:List (Str×Value)}{R:Result->qak->Prop}
variable {E:Value->qak->Prop}
end
section
variable {K:qac}{X:Cx}{e a b:Expr}{es:List Expr}{pos:Pos}{f fa fb:Ef}{af:Af}
end
section
variable {K:qac}{X:Cx}
end
section
variable {K:qac}{X:Cx}{pos:Pos}{a b:Expr}{af:Af}
end
section
variable {K:qac}{X:Cx}{pos:Pos}{e a b c:Expr}{es:List Expr}{f fa fb:Ef}{af:Af}
end
open Classical in
def lcH (n:Nat) (all:List D) (g:Tg) (tt:Tf) (te:Ef) (env:Ev):List D->Sto->Option (List D×Sto)
 |[],st=>if lg st n=some all then some ([],st) else none
 | d::ds,st=>if lg st n=some all then ((e9 g (.d d) env).bind λe=>(tt e st).bind λb=>if b.1=true then (te e b.2).bind λx=>(mY [x.1]).bind λys=>(lcH n all g tt te env ds x.2).map λr=>(ys++r.1,r.2)
   else lcH n all g tt te env ds b.2) else none
def sY (k:Nat) (js:List Nat) (fe:Ef) (g:Tg) (tt:Tf) (te:Ef):Lf
 |env,st=>(fe env st).bind λr=>match r.1 with
  |.h n=>(lg r.2 n).bind λds=>if ds.length<=1000000 then lcH n ds g tt te (jg k js env) ds r.2 else none
  |_=>none
section
variable {K:qac}{X:Cx}{pos:Pos}{tg:Expr}
def YlH (K:qac) (φ0:List Addr) (H0:Hp) (J:It) (n:Nat) (ds:List D):Prop:=∀ (H:Hp) (φ:List Addr) (st:Sto) (i:Nat),Fw φ0 φ H0 H->Sr K H φ st->lg st n=some ds->
 (∀ d,ds[i]?=some d->J.go i H/\∀ x H',J.yld i H x H'->bx H H'/\Rl K H' φ d x)/\(ds.length=i->J.stop i H)
def Cg (K:qac) (env:Ev) (st:Sto) (n:Nat) (ds:List D) (s1:Sto):TI:=λσ H R=>∃ φ,Er K H φ env σ/\Sr K H φ st/\∀ J H' φ',Fw φ φ' H H'->Sr K H' φ' s1->YlH K φ' H' J n ds->R J H'
theorem yf {e:Expr}{f:Ef}{env:Ev}{st s1:Sto}{n:Nat}{ds:List D} (h:IE K X e f) (hK:X.K=K) (hf:f env st=some (.h n,s1)) (hn:lg s1 n=some ds):PI X tg e (Cg K env st n ds s1):=by
 subst hK
 refine (uF (h.run _ _ _ hf)).imp ?_
 rintro σ H R ⟨φ,hE,hS,q⟩
 refine⟨φ,hE,hS,λv H1 φ1 f1 S1 w1=>?_⟩
 obtain⟨a,vs,rfl,hq,hr⟩:=qk S1 w1 (show lsD s1 (.h n)=some ds from hn)
 refine⟨a,rfl,⟨vs,.inl hq⟩,q _ H1 φ1 f1 S1 λH2 φ2 st2 i f2 S2 hn2=>?_⟩
 obtain⟨a2,vs2,ea,hq2,hr2⟩:=qk S2 (Rw.fw S1 f2 w1) (show lsD st2 (.h n)=some ds from hn2)
 cases ea
 have hq3:SqL X.K H2 a vs2:=.inl hq2
 refine⟨λd hd=>?_,λhi=>⟨vs2,hq3,by rw[<-hr2.length];exact qcA hi⟩⟩
 obtain⟨v,ev,rv⟩:=hr2.get hd
 refine⟨⟨vs2,v,hq3,ev⟩,λx H' y=>?_⟩
 obtain⟨rfl,y⟩:=y
 have:=y vs2 hq3
 rw[ev]at this
 cases this
 exact⟨bx.refl _,rv⟩
theorem yv {k n:Nat}{js:List Nat}{g:Tg}{tt:Tf}{te:Ef}{env:Ev}{st s1:Sto}{ds:List D}{r:List D×Sto} (hgi:∀ j∈tR g,j<k) (hdl:ds.length<=1000000) (hr':lcH n ds g tt te (jg k js env) ds s1=some r) :
  ∀ σ H Q,tIL K env st r σ H Q->tLc (gI k js) (Cg K env st n ds s1) (tG K g) (u4 K tt) (wE K te) σ H Q:=by
 rintro σ H Q ⟨φ,hE,hS,q⟩
 refine⟨φ,hE,hS,λJ H1 φ1 f1 S1 yl=>?_⟩
 have hE1:=(hE.fw hS f1).emb k js
 refine⟨λi m ys H2=>m=ds.length - i/\i<=ds.length/\∃ st φ2 es r2,Fw φ1 φ2 H1 H2/\Sr K H2 φ2 st/\Rls K H2 φ2 es ys/\es.length<=i/\lcH n ds g tt te (jg k js env) (ds.drop i) st=some r2/\r=(es++r2.1,r2.2),⟨ds.length,by simp,qb5 _,s1,φ1,[],r,Fw.refl _ _,S1,rfl,qal _,hr',rfl⟩,?_⟩
 rintro i m ys H2 ⟨rfl,hi,st2,φ2,es,r2,f2,S2,rl2,hle,h2,rfl⟩
 by_cases hlt:i<ds.length
 ·rw[qdh hlt]at h2
  rw[lcH]at h2
  by_cases hg2:lg st2 n=some ds
  ·rw[if_pos hg2]at h2
   obtain⟨y1,y2⟩:=yl H2 φ2 st2 i f2 S2 hg2
   obtain⟨go,yld⟩:=y1 ds[i] (qaK hlt)
   simp only[qaa]at h2
   obtain⟨e3,he3,⟨kb,s3⟩,hb3,h3⟩:=h2
   have hz:ys.length<qaN:=by
    rw[<-rl2.length]
    have:qaN=16777216:=qdj
    lia
   refine .inr ⟨go,hz,λys' H'=>i+1<=ds.length/\∃ st φ2 es' r2',Fw φ1 φ2 H1 H'/\Sr K H' φ2 st/\Rls K H' φ2 es' ys'/\es'.length<=i+1/\lcH n ds g tt te (jg k js env) (ds.drop (i+1)) st=some r2'/\(es++r2.1,r2.2)=(es'++r2'.1,r2'.2),λys' H' ⟨hn,p'⟩=>⟨ds.length - (i+1),by lia,rfl,hn,p'⟩,λx H' y=>?_⟩
   obtain⟨sm,rx⟩:=yld x H' y
   have S3:=S2.same sm
   have f3:=f2.trans (Fw.same (φ:=φ2) sm)
   refine⟨φ2,st2,jg k js env,.d ds[i],e3,hE1.fw S1 f3,S3,rx,he3,λσ' e' stay=>⟨Sub.stay stay hgi,?_⟩⟩
   refine⟨e3,st2,_,hb3,φ2,e',S3,λH4 φ4 f4 S4=>?_⟩
   cases kb with
   |false=>
    rw[if_neg qax]at h3
    exact sV ⟨hlt,s3,φ4,es,r2,f3.trans f4,S4,(rl2.fw S2 (Fw.same sm)).fw S3 f4,by lia,h3,rfl⟩
   |true=>
    simp only[if_true,qaa,qad]at h3
    obtain⟨x5,hx5,zs,hzs,r5,hr5,rfl⟩:=h3
    refine sN ⟨e3,s3,x5,hx5,φ4,e'.fw S3 f4,S4,λv H5 φ5 f5 S5 w5=>?_⟩
    obtain⟨x5,s5⟩:=x5
    cases x5 with
    |h n=>cases hzs
    |d z=>
     cases hzs
     refine⟨hlt,s5,φ5,es++[z],r5,(f3.trans f4).trans f5,S5,(((rl2.fw S2 (Fw.same sm)).fw S3 f4).fw S4 f5).append ⟨v,[],rfl,w5,rfl⟩,by rw[qan];simp;lia,hr5,?_⟩
     simp
  ·rw[if_neg hg2]at h2;cases h2
 ·have hi':i=ds.length:=by lia
  subst hi'
  rw[qey,lcH]at h2
  by_cases hg2:lg st2 n=some ds
  ·rw[if_pos hg2]at h2
   obtain⟨y1,y2⟩:=yl H2 φ2 st2 _ f2 S2 hg2
   cases h2
   refine .inl ⟨y2 rfl,λDn hD=>?_⟩
   have:=q Dn ys H2 φ2 (f1.trans f2) S2 hD
   exact this (by simpa using rl2)
  ·rw[if_neg hg2]at h2;cases h2
theorem vP {k:Nat}{js:List Nat}{fe:Ef}{g:Tg}{tt:Tf}{te:Ef}{env:Ev}{st:Sto}{r:List D×Sto} (hr:sY k js fe g tt te env st=some r):∃ n s1 ds,fe env st=some (.h n,s1)/\lg s1 n=some ds/\ds.length<=1000000/\lcH n ds g tt te (jg k js env) ds s1=some r:=by
 simp only[sY,qaa]at hr
 obtain⟨⟨w,s1⟩,hy,hr⟩:=hr
 cases w with
 |d x=>cases hr
 |h n=>
  obtain⟨ds,hds,hr⟩:=qaa.mp hr
  by_cases hdl:ds.length<=1000000
  ·rw[if_pos hdl]at hr
   exact⟨n,s1,ds,hy,hds,hdl,hr⟩
  ·rw[if_neg hdl]at hr;cases hr
theorem zB {scope:Scope}{Nc:List Str}{k:Nat}{js:List Nat}{elt iter:Expr}{ifs:List Expr}{fe:Ef}{g:Tg}{tt:Tf}{te:Ef}
  (S:fU X scope Nc (gI k js)) (hc:X.calm=true) (hgi:∀ j∈tR g,j<k) (hi:IE K X iter fe) (hK:X.K=K)
  (hg:∀ cells s H C fp,PG (lcX X scope cells Nc s H C fp) tg (tG K g)) (ht:∀ cells s H C fp,ITs K (lcX X scope cells Nc s H C fp) ifs tt) (he:∀ cells s H C fp,IE K (lcX X scope cells Nc s H C fp) elt te)
  (hs:∀ x,qbQ iter X.env x=pure x:=by intro _;rfl):IL K X (.ListComp elt [⟨tg,iter,ifs,0⟩] scope pos) (sY k js fe g tt te):=by
 refine⟨λenv st r hr=>?_⟩
 obtain⟨n,s1,ds,hy,hds,hdl,hr'⟩:=vP hr
 exact (zh S hc (yf hi hK hy hds) hg (λcells s H C fp=>(ht cells s H C fp).run) (λcells s H C fp=>(he cells s H C fp).any) hs).imp (yv hgi hdl hr')
end
section
variable {K:qac}{X:Cx}{pos:Pos}{tg e:Expr}{f:Ef}
end
section
variable {K:qac}{X:Cx}{pos:Pos}{a e:Expr}{fa:Ef}{af:Af}
end
section
variable {κ:Type} [DecidableEq κ]
end
section
variable {P:qa1}{w:World}{H:Hp}{h:Heap}{a:Addr}
end
section
variable {X:Cx}{pins:List (Addr×Obj)}{σ:St}{H:Hp}{s:qak}{a:Addr}{y v:V}{u r:Value}{o:Option V}{A:qa8}{E:Value->qak->Prop}
end
section
variable {X:Cx}{pins:List (Addr×Obj)}{σ:St}{H:Hp}{s:qak}{a:Addr}{kvs:List (Key×V)}{k:Key}{u:Value}{A:qa8}{E:Value->qak->Prop}
end
section
variable {X:Cx}{o i e value:Expr}{pos pos' tpos:Pos}{td ty tv:TE}
end
section
variable {X:Cx}{pos:Pos}
end
section
variable {X:Cx}{pins:List (Addr×Obj)}{σ:St}{H:Hp}{s:qak}{a:Addr}{y d:V}{u r:Value}{o:Option V}{A:qa8}{E:Value->qak->Prop}
end
section
variable {X:Cx}{o e f:Expr}{apos cpos:Pos}{td ty tx:TE}
end
section
variable {X:Cx}{pins:List (Addr×Obj)}{σ:St}{H:Hp}{s:qak}{a:Addr}{kvs:List (Key×V)}{A:qa8}{E:Value->qak->Prop}
end
section
variable {X:Cx}{pins:List (Addr×Obj)}{σ:St}{H:Hp}{s:qak}{a:Addr}{y:V}{u:Value}{A:qa8}{E:Value->qak->Prop}
end
section
variable {prog:qa1}{w:World}{A:qa8}{E:Value->qak->Prop}{s:qak}{κ:Type} [DecidableEq κ] {knd:KeyKind prog w κ}{a:Addr}{kvs:List (κ×Value)}
end
section
variable {X:Cx}{pins:List (Addr×Obj)}{σ:St}{H:Hp}{s:qak}{a:Addr}{kvs:List (Key×V)}{k:Key}{u r:Value}{A:qa8}{E:Value->qak->Prop}{z:V}
end
section
variable {K:qac}{X:Cx}{pos:Pos}{e a b o f:Expr}{fe fa fb fo ff:Ef}
end
section
variable {K:qac}{X:Cx}
end
section
variable {K:qac}{X:Cx}
def zV (_:Sto):List W->Option D
 |[.d (.int i)]=>if i.natAbs.log2<1920 then some (.str (toString i)) else none
 |_=>none
theorem zT:ja K X (.type "str") zV:=by
 refine⟨λst ws d h=>?_⟩
 match ws,h with
 |[.d (.int i)],h=>
  dsimp only[zV]at h
  by_cases hl:i.natAbs.log2<1920
  case neg=>rw[if_neg hl]at h;cases h
  rw[if_pos hl]at h
  cases h
  refine pF.imp ?_
  rintro vs H Q ⟨φ,S,⟨v,r,rfl,r1,rfl⟩,q⟩
  exact⟨i,by rw[show v=.int i from r1],hl,q _ H (bx.refl H) rfl⟩
end
theorem qp (n:Nat) (d:Nat) (hd:d<=n) (o:Option Int):HT.sIx n d o<=n:=by
 cases o with
 |none=>exact hd
 |some i=>unfold HT.sIx;split<;>lia
def rV (z:Str) (lo hi:Option Int):Str:=⟨((z.cps.toList.drop (HT.sIx z.length 0 lo)).take (HT.sIx z.length z.length hi - HT.sIx z.length 0 lo)).toArray⟩
theorem xy (lo hi:Option Int) (n:Nat):qd8 lo hi 1 n=sliceRange ((HT.sIx n 0 lo:Nat):Int) ((HT.sIx n n hi:Nat):Int) 1:=by
 unfold qd8
 dsimp only
 simp only[show (1:Int) > 0 by decide,if_true]
 congr 1
 ·cases lo with
  |none=>simp[HT.sIx]
  |some i=>
   simp only[HT.sIx]
   by_cases h:i<0
   ·simp only[h,if_true]<;>lia
   ·simp only[h,if_false]<;>lia
 ·cases hi with
  |none=>simp[HT.sIx]
  |some i=>
   simp only[HT.sIx]
   by_cases h:i<0
   ·simp only[h,if_true]<;>lia
   ·simp only[h,if_false]<;>lia
theorem vR (z:Str) (lo hi:Option Int):Txt.slice z lo hi=rV z lo hi:=by
 have h1:=qp z.length 0 (qb5 _) lo
 have h2:=qp z.length z.length (qal _) hi
 unfold Txt.slice rV
 rw[xy,qic]
 generalize HT.sIx z.length 0 lo=a at *
 generalize HT.sIx z.length z.length hi=b at *
 split
 ·rename_i hc
  have hl:b - a=z.length:=by simpa using hc
  have ha:a=0:=by lia
  subst ha
  have hz:z.length=z.cps.toList.length:=by simp[qih]
  rw[hl,hz,qeZ,qdy]
 ·rw[pick_run]
def Cz:V->Option Int->Option Int->Hp->VK->Prop:=λx lo hi H Q=>∃ z,x=.str z/\z.length<=qaN/\Q (.str (rV z lo hi)) H
section
variable {K:qac}{X:Cx}{pos p2:Pos}{a e:Expr}{f fa:Ef}{af:Af}
theorem AT:SlR X Cz:=by
 intro pins s σ H x v vl vu lo hi sl Q I rx hs pl pu h
 obtain⟨z,rfl,hz,q⟩:=h
 obtain⟨t,rfl⟩:=rx
 refine⟨"str",_,PySem.F.slot_str_getitem.lookup,qgV _ _ _,?_⟩
 have key:∀ (l u:Option (Int×Tok)),vl=partValue l->vu=partValue u->lo=l.map (·.1)->hi=u.map (·.1)->wpAny (model X.prog X.w) X.A (qd2 (.str z t) (.ref sl)) (EP X pins σ Q) X.xe s:=by
  rintro l u rfl rfl rfl rfl
  rw[<-vR]at q
  exact wpAny_getItem_str_slice (l:=l) (u:=u) (st:=none) hs rfl (post_val_or_str ⟨qa2 (Txt.slice_le z _ _) hz,λt' k=>⟨.str _,H,I.tok k,⟨_,rfl⟩,q⟩⟩)
 cases pl with
 |none=>cases pu with
  |none=>exact key none none rfl rfl rfl rfl
  |int j u=>exact key none (some (j,u)) rfl rfl rfl rfl
 |int i t=>cases pu with
  |none=>exact key (some (i,t)) none rfl rfl rfl rfl
  |int j u=>exact key (some (i,t)) (some (j,u)) rfl rfl rfl rfl
def xZ (f:Ef) (lo hi:Pf):Ef
 |env,st=>(f env st).bind λx=>(lo env x.2).bind λl=>(hi env l.2).bind λu=>match x.1 with
 |.d (.str z)=>if z.length<=1000000 then some (.d (.str (rV z l.1 u.1)),u.2) else none
 |_=>none
theorem Ao {lo hi:Option Expr}{fl fh:Pf} (h:IE K X e f) (hl:IO K X lo fl) (hh:IO K X hi fh) (hK:X.K=K:=by rfl):IE K X (.Subscript e (.Slice lo hi none p2) pos) (xZ f fl fh):=by
 subst hK
 refine⟨λenv st r hr=>?_⟩
 simp only[xZ,qaa]at hr
 obtain⟨⟨x,s1⟩,hx,l,hl',u,hu',hr⟩:=hr
 match x,hr with
 |.d (.str z),hr=>
  dsimp only at hr
  by_cases hz:z.length<=1000000
  case neg=>rw[if_neg hz]at hr;cases hr
  rw[if_pos hz]at hr
  cases hr
  refine (n5 AT (h.run _ _ _ hx) (hl.run _ _ _ hl') (hh.run _ _ _ hu')).imp ?_
  rintro σ H Q ⟨φ,hE,hS,q⟩
  refine⟨φ,hE,hS,λv H1 φ1 f1 s1 w1=>⟨φ1,hE.fw hS f1,s1,λH2 φ2 f2 s2=>⟨φ2,(hE.fw hS f1).fw s1 f2,s2,λH3 φ3 f3 s3=>?_⟩⟩⟩
  exact⟨z,w1,by rw[qdj];lia,q _ _ φ3 ((f1.trans f2).trans f3) s3 rfl⟩
end
def aw (f:Str) (a:Ef):Ef
 |env,st=>(a env st).bind λx=>match x.1 with
 |.d (.ob ns ds)=>((ns.zip ds).lookup f).map λd=>(.d d,x.2)
 | .h n=>(match x.2[n]? with
  |some (.o fs)=>(fs.lookup f).map λw=>(w,x.2)
  |_=>none)
 |_=>none
section
variable {K:qac}{H:Hp}{φ:List Addr}
theorem rK {f:Str}{d:D}:∀ {ns:List Str}{ds:List D}{vs:List V},Rls K H φ ds vs->(ns.zip ds).lookup f=some d->∃ v,(ns.zip vs).lookup f=some v/\Rl K H φ d v/\f∈ns
 |[],ds,vs,r,h=>by rw[List.zip_nil_left]at h;cases h
 |n::ns,[],vs,r,h=>by rw[List.zip_nil_right]at h;cases h
 |n::ns,x::ds,vs,r,h=>by
  obtain⟨v,r',rfl,r1,r2⟩:=r
  rw[qec,qbl]at h ⊢
  by_cases e:(f==n)=true
  ·rw[e]at h ⊢
   cases h
   exact⟨v,rfl,r1,by rw[beq_iff_eq.mp e];exact qaf⟩
  ·rw[show (f==n)=false by simpa using e]at h ⊢
   obtain⟨v',h1,h2,h3⟩:=rK r2 h
   exact⟨v',h1,h2,qaj _ h3⟩
theorem Rfs.look {f:Str}{w:W}:∀ {fs:List (Str×W)}{vs:List (Str×V)},Rfs K H φ fs vs->fs.lookup f=some w->∃ v,vs.lookup f=some v/\Rw K H φ w v/\∃ p∈fs,p.1=f
 |[],vs,r,h=>by cases h
 |(n,x)::fs,vs,r,h=>by
  obtain⟨v,r',rfl,r1,r2⟩:=r
  rw[qbl]at h ⊢
  by_cases e:(f==n)=true
  ·rw[e]at h ⊢
   cases h
   exact⟨v,rfl,r1,_,qaf,(beq_iff_eq.mp e).symm⟩
  ·rw[show (f==n)=false by simpa using e]at h ⊢
   obtain⟨v',h1,h2,p,hp,h3⟩:=Rfs.look r2 h
   exact⟨v',h1,h2,p,qaj _ hp,h3⟩
theorem Rfs.length:∀ {fs:List (Str×W)}{vs:List (Str×V)},Rfs K H φ fs vs->fs.length=vs.length
 |[],vs,r=>by cases r;rfl
 |(n,x)::fs,vs,r=>by
  obtain⟨v,r',rfl,r1,r2⟩:=r
  rw[qas,qas,Rfs.length r2]
theorem Rfs.mem {m:Nat}:∀ {fs:List (Str×W)}{vs:List (Str×V)},Rfs K H φ fs vs->W.h m∈fs.map (·.2)->m<φ.length
 |[],_,_,hm=>nomatch hm
 |(n,x)::fs,_,r,hm=>by
  obtain⟨v,r',rfl,r1,r2⟩:=r
  rcases qar.mp hm with z|z
  ·dsimp only at z
   subst z
   obtain⟨a,e,_⟩:=r1
   exact (qao.mp e).1
  ·exact Rfs.mem r2 z
def lE (f:Str) (w:W):List (Str×W)->List (Str×W)
 |[]=>[(f,w)]
 |(g,x)::r=>if g=f then (g,w)::r else (g,x)::lE f w r
theorem Rfs.put {f:Str}{w:W}{v:V} (rw':Rw K H φ w v):∀ {fs:List (Str×W)}{vs:List (Str×V)},Rfs K H φ fs vs->Rfs K H φ (lE f w fs) (iD f v vs)
 |[],_,r=>by cases r;exact⟨v,[],rfl,rw',rfl⟩
 |(g,x)::fs,_,r=>by
  obtain⟨v',r',rfl,r1,r2⟩:=r
  unfold lE iD
  by_cases e:g=f
  ·rw[if_pos e,if_pos e];exact⟨v,r',rfl,rw',r2⟩
  ·rw[if_neg e,if_neg e];exact⟨v',_,rfl,r1,Rfs.put rw' r2⟩
theorem mW {f:Str}{w:W}:∀ {fs:List (Str×W)}{p:Str×W},p∈lE f w fs->p∈fs\/p=(f,w)
 |[],p,h=>.inr (qag.mp h)
 |(g,x)::fs,p,h=>by
  unfold lE at h
  by_cases e:g=f
  ·rw[if_pos e]at h
   rcases qar.mp h with z|z
   ·rw[e]at z;exact .inr z
   ·exact .inl (qaj _ z)
  ·rw[if_neg e]at h
   rcases qar.mp h with z|z
   ·exact .inl (z ▸ qaf)
   ·rcases mW z with z|z
    ·exact .inl (qaj _ z)
    ·exact .inr z
theorem sj {f:Str}{v:V}:∀ {vs:List (Str×V)},f∉vs.map (·.1)->iD f v vs=vs++[(f,v)]
 |[],_=>rfl
 |(g,x)::vs,h=>by
  unfold iD
  rw[if_neg (by intro e;exact h (e ▸ qaf)),sj λz=>h (qaj _ z)];rfl
theorem Rfs.keys:∀ {fs:List (Str×W)}{vs:List (Str×V)},Rfs K H φ fs vs->vs.map (·.1)=fs.map (·.1)
 |[],vs,r=>by cases r;rfl
 |(n,x)::fs,vs,r=>by
  obtain⟨v,r',rfl,r1,r2⟩:=r
  rw[qaB,qaB,Rfs.keys r2]
theorem Rfs.snoc {f:Str}{w:W}{v:V} (rw':Rw K H φ w v):∀ {fs:List (Str×W)}{vs:List (Str×V)},Rfs K H φ fs vs->Rfs K H φ (fs++[(f,w)]) (vs++[(f,v)])
 |[],_,r=>by cases r;exact⟨v,[],rfl,rw',rfl⟩
 |(g,x)::fs,_,r=>by
  obtain⟨v',r',rfl,r1,r2⟩:=r
  exact⟨v',_,rfl,r1,Rfs.snoc rw' r2⟩
end
section
variable {K:qac}{X:Cx}{pos pos':Pos}{e o:Expr}{fa fb:Ef}{f:Str}
theorem aK (h:IE K X e fa) (hb:qcL e f X.env (eval e X.env)=eval e X.env:=by rfl) (hK:X.K=K:=by rfl):IE K X (.Attribute e f pos) (aw f fa):=by
 subst hK
 refine⟨λenv st r hr=>?_⟩
 simp only[aw,qaa]at hr
 obtain⟨⟨x,s1⟩,hx,hr⟩:=hr
 refine (zQ (h.run _ _ _ hx) hb).imp ?_
 rintro σ H Q ⟨φ,hE,hS,q⟩
 refine⟨φ,hE,hS,λv H1 φ1 f1 s1' w1=>?_⟩
 cases x with
 |d x=>
  cases x with
  |ob ns ds=>
   obtain⟨d,hd,rfl⟩:=qad.mp hr
   obtain⟨a,Cl,dx,fs,vs,rfl,h0,h1,rfl,h3,h4,h5,h6,h7⟩:=w1
   obtain⟨u,hu,ru,hf⟩:=rK h7 hd
   exact⟨a,Cl,dx,_,u,rfl,h1,h5,h6 f hf,hu,q u H1 φ1 f1 s1' ru⟩
  |_=>cases hr
 |h n=>
  dsimp only at hr
  split at hr
  ·rename_i fs hfs
   obtain⟨w,hw,rfl⟩:=qad.mp hr
   obtain⟨a,ea,rfl⟩:=w1
   obtain⟨Cl,dx,vs,h1,h2,h3,h4,h5⟩:=s1'.at_ n a _ ea hfs
   obtain⟨u,hu,ru,p,hp,rfl⟩:=h2.look hw
   exact⟨a,Cl,dx,vs,u,rfl,h1,h4,h5 p hp,hu,q u H1 φ1 f1 s1' ru⟩
  ·cases hr
def j5 (f:Str) (o v:Ef):Sf
 |env,st=>(v env st).bind λrv=>(o env rv.2).bind λro=>match ro.1,rv.1 with
 | .h n,.d x=>(match ro.2[n]? with
  |some (.o fs)=>if fs.length<1000/\(fs.lookup f).isSome=true then some (.nx env (ro.2.set n (.o (lE f (.d x) fs)))) else none
  |_=>none)
 |_,_=>none
theorem qI (ho:IE K X o fa) (hv:IE K X e fb) (hs:qcB e (some (.Attribute o f pos')) pos.line X.env=pure false:=by rfl) (hK:X.K=K:=by rfl):IS K X (.Assign [.Attribute o f pos'] e pos) (j5 f fa fb):=by
 subst hK
 refine⟨λenv st r hr=>?_⟩
 simp only[j5,qaa]at hr
 obtain⟨⟨rv,s1⟩,ev,⟨ro,s2⟩,eo,hr⟩:=hr
 cases ro with
 |d x=>cases hr
 |h n=>
  cases rv with
  |h m=>cases hr
  |d x=>
   dsimp only at hr
   split at hr
   case h_2=>cases hr
   rename_i fs hfs
   split at hr
   case isFalse=>cases hr
   rename_i hc
   cases hr
   refine (wu (ho.run _ _ _ eo) (hv.run _ _ _ ev) hs).imp ?_
   rintro D σ H ⟨φ,hE,hS,q⟩
   refine⟨φ,hE,hS,λv H1 φ1 f1 s1 w1=>⟨φ1,hE.fw hS f1,s1,λu H2 φ2 f2 s2 w2=>?_⟩⟩
   obtain⟨a,ea,rfl⟩:=w2
   obtain⟨Cl,dx,vs,h1,h2,h3,h4,h5⟩:=s2.at_ n a _ ea hfs
   obtain⟨w0,hw0⟩:=qcu.mp hc.2
   obtain⟨u0,hu0,ru0,p,hp,hpf⟩:=h2.look hw0
   have na:en X.K Cl f:=hpf ▸ h5 p hp
   refine⟨a,Cl,dx,vs,rfl,h1,h4,na,by rw[<-h2.length];exact hc.1,?_⟩
   have w1':=w1.fw s1 f2
   have k1:∀ m,W.h m∈(lE f (.d x) fs).map (·.2)->m<n:=λm hm=>by
    obtain⟨p',hp',e'⟩:=qa7.mp hm
    rcases mW hp' with z|z
    ·exact h3 m (e' ▸ qfG (f:=(·.2)) z)
    ·rw[z]at e';cases e'
   have k2:∀ p'∈lE f (.d x) fs,en X.K Cl p'.1:=λp' hp'=>by
    rcases mW hp' with z|z
    ·exact h5 p' z
    ·rw[z];exact na
   obtain⟨f3,s3⟩:=s2.putC (o:=.ins Cl dx (iD f v vs)) (c:=.o (lE f (.d x) fs)) ea λg=>⟨Cl,dx,_,upd_same,(Rfs.put w1' h2).fw s2 g,k1,h4,k2⟩
   exact q σ _ φ2 ((f1.trans f2).trans f3) (((hE.fw hS f1).fw s1 f2).fw s2 f3) s3
end
section
variable {K:qac}{X:Cx}{pos:Pos}{a e:Expr}{fa:Ef}{af:Af}
def wP (o:Ef) (a:Af):Ef
 |env,st=>(o env st).bind λx=>(a env x.2).bind λr=>match x.1,r.1 with
 |.d (.lst ds),[.d (.int k)]=>(jo ds).bind λns=>if ns.length<=1000 then (ns.idxOf? k).map λj=>(.d (.int (j:Nat)),r.2) else none
 |_,_=>none
def C1 (X:Cx):V->List V->Hp->VK->Prop:=λx xs H Q=>∃ (p:Addr) (ns:List Int) (k:Int) (j:Nat),x=.ref p/\xs=[.int k]/\SqL X.K H p (ns.map V.int)/\ns.length<=1000/\ns.idxOf? k=some j/\Q (.int (j:Nat)) H
theorem zZ:∀ {ns:List Int}{k:Int}{j:Nat},ns.idxOf? k=some j->j<ns.length/\ns[j]?=some k/\∀ i,i<j->ns[i]?≠some k:=by
 intro ns k j h
 have h1:=qfb.mp h
 obtain⟨h2,h3,h4⟩:=h1
 refine⟨h2,by rw[qaK h2,h3],λi hi z=>?_⟩
 have hi':i<ns.length:=qdJ hi h2
 rw[qaK hi']at z
 exact h4 i hi (qaW z)
theorem zy:MtR X "list.index" (C1 X):=by
 intro pins s σ H x xs v us Q I rx rv h
 obtain⟨p,ns,k,j,rfl,rfl,hq,hl,hj,q⟩:=h
 cases rx
 obtain⟨u,rfl,ru⟩:=rv.one
 obtain⟨t,rfl⟩:=ru
 obtain⟨its,r,pl,hz⟩:=I.list hq
 obtain⟨j1,j2,j3⟩:=zZ hj
 have hlen:its.length=ns.length:=by rw[<-r.length,qam]
 have at_:∀ (i:Nat) (hi:i<its.length),∃ t,∃ hn:i<ns.length,its[i]=.int ns[i] t:=λi hi=>by
  obtain⟨h',q'⟩:=r.at i hi
  have hn:i<ns.length:=by rw[<-hlen];exact hi
  have e:(ns.map V.int)[i]=V.int ns[i]:=qgn ..
  rw[e]at q'
  obtain⟨t,e'⟩:=q'
  exact⟨t,hn,e'⟩
 obtain⟨⟨c,dd,dt,sl⟩,eo,hc,n,hd⟩:=pl.isList
 simp only at hc hd
 subst hc hd
 have hj2:j<its.length:=by rw[hlen];exact j1
 refine qcX qeS ⟨_,eo,rfl⟩ PySem.F.entry_list_index (PySem.F.args_list_index_2 _ _) (qh5 p its.toArray n dd sl (.int k t) (isInt k) j (by simpa using hj2) (by lia) ?_ (λm hm hlt=>?_)) ⟨eo,λy hy=>(eq_isInt k t (uy r) y (by simpa using hy)).at _ _,?_⟩
 ·obtain⟨t',hn,e⟩:=at_ j hj2
  rw[qaK hn]at j2
  have:its.toArray[j]'(by simpa using hj2)=.int k t':=by simpa [qaW j2] using e
  rw[this]
  simp[isInt]
 ·have hm2:m<its.length:=by simpa using hm
  obtain⟨t',hn,e⟩:=at_ m hm2
  have:its.toArray[m]'hm=.int ns[m] t':=by simpa using e
  rw[this]
  have:=j3 m hlt
  rw[qaK hn]at this
  have hne:ns[m]≠k:=λz=>this (by rw[z])
  simp[isInt,hne]
 ·exact⟨.int (j:Nat),H,I.kept (t':=s.toks+1) λb o e=>e,⟨_,rfl⟩,q⟩
theorem Ar {apos:Pos} (ho:IE K X a fa) (ha:IA K X [e] af) (hbase:qcL a "index" X.env (eval a X.env)=eval a X.env:=by rfl)
  (hall:[e].all aP=true:=by rfl) (hline:(apos.endLine==pos.line)=true:=by rfl) (hK:X.K=K:=by rfl) :
  IE K X (.Call (.Attribute a "index" apos) [e] [] pos) (wP fa af):=by
 subst hK
 have hall2:aP e=true:=by rw[qbp,qaR]at hall;exact hall.1
 refine⟨λenv st r hr'=>?_⟩
 simp only[wP,qaa]at hr'
 obtain⟨⟨x,s1⟩,hx,⟨ws,s2⟩,hw,hr'⟩:=hr'
 match x,ws,hr' with
 |.d (.lst ds),[.d (.int k)],hr'=>
  simp only[qaa]at hr'
  obtain⟨ns,hns,hr'⟩:=hr'
  split at hr'
  case isFalse=>cases hr'
  rename_i hl
  obtain⟨j,hj,rfl⟩:=qad.mp hr'
  have hds:=jp hns
  subst hds
  refine (zt qeT qeS PySem.F.type_list_index zy (ho.run _ _ _ hx) (ha.run _ _ _ hw) hbase (rn hall (by show 1<30;decide)) hline (bG hall2) (cF rfl)).imp ?_
  rintro σ H Q ⟨φ,hE,hS,q⟩
  refine⟨φ,hE,hS,λv H1 φ1 f1 S1 w1=>?_⟩
  obtain⟨p,vs,rfl,h0,hq,hrl⟩:=w1
  have ev:=Rls.ints hrl
  subst ev
  refine⟨.inl ⟨rfl,_,.inl hq⟩,φ1,hE.fw hS f1,S1,λus H2 φ2 f2 S2 w2=>?_⟩
  obtain⟨y,us',rfl,ry,rfl⟩:=w2
  cases (show y=.int k from ry)
  exact⟨p,ns,k,j,rfl,rfl,.inl (hq.fw f2 h0),hl,hj,q _ H2 φ2 (f1.trans f2) S2 rfl⟩
end
section
variable {K:qac}{H:Hp}{φ ψ:List Addr}{x Cl dx:Addr}{xs:List (Str×V)}{o:HO}
theorem Rl.chx (hx:H x=some (.ins Cl dx xs)) (hl:xs.length<=5) (hψ:∀ a∈ψ,a=x):∀ {d:D}{v:V},Rl K H φ d v->Rl K (upd H x o) (φ++ψ) d v:=by
 have ne:∀ {a:Addr}{u:HO},H a=some u->(∀ C d f,u≠.ins C d f)->a≠x:=λ{a u} h q z=>by
  subst z
  rw[hx]at h
  cases h
  exact q _ _ _ rfl
 have nin:∀ {a:Addr},a≠x->a∉φ->a∉φ++ψ:=λ{a} n h z=>by
  rcases qaM.mp z with z|z
  ·exact h z
  ·exact n (hψ a z)
 intro d v
 refine (?_:∀ v,Rl K H φ d v->Rl K (upd H x o) (φ++ψ) d v) v
 refine D.rec (motive_1:=λd=>∀ v,Rl K H φ d v->Rl K (upd H x o) (φ++ψ) d v) (motive_2:=λds=>∀ vs,Rls K H φ ds vs->Rls K (upd H x o) (φ++ψ) ds vs) ?_ ?_ ?_ ?_ ?_ ?_ ?_ ?_ ?_ ?_ ?_ ?_ d
 ·exact λv h=>h
 ·exact λb v h=>h
 ·exact λb v h=>h
 ·exact λb v h=>h
 ·exact λb v h=>h
 ·rintro v ⟨a,e,hn,h⟩
  rcases h with⟨d,h⟩|⟨d,h⟩
  ·have n:=ne h (by intros;simp)
   exact⟨a,e,nin n hn,.inl ⟨d,by rw[upd_ne n];exact h⟩⟩
  ·have n:=ne h (by intros;simp)
   exact⟨a,e,nin n hn,.inr ⟨d,by rw[upd_ne n];exact h⟩⟩
 ·rintro ns v ⟨a,e,h⟩
  rcases h with⟨ob,h⟩|h
  ·have n:=ne h (by intros;simp)
   exact⟨a,e,.inl ⟨ob,by rw[upd_ne n];exact h⟩⟩
  ·exact⟨a,e,.inr h⟩
 ·rintro ds ih v ⟨a,vs,rfl,h1,h2⟩
  have n:=ne h1 (by intros;simp)
  exact⟨a,vs,rfl,by rw[upd_ne n];exact h1,ih vs h2⟩
 ·rintro ds ih v ⟨a,vs,rfl,h0,h1,h2⟩
  rcases h1 with h1|⟨ob,h1⟩
  ·have n:=ne h1 (by intros;simp)
   exact⟨a,vs,rfl,nin n h0,.inl (by rw[upd_ne n];exact h1),ih vs h2⟩
  ·have n:=ne h1 (by intros;simp)
   exact⟨a,vs,rfl,nin n h0,.inr ⟨ob,by rw[upd_ne n];exact h1⟩,ih vs h2⟩
 ·rintro ns ds ih v ⟨a,C',dx',fs,vs,rfl,h0,h1,h2,h3,h4,h5,h7,h6⟩
  have n:a≠x:=λz=>by
   subst z
   rw[hx]at h1
   cases h1
   rw[h2,qeK]at hl
   lia
  exact⟨a,C',dx',fs,vs,rfl,nin n h0,by rw[upd_ne n];exact h1,h2,h3,h4,h5,h7,ih vs h6⟩
 ·exact λvs h=>h
 ·rintro d ds ih1 ih2 vs ⟨v,r,rfl,h1,h2⟩;exact⟨v,r,rfl,ih1 v h1,ih2 r h2⟩
variable (hx:H x=some (.ins Cl dx xs)) (hl:xs.length<=5) (hψ:∀ a∈ψ,a=x)
include hx hl hψ
theorem Rls.chx:∀ {ds:List D}{vs:List V},Rls K H φ ds vs->Rls K (upd H x o) (φ++ψ) ds vs
 |[],_,h=>h
 |d::ds,_,h=>by
  obtain⟨v,r,rfl,h1,h2⟩:=h
  exact⟨v,r,rfl,Rl.chx hx hl hψ h1,Rls.chx h2⟩
theorem Rw.chx {w:W}{v:V} (h:Rw K H φ w v):Rw K (upd H x o) (φ++ψ) w v:=by
 cases w with
 |d y=>exact Rl.chx hx hl hψ h
 |h n=>
  obtain⟨a,e,rfl⟩:=h
  exact⟨a,by rw[qaF (qao.mp e).1];exact e,rfl⟩
theorem Rws.chx:∀ {ds:List W}{vs:List V},Rws K H φ ds vs->Rws K (upd H x o) (φ++ψ) ds vs
 |[],_,h=>h
 |d::ds,_,h=>by
  obtain⟨v,r,rfl,h1,h2⟩:=h
  exact⟨v,r,rfl,Rw.chx hx hl hψ h1,Rws.chx h2⟩
theorem Rkv.chx:∀ {ds:List (List Int×D)}{vs:List (List Key×V)},Rkv K H φ ds vs->Rkv K (upd H x o) (φ++ψ) ds vs
 |[],_,h=>h
 |(k,d)::ds,_,h=>by
  obtain⟨v,r,rfl,h1,h2⟩:=h
  exact⟨v,r,rfl,Rl.chx hx hl hψ h1,Rkv.chx h2⟩
theorem Rkk.chx:∀ {ds:List (Int×D)}{vs:List (Key×V)},Rkk K H φ ds vs->Rkk K (upd H x o) (φ++ψ) ds vs
 |[],_,h=>h
 |(k,d)::ds,_,h=>by
  obtain⟨v,r,rfl,h1,h2⟩:=h
  exact⟨v,r,rfl,Rl.chx hx hl hψ h1,Rkk.chx h2⟩
theorem Rfs.chx:∀ {ds:List (Str×W)}{vs:List (Str×V)},Rfs K H φ ds vs->Rfs K (upd H x o) (φ++ψ) ds vs
 |[],_,h=>h
 |(k,d)::ds,_,h=>by
  obtain⟨v,r,rfl,h1,h2⟩:=h
  exact⟨v,r,rfl,Rw.chx hx hl hψ h1,Rfs.chx h2⟩
theorem Rc.chx {k:Nat}{a:Addr}{c:C} (ha:a≠x) (h:Rc K H φ k a c):Rc K (upd H x o) (φ++ψ) k a c:=by
 cases c with
 |l ds=>obtain⟨vs,q,r⟩:=h;exact⟨vs,by rw[upd_ne ha];exact q,Rls.chx hx hl hψ r⟩
 |n ds=>obtain⟨vs,q,r,b⟩:=h;exact⟨vs,by rw[upd_ne ha];exact q,Rws.chx hx hl hψ r,b⟩
 |m ds=>obtain⟨vs,q,r⟩:=h;exact⟨vs,by rw[upd_ne ha];exact q,Rkv.chx hx hl hψ r⟩
 |k ds=>obtain⟨vs,q,r⟩:=h;exact⟨vs,by rw[upd_ne ha];exact q,Rkk.chx hx hl hψ r⟩
 |o ds=>obtain⟨C',d',vs,q,r,b⟩:=h;exact⟨C',d',vs,by rw[upd_ne ha];exact q,Rfs.chx hx hl hψ r,b⟩
theorem Er.chx {env:Ev}{σ:St} (h:Er K H φ env σ):Er K (upd H x o) (φ++ψ) env σ:=
 ⟨h.len,λi w e=>let ⟨v,e1,r⟩:=h.at_ i w e;⟨v,e1,Rw.chx hx hl hψ r⟩⟩
end
section
variable {K:qac}{H:Hp}{φ:List Addr}{x Cl dx:Addr}{xs:List (Str×V)}{o:HO}{st:Sto}
theorem Sr.chx0 (S:Sr K H φ st) (hx:H x=some (.ins Cl dx xs)) (hl:xs.length<=5) (hn:x∉φ):Sr K (upd H x o) φ st:=by
 have e0:φ++[]=φ:=qbO _
 refine⟨S.nd,S.len,λn a c e1 e2=>?_⟩
 have:=Rc.chx (o:=o) (ψ:=[]) hx hl (λa z=>nomatch z) (λz=>hn (z ▸ qbD e1)) (S.at_ n a c e1 e2)
 rw[e0]at this
 exact this
theorem Sr.chx1 (S:Sr K H φ st) (hx:H x=some (.ins Cl dx xs)) (hl:xs.length<=5) (hn:x∉φ) {c:C} (hc:Rc K (upd H x o) (φ++[x]) st.length x c):Sr K (upd H x o) (φ++[x]) (st++[c]):=by
 refine⟨qck.mpr ⟨S.nd,qbX.mpr ⟨qa5,qcN⟩,λa ha b hb z=>by rw[qag.mp hb]at z;exact hn (z ▸ ha)⟩,by rw[qan,qan,S.len];rfl,λn a c' e1 e2=>?_⟩
 by_cases h:n<φ.length
 ·rw[qaF h]at e1
  rw[qaF (by rw[<-S.len];exact h)]at e2
  exact Rc.chx hx hl (λa z=>qag.mp z) (λz=>hn (z ▸ qbD e1)) (S.at_ n a c' e1 e2)
 ·have h1:n<(φ++[x]).length:=(qao.mp e1).1
  rw[qan,qbR]at h1
  have hn':n=φ.length:=by lia
  subst hn'
  rw[qaI (qal _),qci]at e1
  rw[S.len,qaI (qal _),qci]at e2
  cases e1
  cases e2
  rw[S.len]
  exact hc
end
def pT:List (Str×Ef)->Ev->Sto->Option (List (Str×W)×Sto)
 |[],_,st=>some ([],st)
 |(f,g)::r,env,st=>(g env st).bind λx=>(pT r env x.2).map λy=>((f,x.1)::y.1,y.2)
structure FwX (x:Addr) (φ φ':List Addr) (H H':Hp):Prop where
 ext:∃ ψ,φ'=φ++ψ/\∀ a∈ψ,H a=none\/a=x
 keep:∀ b o,b∉φ->b≠x->H b=some o->H' b=some o
 there:∀ b o,H b=some o->∃ o',H' b=some o'
theorem FwX.pre {x:Addr}{φ φ1 φ2:List Addr}{H H1 H2:Hp}{o o':HO} (hx:H x=some o') (hn:x∉φ1) (f:Fw φ φ1 H H1) (g:FwX x φ1 φ2 (upd H1 x o) H2):FwX x φ φ2 H H2:=by
 obtain⟨ψ,rfl,e1⟩:=f.ext
 obtain⟨ψ2,rfl,e2⟩:=g.ext
 have th:∀ b u,H b=some u->∃ u',upd H1 x o b=some u':=λb u h=>by
  by_cases z:b=x
  ·exact⟨o,by rw[z,upd_same]⟩
  ·obtain⟨u',h'⟩:=f.there b u h
   exact⟨u',by rw[upd_ne z];exact h'⟩
 refine⟨⟨ψ++ψ2,by rw[qbY],λc hc=>?_⟩,λc u hc hcx h=>?_,λc u h=>?_⟩
 ·rcases qaM.mp hc with z|z
  ·exact .inl (e1 c z)
  ·rcases e2 c z with q|q
   ·left
    cases q':H c with
    |none=>rfl
    |some u=>
     obtain⟨u',h'⟩:=th c u q'
     rw[q]at h';cases h'
   ·exact .inr q
 ·refine g.keep c u (λz=>?_) hcx (by rw[upd_ne hcx];exact f.keep c u hc h)
  rcases qaM.mp z with z|z
  ·exact hc z
  ·rw[e1 c z]at h;cases h
 ·obtain⟨u',h'⟩:=th c u h
  exact g.there c u' h'
def CI (K:qac) (g:List (Str×Ef)) (env:Ev) (st:Sto) (y:List (Str×W)×Sto):TS:=λD σ H=>∃ φ x Cl dx xs fs,Er K H φ env σ/\Sr K H φ st/\σ[0]?=some (some (.ref x))/\x∉φ/\H x=some (.ins Cl dx xs)/\Rfs K H φ fs xs/\
 Cls K Cl/\(∀ p∈fs,en K Cl p.1)/\(∀ p∈g,en K Cl p.1)/\fs.length+g.length=6/\(∀ p∈g,p.1∉fs.map (·.1))/\(g.map (·.1)).Nodup/\
 ∀ H' φ',FwX x φ φ' H H'->Sr K H' φ' (y.2++[.o (fs++y.1)])->φ'[y.2.length]?=some x->D.nx σ H'
structure INI (K:qac) (X:Cx) (ss:List Stmt) (g:List (Str×Ef)):Prop where
 run:∀ env st y,pT g env st=some y->PSs X ss (CI K g env st y)
section
variable {K:qac}{X:Cx}{e:Expr}{fe:Ef}{f:Str}{ss:List Stmt}{g:List (Str×Ef)}{pos pos' p1:Pos}
theorem qV {env:Ev}{st:Sto}{w:W}{s1:Sto} (h0:X.N[0]?=some ("self" : Str)) (hv:Vis X.env.scope "self") (he:IE K X e fe) (hx:fe env st=some (w,s1)) (hK:X.K=K)
  (hs:qcB e (some (.Attribute (.Name "self" p1) f pos')) pos.line X.env=pure false) :
  PS X (.Assign [.Attribute (.Name "self" p1) f pos'] e pos) (λD σ H=>∃ φ x Cl dx xs,Er K H φ env σ/\Sr K H φ st/\σ[0]?=some (some (.ref x))/\x ∉ φ/\H x=some (.ins Cl dx xs)/\Cls K Cl/\en K Cl f/\xs.length<=5/\f ∉ xs.map (·.1)/\
   ∀ v H1 φ1,Fw φ φ1 H H1->Sr K H1 φ1 s1->Rw K H1 φ1 w v->x∉φ1->H1 x=some (.ins Cl dx xs)->D.nx σ (upd H1 x (.ins Cl dx (xs++[(f,v)])))):=by
 subst hK
 refine (wu (kI h0 hv) (he.run _ _ _ hx) hs).imp ?_
 rintro D σ H ⟨φ,x,Cl,dx,xs,hE,hS,h1,h2,h3,h4,h5,h6,h7,q⟩
 refine⟨φ,hE,hS,λv H1 φ1 f1 s1' w1=>⟨_,h1,x,Cl,dx,xs,rfl,f1.keep _ _ h2 h3,h4,h5,by lia,?_⟩⟩
 rw[sj h7]
 exact q v H1 φ1 f1 s1' w1 (f1.nin h2 h3) (f1.keep _ _ h2 h3)
theorem ye (h0:X.N[0]?=some ("self" : Str)) (hv:Vis X.env.scope "self") (he:IE K X e fe) (hK:X.K=K:=by rfl)
  (hs:qcB e (some (.Attribute (.Name "self" p1) f pos')) pos.line X.env=pure false:=by rfl):INI K X [.Assign [.Attribute (.Name "self" p1) f pos'] e pos] [(f,fe)]:=by
 refine⟨λenv st y hy=>?_⟩
 simp only[pT,qaa,qaD]at hy
 obtain⟨⟨w,s1⟩,hx,hy⟩:=hy
 cases hy
 refine (uY (qV h0 hv he hx hK hs)).imp ?_
 rintro D σ H ⟨φ,x,Cl,dx,xs,fs,hE,hS,h1,h2,h3,h4,h5,h6,h7,h8,h9,h10,q⟩
 have hl:xs.length=5:=by rw[<-h4.length];simpa using h8
 have nf:f∉xs.map (·.1):=by rw[h4.keys];exact h9 _ qaf
 refine⟨φ,x,Cl,dx,xs,hE,hS,h1,h2,h3,h5,h7 _ qaf,by lia,nf,λv H1 φ1 f1 s1' w1 hn hx1=>?_⟩
 have r1:=h4.fw hS f1
 have r2:=Rfs.chx (o:=.ins Cl dx (xs++[(f,v)])) (ψ:=[x]) hx1 (by lia) (λa z=>qag.mp z) r1
 have w2:=Rw.chx (o:=.ins Cl dx (xs++[(f,v)])) (ψ:=[x]) hx1 (by lia) (λa z=>qag.mp z) w1
 have r3:=Rfs.snoc (f:=f) w1 r1
 have hc:Rc K (upd H1 x (.ins Cl dx (xs++[(f,v)]))) (φ1++[x]) s1.length x (.o (fs++[(f,w)])):=⟨Cl,dx,_,upd_same,Rfs.snoc w2 r2,λm hm=>by rw[<-s1'.len];exact r3.mem hm,h5,λp hp=>by
  rcases qaM.mp hp with z|z
  ·exact h6 p z
  ·rw[qag.mp z];exact h7 _ qaf⟩
 refine q _ (φ1++[x]) ?_ (s1'.chx1 hx1 (by lia) hn hc) (by rw[<-s1'.len,qaI (qal _),qci];rfl)
 refine FwX.pre h3 hn f1 ⟨⟨[x],rfl,λa z=>.inr (qag.mp z)⟩,λb o _ _ h=>h,λb o h=>⟨o,h⟩⟩
theorem jF (h0:X.N[0]?=some ("self" : Str)) (hv:Vis X.env.scope "self") (he:IE K X e fe) (hr:INI K X ss g) (hg:g≠[]:=by intro z;cases z) (hK:X.K=K:=by rfl)
  (hs:qcB e (some (.Attribute (.Name "self" p1) f pos')) pos.line X.env=pure false:=by rfl):INI K X (.Assign [.Attribute (.Name "self" p1) f pos'] e pos::ss) ((f,fe)::g):=by
 refine⟨λenv st y hy=>?_⟩
 simp only[pT,qaa]at hy
 obtain⟨⟨w,s1⟩,hx,hy⟩:=hy
 obtain⟨y',hy',rfl⟩:=qad.mp hy
 refine (gn (qV h0 hv he hx hK hs) (hr.run _ _ _ hy')).imp ?_
 rintro D σ H ⟨φ,x,Cl,dx,xs,fs,hE,hS,h1,h2,h3,h4,h5,h6,h7,h8,h9,h10,q⟩
 have hg1:1<=g.length:=List.length_pos_iff.mpr hg
 have hl:xs.length<=4:=by rw[<-h4.length];rw[qas]at h8;lia
 have nf:f∉xs.map (·.1):=by rw[h4.keys];exact h9 _ qaf
 refine⟨φ,x,Cl,dx,xs,hE,hS,h1,h2,h3,h5,h7 _ qaf,by lia,nf,λv H1 φ1 f1 s1' w1 hn hx1=>?_⟩
 have e0:φ1++[]=φ1:=qbO _
 have r2:=Rfs.chx (o:=.ins Cl dx (xs++[(f,v)])) (ψ:=[]) hx1 (by lia) (λa z=>nomatch z) (h4.fw hS f1)
 have w2:=Rw.chx (o:=.ins Cl dx (xs++[(f,v)])) (ψ:=[]) hx1 (by lia) (λa z=>nomatch z) w1
 have hE2:=Er.chx (o:=.ins Cl dx (xs++[(f,v)])) (ψ:=[]) hx1 (by lia) (λa z=>nomatch z) (hE.fw hS f1)
 rw[e0]at r2 w2 hE2
 rw[qaB,qbX]at h10
 refine⟨φ1,x,Cl,dx,_,fs++[(f,w)],hE2,s1'.chx0 hx1 (by lia) hn,h1,hn,upd_same,Rfs.snoc w2 r2,h5,λp hp=>?_,λp hp=>h7 p (qaj _ hp),by rw[qan,qbR];rw[qas]at h8;lia,λp hp z=>?_,h10.2,λH' φ' fx S' ex=>?_⟩
 ·rcases qaM.mp hp with z|z
  ·exact h6 p z
  ·rw[qag.mp z];exact h7 _ qaf
 ·rw[qc2]at z
  rcases qaM.mp z with z|z
  ·exact h9 p (qaj _ hp) z
  ·rw[qaB,qcy,qag]at z
   exact h10.1 (z ▸ qfG (f:=(·.1)) hp)
 ·rw[qbY,List.singleton_append]at S'
  exact q H' φ' (FwX.pre h3 hn f1 fx) S' ex
end
def yz (K:qac) (n:Nat) (ps:Nat) (g:List (Str×Ef)):Sp:=λvs H Q _=>∃ φ st ws y x dx Cl rest H1,vs=.ref x::rest/\ws.length+1=ps/\pT g (none::(ws.map some++qaC (n - ps) none)) st=some y/\Rws K H1 φ ws rest/\Sr K H1 φ st/\H1 x=none/\H1 dx=none/\dx≠x/\
 H=upd (upd H1 dx (.own x)) x (.ins Cl dx [])/\Cls K Cl/\(∀ p∈g,en K Cl p.1)/\g.length=6/\(g.map (·.1)).Nodup/\∀ H' φ',Fw φ φ' H1 H'->Sr K H' φ' (y.2++[.o y.1])->φ'[y.2.length]?=some x->Q .non H'
theorem BN {P:qa1}{w:World}{K:qac}{mg:Str->Option Value}{base:Heap}{x qual:Str}{st:Stmt}{f:Addr}{fd:qaV}{N ps:List Str}{k:Nat}{g:List (Str×Ef)} (F:Fun K x qual st f fd) (S:aM N ps (ah st)) (hN:ps.length<=N.length)
  (hb:∀ (cdv:Value) (A:qa8) (outer:List Env) (s:qak) (H:Hp) (E:XK),dW k (A.deeper (qek qual (ah st) s.heap.objs.size f cdv))->INI K (nj CX0 P w K mg base N qual (ah st) f cdv A outer s H E).nox (aF st) g) :
  bR P w K mg base CX0 (k+1) f fd ps (yz K N.length ps.length g):=by
 refine F.ok S (λvs H Q E h=>?_) λcdv A outer s H vs Q E hr h=>?_
 ·obtain⟨φ,st,ws,y,x,dx,Cl,rest,H1,rfl,hl,e,rw,_⟩:=h
  rw[qas,<-rw.length,hl]
 ·obtain⟨φ,st',ws,y,x,dx,Cl,rest,H1,rfl,hl,e,rw,S',hx,hd,hne,rfl,hC,hA,h6,hnd,q⟩:=h
  refine⟨_,(hb cdv A outer s _ E hr).run _ _ _ e,φ,x,Cl,dx,[],[],?_,?_,?_,?_,upd_same,rfl,hC,λp hp=>(nomatch hp),hA,by simpa using h6,λp _ z=>(nomatch z),hnd,λH' φ' fx S2 ex=>?_⟩
  ·have sm:bx H1 (upd (upd H1 dx (.own x)) x (.ins Cl dx [])):=(bx.new hd _).trans (bx.new (by rw[upd_ne (qbu hne)];exact hx) _)
   have r0:=rw.fw S' (Fw.same sm)
   have he:=n6 (N:=N) (k:=ps.length) (ws:=.d .non::ws) (vs:=.non::rest) ⟨.non,rest,rfl,rfl,r0⟩ (by rw[qas];exact hl)
   refine⟨?_,λi w ei=>?_⟩
   ·have:=he.len
    unfold ii at this ⊢
    simp at this ⊢
    lia
   ·cases i with
    |zero=>cases ei
    |succ i=>
     obtain⟨v,ev,rv⟩:=he.at_ (i+1) w ei
     refine⟨v,?_,rv⟩
     unfold ii at ev ⊢
     simpa using ev
  ·have sm:bx H1 (upd (upd H1 dx (.own x)) x (.ins Cl dx [])):=(bx.new hd _).trans (bx.new (by rw[upd_ne (qbu hne)];exact hx) _)
   exact S'.same sm
  ·unfold ii;rfl
  ·exact S'.nin hx
  ·refine q H' φ' ?_ S2 ex
   obtain⟨ψ,rfl,e1⟩:=fx.ext
   have sm:bx H1 (upd (upd H1 dx (.own x)) x (.ins Cl dx [])):=(bx.new hd _).trans (bx.new (by rw[upd_ne (qbu hne)];exact hx) _)
   refine⟨⟨ψ,rfl,λa ha=>?_⟩,λb o hb h=>?_,λb o h=>fx.there b o (sm b o h)⟩
   ·rcases e1 a ha with z|z
    ·cases q':H1 a with
     |none=>rfl
     |some o=>rw[sm a o q']at z;cases z
    ·rw[z];exact hx
   ·exact fx.keep b o hb (λz=>by rw[z,hx]at h;cases h) (sm b o h)
def ph (n ps:Nat) (g:List (Str×Ef)) (a:Af):Ef
 |env,st=>(a env st).bind λr=>if r.1.length+1=ps then (pT g (none::(r.1.map some++qaC (n - ps) none)) r.2).map λy=>(.h y.2.length,y.2++[.o y.1]) else none
theorem ym {K:qac}{X:Cx}{x:Str}{k j:Nat}{ff Cl:Addr}{fd:qaV}{N ps:List Str}{g:List (Str×Ef)}{p pos:Pos}{e:Expr}{es:List Expr}{af:Af} (M:Mk X.K Cl ff) (F:bR X.prog X.w X.K X.mg X.base CX0 j ff fd ps (yz K N.length ps.length g)) (hjk:j<=k) (hr:dW (k+1) X.A) (hg:Gl X x) (hm:X.mg x=some (.ref Cl)) (hb:bC X.K fd ps [])
  (hC:Cls K Cl) (hA:∀ p∈g,en K Cl p.1) (h6:g.length=6) (hnd:(g.map (·.1)).Nodup)
  (ha:IA K X (e::es) af) (hdb:(x==("__debug__" : Str))=false:=by decide) (hs:aP e=true:=by rfl) (hp:es.all aP=true:=by rfl) :
  IE K X (.Call (.Name x p) (e::es) [] pos) (ph N.length ps.length g af):=by
 refine⟨λenv st r h=>?_⟩
 simp only[ph,qaa]at h
 obtain⟨y,hy,h⟩:=h
 split at h
 case isFalse=>cases h
 rename_i hl
 obtain⟨z,hz,rfl⟩:=qad.mp h
 refine (yN M (F.mono hjk) hr hg hm hb .nil xD (ha.run _ _ _ hy) hdb (bG hs) (cF hp)).imp ?_
 rintro σ H Q ⟨φ,hE,hS,q⟩
 refine⟨φ,hE,hS,λvs H1 φ1 f1 s1 w1=>λx dx hx hd hne=>?_⟩
 show yz K N.length ps.length g (.ref x::(vs++[])) _ _ _
 rw[qbO]
 refine⟨φ1,y.2,y.1,z,x,dx,Cl,vs,H1,rfl,hl,hz,w1,s1,hx,hd,hne,rfl,hC,hA,h6,hnd,λH' φ' f2 S2 ex=>⟨rfl,?_⟩⟩
 exact q _ H' φ' (f1.trans f2) S2 ⟨x,ex,rfl⟩
def vwF (st:Sto):List (Str×W)->Option (List D)
 |[]=>some []
 |(_,.d x)::r=>(vwF st r).map λy=>x::y
 |(_,.h m)::r=>(lg st m).bind λds=>(vwF st r).map λy=>.lst ds::y
def vwW (st:Sto):W->Option W
 |.d x=>some (.d x)
 |.h n=>match st[n]? with
  |some (.o fs)=>if 5<fs.length then (vwF st fs).map λds=>.d (.ob (fs.map (·.1)) ds) else none
  |some (.l ds)=>some (.d (.lst ds))
  |_=>none
def vwA (st:Sto):List W->Option (List W)
 |[]=>some []
 |w::ws=>(vwW st w).bind λx=>(vwA st ws).map λy=>x::y
mutual
def okT:D->Bool
 |.non=>true
 |.bl _=>true
 |.int _=>true
 |.str _=>true
 |.tup ds=>tV ds
 |_=>false
def tV:List D->Bool
 |[]=>true
 |d::ds=>okT d&&tV ds
end
section
variable {K:qac}{H:Hp}{φ φ':List Addr}
mutual
theorem Rl.any:∀ {d:D}{v:V},okT d=true->Rl K H φ d v->Rl K H φ' d v
 |.non,_,_,h=>h
 |.bl _,_,_,h=>h
 |.int _,_,_,h=>h
 |.str _,_,_,h=>h
 |.tup ds,_,o,h=>by
  obtain⟨a,vs,rfl,h1,h2⟩:=h
  exact⟨a,vs,rfl,h1,Rls.any (by rw[okT]at o;exact o) h2⟩
 |.ty _,_,o,_=>by rw[okT]at o<;>first|cases o|(intros;simp)
 |.dct,_,o,_=>by rw[okT]at o<;>first|cases o|(intros;simp)
 |.scr _,_,o,_=>by rw[okT]at o<;>first|cases o|(intros;simp)
 |.lst _,_,o,_=>by rw[okT]at o<;>first|cases o|(intros;simp)
 |.ob _ _,_,o,_=>by rw[okT]at o<;>first|cases o|(intros;simp)
theorem Rls.any:∀ {ds:List D}{vs:List V},tV ds=true->Rls K H φ ds vs->Rls K H φ' ds vs
 |[],_,_,h=>h
 |d::ds,_,o,h=>by
  rw[tV,qaR]at o
  obtain⟨v,r,rfl,h1,h2⟩:=h
  exact⟨v,r,rfl,Rl.any o.1 h1,Rls.any o.2 h2⟩
end
theorem Rl.bare {d:D}{v:V} (h:Rl K H φ d v):Rl K H [] d v:=Rl.less (φ:=[]) (ψ:=φ) h
theorem Rls.bare {d:List D}{v:List V} (h:Rls K H φ d v):Rls K H [] d v:=Rls.less (φ:=[]) (ψ:=φ) h
theorem pk:∀ {fs:List (Str×W)}{vs:List (Str×V)},Rfs K H φ fs vs->vs=(fs.map (·.1)).zip (vs.map (·.2))
 |[],vs,r=>by cases r;rfl
 |(n,x)::fs,vs,r=>by
  obtain⟨v,r',rfl,r1,r2⟩:=r
  rw[qaB,qaB,qec,<-pk r2]
theorem pQ {st:Sto} (S:Sr K H φ st):∀ {fs:List (Str×W)}{vs:List (Str×V)}{ds:List D},Rfs K H φ fs vs->vwF st fs=some ds->Rls K H [] ds (vs.map (·.2))
 |[],vs,ds,r,h=>by cases r;cases h;rfl
 |(n,.d x)::fs,vs,ds,r,h=>by
  obtain⟨v,r',rfl,r1,r2⟩:=r
  obtain⟨y,hy,rfl⟩:=qad.mp h
  exact⟨v,_,rfl,Rl.bare r1,pQ S r2 hy⟩
 |(n,.h m)::fs,vs,ds,r,h=>by
  obtain⟨v,r',rfl,r1,r2⟩:=r
  obtain⟨es,hes,h⟩:=qaa.mp h
  obtain⟨y,hy,rfl⟩:=qad.mp h
  obtain⟨a,ea,rfl⟩:=r1
  obtain⟨us,hu,ru⟩:=S.atl m a es ea hes
  exact⟨_,_,rfl,⟨a,us,rfl,qa5,.inl hu,Rls.bare ru⟩,pQ S r2 hy⟩
theorem uX {st:Sto} (S:Sr K H φ st):∀ {ws:List W}{vs:List V}{ws':List W},Rws K H φ ws vs->vwA st ws=some ws'->Rws K H [] ws' vs
 |[],vs,ws',r,h=>by cases h;exact r
 |w::ws,vs,ws',r,h=>by
  obtain⟨v,r',rfl,r1,r2⟩:=r
  obtain⟨x,hx,h⟩:=qaa.mp h
  obtain⟨y,hy,rfl⟩:=qad.mp h
  refine⟨v,r',rfl,?_,uX S r2 hy⟩
  cases w with
  |d z=>cases hx;exact Rl.bare r1
  |h n=>
   unfold vwW at hx
   dsimp only at hx
   split at hx
   ·rename_i fs hfs
    split at hx
    ·rename_i h5
     obtain⟨ds,hds,rfl⟩:=qad.mp hx
     obtain⟨a,ea,rfl⟩:=r1
     obtain⟨Cl,dx,us,q,rf,b,hC,hA⟩:=S.at_ n a _ ea hfs
     refine⟨a,Cl,dx,us,us.map (·.2),rfl,qa5,q,pk rf,by rw[qam,qam,rf.length],by rw[qam];exact h5,hC,λf hf=>?_,pQ S rf hds⟩
     obtain⟨p,hp,rfl⟩:=qa7.mp hf
     exact hA p hp
    ·cases hx
   ·rename_i ds hds
    cases hx
    obtain⟨a,ea,rfl⟩:=r1
    obtain⟨us,hu,ru⟩:=S.at_ n a _ ea hds
    exact⟨a,us,rfl,qa5,.inl hu,Rls.bare ru⟩
   ·cases hx
end
def gv (m:Fn) (a:Af):Ef
 |env,st=>(a env st).bind λr=>(vwA r.2 r.1).bind λws=>(m ws []).bind λy=>match y.1 with
 |.d x=>if okT x=true then some (.d x,r.2) else none
 |_=>none
theorem jn {K:qac}{X:Cx}{e:Expr}{es:List Expr}{pos:Pos}{af:Af}{x:Str}{k j:Nat}{ff:Addr}{fd:qaV}{ps:List Str}{m:Fn}{p:Pos} (F:bR X.prog X.w X.K X.mg X.base CX0 j ff fd ps (spI K m)) (hjk:j<=k) (hr:dW k X.A) (hg:Gl X x) (hm:X.mg x=some (.ref ff)) (hk:qav X.K (.ref ff)=true) (hb:bC X.K fd ps [])
  (ha:IA K X (e::es) af) (hdb:(x==("__debug__" : Str))=false:=by decide) (hs:aP e=true:=by rfl) (hp:es.all aP=true:=by rfl) :
  IE K X (.Call (.Name x p) (e::es) [] pos) (gv m af):=by
 refine⟨λenv st r h=>?_⟩
 simp only[gv,qaa]at h
 obtain⟨y,hy,ws,hws,⟨w,s2⟩,hz,h⟩:=h
 cases w with
 |h n=>cases h
 |d z=>
  dsimp only at h
  split at h
  case isFalse=>cases h
  rename_i hok
  cases h
  refine (uN (F.mono hjk) hr hg hm hk hb .nil xD (ha.run _ _ _ hy) hdb (bG hs) (cF hp)).imp ?_
  rintro σ H Q ⟨φ,hE,hS,q⟩
  refine⟨φ,hE,hS,λvs H1 φ1 f1 s1 w1=>?_⟩
  show spI K m (vs++[]) H1 Q E0
  rw[qbO]
  refine⟨[],[],ws,_,hz,uX s1 w1 hws,⟨qcN,rfl,λn a c e1 _=>by cases e1⟩,λv H2 φ2 f2 s2' w2=>?_⟩
  have sm:bx H1 H2:=λb o h=>f2.keep b o qa5 h
  exact q v H2 φ1 (f1.trans (Fw.same sm)) (s1.same sm) (Rl.any hok w2)
theorem Rls.flat {K:qac}{H H':Hp}{φ φ':List Addr}:∀ {ds:List D}{vs:List V},ds.all eW=true->Rls K H φ ds vs->Rls K H' φ' ds vs
 |[],_,_,h=>h
 |d::ds,_,o,h=>by
  rw[qbp,qaR]at o
  obtain⟨v,r,rfl,h1,h2⟩:=h
  refine⟨v,r,rfl,?_,Rls.flat o.2 h2⟩
  cases d with
  |non=>exact h1
  |bl b=>exact h1
  |int b=>exact h1
  |str b=>exact h1
  |_=>exact absurd o.1 (by simp[eW])
def i3 (il ip ic it ia:Nat) (fl:Lf):Sf
 |env,st=>(fl env st).bind λr=>match env.getD ip none,env.getD ic none,env.getD it none,env.getD ia none with
 |some (.d (.int p)),some (.d (.int c)),some (.d (.lst ts)),some (.d a)=>(ixN r.1.length p).bind λj=>(ixN ts.length c).bind λi=>if ts.length<=1000000/\il<env.length/\ts.all eW=true then some (.nx (env.set il (some (.d (.lst (r.1.set j (.lst (ts.set i a))))))) r.2) else none
 |_,_,_,_=>none
theorem mC {env:Ev}{i:Nat}{w:W} (h:env.getD i none=some w):env[i]?=some (some w):=by
 rw[qeL]at h
 cases q:env[i]? with
 |none=>rw[q]at h;cases h
 |some o=>rw[q]at h;rw[show o=some w from h]
theorem yA {α:Type}{xs:List α}{i:Int}{j:Nat}{v:α} (h:ixN xs.length i=some j) (hv:xs[j]?=some v):atI xs i=some v:=by
 unfold atI;rw[h];exact hv
theorem A3 {n:Nat}{i:Int}{j:Nat} (h:ixN n i=some j):j<n:=(qj h).2.1
structure ISL (K:qac) (X:Cx) (s:Stmt) (i0:Nat) (fl:Lf):Prop where
 run:∀ env st r,fl env st=some r->PS X s (λD σ H=>∃ φ,Er K H φ env σ/\Sr K H φ st/\∀ a vs H1 φ',Fw φ φ' H H1->Sr K H1 φ' r.2->H1 a=none->Rls K H1 φ' r.1 vs->D.nx (σ.set i0 (some (.ref a))) (upd H1 a (.lst vs)))
theorem AJ {K:qac}{X:Cx}{pos:Pos}{tg:Expr}{scope:Scope}{Nc:List Str}{k:Nat}{js:List Nat}{elt iter:Expr}{ifs:List Expr}{fi:Lf}{g:Tg}{tt:Tf}{te:Ef}{i0:Nat}{x0:Str}{py spos:Pos}
  (hN0:X.N.Nodup) (hi0:X.N[i0]?=some x0) (hx0:Loc X.env.scope x0) (S:fU X scope Nc (gI k js)) (hc:X.calm=true) (hgi:∀ j∈tR g,j<k) (hi:II K X tg iter fi)
  (hg:∀ cells s H C fp,PG (lcX X scope cells Nc s H C fp) tg (tG K g)) (ht:∀ cells s H C fp,ITs K (lcX X scope cells Nc s H C fp) ifs tt) (he:∀ cells s H C fp,IE K (lcX X scope cells Nc s H C fp) elt te)
  (hsw:qcB (.ListComp elt [⟨tg,iter,ifs,0⟩] scope pos) (some (.Name x0 py)) spos.line X.env=pure true:=by rfl)
  (hf0:X.fn x0=true\/X.env.scope.names.lookup x0=some .local:=by first|exact .inl rfl|exact .inr rfl|assumption)
  (hs:∀ x,qbQ iter X.env x=pure x:=by intro _;rfl):ISL K X (.Assign [.Name x0 py] (.ListComp elt [⟨tg,iter,ifs,0⟩] scope pos) spos) i0 (iLc k js fi g tt te):=by
 refine⟨λenv st r hr=>?_⟩
 simp only[iLc,qaa]at hr
 obtain⟨⟨ds,s1⟩,hy,hr⟩:=hr
 have hr':(if ds.length<=1000000 then lcI g tt te (jg k js env) ds s1 else none)=some r:=hr
 by_cases hdn:¬ ds.length<=1000000
 ·rw[if_neg hdn]at hr';cases hr'
 have hdl:ds.length<=1000000:=by lia
 rw[if_pos hdl]at hr'
 refine (zr hN0 hi0 hx0 S hc (hi.run _ _ _ hy) hg (λcells s H C fp=>(ht cells s H C fp).run) (λcells s H C fp=>(he cells s H C fp).any) hsw hf0 hs).imp ?_
 rintro D σ H ⟨φ,hE,hS,q⟩
 exact ud hgi hdl hr' σ H _ ⟨φ,hE,hS,q⟩
section
variable {K:qac}{X:Cx}{s1':Stmt}{xl xp xc xt xa:Str}{il ip ic it ia:Nat}{comp:Expr}{fl:Lf}{ss:List Stmt}{gb:Sf}{p1 p2 p3 p4 p5 p6 p7 p8 p9 q1 q2 q3 q4 q5 q6 q7:Pos}
theorem v4 (hN:X.N.Nodup) (nl:X.N[il]?=some xl) (np:X.N[ip]?=some xp) (nc:X.N[ic]?=some xc) (nt:X.N[it]?=some xt) (na:X.N[ia]?=some xa)
  (ll:Loc X.env.scope xl) (vl:Vis X.env.scope xl) (vp:Vis X.env.scope xp) (vc:Vis X.env.scope xc) (vt:Vis X.env.scope xt) (va:Vis X.env.scope xa) (d1:il≠ip) (d2:il≠ic) (d3:il≠it) (d4:il≠ia)
  (bl:(xl==("__debug__" : Str))=false) (bp:(xp==("__debug__" : Str))=false) (bc:(xc==("__debug__" : Str))=false) (bt:(xt==("__debug__" : Str))=false) (ba:(xa==("__debug__" : Str))=false)
  (el:(xl==("__classdict__" : Str))=false) (ep:(xp==("__classdict__" : Str))=false) (ec:(xc==("__classdict__" : Str))=false) (et:(xt==("__classdict__" : Str))=false) (ea:(xa==("__classdict__" : Str))=false)
  (hcomp:ISL K X s1' il fl) (hgL:Gl X "list") (hmL:X.mg "list" = none) (hrest:ISs K X ss gb)
  (hs2:qdH [.Subscript (.Name xl p3) (.Name xp p4) p5] (.Call (.Name "list" p6) [.Name xt p7] [] p8) p9.line X.env=pure false) (hw2:qdI [.Subscript (.Name xl p3) (.Name xp p4) p5] (.Call (.Name "list" p6) [.Name xt p7] [] p8) X.env=pure none)
  (hs3:qdH [.Subscript (.Subscript (.Name xl q1) (.Name xp q2) q3) (.Name xc q4) q5] (.Name xa q6) q7.line X.env=pure false) (hw3:qdI [.Subscript (.Subscript (.Name xl q1) (.Name xp q2) q3) (.Name xc q4) q5] (.Name xa q6) X.env=pure none) (hK:X.K=K) :
  ISs K X (s1'::.Assign [.Subscript (.Name xl p3) (.Name xp p4) p5] (.Call (.Name "list" p6) [.Name xt p7] [] p8) p9::.Assign [.Subscript (.Subscript (.Name xl q1) (.Name xp q2) q3) (.Name xc q4) q5] (.Name xa q6) q7::ss) (ar (i3 il ip ic it ia fl) gb):=by
 subst hK
 refine⟨λenv st r hr=>?_⟩
 simp only[ar,i3,qaa]at hr
 obtain⟨r1,⟨⟨ds,s1⟩,hfl,hr1⟩,hr⟩:=hr
 split at hr1
 case h_2=>cases hr1
 rename_i p c ts a hp hc ht ha'
 simp only[qaa]at hr1
 obtain⟨j,hj,i,hi,hr1⟩:=hr1
 split at hr1
 case isFalse=>cases hr1
 rename_i hz
 cases hr1
 dsimp only at hr
 have hll:mT s1 [.d (.lst ts)]=some ts:=rfl
 have pl:∀ {q:Pos},PE X (.Name xl q) (sB il):=λ{q}=>kI nl vl bl el
 have pp:∀ {q:Pos},PE X (.Name xp q) (sB ip):=λ{q}=>kI np vp bp ep
 have pc:∀ {q:Pos},PE X (.Name xc q) (sB ic):=λ{q}=>kI nc vc bc ec
 have pt:∀ {q:Pos},PE X (.Name xt q) (sB it):=λ{q}=>kI nt vt bt et
 have pa:∀ {q:Pos},PE X (.Name xa q) (sB ia):=λ{q}=>kI na va ba ea
 refine (gn (hcomp.run _ _ _ hfl) (gn (qx (fH ((mE (K:=X.K) rfl).run s1 [.d (.lst ts)] ts hll) hgL hmL qbM (mM pt qc) (by decide) (by decide)) (sR pl pp nO (pL rfl)) hs2 hw2 (mL rfl))
  (gn (qx pa (sR (zf t9 pl pp (si rfl)) pc nO (pL rfl)) hs3 hw3 (mL rfl)) (hrest.run _ _ _ hr)))).imp ?_
 rintro D σ H ⟨φ,hE,hS,q⟩
 refine⟨φ,hE,hS,λal vs H1 φ1 f1 S1 hal rl=>?_⟩
 have hE1:=hE.fw hS f1
 obtain⟨vp',gp,rp⟩:=hE1.at_ ip _ (mC hp)
 obtain⟨vc',gc,rc⟩:=hE1.at_ ic _ (mC hc)
 obtain⟨vt',gt,rt⟩:=hE1.at_ it _ (mC ht)
 obtain⟨va',ga,ra⟩:=hE1.at_ ia _ (mC ha')
 have rp:vp'=.int p:=rp
 have rc:vc'=.int c:=rc
 subst rp rc
 have nep:il≠ip:=d1
 have set_at:∀ {k:Nat}{u:V}{v:V},il≠k->σ[k]?=some (some u)->(σ.set il (some v))[k]?=some (some u):=λ{k u v} h e=>by rw[qbo h];exact e
 -- the list's line
 refine⟨_,set_at d3 gt,φ1,S1.new hal,⟨vt',[],rfl,?_,rfl⟩,λbl us H2 sm hbl ru=>?_⟩
 ·exact (Rl.fw S1 (Fw.new hal) rt)
 have hal2:H2 al=some (.lst vs):=sm _ _ upd_same
 have hab:al≠bl:=aT hal2 hbl
 have hlen:vs.length=ds.length:=rl.length.symm
 have hul:us.length=ts.length:=ru.length.symm
 have hil:(σ.set il (some (.ref al)))[il]?=some (some (.ref al)):=by
  rw[qba]
  rw[<-hE.len]
  exact hz.2.1
 refine⟨_,hil,_,set_at d1 gp,al,vs,p,j,rfl,rfl,by rw[upd_ne hab];exact hal2,by rw[hlen];exact hj,?_⟩
 have hjl:j<vs.length:=by rw[hlen];exact A3 hj
 refine⟨_,set_at d4 ga,_,hil,_,set_at d1 gp,.inl ⟨al,vs.set j (.ref bl),p,.ref bl,rfl,rfl,SqL.of upd_same,yA (j:=j) (by rw[qbx,hlen];exact hj) (by rw[qba hjl]),?_⟩⟩
 refine⟨_,set_at d2 gc,bl,us,c,i,rfl,rfl,by rw[upd_ne (qbu hab),upd_same],by rw[hul];exact hi,?_⟩
 have sm5:bx H1 (upd (upd (upd H2 bl (.lst us)) al (.lst (vs.set j (.ref bl)))) bl (.lst (us.set i va'))):=λb o h=>by
  have e1:b≠al:=λz=>by rw[z,hal]at h;cases h
  have h2:H2 b=some o:=sm b o (by rw[upd_ne e1];exact h)
  have e2:b≠bl:=λz=>by rw[z,hbl]at h2;cases h2
  rw[upd_ne e2,upd_ne e1,upd_ne e2];exact h2
 have nal:al∉φ1:=S1.nin hal
 have nbl:bl∉φ1:=λz=>by
  obtain⟨o,ho,_⟩:=S1.lst z
  have:bl≠al:=qbu hab
  have h2:H2 bl=some o:=sm bl o (by rw[upd_ne this];exact ho)
  rw[hbl]at h2;cases h2
 dsimp only
 generalize hH:upd (upd (upd H2 bl (.lst us)) al (.lst (vs.set j (.ref bl)))) bl (.lst (us.set i va'))=H5 at sm5 ⊢
 have ha5:H5 al=some (.lst (vs.set j (.ref bl))):=by rw[<-hH,upd_ne hab,upd_same]
 have hb5:H5 bl=some (.lst (us.set i va')):=by rw[<-hH,upd_same]
 have fw5:Fw φ1 φ1 H1 H5:=Fw.same sm5
 have ru5:Rls X.K H5 φ1 ts us:=Rls.flat hz.2.2 ru
 refine⟨φ1,(hE1.fw S1 fw5).set il (w:=.d (.lst (ds.set j (.lst (ts.set i a))))) ?_,S1.same sm5,?_⟩
 ·exact⟨al,_,rfl,nal,.inl ha5,Rls.set j (rl.fw S1 fw5) ⟨bl,_,rfl,nbl,.inl hb5,Rls.set i ru5 (Rl.fw S1 fw5 ra)⟩⟩
 ·exact q.fw (f1.trans fw5)
end
end L2
namespace L2
open PySem PySem.Spec PyProof.Rows
section
variable {K:qac}{X:Cx}
def B8 (_ j:Int):Prop:=0<j/\j.natAbs.log2<9000
theorem wX:OpR X (qbC .FloorDiv) (rI B8 λi j=>.int (i / j)):=opI λi j _ _ _ _ _ hc q=>by
 obtain⟨h0,h1⟩:=hc
 exact floordiv_int (by lia) (by rw[qe1 i (by lia)];exact q) (.inl (PyProof.noPylong_of_log2 h1))
def mS (_:Sto):W->W->Option D
 |.d (.int i),.d (.int j)=>if 0<j/\j.natAbs.log2<9000 then some (.int (i / j)) else none
 |_,_=>none
theorem mU:OpD K X (qbC .FloorDiv) mS:=iS λst x y d h=>by
 match x,y,h with
 |.d (.int i),.d (.int j),h=>
  simp only[mS]at h
  split at h
  ·rename_i hc
   cases h;exact⟨i,j,rfl,rfl,wX.imp λvx vy H Q ⟨a,b,q⟩=>⟨i,j,a,b,hc,q⟩,rfl⟩
  ·cases h
theorem xx:dm X (.type "range") (λxs H Q=>∃ i j:Int,xs=[.int i,.int j]/\∀ p,H p=none->Q (.ref p) (upd H p (.rng i j))):=by
 intro pins s σ H xs us Q I rv h
 obtain⟨i,j,rfl,q⟩:=h
 cases rv with
 |cons r rr=>
  cases rr with
  |cons r' rr=>
   cases rr
   obtain⟨t,rfl⟩:=r
   obtain⟨t',rfl⟩:=r'
   exact call_range_2 ⟨.ref _,_,I.laid (o:=.rng i j) (λ_ _ q=>qai _ q) (qal _) ⟨_,_,_,qaE _ rfl⟩,rfl,q _ I.fresh⟩
theorem xn {acc:Array Value}{lo:Int}{n:Nat} (h:ItemsOf (λi v=>∃ t,v=Value.int (lo+(i:Int)*1) t) acc n):aU ((qah n).map λk:Nat=>V.int (lo+k)) acc.toList:=by
 obtain⟨hz,hi⟩:=h
 have key:∀ (l:List Value) (k:Nat),(∀ j v,l[j]?=some v->∃ t,v=Value.int (lo+((k+j:Nat):Int)) t)->aU ((qdV k l.length).map λk:Nat=>V.int (lo+k)) l:=by
  intro l
  induction l with
  |nil=>intro k _;exact .nil
  |cons x l ih=>
   intro k h
   obtain⟨t,e⟩:=h 0 x rfl
   rw[qas,qgl,qaB]
   refine .cons ⟨t,e⟩ (ih (k+1) λj v hv=>?_)
   obtain⟨t,e⟩:=h (j+1) v (by simpa using hv)
   exact⟨t,by rw[e,show k+(j+1)=k+1+j by lia]⟩
 have:=key acc.toList 0 λj v hv=>by
  obtain⟨t,e⟩:=hi j v (by simpa using hv)
  exact⟨t,by rw[e,qd6,qbN]⟩
 rw[qfx]
 rw[qcZ,hz]at this
 exact this
theorem uT (hc:X.calm=true:=by rfl):dm X (.type "list") (λxs H Q=>∃ (p:Addr) (lo:Int) (n:Nat),xs=[.ref p]/\H p=some (.rng lo (lo+(n:Int)))/\n<=1000/\-1000000<=lo/\lo<=1000000/\∀ l,H l=none->Q (.ref l) (upd H l (.lst ((qah n).map λk:Nat=>V.int (lo+k))))):=by
 intro pins s σ H xs us Q I rv h
 obtain⟨p,lo,n,rfl,hp,hn,l1,l2,q⟩:=h
 cases rv with
 |cons r rr=>
  cases rr
  cases r
  obtain⟨t,u,v,e⟩:=I.hok p _ hp
  refine call_list_range (I.ok.hd hc) e ?_ (n:=n) ?_ (by lia) λh' tk acc c kp e' hacc=>?_
  ·have fl:∀ z:Int,-2000000<=z->z<=2000000->qdT z=true:=λz h1 h2=>by
    unfold qdT
    simp only[qaR,decide_eq_true_eq]
    omega
   have hsz:qeh lo (lo+(n:Int)) 1=(n:Int):=by rw[qfN];split<;>lia
   unfold qha
   rw[hsz]
   simp[fl lo (by lia) (by lia),fl (lo+(n:Int)) (by lia) (by lia),fl 1 (by lia) (by lia),fl (n:Int) (by lia) (by lia)]
  ·rw[qfN];split<;>lia
  ·exact⟨.ref s.heap.objs.size,_,I.laid (t':=tk) kp (qal _) (show dI X.prog X.w _ h' _ (.lst ((qah n).map λk:Nat=>V.int (lo+k))) from ⟨by rw[qam,qap];exact qg hn,acc.toList,c,xn hacc,by simpa using e'⟩),rfl,q _ (I.hok.fresh (qal _))⟩
def vw (a:Af):Lf
 |env,st=>(a env st).bind λr=>match r.1 with
 |[.d (.int j)]=>if 0<=j/\j<=1000 then some (dn 0 j.toNat,r.2) else none
 |_=>none
def qK (a:Af):Lf
 |env,st=>(a env st).bind λr=>match r.1 with
 |[.d (.int i),.d (.int j)]=>if 0<=j - i/\j - i<=1000/\-1000000<=i/\i<=1000000 then some (dn i (j - i).toNat,r.2) else none
 |_=>none
theorem Rls.rng {H:Hp}{φ:List Addr} (lo:Int) (n:Nat):Rls K H φ (dn lo n) ((qah n).map λk:Nat=>V.int (lo+k)):=by
 have:dn lo n=((qah n).map λk:Nat=>lo+(k:Int)).map D.int:=by unfold dn;rw[qbi];rfl
 rw[this,show ((qah n).map λk:Nat=>V.int (lo+k))=((qah n).map λk:Nat=>lo+(k:Int)).map V.int by rw[qbi];rfl]
 exact Rls.of_ints _
variable {a b:Expr}{af:Af}{p1 p2 p3 p4:Pos}
theorem AI (hgL:Gl X "list") (hmL:X.mg "list" = none) (hgR:Gl X "range") (hmR:X.mg "range" = none) (ha:IA K X [a] af) (hc:X.calm=true:=by rfl) (hs:aP a=true:=by rfl) :
  IL K X (.Call (.Name "list" p1) [.Call (.Name "range" p2) [a] [] p3] [] p4) (vw af):=by
 refine⟨λenv st r hr=>?_⟩
 simp only[vw,qaa]at hr
 obtain⟨⟨ws,s1⟩,hw,hr⟩:=hr
 dsimp only at hr
 split at hr
 case h_2=>cases hr
 rename_i j
 split at hr
 case isFalse=>cases hr
 rename_i hj
 cases hr
 refine (fH (uT hc) hgL hmL qbM (mM (fH yH hgR hmR qem (ha.run _ _ _ hw) (by decide) (by decide) (bG hs) (cF rfl)) qc (bG rfl)) (by decide) (by decide) (bG rfl) (cF rfl)).imp ?_
 rintro σ H Q ⟨φ,hE,hS,q⟩
 refine⟨φ,hE,hS,λvs H1 φ1 f1 s1' w1=>?_⟩
 obtain⟨v,r,rfl,r1,rfl⟩:=w1
 have r1:v=.int j:=r1
 subst r1
 refine⟨j,rfl,λp hp=>⟨p,0,j.toNat,rfl,?_,by lia,by lia,by lia,λl hl=>?_⟩⟩
 ·rw[upd_same,qhY,qf0 hj.1]
 ·exact q l _ _ φ1 (f1.trans (Fw.new hp)) (s1'.new hp) hl (Rls.rng 0 j.toNat)
theorem wz (hgL:Gl X "list") (hmL:X.mg "list" = none) (hgR:Gl X "range") (hmR:X.mg "range" = none) (ha:IA K X [a,b] af) (hc:X.calm=true:=by rfl) (hs:aP a=true:=by rfl) (hs2:aP b=true:=by rfl) :
  IL K X (.Call (.Name "list" p1) [.Call (.Name "range" p2) [a,b] [] p3] [] p4) (qK af):=by
 refine⟨λenv st r hr=>?_⟩
 simp only[qK,qaa]at hr
 obtain⟨⟨ws,s1⟩,hw,hr⟩:=hr
 dsimp only at hr
 split at hr
 case h_2=>cases hr
 rename_i i j
 split at hr
 case isFalse=>cases hr
 rename_i hj
 cases hr
 refine (fH (uT hc) hgL hmL qbM (mM (fH xx hgR hmR qem (ha.run _ _ _ hw) (by decide) (by decide) (bG hs) (cF (by rw[qbp,hs2];rfl))) qc (bG rfl)) (by decide) (by decide) (bG rfl) (cF rfl)).imp ?_
 rintro σ H Q ⟨φ,hE,hS,q⟩
 refine⟨φ,hE,hS,λvs H1 φ1 f1 s1' w1=>?_⟩
 obtain⟨v,r,rfl,r1,u,r',rfl,r2,rfl⟩:=w1
 have r1:v=.int i:=r1
 have r2:u=.int j:=r2
 subst r1 r2
 refine⟨i,j,rfl,λp hp=>⟨p,i,(j - i).toNat,rfl,?_,by lia,by lia,by lia,λl hl=>?_⟩⟩
 ·rw[upd_same,qf0 hj.1,show i+(j - i)=j by lia]
 ·exact q l _ _ φ1 (f1.trans (Fw.new hp)) (s1'.new hp) hl (Rls.rng i (j - i).toNat)
end
section
variable {K:qac}{X:Cx}
end
def uP (_:Sto):List W->Option D
 |[.d (.lst ds)]=>(jI ds).map λns=>.bl (ns.any id)
 |_=>none
section
variable {K:qac}{X:Cx}
theorem vD:dm X (.builtin "any") (λxs H Q=>X.calm=true/\∃ (a:Addr) (bs:List Bool),xs=[.ref a]/\SqL X.K H a (bs.map V.bl)/\Q (.bl (bs.any id)) H):=by
 intro pins s σ H xs us Q I rv h
 obtain⟨hc,a,bs,rfl,hq,q⟩:=h
 cases rv with
 |cons r rr=>
  cases rr
  cases r
  obtain⟨its,rv,p,hz⟩:=I.list hq
  have hlt:a<s.heap.objs.size:=by obtain⟨_,_,e,_⟩:=p;exact qaz e
  have hlen:its.length=bs.length:=by have:=rv.length;simpa using this.symm
  refine call_any_walk (qdD p.isList ?_)
  refine⟨s.heap.objs.size,_,_,_,_,_,λi=>(bs[i]?).getD true,rfl,qhd (A:=X.A.in1) (I.ok.hd hc) s.heap.objs.size a (qaO hlt) its.toArray,⟨⟨_,qaE _ rfl,rfl,rfl⟩,p.isList.push _⟩,?_,λh' tk hk=>?_⟩
  ·intro i v s' Q' E' hv hQ'
   have hv':its[i]?=some v:=by simpa using hv
   have hi:i<its.length:=(qao.mp hv').1
   obtain⟨b,hb⟩:∃ b,bs[i]?=some b:=⟨bs[i]'(by lia),by simp[show i<bs.length by lia]⟩
   have:(bs.map V.bl)[i]?=some (.bl b):=by rw[qaS,hb];rfl
   obtain⟨u,hu,ru⟩:=rv.get this
   rw[hv']at hu
   cases hu
   cases ru
   have hQ2:Q' ((bs[i]?).getD true) s':=hQ'
   rw[hb]at hQ2
   exact qcs hQ2
  ·refine⟨.bl (bs.any id),H,I.kept (t':=tk) (λb o e=>hk b o (λz=>absurd (qaz e) (by rw[qag.mp z];exact qaX _)) (qai _ e)),?_,q⟩
   show Value.bool _=Value.bool _
   congr 1
   have:∀ n,n=bs.length->((qah n).any λi=>(bs[i]?).getD true)=bs.any id:=by
    intro n hn
    subst hn
    rw[qbK,qez,qez]
    constructor
    ·rintro⟨i,hi,h⟩
     have hi':=qaG.mp hi
     refine⟨bs[i],qcV hi',?_⟩
     rw[qaK hi']at h
     exact h
    ·rintro⟨x,hx,h⟩
     obtain⟨i,hi,rfl⟩:=List.getElem_of_mem hx
     refine⟨i,qaG.mpr hi,?_⟩
     rw[qaK hi]
     exact h
   exact this _ (by simpa using hlen)
theorem xU (hc:X.calm=true:=by rfl) (hK:X.K=K:=by rfl):ja K X (.builtin "any") uP:=by
 subst hK
 refine⟨λst ws d h=>?_⟩
 match ws,h with
 |[.d (.lst ds)],h=>
  obtain⟨ns,e,rfl⟩:=qad.mp h
  cases jt e
  refine dm.imp vD ?_
  rintro vs H Q ⟨φ,S,⟨v,r,rfl,⟨a,us,rfl,h0,h1,h2⟩,rfl⟩,q⟩
  cases h2.bools
  exact⟨hc,a,ns,rfl,.inl h1,q _ H (bx.refl H) rfl⟩
end
end L2
namespace Own
open PySem L2
noncomputable section
def ky:Sf:=(br (d7 (iCB gm (aa (iV 0) (aa (iC (.ty "int")) ae))) (uQ (iCB gm (aa (iV 0) (aa (iC (.ty "bool")) ae))))))
def dJ:Fn:=cC 1 1 ky
def mx:Ef:=(d7 (av dJ (aa (iV 0) ae)) (iOp dGe (iV 0) (iC (.int 0))))
def iu:Sf:=(ar (ca (cG (bB (bM bN (iCB gm (aa (iV 0) (aa (iC (.ty "tuple")) ae))))) (bh dNe (iCB bf (aa (iV 0) ae)) (iV 1))) (br (iC (.bl false))) bm) (br (iCB ms (aa (aA (iLc 1 [] (bj (iV 0)) (.nm 0) bn mx)) ae))))
def bH:Fn:=cC 2 2 iu
def gH:Tf:=(bh dNe (iV 3) (iC (.int 0)))
def ig:Sf:=(ar (aN (.nm 4) (iOp jD (iV 1) (iV 3))) (ar (aN (.nm 1) (iV 3)) (aN (.nm 3) (iV 4))))
def hJ:Sf:=(ar (aN (.nm 3) (iCB tu (aa (iV 2) ae))) (uB (2^8000) gH ig))
def eI:Sf:=(ar (aN (.nm 1) (iC (.int 0))) (ar (jh (bj (iV 0)) (.nm 2) hJ) (br (iV 1))))
def du:Fn:=cC 5 1 eI
def lT:Ef:=(iOp mS (iV 0) (iV 1))
def jN:Sf:=(ar (aN (.nm 1) (av du (aa (iV 0) ae))) (ar (ca (bh dEq (iV 1) (iC (.int 0))) (br (iCB jE (aa (iV 0) ae))) bm) (br (iCB jE (aa (aA (iLc 1 [1] (bj (iV 0)) (.nm 0) bn lT)) ae)))))
def iL:Fn:=cC 2 1 jN
def jf:Ef:=(iOp cv (iV 0) (iV 1))
def eh:Sf:=(br (iCB qh (aa (aA (iLc 2 [] (eE (aa (iV 0) (aa (iV 1) ae))) (.tp [0,1]) bn jf)) ae)))
def aZ:Fn:=cC 2 2 eh
def j9:Ef:=(iOp dIx (iV 0) (iV 1))
def ij:Sf:=(br (aA (iLc 1 [1] (bj (iV 0)) (.nm 0) bn j9)))
def jG:Fn:=cC 2 2 ij
def im:Ef:=(iOp dLe (av aZ (aa (iV 0) (aa (iV 2) ae))) (iOp cv (iV 1) (iV 3)))
def eF:Sf:=(br (iCB ms (aa (aA (iLc 2 [2,3] (eE (aa (iV 0) (aa (iV 1) ae))) (.tp [0,1]) bn im)) ae)))
def cE:Fn:=cC 4 4 eF
def jd:Ef:=(iOp dGe (av aZ (aa (av jG (aa (iV 2) (aa (iV 0) ae))) (aa (iV 3) ae))) (iOp cv (iV 1) (iV 4)))
def fQ:Sf:=(br (iCB ms (aa (aA (iLc 2 [0,2,3] (gu (aa (iV 1) ae)) (.tp [0,1]) bn jd)) ae)))
def fZ:Fn:=cC 4 4 fQ
def dE:Sf:=(ar (ca (cG (bB (bM bN (av dJ (aa (iV 3) ae)))) (bh dLt (iV 3) (iC (.int 1)))) (br (iC (.bl false))) bm) (ar (ca (cG (bB (bM bN (av bH (aa (iV 4) (aa (iCB bf (aa (iV 2) ae)) ae))))) (bB (bM bN (av bH (aa (iV 5) (aa (iCB bf (aa (iV 0) ae)) ae)))))) (br (iC (.bl false))) bm) (ar (ca (cG (bB (bM bN (av cE (aa (iV 0) (aa (iV 1) (aa (iV 4) (aa (iV 3) ae))))))) (bB (bM bN (av fZ (aa (iV 0) (aa (iV 2) (aa (iV 5) (aa (iV 3) ae)))))))) (br (iC (.bl false))) bm) (br (iOp dEq (av aZ (aa (iV 1) (aa (iV 5) ae))) (av aZ (aa (iV 2) (aa (iV 4) ae))))))))
def iO:Fn:=cC 6 6 dE
def iH:Sf:=(ar (ca (bB (bM bN (av bH (aa (iV 2) (aa (iCB bf (aa (iV 1) ae)) ae))))) (br (iC (.bl false))) bm) (br (d7 (av cE (aa (iV 0) (aa (iOp cv (aA (cf (aa (iC (.int 0)) ae))) (iCB bf (aa (iV 0) ae))) (aa (iV 2) (aa (iC (.int 1)) ae))))) (iOp dGt (av aZ (aa (iV 1) (aa (iV 2) ae))) (iC (.int 0))))))
def lp:Fn:=cC 3 3 iH
def cK:Sf:=(ar (ca (cG (bB (bM bN (iCB gm (aa (iV 3) (aa (iC (.ty "tuple")) ae))))) (cG (bh jj (iCB bf (aa (iV 3) ae)) (bE (aa (iC (.int 2)) (aa (iC (.int 4)) ae)))) (bB (bM bN (iCB gm (aa (iOp dIx (iV 3) (iC (.int 0))) (aa (iC (.ty "str")) ae))))))) (br (iC (.bl false))) bm) (ar (ca (bh dEq (iCB bf (aa (iV 3) ae)) (iC (.int 4))) (br (d7 (iOp dEq (iOp dIx (iV 3) (iC (.int 0))) (iC (.str "most"))) (av iO (aa (iV 0) (aa (iV 1) (aa (iV 2) (aa (iOp dIx (iV 3) (iC (.int 1))) (aa (iOp dIx (iV 3) (iC (.int 2))) (aa (iOp dIx (iV 3) (iC (.int 3))) ae))))))))) bm) (br (d7 (iOp dEq (iOp dIx (iV 3) (iC (.int 0))) (iC (.str "beyond"))) (av lp (aa (iV 0) (aa (iV 2) (aa (iOp dIx (iV 3) (iC (.int 1))) ae))))))))
def ci:Fn:=cC 4 4 cK
def jk:Ef:=(iOp cg (aA (iCL mT (aa (iV 0) ae))) (aA (cf (aa (iV 1) ae))))
def jz:Ef:=(iUn mq (iV 0))
def d5:List (Str×Ef):=[("amounts",(iCB bf (aa (iV 3) ae))),("lines",(aA (iLc 2 [] (eE (aa (iV 1) (aa (iV 2) ae))) (.tp [0,1]) bn jk))),("goal",(iOp cg (aA (iLc 1 [] (bj (iV 3)) (.nm 0) bn jz)) (aA (cf (aa (iC (.int 0)) ae))))),("part",(iC (.int 1))),("free",(fF (vw (aa (iCB bf (aa (iV 3) ae)) ae)))),("kept",(fF (qK (aa (iCB bf (aa (iV 3) ae)) (aa (iOp cg (iCB bf (aa (iV 3) ae)) (iCB bf (aa (iV 1) ae))) ae)))))]
def bA:Sf:=(ar (ca (bM bN (iV 3)) (ar (aN (.nm 5) (iOp cv (iOp dIx (iV 1) (iV 4)) (iOp dIx (iV 2) (iOp dIx (iV 3) (iC (.int 0)))))) (ar (aN (.nm 6) (iOp cv (iOp dIx (iV 1) (iOp dIx (iV 3) (iC (.int 0)))) (iOp dIx (iV 2) (iV 4)))) (ar (ca (bh dGt (iV 5) (iV 6)) oY bm) (ca (bh dLt (iV 5) (iV 6)) (aN (.nm 3) (fF (cf ae))) bm)))) bm) (kg (lW hZ (iV 3) (aa (iV 4) ae))))
def fX:Sf:=(ar (aN (.nm 3) (fF (cf ae))) (ar (jh (bj (iV 0)) (.nm 4) bA) (br (iV 3))))
def ir:Fn:=jX 7 3 fX
def jQ:Sf:=(br (iOp cg (aA (cf (aa (iC .non) ae))) (aA (qK (aa (aw "amounts" (iV 0)) (aa (iOp cg (aw "amounts" (iV 0)) (iCB bf (aa (aw "lines" (iV 0)) ae))) ae))))))
def gD:Fn:=cC 1 1 jQ
def n0:Ef:=(my (bh dEq (iV 0) (iV 1)) (aw "part" (iV 2)) (iC (.int 0)))
def nC:Ef:=(iOp dIx (iV 0) (iV 1))
def mO:Ef:=(iOp dIx (iV 0) (iUn mq (iC (.int 1))))
def fD:Sf:=(ar (ca (bh kA (iV 1) (iC .non)) (br (aA (iLc 1 [] (bj (aw "lines" (iV 0))) (.nm 0) bn mO))) bm) (ar (ca (bh dIn (iV 1) (aw "free" (iV 0))) (ar (aN (.nm 2) (wP (aw "free" (iV 0)) (aa (iV 1) ae))) (br (aA (iLc 1 [2] (bj (aw "lines" (iV 0))) (.nm 0) bn nC)))) bm) (br (aA (iLc 1 [1,0] (bj (aw "kept" (iV 0))) (.nm 0) bn n0)))))
def fA:Fn:=cC 3 2 fD
def gZ:Sf:=(ar (ca (bh dLt (iCB bf (aa (iV 3) ae)) (iC (.int 2))) sS bm) (aN (.nm 3) (av ir (aa (iV 3) (aa (av fA (aa (iV 0) (aa (iV 4) ae))) (aa (iV 2) ae))))))
def lS:Ef:=(iV 0)
def lV:Tf:=(bh dGt (iV 1) (iC (.int 0)))
def mh:Ef:=(iOp dIx (iV 0) (iV 1))
def jP:Sf:=(ar (aN (.nm 2) (aA (iLc 1 [1] (bj (aw "lines" (iV 0))) (.nm 0) bn mh))) (ar (aN (.nm 3) (aA (iLc 2 [] (gu (aa (iV 2) ae)) (.tp [0,1]) lV lS))) (ar (jh (bj (av gD (aa (iV 0) ae))) (.nm 4) gZ) (br (my (bM bN (iV 3)) (iOp dIx (iV 3) (iC (.int 0))) (iC .non))))))
def jR:Fn:=cC 5 2 jP
def dO:Sf:=(ar (aN (.nm 6) (av fA (aa (iV 0) (aa (iV 5) ae)))) (ar (aN (.nm 7) (iOp oi (iOp cv (iV 4) (iOp dIx (iV 6) (iOp dIx (iV 2) (iC (.int 1))))) (iOp cv (iV 3) (iOp dIx (iV 6) (iOp dIx (iV 1) (iC (.int 1))))))) (ca (bh dNe (iV 7) (iC (.int 0))) (br (iOp dGt (iV 7) (iC (.int 0)))) bm)))
def fv:Sf:=(ar (aN (.nm 3) (iOp cv (iOp dIx (aw "goal" (iV 0)) (iOp dIx (iV 1) (iC (.int 0)))) (iOp dIx (iOp dIx (aw "lines" (iV 0)) (iOp dIx (iV 2) (iC (.int 1)))) (iOp dIx (iV 2) (iC (.int 0)))))) (ar (aN (.nm 4) (iOp cv (iOp dIx (aw "goal" (iV 0)) (iOp dIx (iV 2) (iC (.int 0)))) (iOp dIx (iOp dIx (aw "lines" (iV 0)) (iOp dIx (iV 1) (iC (.int 1)))) (iOp dIx (iV 1) (iC (.int 0)))))) (ar (jh (bj (av gD (aa (iV 0) ae))) (.nm 5) dO) (br (iC (.bl false))))))
def dU:Fn:=cC 8 3 fv
def dw:Sf:=(ar (ca (bh dGe (iOp dIx (aw "goal" (iV 0)) (iV 2)) (iC (.int 0))) oY bm) (ar (aN (.nm 3) (bE (aa (iV 2) (aa (av jR (aa (iV 0) (aa (iV 2) ae))) ae)))) (ar (ca (bh kA (iOp dIx (iV 3) (iC (.int 1))) (iC .non)) (br (iV 3)) bm) (ca (cG (bh kA (iV 1) (iC .non)) (bM bN (av dU (aa (iV 0) (aa (iV 3) (aa (iV 1) ae)))))) (aN (.nm 1) (iV 3)) bm))))
def gk:Sf:=(ar (aN (.nm 1) (iC .non)) (ar (jh (cO (aa (iCB bf (aa (aw "free" (iV 0)) ae)) ae)) (.nm 2) dw) (br (iV 1))))
def cZ:Fn:=cC 4 1 gk
def lP:Ef:=(iOp mS (iOp oi (iOp cv (iV 2) (iV 0)) (iOp cv (iV 3) (iV 1))) (iV 4))
def mF:Sf:=(ar (aN (.nm 4) (iOp dIx (iV 1) (iV 2))) (ar (aN (.nm 5) (iOp dIx (iV 0) (iV 2))) (ar (aN (.nm 6) (fF (iLc 2 [4,5,3] (eE (aa (iV 0) (aa (iV 1) ae))) (.tp [0,1]) bn lP))) (ar (cn (iV 6) (iV 2) (iUn mq (iV 5))) (br (iV 6))))))
def jT:Fn:=jX 7 4 mF
def gA:Ef:=(av jT (aa (iV 0) (aa (iV 1) (aa (iV 2) (aa (iV 3) ae)))))
def gK:Sf:=(ar (aN (.nm 3) (iOp dIx (aw "lines" (iV 0)) (iV 1))) (ar (aN (.nm 4) (aw "part" (iV 0))) (ar (i3 5 1 2 3 4 (iLc 1 [3,2,4] (bj (aw "lines" (iV 0))) (.nm 0) bn gA)) (ar (j5 "goal" (iV 0) (av jT (aa (aw "goal" (iV 0)) (aa (iV 3) (aa (iV 2) (aa (iV 4) ae)))))) (ar (j5 "lines" (iV 0) (iV 5)) (ar (j5 "part" (iV 0) (iOp dIx (iV 3) (iV 2))) (ar (aN (.nm 6) (iOp dIx (aw "free" (iV 0)) (iV 2))) (ar (cn (aw "free" (iV 0)) (iV 2) (iOp dIx (aw "kept" (iV 0)) (iV 1))) (cn (aw "kept" (iV 0)) (iV 1) (iV 6))))))))))
def fJ:Fn:=jX 7 3 gK
def mV:Sf:=(ca (bh dLt (iV 4) (aw "amounts" (iV 0))) (cn (iV 2) (iV 4) (iUn mq (iOp dIx (iOp dIx (aw "lines" (iV 0)) (iV 3)) (iV 1)))) bm)
def kO:Sf:=(ar (aN (.nm 2) (fF (ui oq (aA (cf (aa (iC (.int 0)) ae))) (aw "amounts" (iV 0))))) (ar (jh (gu (aa (aw "kept" (iV 0)) ae)) (.tp [3,4]) mV) (ar (ca (bh dLt (iOp dIx (aw "free" (iV 0)) (iV 1)) (aw "amounts" (iV 0))) (cn (iV 2) (iOp dIx (aw "free" (iV 0)) (iV 1)) (aw "part" (iV 0))) bm) (br (gv iL (aa (iV 2) ae))))))
def kT:Fn:=jX 5 2 kO
def jm:Sf:=(ca (bh dLt (iV 3) (aw "amounts" (iV 0))) (cn (iV 1) (iV 3) (iOp dIx (iOp dIx (aw "lines" (iV 0)) (iV 2)) (iUn mq (iC (.int 1))))) bm)
def gy:Sf:=(ar (aN (.nm 1) (fF (ui oq (aA (cf (aa (iC (.int 0)) ae))) (aw "amounts" (iV 0))))) (ar (jh (gu (aa (aw "kept" (iV 0)) ae)) (.tp [2,3]) jm) (br (iV 1))))
def iY:Fn:=jX 4 1 gy
def kj:Sf:=(ca (bh dGe (iV 3) (aw "amounts" (iV 0))) (cn (iV 1) (iOp oi (iV 3) (aw "amounts" (iV 0))) (iOp dIx (aw "goal" (iV 0)) (iV 2))) bm)
def ie:Sf:=(ar (aN (.nm 1) (fF (ui oq (aA (cf (aa (iC (.int 0)) ae))) (iCB bf (aa (aw "lines" (iV 0)) ae))))) (ar (jh (gu (aa (aw "free" (iV 0)) ae)) (.tp [2,3]) kj) (br (iV 1))))
def ji:Fn:=jX 4 1 ie
def fz:Ef:=(iOp mS (iV 0) (iV 1))
def ft:Ef:=(iOp mS (iV 0) (iV 1))
def gB:Sf:=(ar (aN (.nm 1) (av iY (aa (iV 0) ae))) (ar (aN (.nm 2) (av ji (aa (iV 0) ae))) (ar (aN (.nm 3) (av du (aa (iOp cg (iOp cg (aA (cf (aa (aw "part" (iV 0)) ae))) (iV 1)) (iV 2)) ae))) (br (bE (aa (iC (.str "most")) (aa (iOp mS (aw "part" (iV 0)) (iV 3)) (aa (iCB jE (aa (aA (iLc 1 [3] (bj (iV 1)) (.nm 0) bn ft)) ae)) (aa (iCB jE (aa (aA (iLc 1 [3] (bj (iV 2)) (.nm 0) bn fz)) ae)) ae)))))))))
def iQ:Fn:=cC 4 1 gB
def iZ:Tf:=(bh zu (iV 4) (iC .non))
def gY:Sf:=(ar (ca (bh kA (iOp dIx (iV 4) (iC (.int 1))) (iC .non)) (br (bE (aa (iC (.str "beyond")) (aa (gv kT (aa (iV 3) (aa (iOp dIx (iV 4) (iC (.int 0))) ae))) ae)))) bm) (ar (kg (av fJ (aa (iV 3) (aa (iOp dIx (iV 4) (iC (.int 1))) (aa (iOp dIx (iV 4) (iC (.int 0))) ae))))) (aN (.nm 4) (gv cZ (aa (iV 3) ae)))))
def iK:Sf:=(ar (aN (.nm 3) (ph 4 4 d5 (aa (iV 0) (aa (iV 1) (aa (iV 2) ae))))) (ar (aN (.nm 4) (gv cZ (aa (iV 3) ae))) (ar (uB (2^8000) iZ gY) (br (gv iQ (aa (iV 3) ae))))))
def jU:Fn:=cC 5 3 iK
def gU:Sf:=(ar (aN (.nm 2) (my (bh dLt (iV 1) (iCB bf (aa (iV 0) ae))) (iOp dIx (iV 0) (iV 1)) (iC (.int 0)))) (ar (aN (.nm 3) (iOp cv (iCB tu (aa (iV 2) ae)) (iCB vo (aa (iOp dGe (iCB tu (aa (iV 2) ae)) (iOp mz (iC (.int 10)) (iC (.int 18)))) ae)))) (br (fF (cf (aa (iV 3) (aa (iOp jD (iOp cv (iOp cg (iOp cg (iOp jD (iV 2) (iC (.int 2147483629))) (iOp cv (iOp cv (iC (.int 5303)) (iV 1)) (iV 1))) (iC (.int 17))) (iC (.int 48271))) (iC (.int 2147483647))) (aa (iC (.int 0)) ae))))))))
def fE:Fn:=cC 4 2 gU
def eV:Sf:=(ar (cn (iV 0) (iC (.int 2)) (iOp cg (iOp dIx (iV 0) (iC (.int 2))) (iC (.int 1)))) (ar (ca (pb (bh dGt (iOp dIx (iV 0) (iC (.int 0))) (iC (.int 0))) (bh dLe (iOp dIx (iV 0) (iC (.int 2))) (iC (.int 400)))) (ar (aN (.nm 2) (iOp jD (iOp dIx (iV 0) (iC (.int 0))) (iV 1))) (ar (cn (iV 0) (iC (.int 0)) (iOp nh (iOp dIx (iV 0) (iC (.int 0))) (iV 1))) (br (iV 2)))) bm) (ar (cn (iV 0) (iC (.int 1)) (iOp jD (iOp cg (iOp cg (iOp cv (iOp dIx (iV 0) (iC (.int 1))) (iC (.int 48271))) (iC (.int 12345))) (iOp dIx (iV 0) (iC (.int 2)))) (iC (.int 2147483647)))) (br (iOp jD (iOp nh (iOp jD (iOp cv (iOp dIx (iV 0) (iC (.int 1))) (iOp cg (iOp jD (iOp dIx (iV 0) (iC (.int 1))) (iC (.int 39373))) (iC (.int 7)))) (iC (.int 2147483629))) (iC (.int 64))) (iV 1))))))
def aH:Fn:=cC 3 2 eV
def iB:Ef:=(iOp oi (av aH (aa (iV 1) (aa (iC (.int 9)) ae))) (iC (.int 3)))
def fT:Ef:=(iOp cv (av aH (aa (iV 1) (aa (iC (.int 8)) ae))) (iV 2))
def og:Sf:=(ar (aN (.nm 5) (iOp dIx (aA (cf (aa (iC (.int 1)) (aa (iC (.int 1)) (aa (iC (.int 1)) (aa (iOp mz (iC (.int 10)) (iC (.int 12))) ae)))))) (av aH (aa (iV 0) (aa (iC (.int 4)) ae))))) (ar (aN (.nm 6) (iCB jE (aa (aA (sY 1 [0,5] (iV 3) (.nm 0) bn fT)) ae))) (br (bE (aa (iCB jE (aa (iV 3) ae)) (aa (iV 6) (aa (iCB jE (aa (aA (iLc 1 [0] (cO (aa (iV 1) ae)) (.nm 0) bn iB)) ae)) ae)))))))
def fY:Ef:=(iOp cv (iOp oi (av aH (aa (iV 1) (aa (iC (.int 7)) ae))) (iV 2)) (iCB vo (aa (iOp dGt (av aH (aa (iV 1) (aa (iC (.int 4)) ae))) (iC (.int 0))) ae)))
def j6:Sf:=(kg (lW hZ (iV 3) (aa (iCB jE (aa (aA (iLc 1 [0,2] (cO (aa (iV 1) ae)) (.nm 0) bn fY)) ae)) ae)))
def ge:Sf:=(ar (aN (.nm 1) (iOp cg (iC (.int 1)) (av aH (aa (iV 0) (aa (iC (.int 5)) ae))))) (ar (aN (.nm 2) (iOp dIx (aA (cf (aa (iC (.int 0)) (aa (iC (.int 3)) (aa (iC (.int 1)) ae))))) (av aH (aa (iV 0) (aa (iC (.int 3)) ae))))) (ar (aN (.nm 3) (fF (cf ae))) (ar (jh (cO (aa (av aH (aa (iV 0) (aa (iC (.int 6)) ae))) ae)) (.nm 4) j6) og))))
def jy:Fn:=jX 7 1 ge
def pX:Ef:=(iOp cv (iV 0) (iV 1))
def kE:Sf:=(br (iCB qh (aa (aA (iLc 2 [] (eE (aa (iV 0) (aa (iV 1) ae))) (.tp [0,1]) bn pX)) ae)))
def cN:Fn:=cC 2 2 kE
def i7:Sf:=(br (d7 (iCB gm (aa (iV 0) (aa (iC (.ty "int")) ae))) (uQ (iCB gm (aa (iV 0) (aa (iC (.ty "bool")) ae))))))
def cI:Fn:=cC 1 1 i7
def lO:Ef:=(d7 (av cI (aa (iV 0) ae)) (iOp dGe (iV 0) (iC (.int 0))))
def gR:Sf:=(ar (ca (cG (bB (bM bN (iCB gm (aa (iV 0) (aa (iC (.ty "tuple")) ae))))) (bh dNe (iCB bf (aa (iV 0) ae)) (iV 1))) (br (iC (.bl false))) bm) (br (iCB ms (aa (aA (iLc 1 [] (bj (iV 0)) (.nm 0) bn lO)) ae))))
def bo:Fn:=cC 2 2 gR
def fj:Ef:=(iOp cv (iOp dIx (iV 0) (iV 2)) (iV 1))
def cb:Sf:=(ca (bh dLt (iCB qh (aa (aA (iLc 2 [7] (eE (aa (iV 4) (aa (iV 3) ae))) (.tp [0,1]) bn fj)) ae)) (iOp cv (iOp dIx (iV 6) (iV 7)) (iV 1))) (br (iC (.bl false))) bm)
def fk:Ef:=(iOp dGt (av cN (aa (iV 0) (aa (iV 2) ae))) (iOp cv (iV 1) (iV 3)))
def bP:Sf:=(ar (aN (.tp [4,5,6]) (iV 0)) (ar (ca (cG (bB (bM bN (av cI (aa (iV 1) ae)))) (cG (bh dLt (iV 1) (iC (.int 1))) (bB (bM bN (av bo (aa (iV 2) (aa (iCB bf (aa (iV 6) ae)) ae))))))) (br (iC (.bl false))) bm) (ar (ca (bB (bM bN (av bo (aa (iV 3) (aa (iCB bf (aa (iV 4) ae)) ae))))) (br (iC (.bl false))) bm) (ar (ca (bM bN (iCB uP (aa (aA (iLc 2 [2,1] (eE (aa (iV 4) (aa (iV 5) ae))) (.tp [0,1]) bn fk)) ae))) (br (iC (.bl false))) bm) (ar (jh (cO (aa (iCB bf (aa (iV 6) ae)) ae)) (.nm 7) cb) (br (iOp dEq (av cN (aa (iV 5) (aa (iV 3) ae))) (av cN (aa (iV 6) (aa (iV 2) ae))))))))))
def eJ:Fn:=cC 8 4 bP
def i4:Ef:=(iOp dLe (av cN (aa (iV 0) (aa (iOp dIx (iV 1) (iC (.int 1))) ae))) (iC (.int 0)))
def dg:Sf:=(ar (ca (cG (bB (bM bN (iCB gm (aa (iV 1) (aa (iC (.ty "tuple")) ae))))) (cG (bh jj (iCB bf (aa (iV 1) ae)) (bE (aa (iC (.int 2)) (aa (iC (.int 4)) ae)))) (bB (bM bN (iCB gm (aa (iOp dIx (iV 1) (iC (.int 0))) (aa (iC (.ty "str")) ae))))))) (br (iC (.bl false))) bm) (ar (ca (bh dEq (iCB bf (aa (iV 1) ae)) (iC (.int 4))) (br (d7 (iOp dEq (iOp dIx (iV 1) (iC (.int 0))) (iC (.str "most"))) (av eJ (aa (iV 0) (aa (iOp dIx (iV 1) (iC (.int 1))) (aa (iOp dIx (iV 1) (iC (.int 2))) (aa (iOp dIx (iV 1) (iC (.int 3))) ae))))))) bm) (ar (ca (cG (bh dNe (iOp dIx (iV 1) (iC (.int 0))) (iC (.str "beyond"))) (bB (bM bN (av bo (aa (iOp dIx (iV 1) (iC (.int 1))) (aa (iCB bf (aa (iOp dIx (iV 0) (iC (.int 2))) ae)) ae)))))) (br (iC (.bl false))) bm) (br (d7 (iCB ms (aa (aA (iLc 1 [1] (bj (iOp dIx (iV 0) (iC (.int 0)))) (.nm 0) bn i4)) ae)) (iOp dGt (av cN (aa (iOp dIx (iV 0) (iC (.int 2))) (aa (iOp dIx (iV 1) (iC (.int 1))) ae))) (iC (.int 0))))))))
def dk:Fn:=cC 2 2 dg
def fK:Sf:=(ar (aN (.nm 2) (aA (cf (aa (iC .non) (aa (iC (.bl true)) (aa (iC (.bl false)) (aa (iC (.int 0)) (aa (iC (.int 1)) (aa (iUn mq (iC (.int 1))) (aa (iC (.str "")) (aa (iC (.str "most")) (aa (iC (.str "beyond")) (aa (iC (.str "Most")) (aa (bE ae) (aa (aA (cf ae)) (aa (iC .dct) (aa (bE (aa (iV 1) ae)) (aa (aA (cf (aa (iV 1) ae))) (aa (iOp mz (iC (.int 10)) (iC (.int 19))) (aa (iC .dct) ae)))))))))))))))))))) (ar (ca (bM bN (iCB gm (aa (iV 1) (aa (iC (.ty "int")) ae)))) (aN (.nm 2) (iOp cg (iV 2) (aA (cf (aa (iCB zV (aa (iV 1) ae)) (aa (iOp dEq (iV 1) (iC (.int 1))) (aa (iOp cg (iV 1) (iC (.int 1))) (aa (iOp oi (iC (.int 0)) (iV 1)) ae)))))))) bm) (ar (ca (bM bN (iCB gm (aa (iV 1) (aa (iC (.ty "tuple")) ae)))) (aN (.nm 2) (iOp cg (iV 2) (aA (cf (aa (aA (iCL mT (aa (iV 1) ae))) (aa (iOp cg (iV 1) (bE (aa (iC (.int 0)) ae))) (aa (iSl (iV 1) (iPs (iC (.int 1))) iPn) (aa (wK (iV 1)) ae)))))))) bm) (ar (ca (bM bN (iCB gm (aa (iV 1) (aa (iC (.ty "str")) ae)))) (aN (.nm 2) (iOp cg (iV 2) (aA (cf (aa (iOp cg (iV 1) (iC (.str "a"))) (aa (xZ (iV 1) (iPs (iC (.int 1))) iPn) (aa (bE (aa (iV 1) (aa (iV 1) ae))) ae))))))) bm) (br (iOp dIx (iV 2) (av aH (aa (iV 0) (aa (iCB bf (aa (iV 2) ae)) ae)))))))))
def kv:Fn:=cC 3 2 fK
def db (self:Fn):Sf:=(ar (ca (cG (bB (bM bN (iCB gm (aa (iV 1) (aa (iC (.ty "tuple")) ae))))) (cG (bh dEq (iV 1) (bE ae)) (bh dEq (av aH (aa (iV 0) (aa (iC (.int 6)) ae))) (iC (.int 0))))) (br (av kv (aa (iV 0) (aa (iV 1) ae)))) bm) (ar (aN (.nm 2) (av aH (aa (iV 0) (aa (iCB bf (aa (iV 1) ae)) ae)))) (br (iOp cg (iOp cg (iSl (iV 1) iPn (iPs (iV 2))) (bE (aa (av self (aa (iV 0) (aa (iOp dIx (iV 1) (iV 2)) ae))) ae))) (iSl (iV 1) (iPs (iOp cg (iV 2) (iC (.int 1)))) iPn)))))
def aX:Nat->Fn
 |0=>λ_ _=>none
 |n+1=>cC 3 2 (db (aX n))
def qF:Ef:=(av (aX 5) (aa (iV 1) (aa (iV 2) ae)))
def uK:Sf:=(ar (aN (.nm 12) (av ci (aa (iV 6) (aa (iV 7) (aa (iV 8) (aa (iV 11) ae)))))) (ca (cG (bB (bM bN (iCB gm (aa (iV 12) (aa (iC (.ty "bool")) ae))))) (bh dNe (iV 12) (av dk (aa (iV 5) (aa (iV 11) ae))))) (br (iC (.bl false))) bm))
def yr:Sf:=(ar (aN (.nm 10) (aA (cf (aa (iC .non) (aa (iC (.bl true)) (aa (iC (.int 0)) (aa (iC (.str "")) (aa (iC (.str "most")) (aa (bE ae) (aa (aA (cf ae)) (aa (iC .dct) (aa (bE (aa (iC (.str "most")) ae)) (aa (bE (aa (iC (.str "beyond")) ae)) (aa (aA (iCL mT (aa (iV 9) ae))) (aa (iSl (iV 9) (iPs (iC (.int 1))) iPn) (aa (bE (aa (iV 9) ae)) (aa (iV 1) ae))))))))))))))))) (ar (aN (.nm 10) (iOp cg (iV 10) (aA (cf (aa (bE (aa (iC (.str "most")) (aa (iV 1) (aa (iV 1) (aa (iV 1) ae))))) (aa (bE (aa (iC (.str "beyond")) (aa (iV 1) ae))) (aa (bE (aa (iC (.str "beyond")) (aa (iV 8) ae))) (aa (bE (aa (iC (.str "most")) (aa (iC (.int 1)) (aa (iV 8) (aa (iV 7) ae))))) ae)))))))) (jh (bj (iOp cg (iV 10) (aA (iLc 1 [4,9] (cO (aa (iC (.int 12)) ae)) (.nm 0) bn qF)))) (.nm 11) uK)))
def pZ:Sf:=(ar (aN (.nm 4) (av fE (aa (iV 0) (aa (iV 3) ae)))) (ar (aN (.nm 5) (av jy (aa (iV 4) ae))) (ar (aN (.tp [6,7,8]) (iV 5)) (ar (aN (.nm 9) (av jU (aa (iV 6) (aa (iV 7) (aa (iV 8) ae))))) yr))))
def uJ:Sf:=(aN (.nm 1) (bE (aa (iV 1) ae)))
def vk:Sf:=(ar (aN (.nm 1) (bE ae)) (ar (jh (cO (aa (iC (.int 36)) ae)) (.nm 2) uJ) (ar (jh (cO (aa (iOp cg (iC (.int 1)) (iCB yd (aa (iC (.int 8)) (aa (iCB bf (aa (iV 0) ae)) ae)))) ae)) (.nm 3) pZ) (br (iC (.bl true))))))
def rj:Fn:=jX 13 1 vk
end
end Own
section
set_option maxHeartbeats 2000000
namespace Own
open PySem L2
def top (i:Nat):Stmt:=PySem.Challenge.pw_signpoly_k27_most_of_anything.main.body.getD i (.Pass ⟨0,0,0,0⟩)
def yP (s:Stmt):List Stmt:=match s with
 |.ClassDef _ _ _ b _ _ _ _ _ _ _=>b
 |_=>[]
abbrev eQ:Stmt:=top 1
abbrev cq:Stmt:=top 2
abbrev ce:Stmt:=top 3
abbrev eY:Stmt:=top 4
abbrev bu:Stmt:=top 5
abbrev cW:Stmt:=top 7
abbrev bQ:Stmt:=top 8
abbrev cp:Stmt:=top 9
abbrev eL:Stmt:=top 10
abbrev gJ:Stmt:=top 11
abbrev di:Stmt:=top 12
abbrev cH:Stmt:=(yP (top 14)).getD 0 (.Pass ⟨0,0,0,0⟩)
abbrev cP:Stmt:=top 15
abbrev fI:Stmt:=top 16
abbrev bW:Stmt:=top 17
abbrev dX:Stmt:=top 18
abbrev dj:Stmt:=top 19
abbrev dN:Stmt:=top 20
abbrev iq:Stmt:=top 21
abbrev dL:Stmt:=top 22
abbrev gN:Stmt:=top 23
abbrev df:Stmt:=top 24
abbrev dH:Stmt:=top 25
abbrev cj:Stmt:=top 26
abbrev fO:Stmt:=top 27
abbrev eK:Stmt:=top 29
abbrev dG:Stmt:=top 30
abbrev cr:Stmt:=top 31
abbrev dP:Stmt:=top 32
abbrev dc:Stmt:=top 33
abbrev bY:Stmt:=top 34
abbrev bJ:Stmt:=top 35
abbrev dQ:Stmt:=top 36
abbrev eO:Stmt:=top 37
abbrev cM:Stmt:=top 38
abbrev lY:Stmt:=top 39
theorem rN:aM ["thing"] ["thing"] (ah eQ):=⟨rfl,rfl,rfl,by decide +kernel,rfl,by decide +kernel,by decide +kernel⟩
theorem n4:aM ["thing","many"] ["thing","many"] (ah cq):=⟨rfl,rfl,rfl,by decide +kernel,rfl,by decide +kernel,by decide +kernel⟩
theorem bV:aM ["numbers","found","number","rest","over"] ["numbers"] (ah ce):=⟨rfl,rfl,rfl,by decide +kernel,rfl,by decide +kernel,by decide +kernel⟩
theorem nF:aM ["numbers","shared"] ["numbers"] (ah eY):=⟨rfl,rfl,rfl,by decide +kernel,rfl,by decide +kernel,by decide +kernel⟩
theorem jA:aM ["numbers","others"] ["numbers","others"] (ah bu):=⟨rfl,rfl,rfl,by decide +kernel,rfl,by decide +kernel,by decide +kernel⟩
theorem pz:aM ["rows","place"] ["rows","place"] (ah cW):=⟨rfl,rfl,rfl,by decide +kernel,rfl,by decide +kernel,by decide +kernel⟩
theorem lB:aM ["rows","bounds","amounts","part"] ["rows","bounds","amounts","part"] (ah bQ):=⟨rfl,rfl,rfl,by decide +kernel,rfl,by decide +kernel,by decide +kernel⟩
theorem mX:aM ["rows","gains","prices","part"] ["rows","gains","prices","part"] (ah cp):=⟨rfl,rfl,rfl,by decide +kernel,rfl,by decide +kernel,by decide +kernel⟩
theorem sC:aM ["rows","bounds","gains","part","amounts","prices"] ["rows","bounds","gains","part","amounts","prices"] (ah eL):=⟨rfl,rfl,rfl,by decide +kernel,rfl,by decide +kernel,by decide +kernel⟩
theorem vO:aM ["rows","gains","way"] ["rows","gains","way"] (ah gJ):=⟨rfl,rfl,rfl,by decide +kernel,rfl,by decide +kernel,by decide +kernel⟩
theorem om:aM ["rows","bounds","gains","thing"] ["rows","bounds","gains","thing"] (ah di):=⟨rfl,rfl,rfl,by decide +kernel,rfl,by decide +kernel,by decide +kernel⟩
theorem oI:aM ["self","rows","bounds","gains"] ["self","rows","bounds","gains"] (ah cH):=⟨rfl,rfl,rfl,by decide +kernel,rfl,by decide +kernel,by decide +kernel⟩
theorem cS:aM ["places","tops","bottoms","least","place","mine","best"] ["places","tops","bottoms"] (ah cP):=⟨rfl,rfl,rfl,by decide +kernel,rfl,by decide +kernel,by decide +kernel⟩
theorem tW:aM ["table"] ["table"] (ah fI):=⟨rfl,rfl,rfl,by decide +kernel,rfl,by decide +kernel,by decide +kernel⟩
theorem kh:aM ["table","name","column"] ["table","name"] (ah bW):=⟨rfl,rfl,rfl,by decide +kernel,rfl,by decide +kernel,by decide +kernel⟩
theorem gQ:aM ["table","column","entries","places","name"] ["table","column"] (ah dX):=⟨rfl,rfl,rfl,by decide +kernel,rfl,by decide +kernel,by decide +kernel⟩
theorem dy:aM ["table","one","other","mine","best","name","numbers","more"] ["table","one","other"] (ah dj):=⟨rfl,rfl,rfl,by decide +kernel,rfl,by decide +kernel,by decide +kernel⟩
theorem fg:aM ["table","best","column","step"] ["table"] (ah dN):=⟨rfl,rfl,rfl,by decide +kernel,rfl,by decide +kernel,by decide +kernel⟩
theorem kJ:aM ["line","turning","column","part","pivot","entry","told"] ["line","turning","column","part"] (ah iq):=⟨rfl,rfl,rfl,by decide +kernel,rfl,by decide +kernel,by decide +kernel⟩
theorem eU:aM ["table","place","column","turning","part","lines","name"] ["table","place","column"] (ah dL):=⟨rfl,rfl,rfl,by decide +kernel,rfl,by decide +kernel,by decide +kernel⟩
theorem jO:aM ["table","column","way","place","name"] ["table","column"] (ah gN):=⟨rfl,rfl,rfl,by decide +kernel,rfl,by decide +kernel,by decide +kernel⟩
theorem fR:aM ["table","amounts","place","name"] ["table"] (ah df):=⟨rfl,rfl,rfl,by decide +kernel,rfl,by decide +kernel,by decide +kernel⟩
theorem gz:aM ["table","prices","column","name"] ["table"] (ah dH):=⟨rfl,rfl,rfl,by decide +kernel,rfl,by decide +kernel,by decide +kernel⟩
theorem fW:aM ["table","amounts","prices","shared"] ["table"] (ah cj):=⟨rfl,rfl,rfl,by decide +kernel,rfl,by decide +kernel,by decide +kernel⟩
theorem i8:aM ["rows","bounds","gains","table","step"] ["rows","bounds","gains"] (ah fO):=⟨rfl,rfl,rfl,by decide +kernel,rfl,by decide +kernel,by decide +kernel⟩
theorem jC:aM ["_law_script","_law_k","_law_cell","_law_great"] ["_law_script","_law_k"] (ah eK):=⟨rfl,rfl,rfl,by decide +kernel,rfl,by decide +kernel,by decide +kernel⟩
theorem lb:aM ["_law_pot_here","_law_many","_law_digit"] ["_law_pot_here","_law_many"] (ah dG):=⟨rfl,rfl,rfl,by decide +kernel,rfl,by decide +kernel,by decide +kernel⟩
theorem dh:aM ["_law_pot_here","_law_many","_law_low","_law_rows","_law_row","_law_far","_law_bounds"] ["_law_pot_here"] (ah cr):=⟨rfl,rfl,rfl,by decide +kernel,rfl,by decide +kernel,by decide +kernel⟩
theorem sk:aM ["_law_one","_law_other"] ["_law_one","_law_other"] (ah dP):=⟨rfl,rfl,rfl,by decide +kernel,rfl,by decide +kernel,by decide +kernel⟩
theorem oo:aM ["_law_item"] ["_law_item"] (ah dc):=⟨rfl,rfl,rfl,by decide +kernel,rfl,by decide +kernel,by decide +kernel⟩
theorem mB:aM ["_law_item","_law_many"] ["_law_item","_law_many"] (ah bY):=⟨rfl,rfl,rfl,by decide +kernel,rfl,by decide +kernel,by decide +kernel⟩
theorem cT:aM ["_law_case_here","_law_part","_law_amounts","_law_prices","_law_rows","_law_bounds","_law_gains","_law_k"] ["_law_case_here","_law_part","_law_amounts","_law_prices"] (ah bJ):=⟨rfl,rfl,rfl,by decide +kernel,rfl,by decide +kernel,by decide +kernel⟩
theorem rB:aM ["_law_case_here","_law_item"] ["_law_case_here","_law_item"] (ah dQ):=⟨rfl,rfl,rfl,by decide +kernel,rfl,by decide +kernel,by decide +kernel⟩
theorem gh:aM ["_law_pot_here","_law_item","_law_some"] ["_law_pot_here","_law_item"] (ah eO):=⟨rfl,rfl,rfl,by decide +kernel,rfl,by decide +kernel,by decide +kernel⟩
theorem lq:aM ["_law_pot_here","_law_item","_law_at"] ["_law_pot_here","_law_item"] (ah cM):=⟨rfl,rfl,rfl,by decide +kernel,rfl,by decide +kernel,by decide +kernel⟩
theorem eM:aM ["_law_script","_law_deep","_law_turn","_law_k","_law_pot_here","_law_case_here","_law_rows","_law_bounds","_law_gains","_law_told","_law_some","_law_item","_law_truth"] ["_law_script"] (ah lY):=⟨rfl,rfl,rfl,by decide +kernel,rfl,by decide +kernel,by decide +kernel⟩
set_option genSizeOf false in
set_option genInjectivity false in
structure Adr where
 f0:Addr
 g0:qaV
 f1:Addr
 g1:qaV
 f2:Addr
 g2:qaV
 f3:Addr
 g3:qaV
 f4:Addr
 g4:qaV
 f5:Addr
 g5:qaV
 f6:Addr
 g6:qaV
 f7:Addr
 g7:qaV
 f8:Addr
 g8:qaV
 f9:Addr
 g9:qaV
 f10:Addr
 g10:qaV
 f11:Addr
 g11:qaV
 f12:Addr
 g12:qaV
 f13:Addr
 g13:qaV
 f14:Addr
 g14:qaV
 f15:Addr
 g15:qaV
 f16:Addr
 g16:qaV
 f17:Addr
 g17:qaV
 f18:Addr
 g18:qaV
 f19:Addr
 g19:qaV
 f20:Addr
 g20:qaV
 f21:Addr
 g21:qaV
 f22:Addr
 g22:qaV
 f23:Addr
 g23:qaV
 f24:Addr
 g24:qaV
 f25:Addr
 g25:qaV
 f26:Addr
 g26:qaV
 f27:Addr
 g27:qaV
 f28:Addr
 g28:qaV
 f29:Addr
 g29:qaV
 f30:Addr
 g30:qaV
 f31:Addr
 g31:qaV
 f32:Addr
 g32:qaV
 f33:Addr
 g33:qaV
 f34:Addr
 g34:qaV
 f35:Addr
 g35:qaV
 ca_Table:Addr
structure Txt (K:qac) (mg:Str->Option Value) (t:Adr):Prop where
 cm_Table:mg "Table" = some (.ref t.ca_Table)
 F0:Fun K "is_whole" "is_whole" eQ t.f0 t.g0
 m0:mg "is_whole" = some (.ref t.f0)
 b0:bC K t.g0 ["thing"] []
 F1:Fun K "are_amounts" "are_amounts" cq t.f1 t.g1
 m1:mg "are_amounts" = some (.ref t.f1)
 b1:bC K t.g1 ["thing","many"] []
 F2:Fun K "greatest_part" "greatest_part" ce t.f2 t.g2
 m2:mg "greatest_part" = some (.ref t.f2)
 b2:bC K t.g2 ["numbers"] []
 F3:Fun K "lowered" "lowered" eY t.f3 t.g3
 m3:mg "lowered" = some (.ref t.f3)
 b3:bC K t.g3 ["numbers"] []
 F4:Fun K "products_together" "products_together" bu t.f4 t.g4
 m4:mg "products_together" = some (.ref t.f4)
 b4:bC K t.g4 ["numbers","others"] []
 F5:Fun K "column_of" "column_of" cW t.f5 t.g5
 m5:mg "column_of" = some (.ref t.f5)
 b5:bC K t.g5 ["rows","place"] []
 F6:Fun K "within_bounds" "within_bounds" bQ t.f6 t.g6
 m6:mg "within_bounds" = some (.ref t.f6)
 b6:bC K t.g6 ["rows","bounds","amounts","part"] []
 F7:Fun K "cover_gains" "cover_gains" cp t.f7 t.g7
 m7:mg "cover_gains" = some (.ref t.f7)
 b7:bC K t.g7 ["rows","gains","prices","part"] []
 F8:Fun K "are_most" "are_most" eL t.f8 t.g8
 m8:mg "are_most" = some (.ref t.f8)
 b8:bC K t.g8 ["rows","bounds","gains","part","amounts","prices"] []
 F9:Fun K "is_way" "is_way" gJ t.f9 t.g9
 m9:mg "is_way" = some (.ref t.f9)
 b9:bC K t.g9 ["rows","gains","way"] []
 F10:Fun K "shows_most" "shows_most" di t.f10 t.g10
 m10:mg "shows_most" = some (.ref t.f10)
 b10:bC K t.g10 ["rows","bounds","gains","thing"] []
 F11:Fun K "__init__" "Table.__init__" cH t.f11 t.g11
 b11:bC K t.g11 ["self","rows","bounds","gains"] []
 mk_Table:Mk K t.ca_Table t.f11
 cl_Table:Cls K t.ca_Table
 na_Table:∀ p∈d5,en K t.ca_Table p.1
 F12:Fun K "least_ratio" "least_ratio" cP t.f12 t.g12
 m12:mg "least_ratio" = some (.ref t.f12)
 b12:bC K t.g12 ["places","tops","bottoms"] []
 F13:Fun K "weighed" "weighed" fI t.f13 t.g13
 m13:mg "weighed" = some (.ref t.f13)
 b13:bC K t.g13 ["table"] []
 F14:Fun K "numbers_by" "numbers_by" bW t.f14 t.g14
 m14:mg "numbers_by" = some (.ref t.f14)
 b14:bC K t.g14 ["table","name"] []
 F15:Fun K "leaving" "leaving" dX t.f15 t.g15
 m15:mg "leaving" = some (.ref t.f15)
 b15:bC K t.g15 ["table","column"] []
 F16:Fun K "gains_more" "gains_more" dj t.f16 t.g16
 m16:mg "gains_more" = some (.ref t.f16)
 b16:bC K t.g16 ["table","one","other"] []
 F17:Fun K "best_step" "best_step" dN t.f17 t.g17
 m17:mg "best_step" = some (.ref t.f17)
 b17:bC K t.g17 ["table"] []
 F18:Fun K "swept" "swept" iq t.f18 t.g18
 m18:mg "swept" = some (.ref t.f18)
 b18:bC K t.g18 ["line","turning","column","part"] []
 F19:Fun K "exchange" "exchange" dL t.f19 t.g19
 m19:mg "exchange" = some (.ref t.f19)
 b19:bC K t.g19 ["table","place","column"] []
 F20:Fun K "way_of" "way_of" gN t.f20 t.g20
 m20:mg "way_of" = some (.ref t.f20)
 b20:bC K t.g20 ["table","column"] []
 F21:Fun K "amounts_of" "amounts_of" df t.f21 t.g21
 m21:mg "amounts_of" = some (.ref t.f21)
 b21:bC K t.g21 ["table"] []
 F22:Fun K "prices_of" "prices_of" dH t.f22 t.g22
 m22:mg "prices_of" = some (.ref t.f22)
 b22:bC K t.g22 ["table"] []
 F23:Fun K "found_most" "found_most" cj t.f23 t.g23
 m23:mg "found_most" = some (.ref t.f23)
 b23:bC K t.g23 ["table"] []
 F24:Fun K "most_of" "most_of" fO t.f24 t.g24
 m24:mg "most_of" = some (.ref t.f24)
 b24:bC K t.g24 ["rows","bounds","gains"] []
 F25:Fun K "_law_pot" "_law_pot" eK t.f25 t.g25
 m25:mg "_law_pot" = some (.ref t.f25)
 b25:bC K t.g25 ["_law_script","_law_k"] []
 F26:Fun K "_law_pick" "_law_pick" dG t.f26 t.g26
 m26:mg "_law_pick" = some (.ref t.f26)
 b26:bC K t.g26 ["_law_pot_here","_law_many"] []
 F27:Fun K "_law_case" "_law_case" cr t.f27 t.g27
 m27:mg "_law_case" = some (.ref t.f27)
 b27:bC K t.g27 ["_law_pot_here"] []
 F28:Fun K "_law_dot" "_law_dot" dP t.f28 t.g28
 m28:mg "_law_dot" = some (.ref t.f28)
 b28:bC K t.g28 ["_law_one","_law_other"] []
 F29:Fun K "_law_whole" "_law_whole" dc t.f29 t.g29
 m29:mg "_law_whole" = some (.ref t.f29)
 b29:bC K t.g29 ["_law_item"] []
 F30:Fun K "_law_numbers" "_law_numbers" bY t.f30 t.g30
 m30:mg "_law_numbers" = some (.ref t.f30)
 b30:bC K t.g30 ["_law_item","_law_many"] []
 F31:Fun K "_law_greatest" "_law_greatest" bJ t.f31 t.g31
 m31:mg "_law_greatest" = some (.ref t.f31)
 b31:bC K t.g31 ["_law_case_here","_law_part","_law_amounts","_law_prices"] []
 F32:Fun K "_law_due" "_law_due" dQ t.f32 t.g32
 m32:mg "_law_due" = some (.ref t.f32)
 b32:bC K t.g32 ["_law_case_here","_law_item"] []
 F33:Fun K "_law_odd" "_law_odd" eO t.f33 t.g33
 m33:mg "_law_odd" = some (.ref t.f33)
 b33:bC K t.g33 ["_law_pot_here","_law_item"] []
 F34:Fun K "_law_bent" "_law_bent" cM t.f34 t.g34
 m34:mg "_law_bent" = some (.ref t.f34)
 b34:bC K t.g34 ["_law_pot_here","_law_item"] []
 F35:Fun K "law" "law" lY t.f35 t.g35
 m35:mg "law" = some (.ref t.f35)
 b35:bC K t.g35 ["_law_script"] []
 z_abs:mg "abs" = none
 z_all:mg "all" = none
 z_any:mg "any" = none
 z_bool:mg "bool" = none
 z_enumerate:mg "enumerate" = none
 z_int:mg "int" = none
 z_isinstance:mg "isinstance" = none
 z_len:mg "len" = none
 z_list:mg "list" = none
 z_min:mg "min" = none
 z_range:mg "range" = none
 z_str:mg "str" = none
 z_sum:mg "sum" = none
 z_tuple:mg "tuple" = none
 z_zip:mg "zip" = none
abbrev Bdy (P:qa1) (w:World) (K:qac) (mg:Str->Option Value) (base:Heap) (k:Nat) (N:List Str) (x:Str) (sd:Stmt) (f:Addr) (b:Sf):Prop:=∀ (cdv:Value) (A:qa8) (outer:List Env) (s:qak) (H:Hp) (E:XK),dW k (A.deeper (qeI x (ah sd) s.heap.objs.size f cdv))->ISs K (nj CX0 P w K mg base N x (ah sd) f cdv A outer s H E).nox (aF sd) b
section
variable {P:qa1}{w:World}{K:qac}{mg:Str->Option Value}{base:Heap}{t:Adr}
theorem oH (T:Txt K mg t):Bdy P w K mg base 0 ["thing"] "is_whole" eQ t.f0 ky:=
 λ_ _ _ _ _ _ hr=>(ao (aD (iR (bg (eP rfl) rfl T.z_isinstance qaJ (ab (iv 0) (ab (gG rfl T.z_int qb0 (by decide) (by decide)) ag rfl) rfl) (by decide) (by decide) rfl rfl) (iU (wQ (bg (eP rfl) rfl T.z_isinstance qaJ (ab (iv 0) (ab (gG rfl T.z_bool qc9 (by decide) (by decide)) ag rfl) rfl) (by decide) (by decide) rfl rfl))))))
theorem mj (T:Txt K mg t):bR P w K mg base CX0 1 t.f0 t.g0 ["thing"] (spI K dJ):=
 fL (N:=["thing"]) (b:=ky) T.F0 rN (oH T)
theorem lz (T:Txt K mg t):Bdy P w K mg base 1 ["thing","many"] "are_amounts" cq t.f1 iu:=
 λ_ _ _ _ _ _ hr=>(aj (bS (fP (d8 (dB (cc (bg (eP rfl) rfl T.z_isinstance qaJ (ab (iv 0) (ab (gG rfl T.z_tuple qaU (by decide) (by decide)) ag rfl) rfl) (by decide) (by decide) rfl rfl) rfl rfl)) (eG (bz (pj hr rfl) (bg (bU rfl) rfl T.z_len qaQ (ab (iv 0) ag rfl) (by decide) (by decide) rfl rfl) (iv 1) (aQ _))))) (ao (aD fq)) aR) (ao (aD (bg (ny rfl rfl) rfl T.z_all qb1 (ab (aG (eB (cY (ah cq).names ["thing","many"] ["number"] 1 [] rfl rfl rfl (by decide +kernel)) rfl (by decide) (dA (iv 0) rfl) (λ_ _ _ _ _=>(bD (ay (i:=0) (show qaZ (α:=Str) ["number"] by decide +kernel) rfl (.inl rfl)))) (λ_ _ _ _ _=>bI) (λ_ _ _ _ _=>(iR (ax (mj T) (by decide) hr rfl T.m0 T.F0.kp T.b0 (ab (iv 0) ag rfl) (by decide) rfl rfl) (iU (dF oU (iv 0) ak (aQ _))))) (λ_=>rfl))) ag rfl) (by decide) (by decide) rfl rfl))))
theorem gO (T:Txt K mg t):bR P w K mg base CX0 2 t.f1 t.g1 ["thing","many"] (spI K bH):=
 fL (N:=["thing","many"]) (b:=iu) T.F1 n4 (lz T)
theorem kD (T:Txt K mg t):Bdy P w K mg base 0 ["numbers","found","number","rest","over"] "greatest_part" ce t.f2 eI:=
 λ_ _ _ _ _ _ hr=>(aj (aJ (i:=1) bV.nd rfl (.inl rfl) ak rfl (.inl rfl)) (aj (fN (dA (iv 0) rfl) (bD (ay (i:=2) bV.nd rfl (.inl rfl))) (aj (aJ (i:=3) bV.nd rfl (.inl rfl) (bg uj rfl T.z_abs qdg (ab (iv 2) ag rfl) (by decide) (by decide) rfl rfl) rfl (.inl rfl)) (ao (re (2^8000) (bz (pj hr rfl) (iv 3) ak (aQ _)) (aj (aJ (i:=4) bV.nd rfl (.inl rfl) (aI jL (iv 1) (iv 3)) rfl (.inl rfl)) (aj (aJ (i:=1) bV.nd rfl (.inl rfl) (iv 3) rfl (.inl rfl)) (ao (aJ (i:=3) bV.nd rfl (.inl rfl) (iv 4) rfl (.inl rfl))))) qbf))) qbf rfl (λ_=>rfl)) (ao (aD (iv 1)))))
theorem iI (T:Txt K mg t):bR P w K mg base CX0 1 t.f2 t.g2 ["numbers"] (spI K du):=
 fL (N:=["numbers","found","number","rest","over"]) (b:=eI) T.F2 bV (kD T)
theorem qD (T:Txt K mg t):Bdy P w K mg base 1 ["numbers","shared"] "lowered" eY t.f3 jN:=
 λ_ _ _ _ _ _ hr=>(aj (aJ (i:=1) nF.nd rfl (.inr rfl) (ax (iI T) (by decide) hr rfl T.m2 T.F2.kp T.b2 (ab (iv 0) ag rfl) (by decide) rfl rfl) rfl (.inl rfl)) (aj (bS (bz (jc hr rfl) (iv 1) ak (aQ _)) (ao (aD (jH (jq rfl) rfl T.z_tuple qaU (ab (iv 0) ag rfl) (by decide) (by decide) rfl rfl))) aR) (ao (aD (jH (jq rfl) rfl T.z_tuple qaU (ab (aG (eB (cY (ah eY).names ["numbers","shared"] ["number","shared"] 1 [1] rfl rfl rfl (by decide +kernel)) rfl (by decide) (dA (iv 0) rfl) (λ_ _ _ _ _=>(bD (ay (i:=0) (show qaZ (α:=Str) ["number","shared"] by decide +kernel) rfl (.inl rfl)))) (λ_ _ _ _ _=>bI) (λ_ _ _ _ _=>(aI mU (iv 0) (iv 1))) (λ_=>rfl))) ag rfl) (by decide) (by decide) rfl rfl)))))
theorem ue (T:Txt K mg t):bR P w K mg base CX0 2 t.f3 t.g3 ["numbers"] (spI K iL):=
 fL (N:=["numbers","shared"]) (b:=jN) T.F3 nF (qD T)
theorem i9 (T:Txt K mg t):Bdy P w K mg base 0 ["numbers","others"] "products_together" bu t.f4 eh:=
 λ_ _ _ _ _ _ hr=>(ao (aD (bg (uv rfl rfl) rfl T.z_sum qdf (ab (aG (eB (cY (ah bu).names ["numbers","others"] ["number","other"] 2 [] rfl rfl rfl (by decide +kernel)) rfl (by decide) (ko rfl T.z_zip (ab (iv 0) (ab (iv 1) ag rfl) rfl) rfl rfl rfl) (λ_ _ _ _ _=>(fB (aS (ay (i:=0) (show qaZ (α:=Str) ["number","other"] by decide +kernel) rfl (.inl rfl)) (aS (ay (i:=1) (show qaZ (α:=Str) ["number","other"] by decide +kernel) rfl (.inl rfl)) dC)) rfl rfl rfl rfl rfl)) (λ_ _ _ _ _=>bI) (λ_ _ _ _ _=>(aI (ck rfl) (iv 0) (iv 1))) (λ_=>rfl))) ag rfl) (by decide) (by decide) rfl rfl)))
theorem bZ (T:Txt K mg t):bR P w K mg base CX0 1 t.f4 t.g4 ["numbers","others"] (spI K aZ):=
 fL (N:=["numbers","others"]) (b:=eh) T.F4 jA (i9 T)
theorem nU (T:Txt K mg t):Bdy P w K mg base 0 ["rows","place"] "column_of" cW t.f5 ij:=
 λ_ _ _ _ _ _ hr=>(ao (aD (aG (eB (cY (ah cW).names ["rows","place"] ["row","place"] 1 [1] rfl rfl rfl (by decide +kernel)) rfl (by decide) (dA (iv 0) rfl) (λ_ _ _ _ _=>(bD (ay (i:=0) (show qaZ (α:=Str) ["row","place"] by decide +kernel) rfl (.inl rfl)))) (λ_ _ _ _ _=>bI) (λ_ _ _ _ _=>(aB (iv 0) (iv 1) rfl rfl)) (λ_=>rfl)))))
theorem ql (T:Txt K mg t):bR P w K mg base CX0 1 t.f5 t.g5 ["rows","place"] (spI K jG):=
 fL (N:=["rows","place"]) (b:=ij) T.F5 pz (nU T)
theorem km (T:Txt K mg t):Bdy P w K mg base 1 ["rows","bounds","amounts","part"] "within_bounds" bQ t.f6 eF:=
 λ_ _ _ _ _ _ hr=>(ao (aD (bg (ny rfl rfl) rfl T.z_all qb1 (ab (aG (eB (cY (ah bQ).names ["rows","bounds","amounts","part"] ["row","bound","amounts","part"] 2 [2,3] rfl rfl rfl (by decide +kernel)) rfl (by decide) (ko rfl T.z_zip (ab (iv 0) (ab (iv 1) ag rfl) rfl) rfl rfl rfl) (λ_ _ _ _ _=>(fB (aS (ay (i:=0) (show qaZ (α:=Str) ["row","bound","amounts","part"] by decide +kernel) rfl (.inl rfl)) (aS (ay (i:=1) (show qaZ (α:=Str) ["row","bound","amounts","part"] by decide +kernel) rfl (.inl rfl)) dC)) rfl rfl rfl rfl rfl)) (λ_ _ _ _ _=>bI) (λ_ _ _ _ _=>(dF wU (ax (bZ T) (by decide) hr rfl T.m4 T.F4.kp T.b4 (ab (iv 0) (ab (iv 2) ag rfl) rfl) (by decide) rfl rfl) (aI (ck rfl) (iv 1) (iv 3)) (aQ _))) (λ_=>rfl))) ag rfl) (by decide) (by decide) rfl rfl)))
theorem iN (T:Txt K mg t):bR P w K mg base CX0 2 t.f6 t.g6 ["rows","bounds","amounts","part"] (spI K cE):=
 fL (N:=["rows","bounds","amounts","part"]) (b:=eF) T.F6 lB (km T)
theorem ly (T:Txt K mg t):Bdy P w K mg base 1 ["rows","gains","prices","part"] "cover_gains" cp t.f7 fQ:=
 λ_ _ _ _ _ _ hr=>(ao (aD (bg (ny rfl rfl) rfl T.z_all qb1 (ab (aG (eB (cY (ah cp).names ["rows","gains","prices","part"] ["place","gain","rows","prices","part"] 2 [0,2,3] rfl rfl rfl (by decide +kernel)) rfl (by decide) (kU rfl T.z_enumerate (ab (iv 1) ag rfl) rfl rfl) (λ_ _ _ _ _=>(fB (aS (ay (i:=0) (show qaZ (α:=Str) ["place","gain","rows","prices","part"] by decide +kernel) rfl (.inl rfl)) (aS (ay (i:=1) (show qaZ (α:=Str) ["place","gain","rows","prices","part"] by decide +kernel) rfl (.inl rfl)) dC)) rfl rfl rfl rfl rfl)) (λ_ _ _ _ _=>bI) (λ_ _ _ _ _=>(dF oU (ax (bZ T) (by decide) hr rfl T.m4 T.F4.kp T.b4 (ab (ax (ql T) (by decide) hr rfl T.m5 T.F5.kp T.b5 (ab (iv 2) (ab (iv 0) ag rfl) rfl) (by decide) rfl rfl) (ab (iv 3) ag rfl) rfl) (by decide) rfl rfl) (aI (ck rfl) (iv 1) (iv 4)) (aQ _))) (λ_=>rfl))) ag rfl) (by decide) (by decide) rfl rfl)))
theorem nR (T:Txt K mg t):bR P w K mg base CX0 2 t.f7 t.g7 ["rows","gains","prices","part"] (spI K fZ):=
 fL (N:=["rows","gains","prices","part"]) (b:=fQ) T.F7 mX (ly T)
theorem oB (T:Txt K mg t):Bdy P w K mg base 2 ["rows","bounds","gains","part","amounts","prices"] "are_most" eL t.f8 dE:=
 λ_ _ _ _ _ _ hr=>(aj (bS (fP (d8 (dB (cc (ax (mj T) (by decide) hr rfl T.m0 T.F0.kp T.b0 (ab (iv 3) ag rfl) (by decide) rfl rfl) rfl rfl)) (eG (bz lj (iv 3) ak (aQ _))))) (ao (aD fq)) aR) (aj (bS (fP (d8 (dB (cc (ax (gO T) (by decide) hr rfl T.m1 T.F1.kp T.b1 (ab (iv 4) (ab (bg (bU rfl) rfl T.z_len qaQ (ab (iv 2) ag rfl) (by decide) (by decide) rfl rfl) ag rfl) rfl) (by decide) rfl rfl) rfl rfl)) (eG (dB (cc (ax (gO T) (by decide) hr rfl T.m1 T.F1.kp T.b1 (ab (iv 5) (ab (bg (bU rfl) rfl T.z_len qaQ (ab (iv 0) ag rfl) (by decide) (by decide) rfl rfl) ag rfl) rfl) (by decide) rfl rfl) rfl rfl))))) (ao (aD fq)) aR) (aj (bS (fP (d8 (dB (cc (ax (iN T) (by decide) hr rfl T.m6 T.F6.kp T.b6 (ab (iv 0) (ab (iv 1) (ab (iv 4) (ab (iv 3) ag rfl) rfl) rfl) rfl) (by decide) rfl rfl) rfl rfl)) (eG (dB (cc (ax (nR T) (by decide) hr rfl T.m7 T.F7.kp T.b7 (ab (iv 0) (ab (iv 2) (ab (iv 5) (ab (iv 3) ag rfl) rfl) rfl) rfl) (by decide) rfl rfl) rfl rfl))))) (ao (aD fq)) aR) (ao (aD (dF (jc hr rfl) (ax (bZ T) (by decide) hr rfl T.m4 T.F4.kp T.b4 (ab (iv 1) (ab (iv 5) ag rfl) rfl) (by decide) rfl rfl) (ax (bZ T) (by decide) hr rfl T.m4 T.F4.kp T.b4 (ab (iv 2) (ab (iv 4) ag rfl) rfl) (by decide) rfl rfl) (aQ _)))))))
theorem qY (T:Txt K mg t):bR P w K mg base CX0 3 t.f8 t.g8 ["rows","bounds","gains","part","amounts","prices"] (spI K iO):=
 fL (N:=["rows","bounds","gains","part","amounts","prices"]) (b:=dE) T.F8 sC (oB T)
theorem rz (T:Txt K mg t):Bdy P w K mg base 2 ["rows","gains","way"] "is_way" gJ t.f9 iH:=
 λ_ _ _ _ _ _ hr=>(aj (bS (dB (cc (ax (gO T) (by decide) hr rfl T.m1 T.F1.kp T.b1 (ab (iv 2) (ab (bg (bU rfl) rfl T.z_len qaQ (ab (iv 1) ag rfl) (by decide) (by decide) rfl rfl) ag rfl) rfl) (by decide) rfl rfl) rfl rfl)) (ao (aD fq)) aR) (ao (aD (iR (ax (iN T) (by decide) hr rfl T.m6 T.F6.kp T.b6 (ab (iv 0) (ab (aI (ck rfl) (aG (cw (ab ak ag rfl))) (bg (bU rfl) rfl T.z_len qaQ (ab (iv 0) ag rfl) (by decide) (by decide) rfl rfl)) (ab (iv 2) (ab ak ag rfl) rfl) rfl) rfl) (by decide) rfl rfl) (iU (dF lZ (ax (bZ T) (by decide) hr rfl T.m4 T.F4.kp T.b4 (ab (iv 1) (ab (iv 2) ag rfl) rfl) (by decide) rfl rfl) ak (aQ _)))))))
theorem v8 (T:Txt K mg t):bR P w K mg base CX0 3 t.f9 t.g9 ["rows","gains","way"] (spI K lp):=
 fL (N:=["rows","gains","way"]) (b:=iH) T.F9 vO (rz T)
theorem mt (T:Txt K mg t):Bdy P w K mg base 3 ["rows","bounds","gains","thing"] "shows_most" di t.f10 cK:=
 λ_ _ _ _ _ _ hr=>(aj (bS (fP (d8 (dB (cc (bg (eP rfl) rfl T.z_isinstance qaJ (ab (iv 3) (ab (gG rfl T.z_tuple qaU (by decide) (by decide)) ag rfl) rfl) (by decide) (by decide) rfl rfl) rfl rfl)) (d8 (bz (su rfl) (bg (bU rfl) rfl T.z_len qaQ (ab (iv 3) ag rfl) (by decide) (by decide) rfl rfl) (cB (ab ak (ab ak ag rfl) rfl)) rfl) (eG (dB (cc (bg (eP rfl) rfl T.z_isinstance qaJ (ab (aB (iv 3) ak rfl rfl) (ab (gG rfl T.z_str qcz (by decide) (by decide)) ag rfl) rfl) (by decide) (by decide) rfl rfl) rfl rfl)))))) (ao (aD fq)) aR) (aj (bS (bz (jc hr rfl) (bg (bU rfl) rfl T.z_len qaQ (ab (iv 3) ag rfl) (by decide) (by decide) rfl rfl) ak (aQ _)) (ao (aD (iR (dF (jc hr rfl) (aB (iv 3) ak rfl rfl) de (aQ _)) (iU (ax (qY T) (by decide) hr rfl T.m8 T.F8.kp T.b8 (ab (iv 0) (ab (iv 1) (ab (iv 2) (ab (aB (iv 3) ak rfl rfl) (ab (aB (iv 3) ak rfl rfl) (ab (aB (iv 3) ak rfl rfl) ag rfl) rfl) rfl) rfl) rfl) rfl) (by decide) rfl rfl))))) aR) (ao (aD (iR (dF (jc hr rfl) (aB (iv 3) ak rfl rfl) de (aQ _)) (iU (ax (v8 T) (by decide) hr rfl T.m9 T.F9.kp T.b9 (ab (iv 0) (ab (iv 2) (ab (aB (iv 3) ak rfl rfl) ag rfl) rfl) rfl) (by decide) rfl rfl)))))))
theorem ox (T:Txt K mg t):bR P w K mg base CX0 4 t.f10 t.g10 ["rows","bounds","gains","thing"] (spI K ci):=
 fL (N:=["rows","bounds","gains","thing"]) (b:=cK) T.F10 om (mt T)
theorem ou (T:Txt K mg t):bR P w K mg base CX0 1 t.f11 t.g11 ["self","rows","bounds","gains"] (yz K 4 4 d5):=
 BN (N:=["self","rows","bounds","gains"]) (ps:=["self","rows","bounds","gains"]) (k:=0) (g:=d5) T.F11 oI (by decide) (λ_ _ _ _ _ _ hr=>(jF rfl (by first|exact Or.inl rfl|exact Or.inr (Or.inl rfl)|exact Or.inr (Or.inr rfl)) (bg (bU rfl) rfl T.z_len qaQ (ab (iv 3) ag rfl) (by decide) (by decide) rfl rfl) (jF rfl (by first|exact Or.inl rfl|exact Or.inr (Or.inl rfl)|exact Or.inr (Or.inr rfl)) (aG (eB (cY (ah cH).names ["self","rows","bounds","gains"] ["row","bound"] 2 [] rfl rfl rfl (by decide +kernel)) rfl (by decide) (ko rfl T.z_zip (ab (iv 1) (ab (iv 2) ag rfl) rfl) rfl rfl rfl) (λ_ _ _ _ _=>(fB (aS (ay (i:=0) (show qaZ (α:=Str) ["row","bound"] by decide +kernel) rfl (.inl rfl)) (aS (ay (i:=1) (show qaZ (α:=Str) ["row","bound"] by decide +kernel) rfl (.inl rfl)) dC)) rfl rfl rfl rfl rfl)) (λ_ _ _ _ _=>bI) (λ_ _ _ _ _=>(aI (bX rfl) (aG (wg (mE rfl) rfl T.z_list qbM (ab (iv 0) ag rfl) (by decide) (by decide) rfl rfl)) (aG (cw (ab (iv 1) ag rfl))))) (λ_=>rfl))) (jF rfl (by first|exact Or.inl rfl|exact Or.inr (Or.inl rfl)|exact Or.inr (Or.inr rfl)) (aI (bX rfl) (aG (eB (cY (ah cH).names ["self","rows","bounds","gains"] ["gain"] 1 [] rfl rfl rfl (by decide +kernel)) rfl (by decide) (dA (iv 3) rfl) (λ_ _ _ _ _=>(bD (ay (i:=0) (show qaZ (α:=Str) ["gain"] by decide +kernel) rfl (.inl rfl)))) (λ_ _ _ _ _=>bI) (λ_ _ _ _ _=>(lG (iv 0))) (λ_=>rfl))) (aG (cw (ab ak ag rfl)))) (jF rfl (by first|exact Or.inl rfl|exact Or.inr (Or.inl rfl)|exact Or.inr (Or.inr rfl)) ak (jF rfl (by first|exact Or.inl rfl|exact Or.inr (Or.inl rfl)|exact Or.inr (Or.inr rfl)) (iX (AI rfl T.z_list rfl T.z_range (ab (bg (bU rfl) rfl T.z_len qaQ (ab (iv 3) ag rfl) (by decide) (by decide) rfl rfl) ag rfl) rfl rfl)) (ye rfl (by first|exact Or.inl rfl|exact Or.inr (Or.inl rfl)|exact Or.inr (Or.inr rfl)) (iX (wz rfl T.z_list rfl T.z_range (ab (bg (bU rfl) rfl T.z_len qaQ (ab (iv 3) ag rfl) (by decide) (by decide) rfl rfl) (ab (aI (bX rfl) (bg (bU rfl) rfl T.z_len qaQ (ab (iv 3) ag rfl) (by decide) (by decide) rfl rfl) (bg (bU rfl) rfl T.z_len qaQ (ab (iv 1) ag rfl) (by decide) (by decide) rfl rfl)) ag rfl) rfl) rfl rfl rfl)) rfl rfl) (by intro z;cases z) rfl rfl) (by intro z;cases z) rfl rfl) (by intro z;cases z) rfl rfl) (by intro z;cases z) rfl rfl) (by intro z;cases z) rfl rfl))
theorem lI (T:Txt K mg t):Bdy P w K mg base 0 ["places","tops","bottoms","least","place","mine","best"] "least_ratio" cP t.f12 fX:=
 λ_ _ _ _ _ _ hr=>(aj (aJ (i:=3) cS.nd rfl (.inl rfl) (iX (cw ag)) rfl (.inl rfl)) (aj (fN (dA (iv 0) rfl) (bD (ay (i:=4) cS.nd rfl (.inl rfl))) (aj (bS (cc (iv 3) rfl rfl) (aj (aJ (i:=5) cS.nd rfl (.inl rfl) (aI (ck rfl) (aB (iv 1) (iv 4) rfl rfl) (aB (iv 2) (aB (iv 3) ak rfl rfl) rfl rfl)) rfl (.inl rfl)) (aj (aJ (i:=6) cS.nd rfl (.inl rfl) (aI (ck rfl) (aB (iv 1) (aB (iv 3) ak rfl rfl) rfl rfl) (aB (iv 2) (iv 4) rfl rfl)) rfl (.inl rfl)) (aj (bS (bz lZ (iv 5) (iv 6) (aQ _)) (ao vg) aR) (ao (bS (bz lj (iv 5) (iv 6) (aQ _)) (ao (aJ (i:=3) cS.nd rfl (.inl rfl) (iX (cw ag)) rfl (.inl rfl))) aR))))) aR) (ao (qH (pf (iv 3) (ab (iv 4) ag rfl) rfl rfl (by decide) rfl rfl) rfl))) qbf rfl (λ_=>rfl)) (ao (aD (iv 3)))))
theorem nM (T:Txt K mg t):bR P w K mg base CX0 1 t.f12 t.g12 ["places","tops","bottoms"] (spI K ir):=
 rh (N:=["places","tops","bottoms","least","place","mine","best"]) (b:=fX) T.F12 cS (lI T)
theorem qe (T:Txt K mg t):Bdy P w K mg base 0 ["table"] "weighed" fI t.f13 jQ:=
 λ_ _ _ _ _ _ hr=>(ao (aD (aI (bX rfl) (aG (cw (ab iy ag rfl))) (aG (wz rfl T.z_list rfl T.z_range (ab (aK (iv 0) rfl rfl) (ab (aI (bX rfl) (aK (iv 0) rfl rfl) (bg (bU rfl) rfl T.z_len qaQ (ab (aK (iv 0) rfl rfl) ag rfl) (by decide) (by decide) rfl rfl)) ag rfl) rfl) rfl rfl rfl)))))
theorem nZ (T:Txt K mg t):bR P w K mg base CX0 1 t.f13 t.g13 ["table"] (spI K gD):=
 fL (N:=["table"]) (b:=jQ) T.F13 tW (qe T)
theorem mr (T:Txt K mg t):Bdy P w K mg base 0 ["table","name","column"] "numbers_by" bW t.f14 fD:=
 λ_ _ _ _ _ _ hr=>(aj (bS (bz pY (iv 1) iy (aQ _)) (ao (aD (aG (eB (cY (ah bW).names ["table","name","column"] ["line"] 1 [] rfl rfl rfl (by decide +kernel)) rfl (by decide) (dA (aK (iv 0) rfl rfl) rfl) (λ_ _ _ _ _=>(bD (ay (i:=0) (show qaZ (α:=Str) ["line"] by decide +kernel) rfl (.inl rfl)))) (λ_ _ _ _ _=>bI) (λ_ _ _ _ _=>(aB (iv 0) (lG ak) rfl rfl)) (λ_=>rfl))))) aR) (aj (bS (bz (Cp rfl) (iv 1) (aK (iv 0) rfl rfl) rfl) (aj (aJ (i:=2) kh.nd rfl (.inr rfl) (Ar (aK (iv 0) rfl rfl) (ab (iv 1) ag rfl) rfl rfl rfl rfl) rfl (.inl rfl)) (ao (aD (aG (eB (cY (ah bW).names ["table","name","column"] ["line","column"] 1 [2] rfl rfl rfl (by decide +kernel)) rfl (by decide) (dA (aK (iv 0) rfl rfl) rfl) (λ_ _ _ _ _=>(bD (ay (i:=0) (show qaZ (α:=Str) ["line","column"] by decide +kernel) rfl (.inl rfl)))) (λ_ _ _ _ _=>bI) (λ_ _ _ _ _=>(aB (iv 0) (iv 1) rfl rfl)) (λ_=>rfl)))))) aR) (ao (aD (aG (eB (cY (ah bW).names ["table","name","column"] ["kept","name","table"] 1 [1,0] rfl rfl rfl (by decide +kernel)) rfl (by decide) (dA (aK (iv 0) rfl rfl) rfl) (λ_ _ _ _ _=>(bD (ay (i:=0) (show qaZ (α:=Str) ["kept","name","table"] by decide +kernel) rfl (.inl rfl)))) (λ_ _ _ _ _=>bI) (λ_ _ _ _ _=>(xf (bz (jc hr rfl) (iv 0) (iv 1) (aQ _)) (aK (iv 2) rfl rfl) ak)) (λ_=>rfl)))))))
theorem ke (T:Txt K mg t):bR P w K mg base CX0 1 t.f14 t.g14 ["table","name"] (spI K fA):=
 fL (N:=["table","name","column"]) (b:=fD) T.F14 kh (mr T)
theorem pJ (T:Txt K mg t):Bdy P w K mg base 1 ["table","column","entries","places","name"] "leaving" dX t.f15 jP:=
 λ_ _ _ _ _ _ hr=>(aj (And.left (ww (i0:=2) gQ.nd rfl (.inl rfl) (cY (ah dX).names ["table","column","entries","places","name"] ["line","column"] 1 [1] rfl rfl rfl (by decide +kernel)) rfl (by decide) (dA (aK (iv 0) rfl rfl) rfl) (λ_ _ _ _ _=>(bD (ay (i:=0) (show qaZ (α:=Str) ["line","column"] by decide +kernel) rfl (.inl rfl)))) (λ_ _ _ _ _=>bI) (λ_ _ _ _ _=>(aB (iv 0) (iv 1) rfl rfl)) rfl (.inl rfl) (λ_=>rfl))) (aj (And.left (ww (i0:=3) gQ.nd rfl (.inl rfl) (cY (ah dX).names ["table","column","entries","places","name"] ["place","entry"] 2 [] rfl rfl rfl (by decide +kernel)) rfl (by decide) (kU rfl T.z_enumerate (ab (iv 2) ag rfl) rfl rfl) (λ_ _ _ _ _=>(fB (aS (ay (i:=0) (show qaZ (α:=Str) ["place","entry"] by decide +kernel) rfl (.inl rfl)) (aS (ay (i:=1) (show qaZ (α:=Str) ["place","entry"] by decide +kernel) rfl (.inl rfl)) dC)) rfl rfl rfl rfl rfl)) (λ_ _ _ _ _=>(y7 (bz lZ (iv 1) ak (aQ _)))) (λ_ _ _ _ _=>(iv 0)) rfl (.inl rfl) (λ_=>rfl))) (aj (fN (dA (ax (nZ T) (by decide) hr rfl T.m13 T.F13.kp T.b13 (ab (iv 0) ag rfl) (by decide) rfl rfl) rfl) (bD (ay (i:=4) gQ.nd rfl (.inl rfl))) (aj (bS (bz lj (bg (bU rfl) rfl T.z_len qaQ (ab (iv 3) ag rfl) (by decide) (by decide) rfl rfl) ak (aQ _)) (ao wp) aR) (ao (aJ (i:=3) gQ.nd rfl (.inl rfl) (ax (nM T) (by decide) hr rfl T.m12 T.F12.kp T.b12 (ab (iv 3) (ab (ax (ke T) (by decide) hr rfl T.m14 T.F14.kp T.b14 (ab (iv 0) (ab (iv 4) ag rfl) rfl) (by decide) rfl rfl) (ab (iv 2) ag rfl) rfl) rfl) (by decide) rfl rfl) rfl (.inl rfl)))) qbf rfl (λ_=>rfl)) (ao (aD (xf (cc (iv 3) rfl rfl) (aB (iv 3) ak rfl rfl) iy))))))
theorem tU (T:Txt K mg t):bR P w K mg base CX0 2 t.f15 t.g15 ["table","column"] (spI K jR):=
 fL (N:=["table","column","entries","places","name"]) (b:=jP) T.F15 gQ (pJ T)
theorem mv (T:Txt K mg t):Bdy P w K mg base 1 ["table","one","other","mine","best","name","numbers","more"] "gains_more" dj t.f16 fv:=
 λ_ _ _ _ _ _ hr=>(aj (aJ (i:=3) dy.nd rfl (.inl rfl) (aI (ck rfl) (aB (aK (iv 0) rfl rfl) (aB (iv 1) ak rfl rfl) rfl rfl) (aB (aB (aK (iv 0) rfl rfl) (aB (iv 2) ak rfl rfl) rfl rfl) (aB (iv 2) ak rfl rfl) rfl rfl)) rfl (.inl rfl)) (aj (aJ (i:=4) dy.nd rfl (.inl rfl) (aI (ck rfl) (aB (aK (iv 0) rfl rfl) (aB (iv 2) ak rfl rfl) rfl rfl) (aB (aB (aK (iv 0) rfl rfl) (aB (iv 1) ak rfl rfl) rfl rfl) (aB (iv 1) ak rfl rfl) rfl rfl)) rfl (.inl rfl)) (aj (fN (dA (ax (nZ T) (by decide) hr rfl T.m13 T.F13.kp T.b13 (ab (iv 0) ag rfl) (by decide) rfl rfl) rfl) (bD (ay (i:=5) dy.nd rfl (.inl rfl))) (aj (aJ (i:=6) dy.nd rfl (.inl rfl) (ax (ke T) (by decide) hr rfl T.m14 T.F14.kp T.b14 (ab (iv 0) (ab (iv 5) ag rfl) rfl) (by decide) rfl rfl) rfl (.inl rfl)) (aj (aJ (i:=7) dy.nd rfl (.inl rfl) (aI lD (aI (ck rfl) (iv 4) (aB (iv 6) (aB (iv 2) ak rfl rfl) rfl rfl)) (aI (ck rfl) (iv 3) (aB (iv 6) (aB (iv 1) ak rfl rfl) rfl rfl))) rfl (.inl rfl)) (ao (bS (bz (pj hr rfl) (iv 7) ak (aQ _)) (ao (aD (dF lZ (iv 7) ak (aQ _)))) aR)))) qbf rfl (λ_=>rfl)) (ao (aD fq)))))
theorem oj (T:Txt K mg t):bR P w K mg base CX0 2 t.f16 t.g16 ["table","one","other"] (spI K dU):=
 fL (N:=["table","one","other","mine","best","name","numbers","more"]) (b:=fv) T.F16 dy (mv T)
theorem mZ (T:Txt K mg t):Bdy P w K mg base 2 ["table","best","column","step"] "best_step" dN t.f17 gk:=
 λ_ _ _ _ _ _ hr=>(aj (aJ (i:=1) fg.nd rfl (.inl rfl) iy rfl (.inl rfl)) (aj (fN (io rfl T.z_range (ab (bg (bU rfl) rfl T.z_len qaQ (ab (aK (iv 0) rfl rfl) ag rfl) (by decide) (by decide) rfl rfl) ag rfl) rfl) (bD (ay (i:=2) fg.nd rfl (.inl rfl))) (aj (bS (bz oU (aB (aK (iv 0) rfl rfl) (iv 2) rfl rfl) ak (aQ _)) (ao vg) aR) (aj (aJ (i:=3) fg.nd rfl (.inl rfl) (cB (ab (iv 2) (ab (ax (tU T) (by decide) hr rfl T.m15 T.F15.kp T.b15 (ab (iv 0) (ab (iv 2) ag rfl) rfl) (by decide) rfl rfl) ag rfl) rfl)) rfl (.inl rfl)) (aj (bS (bz pY (aB (iv 3) ak rfl rfl) iy (aQ _)) (ao (aD (iv 3))) aR) (ao (bS (fP (d8 (bz pY (iv 1) iy (aQ _)) (eG (cc (ax (oj T) (by decide) hr rfl T.m16 T.F16.kp T.b16 (ab (iv 0) (ab (iv 3) (ab (iv 1) ag rfl) rfl) rfl) (by decide) rfl rfl) rfl rfl)))) (ao (aJ (i:=1) fg.nd rfl (.inl rfl) (iv 3) rfl (.inl rfl))) aR))))) qbf rfl (λ_=>rfl)) (ao (aD (iv 1)))))
theorem kP (T:Txt K mg t):bR P w K mg base CX0 3 t.f17 t.g17 ["table"] (spI K cZ):=
 fL (N:=["table","best","column","step"]) (b:=gk) T.F17 fg (mZ T)
theorem tQ (T:Txt K mg t):Bdy P w K mg base 0 ["line","turning","column","part","pivot","entry","told"] "swept" iq t.f18 mF:=
 λ_ _ _ _ _ _ hr=>(aj (aJ (i:=4) kJ.nd rfl (.inr rfl) (aB (iv 1) (iv 2) rfl rfl) rfl (.inl rfl)) (aj (aJ (i:=5) kJ.nd rfl (.inr rfl) (aB (iv 0) (iv 2) rfl rfl) rfl (.inl rfl)) (aj (And.right (ww (i0:=6) kJ.nd rfl (.inl rfl) (cY (ah iq).names ["line","turning","column","part","pivot","entry","told"] ["number","other","pivot","entry","part"] 2 [4,5,3] rfl rfl rfl (by decide +kernel)) rfl (by decide) (ko rfl T.z_zip (ab (iv 0) (ab (iv 1) ag rfl) rfl) rfl rfl rfl) (λ_ _ _ _ _=>(fB (aS (ay (i:=0) (show qaZ (α:=Str) ["number","other","pivot","entry","part"] by decide +kernel) rfl (.inl rfl)) (aS (ay (i:=1) (show qaZ (α:=Str) ["number","other","pivot","entry","part"] by decide +kernel) rfl (.inl rfl)) dC)) rfl rfl rfl rfl rfl)) (λ_ _ _ _ _=>bI) (λ_ _ _ _ _=>(aI mU (aI lD (aI (ck rfl) (iv 2) (iv 0)) (aI (ck rfl) (iv 3) (iv 1))) (iv 4))) rfl (.inl rfl) (λ_=>rfl))) (aj (eD (iv 6) (iv 2) (lG (iv 5)) rfl rfl rfl) (ao (aD (iv 6)))))))
theorem sA (T:Txt K mg t):bR P w K mg base CX0 1 t.f18 t.g18 ["line","turning","column","part"] (spI K jT):=
 rh (N:=["line","turning","column","part","pivot","entry","told"]) (b:=mF) T.F18 kJ (tQ T)
theorem oO (T:Txt K mg t):Bdy P w K mg base 1 ["table","place","column","turning","part","lines","name"] "exchange" dL t.f19 gK:=
 λ_ _ _ _ _ _ hr=>(aj (aJ (i:=3) eU.nd rfl (.inr rfl) (aB (aK (iv 0) rfl rfl) (iv 1) rfl rfl) rfl (.inl rfl)) (aj (aJ (i:=4) eU.nd rfl (.inr rfl) (aK (iv 0) rfl rfl) rfl (.inl rfl)) (v4 (il:=5) (ip:=1) (ic:=2) (it:=3) (ia:=4) eU.nd rfl rfl rfl rfl rfl (.inl rfl) (by first|exact Or.inl rfl|exact Or.inr (Or.inl rfl)|exact Or.inr (Or.inr rfl)) (by first|exact Or.inl rfl|exact Or.inr (Or.inl rfl)|exact Or.inr (Or.inr rfl)) (by first|exact Or.inl rfl|exact Or.inr (Or.inl rfl)|exact Or.inr (Or.inr rfl)) (by first|exact Or.inl rfl|exact Or.inr (Or.inl rfl)|exact Or.inr (Or.inr rfl)) (by first|exact Or.inl rfl|exact Or.inr (Or.inl rfl)|exact Or.inr (Or.inr rfl)) (by decide) (by decide) (by decide) (by decide) (by decide) (by decide) (by decide) (by decide) (by decide) (by decide) (by decide) (by decide) (by decide) (by decide) (AJ (i0:=5) eU.nd rfl (.inl rfl) (cY (ah dL).names ["table","place","column","turning","part","lines","name"] ["line","turning","column","part"] 1 [3,2,4] rfl rfl rfl (by decide +kernel)) rfl (by decide) (dA (aK (iv 0) rfl rfl) rfl) (λ_ _ _ _ _=>(bD (ay (i:=0) (show qaZ (α:=Str) ["line","turning","column","part"] by decide +kernel) rfl (.inl rfl)))) (λ_ _ _ _ _=>bI) (λ_ _ _ _ _=>(ax (sA T) (by decide) hr rfl T.m18 T.F18.kp T.b18 (ab (iv 0) (ab (iv 1) (ab (iv 2) (ab (iv 3) ag rfl) rfl) rfl) rfl) (by decide) rfl rfl)) rfl (.inl rfl) (λ_=>rfl)) (by exact rfl) T.z_list (aj (qI (iv 0) (ax (sA T) (by decide) hr rfl T.m18 T.F18.kp T.b18 (ab (aK (iv 0) rfl rfl) (ab (iv 3) (ab (iv 2) (ab (iv 4) ag rfl) rfl) rfl) rfl) (by decide) rfl rfl) rfl rfl) (aj (qI (iv 0) (iv 5) rfl rfl) (aj (qI (iv 0) (aB (iv 3) (iv 2) rfl rfl) rfl rfl) (aj (aJ (i:=6) eU.nd rfl (.inl rfl) (aB (aK (iv 0) rfl rfl) (iv 2) rfl rfl) rfl (.inl rfl)) (aj (eD (aK (iv 0) rfl rfl) (iv 2) (aB (aK (iv 0) rfl rfl) (iv 1) rfl rfl) rfl rfl rfl) (ao (eD (aK (iv 0) rfl rfl) (iv 1) (iv 6) rfl rfl rfl))))))) (by exact rfl) (by exact rfl) (by exact rfl) (by exact rfl) rfl)))
theorem qZ (T:Txt K mg t):bR P w K mg base CX0 2 t.f19 t.g19 ["table","place","column"] (spI K fJ):=
 rh (N:=["table","place","column","turning","part","lines","name"]) (b:=gK) T.F19 eU (oO T)
theorem sH (T:Txt K mg t):Bdy P w K mg base 2 ["table","column","way","place","name"] "way_of" gN t.f20 kO:=
 λ_ _ _ _ _ _ hr=>(aj (aJ (i:=2) jO.nd rfl (.inl rfl) (iX (xK ub (aG (cw (ab ak ag rfl))) (aK (iv 0) rfl rfl))) rfl (.inl rfl)) (aj (fN (kU rfl T.z_enumerate (ab (aK (iv 0) rfl rfl) ag rfl) rfl rfl) (fB (aS (ay (i:=3) jO.nd rfl (.inl rfl)) (aS (ay (i:=4) jO.nd rfl (.inl rfl)) dC)) rfl rfl rfl rfl rfl) (ao (bS (bz lj (iv 4) (aK (iv 0) rfl rfl) (aQ _)) (ao (eD (iv 2) (iv 4) (lG (aB (aB (aK (iv 0) rfl rfl) (iv 3) rfl rfl) (iv 1) rfl rfl)) rfl rfl rfl)) aR)) qbf rfl (λ_=>rfl)) (aj (bS (bz lj (aB (aK (iv 0) rfl rfl) (iv 1) rfl rfl) (aK (iv 0) rfl rfl) (aQ _)) (ao (eD (iv 2) (aB (aK (iv 0) rfl rfl) (iv 1) rfl rfl) (aK (iv 0) rfl rfl) rfl rfl rfl)) aR) (ao (aD (jn (ue T) (by decide) hr rfl T.m3 T.F3.kp T.b3 (ab (iv 2) ag rfl) (by decide) rfl rfl))))))
theorem vX (T:Txt K mg t):bR P w K mg base CX0 3 t.f20 t.g20 ["table","column"] (spI K kT):=
 rh (N:=["table","column","way","place","name"]) (b:=kO) T.F20 jO (sH T)
theorem mo (T:Txt K mg t):Bdy P w K mg base 0 ["table","amounts","place","name"] "amounts_of" df t.f21 gy:=
 λ_ _ _ _ _ _ hr=>(aj (aJ (i:=1) fR.nd rfl (.inl rfl) (iX (xK ub (aG (cw (ab ak ag rfl))) (aK (iv 0) rfl rfl))) rfl (.inl rfl)) (aj (fN (kU rfl T.z_enumerate (ab (aK (iv 0) rfl rfl) ag rfl) rfl rfl) (fB (aS (ay (i:=2) fR.nd rfl (.inl rfl)) (aS (ay (i:=3) fR.nd rfl (.inl rfl)) dC)) rfl rfl rfl rfl rfl) (ao (bS (bz lj (iv 3) (aK (iv 0) rfl rfl) (aQ _)) (ao (eD (iv 1) (iv 3) (aB (aB (aK (iv 0) rfl rfl) (iv 2) rfl rfl) (lG ak) rfl rfl) rfl rfl rfl)) aR)) qbf rfl (λ_=>rfl)) (ao (aD (iv 1)))))
theorem oh (T:Txt K mg t):bR P w K mg base CX0 1 t.f21 t.g21 ["table"] (spI K iY):=
 rh (N:=["table","amounts","place","name"]) (b:=gy) T.F21 fR (mo T)
theorem nA (T:Txt K mg t):Bdy P w K mg base 0 ["table","prices","column","name"] "prices_of" dH t.f22 ie:=
 λ_ _ _ _ _ _ hr=>(aj (aJ (i:=1) gz.nd rfl (.inl rfl) (iX (xK ub (aG (cw (ab ak ag rfl))) (bg (bU rfl) rfl T.z_len qaQ (ab (aK (iv 0) rfl rfl) ag rfl) (by decide) (by decide) rfl rfl))) rfl (.inl rfl)) (aj (fN (kU rfl T.z_enumerate (ab (aK (iv 0) rfl rfl) ag rfl) rfl rfl) (fB (aS (ay (i:=2) gz.nd rfl (.inl rfl)) (aS (ay (i:=3) gz.nd rfl (.inl rfl)) dC)) rfl rfl rfl rfl rfl) (ao (bS (bz oU (iv 3) (aK (iv 0) rfl rfl) (aQ _)) (ao (eD (iv 1) (aI lD (iv 3) (aK (iv 0) rfl rfl)) (aB (aK (iv 0) rfl rfl) (iv 2) rfl rfl) rfl rfl rfl)) aR)) qbf rfl (λ_=>rfl)) (ao (aD (iv 1)))))
theorem pM (T:Txt K mg t):bR P w K mg base CX0 1 t.f22 t.g22 ["table"] (spI K ji):=
 rh (N:=["table","prices","column","name"]) (b:=ie) T.F22 gz (nA T)
theorem mn (T:Txt K mg t):Bdy P w K mg base 1 ["table","amounts","prices","shared"] "found_most" cj t.f23 gB:=
 λ_ _ _ _ _ _ hr=>(aj (aJ (i:=1) fW.nd rfl (.inl rfl) (ax (oh T) (by decide) hr rfl T.m21 T.F21.kp T.b21 (ab (iv 0) ag rfl) (by decide) rfl rfl) rfl (.inl rfl)) (aj (aJ (i:=2) fW.nd rfl (.inl rfl) (ax (pM T) (by decide) hr rfl T.m22 T.F22.kp T.b22 (ab (iv 0) ag rfl) (by decide) rfl rfl) rfl (.inl rfl)) (aj (aJ (i:=3) fW.nd rfl (.inr rfl) (ax (iI T) (by decide) hr rfl T.m2 T.F2.kp T.b2 (ab (aI (bX rfl) (aI (bX rfl) (aG (cw (ab (aK (iv 0) rfl rfl) ag rfl))) (iv 1)) (iv 2)) ag rfl) (by decide) rfl rfl) rfl (.inl rfl)) (ao (aD (cB (ab de (ab (aI mU (aK (iv 0) rfl rfl) (iv 3)) (ab (jH (jq rfl) rfl T.z_tuple qaU (ab (aG (eB (cY (ah cj).names ["table","amounts","prices","shared"] ["number","shared"] 1 [3] rfl rfl rfl (by decide +kernel)) rfl (by decide) (dA (iv 1) rfl) (λ_ _ _ _ _=>(bD (ay (i:=0) (show qaZ (α:=Str) ["number","shared"] by decide +kernel) rfl (.inl rfl)))) (λ_ _ _ _ _=>bI) (λ_ _ _ _ _=>(aI mU (iv 0) (iv 1))) (λ_=>rfl))) ag rfl) (by decide) (by decide) rfl rfl) (ab (jH (jq rfl) rfl T.z_tuple qaU (ab (aG (eB (cY (ah cj).names ["table","amounts","prices","shared"] ["number","shared"] 1 [3] rfl rfl rfl (by decide +kernel)) rfl (by decide) (dA (iv 2) rfl) (λ_ _ _ _ _=>(bD (ay (i:=0) (show qaZ (α:=Str) ["number","shared"] by decide +kernel) rfl (.inl rfl)))) (λ_ _ _ _ _=>bI) (λ_ _ _ _ _=>(aI mU (iv 0) (iv 1))) (λ_=>rfl))) ag rfl) (by decide) (by decide) rfl rfl) ag rfl) rfl) rfl) rfl)))))))
theorem oJ (T:Txt K mg t):bR P w K mg base CX0 2 t.f23 t.g23 ["table"] (spI K iQ):=
 fL (N:=["table","amounts","prices","shared"]) (b:=gB) T.F23 fW (mn T)
theorem qy (T:Txt K mg t):Bdy P w K mg base 3 ["rows","bounds","gains","table","step"] "most_of" fO t.f24 iK:=
 λ_ _ _ _ _ _ hr=>(aj (aJ (i:=3) i8.nd rfl (.inl rfl) (ym (N:=["self","rows","bounds","gains"]) (ps:=["self","rows","bounds","gains"]) (k:=2) T.mk_Table (ou T) (by decide) hr rfl T.cm_Table T.b11 T.cl_Table T.na_Table rfl (by decide) (ab (iv 0) (ab (iv 1) (ab (iv 2) ag rfl) rfl) rfl) (by decide) rfl rfl) rfl (.inl rfl)) (aj (aJ (i:=4) i8.nd rfl (.inl rfl) (jn (kP T) (by decide) hr rfl T.m17 T.F17.kp T.b17 (ab (iv 3) ag rfl) (by decide) rfl rfl) rfl (.inl rfl)) (aj (re (2^8000) (bz yW (iv 4) iy (aQ _)) (aj (bS (bz pY (aB (iv 4) ak rfl rfl) iy (aQ _)) (ao (aD (cB (ab de (ab (jn (vX T) (by decide) hr rfl T.m20 T.F20.kp T.b20 (ab (iv 3) (ab (aB (iv 4) ak rfl rfl) ag rfl) rfl) (by decide) rfl rfl) ag rfl) rfl)))) aR) (aj (qH (ax (qZ T) (by decide) hr rfl T.m19 T.F19.kp T.b19 (ab (iv 3) (ab (aB (iv 4) ak rfl rfl) (ab (aB (iv 4) ak rfl rfl) ag rfl) rfl) rfl) (by decide) rfl rfl) rfl) (ao (aJ (i:=4) i8.nd rfl (.inl rfl) (jn (kP T) (by decide) hr rfl T.m17 T.F17.kp T.b17 (ab (iv 3) ag rfl) (by decide) rfl rfl) rfl (.inl rfl))))) qbf) (ao (aD (jn (oJ T) (by decide) hr rfl T.m23 T.F23.kp T.b23 (ab (iv 3) ag rfl) (by decide) rfl rfl))))))
theorem sW (T:Txt K mg t):bR P w K mg base CX0 4 t.f24 t.g24 ["rows","bounds","gains"] (spI K jU):=
 fL (N:=["rows","bounds","gains","table","step"]) (b:=iK) T.F24 i8 (qy T)
theorem on (T:Txt K mg t):Bdy P w K mg base 0 ["_law_script","_law_k","_law_cell","_law_great"] "_law_pot" eK t.f25 gU:=
 λ_ _ _ _ _ _ hr=>(aj (aJ (i:=2) jC.nd rfl (.inl rfl) (xf (bz lj (iv 1) (bg (bU rfl) rfl T.z_len qaQ (ab (iv 0) ag rfl) (by decide) (by decide) rfl rfl) (aQ _)) (aB (iv 0) (iv 1) rfl rfl) ak) rfl (.inl rfl)) (aj (aJ (i:=3) jC.nd rfl (.inl rfl) (aI (ck rfl) (bg uj rfl T.z_abs qdg (ab (iv 2) ag rfl) (by decide) (by decide) rfl rfl) (jH wZ rfl T.z_int qb0 (ab (dF oU (bg uj rfl T.z_abs qdg (ab (iv 2) ag rfl) (by decide) (by decide) rfl rfl) (aI ut ak ak) (aQ _)) ag rfl) (by decide) (by decide) rfl rfl)) rfl (.inl rfl)) (ao (aD (iX (cw (ab (iv 3) (ab (aI jL (aI (ck rfl) (aI (bX rfl) (aI (bX rfl) (aI jL (iv 2) ak) (aI (ck rfl) (aI (ck rfl) ak (iv 1)) (iv 1))) ak) ak) ak) (ab ak ag rfl) rfl) rfl)))))))
theorem qP (T:Txt K mg t):bR P w K mg base CX0 1 t.f25 t.g25 ["_law_script","_law_k"] (spI K fE):=
 fL (N:=["_law_script","_law_k","_law_cell","_law_great"]) (b:=gU) T.F25 jC (on T)
theorem nJ (T:Txt K mg t):Bdy P w K mg base 0 ["_law_pot_here","_law_many","_law_digit"] "_law_pick" dG t.f26 eV:=
 λ_ _ _ _ _ _ hr=>(aj (eD (iv 0) ak (aI (bX rfl) (aB (iv 0) ak rfl rfl) ak) rfl rfl rfl) (aj (bS (fP (yS (bz lZ (aB (iv 0) ak rfl rfl) ak (aQ _)) (wO (bz wU (aB (iv 0) ak rfl rfl) ak (aQ _))))) (aj (aJ (i:=2) lb.nd rfl (.inl rfl) (aI jL (aB (iv 0) ak rfl rfl) (iv 1)) rfl (.inl rfl)) (aj (eD (iv 0) ak (aI uM (aB (iv 0) ak rfl rfl) (iv 1)) rfl rfl rfl) (ao (aD (iv 2))))) aR) (aj (eD (iv 0) ak (aI jL (aI (bX rfl) (aI (bX rfl) (aI (ck rfl) (aB (iv 0) ak rfl rfl) ak) ak) (aB (iv 0) ak rfl rfl)) ak) rfl rfl rfl) (ao (aD (aI jL (aI uM (aI jL (aI (ck rfl) (aB (iv 0) ak rfl rfl) (aI (bX rfl) (aI jL (aB (iv 0) ak rfl rfl) ak) ak)) ak) ak) (iv 1)))))))
theorem bO (T:Txt K mg t):bR P w K mg base CX0 1 t.f26 t.g26 ["_law_pot_here","_law_many"] (spI K aH):=
 fL (N:=["_law_pot_here","_law_many","_law_digit"]) (b:=eV) T.F26 lb (nJ T)
theorem nr (T:Txt K mg t):Bdy P w K mg base 1 ["_law_pot_here","_law_many","_law_low","_law_rows","_law_row","_law_far","_law_bounds"] "_law_case" cr t.f27 ge:=
 λ_ _ _ _ _ _ hr=>(aj (aJ (i:=1) dh.nd rfl (.inl rfl) (aI (bX rfl) ak (ax (bO T) (by decide) hr rfl T.m26 T.F26.kp T.b26 (ab (iv 0) (ab ak ag rfl) rfl) (by decide) rfl rfl)) rfl (.inl rfl)) (aj (aJ (i:=2) dh.nd rfl (.inr rfl) (aB (aG (cw (ab ak (ab ak (ab ak ag rfl) rfl) rfl))) (ax (bO T) (by decide) hr rfl T.m26 T.F26.kp T.b26 (ab (iv 0) (ab ak ag rfl) rfl) (by decide) rfl rfl) rfl rfl) rfl (.inl rfl)) (aj (aJ (i:=3) dh.nd rfl (.inl rfl) (iX (cw ag)) rfl (.inl rfl)) (aj (fN (io rfl T.z_range (ab (ax (bO T) (by decide) hr rfl T.m26 T.F26.kp T.b26 (ab (iv 0) (ab ak ag rfl) rfl) (by decide) rfl rfl) ag rfl) rfl) (bD (ay (i:=4) dh.nd rfl (.inl rfl))) (ao (qH (pf (iv 3) (ab (jH (jq rfl) rfl T.z_tuple qaU (ab (aG (eB (cY (ah cr).names ["_law_pot_here","_law_many","_law_low","_law_rows","_law_row","_law_far","_law_bounds"] ["_law_k","_law_pot_here","_law_low"] 1 [0,2] rfl rfl rfl (by decide +kernel)) rfl (by decide) (io rfl T.z_range (ab (iv 1) ag rfl) rfl) (λ_ _ _ _ _=>(bD (ay (i:=0) (show qaZ (α:=Str) ["_law_k","_law_pot_here","_law_low"] by decide +kernel) rfl (.inl rfl)))) (λ_ _ _ _ _=>bI) (λ_ _ _ _ _=>(aI (ck rfl) (aI lD (ax (bO T) (by decide) hr rfl T.m26 T.F26.kp T.b26 (ab (iv 1) (ab ak ag rfl) rfl) (by decide) rfl rfl) (iv 2)) (jH wZ rfl T.z_int qb0 (ab (dF lZ (ax (bO T) (by decide) hr rfl T.m26 T.F26.kp T.b26 (ab (iv 1) (ab ak ag rfl) rfl) (by decide) rfl rfl) ak (aQ _)) ag rfl) (by decide) (by decide) rfl rfl))) (λ_=>rfl))) ag rfl) (by decide) (by decide) rfl rfl) ag rfl) rfl rfl (by decide) rfl rfl) rfl)) qbf rfl (λ_=>rfl)) (aj (aJ (i:=5) dh.nd rfl (.inr rfl) (aB (aG (cw (ab ak (ab ak (ab ak (ab (aI ut ak ak) ag rfl) rfl) rfl) rfl))) (ax (bO T) (by decide) hr rfl T.m26 T.F26.kp T.b26 (ab (iv 0) (ab ak ag rfl) rfl) (by decide) rfl rfl) rfl rfl) rfl (.inl rfl)) (aj (aJ (i:=6) dh.nd rfl (.inl rfl) (jH (jq rfl) rfl T.z_tuple qaU (ab (aG (zB (cY (ah cr).names ["_law_pot_here","_law_many","_law_low","_law_rows","_law_row","_law_far","_law_bounds"] ["_law_row","_law_pot_here","_law_far"] 1 [0,5] rfl rfl rfl (by decide +kernel)) rfl (by decide) (iv 3) rfl (λ_ _ _ _ _=>(bD (ay (i:=0) (show qaZ (α:=Str) ["_law_row","_law_pot_here","_law_far"] by decide +kernel) rfl (.inl rfl)))) (λ_ _ _ _ _=>bI) (λ_ _ _ _ _=>(aI (ck rfl) (ax (bO T) (by decide) hr rfl T.m26 T.F26.kp T.b26 (ab (iv 1) (ab ak ag rfl) rfl) (by decide) rfl rfl) (iv 2))) (λ_=>rfl))) ag rfl) (by decide) (by decide) rfl rfl) rfl (.inl rfl)) (ao (aD (cB (ab (jH (jq rfl) rfl T.z_tuple qaU (ab (iv 3) ag rfl) (by decide) (by decide) rfl rfl) (ab (iv 6) (ab (jH (jq rfl) rfl T.z_tuple qaU (ab (aG (eB (cY (ah cr).names ["_law_pot_here","_law_many","_law_low","_law_rows","_law_row","_law_far","_law_bounds"] ["_law_k","_law_pot_here"] 1 [0] rfl rfl rfl (by decide +kernel)) rfl (by decide) (io rfl T.z_range (ab (iv 1) ag rfl) rfl) (λ_ _ _ _ _=>(bD (ay (i:=0) (show qaZ (α:=Str) ["_law_k","_law_pot_here"] by decide +kernel) rfl (.inl rfl)))) (λ_ _ _ _ _=>bI) (λ_ _ _ _ _=>(aI lD (ax (bO T) (by decide) hr rfl T.m26 T.F26.kp T.b26 (ab (iv 1) (ab ak ag rfl) rfl) (by decide) rfl rfl) ak)) (λ_=>rfl))) ag rfl) (by decide) (by decide) rfl rfl) ag rfl) rfl) rfl))))))))))
theorem qJ (T:Txt K mg t):bR P w K mg base CX0 2 t.f27 t.g27 ["_law_pot_here"] (spI K jy):=
 rh (N:=["_law_pot_here","_law_many","_law_low","_law_rows","_law_row","_law_far","_law_bounds"]) (b:=ge) T.F27 dh (nr T)
theorem oN (T:Txt K mg t):Bdy P w K mg base 0 ["_law_one","_law_other"] "_law_dot" dP t.f28 kE:=
 λ_ _ _ _ _ _ hr=>(ao (aD (bg (uv rfl rfl) rfl T.z_sum qdf (ab (aG (eB (cY (ah dP).names ["_law_one","_law_other"] ["_law_number","_law_by"] 2 [] rfl rfl rfl (by decide +kernel)) rfl (by decide) (ko rfl T.z_zip (ab (iv 0) (ab (iv 1) ag rfl) rfl) rfl rfl rfl) (λ_ _ _ _ _=>(fB (aS (ay (i:=0) (show qaZ (α:=Str) ["_law_number","_law_by"] by decide +kernel) rfl (.inl rfl)) (aS (ay (i:=1) (show qaZ (α:=Str) ["_law_number","_law_by"] by decide +kernel) rfl (.inl rfl)) dC)) rfl rfl rfl rfl rfl)) (λ_ _ _ _ _=>bI) (λ_ _ _ _ _=>(aI (ck rfl) (iv 0) (iv 1))) (λ_=>rfl))) ag rfl) (by decide) (by decide) rfl rfl)))
theorem gj (T:Txt K mg t):bR P w K mg base CX0 1 t.f28 t.g28 ["_law_one","_law_other"] (spI K cN):=
 fL (N:=["_law_one","_law_other"]) (b:=kE) T.F28 sk (oN T)
theorem mm (T:Txt K mg t):Bdy P w K mg base 0 ["_law_item"] "_law_whole" dc t.f29 i7:=
 λ_ _ _ _ _ _ hr=>(ao (aD (iR (bg (eP rfl) rfl T.z_isinstance qaJ (ab (iv 0) (ab (gG rfl T.z_int qb0 (by decide) (by decide)) ag rfl) rfl) (by decide) (by decide) rfl rfl) (iU (wQ (bg (eP rfl) rfl T.z_isinstance qaJ (ab (iv 0) (ab (gG rfl T.z_bool qc9 (by decide) (by decide)) ag rfl) rfl) (by decide) (by decide) rfl rfl))))))
theorem kf (T:Txt K mg t):bR P w K mg base CX0 1 t.f29 t.g29 ["_law_item"] (spI K cI):=
 fL (N:=["_law_item"]) (b:=i7) T.F29 oo (mm T)
theorem li (T:Txt K mg t):Bdy P w K mg base 1 ["_law_item","_law_many"] "_law_numbers" bY t.f30 gR:=
 λ_ _ _ _ _ _ hr=>(aj (bS (fP (d8 (dB (cc (bg (eP rfl) rfl T.z_isinstance qaJ (ab (iv 0) (ab (gG rfl T.z_tuple qaU (by decide) (by decide)) ag rfl) rfl) (by decide) (by decide) rfl rfl) rfl rfl)) (eG (bz (pj hr rfl) (bg (bU rfl) rfl T.z_len qaQ (ab (iv 0) ag rfl) (by decide) (by decide) rfl rfl) (iv 1) (aQ _))))) (ao (aD fq)) aR) (ao (aD (bg (ny rfl rfl) rfl T.z_all qb1 (ab (aG (eB (cY (ah bY).names ["_law_item","_law_many"] ["_law_one"] 1 [] rfl rfl rfl (by decide +kernel)) rfl (by decide) (dA (iv 0) rfl) (λ_ _ _ _ _=>(bD (ay (i:=0) (show qaZ (α:=Str) ["_law_one"] by decide +kernel) rfl (.inl rfl)))) (λ_ _ _ _ _=>bI) (λ_ _ _ _ _=>(iR (ax (kf T) (by decide) hr rfl T.m29 T.F29.kp T.b29 (ab (iv 0) ag rfl) (by decide) rfl rfl) (iU (dF oU (iv 0) ak (aQ _))))) (λ_=>rfl))) ag rfl) (by decide) (by decide) rfl rfl))))
theorem gr (T:Txt K mg t):bR P w K mg base CX0 2 t.f30 t.g30 ["_law_item","_law_many"] (spI K bo):=
 fL (N:=["_law_item","_law_many"]) (b:=gR) T.F30 mB (li T)
theorem kB (T:Txt K mg t):Bdy P w K mg base 2 ["_law_case_here","_law_part","_law_amounts","_law_prices","_law_rows","_law_bounds","_law_gains","_law_k"] "_law_greatest" bJ t.f31 bP:=
 λ_ _ _ _ _ _ hr=>(aj (wH (iv 0) (fB (aS (ay (i:=4) cT.nd rfl (.inl rfl)) (aS (ay (i:=5) cT.nd rfl (.inl rfl)) (aS (ay (i:=6) cT.nd rfl (.inl rfl)) dC))) rfl rfl rfl rfl rfl) rfl rfl rfl) (aj (bS (fP (d8 (dB (cc (ax (kf T) (by decide) hr rfl T.m29 T.F29.kp T.b29 (ab (iv 1) ag rfl) (by decide) rfl rfl) rfl rfl)) (d8 (bz lj (iv 1) ak (aQ _)) (eG (dB (cc (ax (gr T) (by decide) hr rfl T.m30 T.F30.kp T.b30 (ab (iv 2) (ab (bg (bU rfl) rfl T.z_len qaQ (ab (iv 6) ag rfl) (by decide) (by decide) rfl rfl) ag rfl) rfl) (by decide) rfl rfl) rfl rfl)))))) (ao (aD fq)) aR) (aj (bS (dB (cc (ax (gr T) (by decide) hr rfl T.m30 T.F30.kp T.b30 (ab (iv 3) (ab (bg (bU rfl) rfl T.z_len qaQ (ab (iv 4) ag rfl) (by decide) (by decide) rfl rfl) ag rfl) rfl) (by decide) rfl rfl) rfl rfl)) (ao (aD fq)) aR) (aj (bS (cc (bg (xU rfl rfl) rfl T.z_any qhS (ab (aG (eB (cY (ah bJ).names ["_law_case_here","_law_part","_law_amounts","_law_prices","_law_rows","_law_bounds","_law_gains","_law_k"] ["_law_row","_law_bound","_law_amounts","_law_part"] 2 [2,1] rfl rfl rfl (by decide +kernel)) rfl (by decide) (ko rfl T.z_zip (ab (iv 4) (ab (iv 5) ag rfl) rfl) rfl rfl rfl) (λ_ _ _ _ _=>(fB (aS (ay (i:=0) (show qaZ (α:=Str) ["_law_row","_law_bound","_law_amounts","_law_part"] by decide +kernel) rfl (.inl rfl)) (aS (ay (i:=1) (show qaZ (α:=Str) ["_law_row","_law_bound","_law_amounts","_law_part"] by decide +kernel) rfl (.inl rfl)) dC)) rfl rfl rfl rfl rfl)) (λ_ _ _ _ _=>bI) (λ_ _ _ _ _=>(dF lZ (ax (gj T) (by decide) hr rfl T.m28 T.F28.kp T.b28 (ab (iv 0) (ab (iv 2) ag rfl) rfl) (by decide) rfl rfl) (aI (ck rfl) (iv 1) (iv 3)) (aQ _))) (λ_=>rfl))) ag rfl) (by decide) (by decide) rfl rfl) rfl rfl) (ao (aD fq)) aR) (aj (fN (io rfl T.z_range (ab (bg (bU rfl) rfl T.z_len qaQ (ab (iv 6) ag rfl) (by decide) (by decide) rfl rfl) ag rfl) rfl) (bD (ay (i:=7) cT.nd rfl (.inr rfl))) (ao (bS (bz lj (bg (uv rfl rfl) rfl T.z_sum qdf (ab (aG (eB (cY (ah bJ).names ["_law_case_here","_law_part","_law_amounts","_law_prices","_law_rows","_law_bounds","_law_gains","_law_k"] ["_law_row","_law_price","_law_k"] 2 [7] rfl rfl rfl (by decide +kernel)) rfl (by decide) (ko rfl T.z_zip (ab (iv 4) (ab (iv 3) ag rfl) rfl) rfl rfl rfl) (λ_ _ _ _ _=>(fB (aS (ay (i:=0) (show qaZ (α:=Str) ["_law_row","_law_price","_law_k"] by decide +kernel) rfl (.inl rfl)) (aS (ay (i:=1) (show qaZ (α:=Str) ["_law_row","_law_price","_law_k"] by decide +kernel) rfl (.inl rfl)) dC)) rfl rfl rfl rfl rfl)) (λ_ _ _ _ _=>bI) (λ_ _ _ _ _=>(aI (ck rfl) (aB (iv 0) (iv 2) rfl rfl) (iv 1))) (λ_=>rfl))) ag rfl) (by decide) (by decide) rfl rfl) (aI (ck rfl) (aB (iv 6) (iv 7) rfl rfl) (iv 1)) (aQ _)) (ao (aD fq)) aR)) qbf rfl (λ_=>rfl)) (ao (aD (dF (jc hr rfl) (ax (gj T) (by decide) hr rfl T.m28 T.F28.kp T.b28 (ab (iv 5) (ab (iv 3) ag rfl) rfl) (by decide) rfl rfl) (ax (gj T) (by decide) hr rfl T.m28 T.F28.kp T.b28 (ab (iv 6) (ab (iv 2) ag rfl) rfl) (by decide) rfl rfl) (aQ _)))))))))
theorem lK (T:Txt K mg t):bR P w K mg base CX0 3 t.f31 t.g31 ["_law_case_here","_law_part","_law_amounts","_law_prices"] (spI K eJ):=
 fL (N:=["_law_case_here","_law_part","_law_amounts","_law_prices","_law_rows","_law_bounds","_law_gains","_law_k"]) (b:=bP) T.F31 cT (kB T)
theorem oA (T:Txt K mg t):Bdy P w K mg base 3 ["_law_case_here","_law_item"] "_law_due" dQ t.f32 dg:=
 λ_ _ _ _ _ _ hr=>(aj (bS (fP (d8 (dB (cc (bg (eP rfl) rfl T.z_isinstance qaJ (ab (iv 1) (ab (gG rfl T.z_tuple qaU (by decide) (by decide)) ag rfl) rfl) (by decide) (by decide) rfl rfl) rfl rfl)) (d8 (bz (su rfl) (bg (bU rfl) rfl T.z_len qaQ (ab (iv 1) ag rfl) (by decide) (by decide) rfl rfl) (cB (ab ak (ab ak ag rfl) rfl)) rfl) (eG (dB (cc (bg (eP rfl) rfl T.z_isinstance qaJ (ab (aB (iv 1) ak rfl rfl) (ab (gG rfl T.z_str qcz (by decide) (by decide)) ag rfl) rfl) (by decide) (by decide) rfl rfl) rfl rfl)))))) (ao (aD fq)) aR) (aj (bS (bz (jc hr rfl) (bg (bU rfl) rfl T.z_len qaQ (ab (iv 1) ag rfl) (by decide) (by decide) rfl rfl) ak (aQ _)) (ao (aD (iR (dF (jc hr rfl) (aB (iv 1) ak rfl rfl) de (aQ _)) (iU (ax (lK T) (by decide) hr rfl T.m31 T.F31.kp T.b31 (ab (iv 0) (ab (aB (iv 1) ak rfl rfl) (ab (aB (iv 1) ak rfl rfl) (ab (aB (iv 1) ak rfl rfl) ag rfl) rfl) rfl) rfl) (by decide) rfl rfl))))) aR) (aj (bS (fP (d8 (bz (pj hr rfl) (aB (iv 1) ak rfl rfl) de (aQ _)) (eG (dB (cc (ax (gr T) (by decide) hr rfl T.m30 T.F30.kp T.b30 (ab (aB (iv 1) ak rfl rfl) (ab (bg (bU rfl) rfl T.z_len qaQ (ab (aB (iv 0) ak rfl rfl) ag rfl) (by decide) (by decide) rfl rfl) ag rfl) rfl) (by decide) rfl rfl) rfl rfl))))) (ao (aD fq)) aR) (ao (aD (iR (bg (ny rfl rfl) rfl T.z_all qb1 (ab (aG (eB (cY (ah dQ).names ["_law_case_here","_law_item"] ["_law_row","_law_item"] 1 [1] rfl rfl rfl (by decide +kernel)) rfl (by decide) (dA (aB (iv 0) ak rfl rfl) rfl) (λ_ _ _ _ _=>(bD (ay (i:=0) (show qaZ (α:=Str) ["_law_row","_law_item"] by decide +kernel) rfl (.inl rfl)))) (λ_ _ _ _ _=>bI) (λ_ _ _ _ _=>(dF wU (ax (gj T) (by decide) hr rfl T.m28 T.F28.kp T.b28 (ab (iv 0) (ab (aB (iv 1) ak rfl rfl) ag rfl) rfl) (by decide) rfl rfl) ak (aQ _))) (λ_=>rfl))) ag rfl) (by decide) (by decide) rfl rfl) (iU (dF lZ (ax (gj T) (by decide) hr rfl T.m28 T.F28.kp T.b28 (ab (aB (iv 0) ak rfl rfl) (ab (aB (iv 1) ak rfl rfl) ag rfl) rfl) (by decide) rfl rfl) ak (aQ _)))))))))
theorem rg (T:Txt K mg t):bR P w K mg base CX0 4 t.f32 t.g32 ["_law_case_here","_law_item"] (spI K dk):=
 fL (N:=["_law_case_here","_law_item"]) (b:=dg) T.F32 rB (oA T)
theorem ot (T:Txt K mg t):Bdy P w K mg base 1 ["_law_pot_here","_law_item","_law_some"] "_law_odd" eO t.f33 fK:=
 λ_ _ _ _ _ _ hr=>(aj (aJ (i:=2) gh.nd rfl (.inl rfl) (aG (cw (ab iy (ab fq (ab fq (ab ak (ab ak (ab (lG ak) (ab de (ab de (ab de (ab de (ab (cB ag) (ab (aG (cw ag)) (ab zg (ab (cB (ab (iv 1) ag rfl)) (ab (aG (cw (ab (iv 1) ag rfl))) (ab (aI ut ak ak) (ab Cv ag rfl) rfl) rfl) rfl) rfl) rfl) rfl) rfl) rfl) rfl) rfl) rfl) rfl) rfl) rfl) rfl) rfl))) rfl (.inl rfl)) (aj (bS (cc (bg (eP rfl) rfl T.z_isinstance qaJ (ab (iv 1) (ab (gG rfl T.z_int qb0 (by decide) (by decide)) ag rfl) rfl) (by decide) (by decide) rfl rfl) rfl rfl) (ao (aJ (i:=2) gh.nd rfl (.inl rfl) (aI (bX rfl) (iv 2) (aG (cw (ab (jH zT rfl T.z_str qcz (ab (iv 1) ag rfl) (by decide) (by decide) rfl rfl) (ab (dF (jc hr rfl) (iv 1) ak (aQ _)) (ab (aI (bX rfl) (iv 1) ak) (ab (aI lD ak (iv 1)) ag rfl) rfl) rfl) rfl)))) rfl (.inl rfl))) aR) (aj (bS (cc (bg (eP rfl) rfl T.z_isinstance qaJ (ab (iv 1) (ab (gG rfl T.z_tuple qaU (by decide) (by decide)) ag rfl) rfl) (by decide) (by decide) rfl rfl) rfl rfl) (ao (aJ (i:=2) gh.nd rfl (.inl rfl) (aI (bX rfl) (iv 2) (aG (cw (ab (aG (wg (mE rfl) rfl T.z_list qbM (ab (iv 1) ag rfl) (by decide) (by decide) rfl rfl)) (ab (aI (bX rfl) (iv 1) (cB (ab ak ag rfl))) (ab (uS (iv 1) (kW ak) kK rfl) (ab (AY (iv 1) rfl) ag rfl) rfl) rfl) rfl)))) rfl (.inl rfl))) aR) (aj (bS (cc (bg (eP rfl) rfl T.z_isinstance qaJ (ab (iv 1) (ab (gG rfl T.z_str qcz (by decide) (by decide)) ag rfl) rfl) (by decide) (by decide) rfl rfl) rfl rfl) (ao (aJ (i:=2) gh.nd rfl (.inl rfl) (aI (bX rfl) (iv 2) (aG (cw (ab (aI (bX rfl) (iv 1) de) (ab (Ao (iv 1) (kW ak) kK rfl) (ab (cB (ab (iv 1) (ab (iv 1) ag rfl) rfl)) ag rfl) rfl) rfl)))) rfl (.inl rfl))) aR) (ao (aD (aB (iv 2) (ax (bO T) (by decide) hr rfl T.m26 T.F26.kp T.b26 (ab (iv 0) (ab (bg (bU rfl) rfl T.z_len qaQ (ab (iv 2) ag rfl) (by decide) (by decide) rfl rfl) ag rfl) rfl) (by decide) rfl rfl) rfl rfl)))))))
theorem so (T:Txt K mg t):bR P w K mg base CX0 2 t.f33 t.g33 ["_law_pot_here","_law_item"] (spI K kv):=
 fL (N:=["_law_pot_here","_law_item","_law_some"]) (b:=fK) T.F33 gh (ot T)
theorem nk (T:Txt K mg t) (n:Nat) (ih:bR P w K mg base CX0 (2+n) t.f34 t.g34 ["_law_pot_here","_law_item"] (spI K (aX n))) (cdv:Value) (A:qa8) (outer:List Env) (s:qak) (H:Hp) (E:XK) (hr:dW (2+n) (A.deeper (qeI "_law_bent" (ah cM) s.heap.objs.size t.f34 cdv))):ISs K (nj CX0 P w K mg base ["_law_pot_here","_law_item","_law_at"] "_law_bent" (ah cM) t.f34 cdv A outer s H E).nox (aF cM) (db (aX n)):=
 (aj (bS (fP (d8 (dB (cc (bg (eP rfl) rfl T.z_isinstance qaJ (ab (iv 1) (ab (gG rfl T.z_tuple qaU (by decide) (by decide)) ag rfl) rfl) (by decide) (by decide) rfl rfl) rfl rfl)) (d8 (bz (jc hr rfl) (iv 1) (cB ag) (aQ _)) (eG (bz (jc hr rfl) (ax (bO T) (by omega) hr rfl T.m26 T.F26.kp T.b26 (ab (iv 0) (ab ak ag rfl) rfl) (by decide) rfl rfl) ak (aQ _)))))) (ao (aD (ax (so T) (by omega) hr rfl T.m33 T.F33.kp T.b33 (ab (iv 0) (ab (iv 1) ag rfl) rfl) (by decide) rfl rfl))) aR) (aj (aJ (i:=2) lq.nd rfl (.inl rfl) (ax (bO T) (by omega) hr rfl T.m26 T.F26.kp T.b26 (ab (iv 0) (ab (bg (bU rfl) rfl T.z_len qaQ (ab (iv 1) ag rfl) (by decide) (by decide) rfl rfl) ag rfl) rfl) (by decide) rfl rfl) rfl (.inl rfl)) (ao (aD (aI (bX rfl) (aI (bX rfl) (uS (iv 1) kK (kW (iv 2)) rfl) (cB (ab (ax ih (qal _) hr rfl T.m34 T.F34.kp T.b34 (ab (iv 0) (ab (aB (iv 1) (iv 2) rfl rfl) ag rfl) rfl) (by decide) rfl rfl) ag rfl))) (uS (iv 1) (kW (aI (bX rfl) (iv 2) ak)) kK rfl))))))
theorem kN (T:Txt K mg t):∀ n:Nat,bR P w K mg base CX0 (2+n) t.f34 t.g34 ["_law_pot_here","_law_item"] (spI K (aX n))
 |0=>⟨λ_ _ _ _ ⟨_,_,_,_,h,_⟩=>(nomatch h),λ_ _ _ _ _ _ _ _ _ _ _ _ _ ⟨_,_,_,_,h,_⟩=>(nomatch h)⟩
 |n+1=>show bR P w K mg base CX0 (2+n+1) t.f34 t.g34 ["_law_pot_here","_law_item"] (spI K (cC (qfH (α:=Str) ["_law_pot_here","_law_item","_law_at"]) (qfH (α:=Str) ["_law_pot_here","_law_item"]) (db (aX n)))) from fL (N:=["_law_pot_here","_law_item","_law_at"]) (ps:=["_law_pot_here","_law_item"]) (k:=2+n) (b:=db (aX n)) T.F34 lq (λcdv A outer s H E hr=>nk T n (kN T n) cdv A outer s H E hr)
theorem xk (T:Txt K mg t):Bdy P w K mg base 8 ["_law_script","_law_deep","_law_turn","_law_k","_law_pot_here","_law_case_here","_law_rows","_law_bounds","_law_gains","_law_told","_law_some","_law_item","_law_truth"] "law" lY t.f35 vk:=
 λ_ _ _ _ _ _ hr=>(aj (aJ (i:=1) eM.nd rfl (.inl rfl) (cB ag) rfl (.inl rfl)) (aj (fN (io rfl T.z_range (ab ak ag rfl) rfl) (bD (ay (i:=2) eM.nd rfl (.inl rfl))) (ao (aJ (i:=1) eM.nd rfl (.inl rfl) (cB (ab (iv 1) ag rfl)) rfl (.inl rfl))) qbf rfl (λ_=>rfl)) (aj (fN (io rfl T.z_range (ab (aI (bX rfl) ak (bg (Al rfl) rfl T.z_min qhR (ab ak (ab (bg (bU rfl) rfl T.z_len qaQ (ab (iv 0) ag rfl) (by decide) (by decide) rfl rfl) ag rfl) rfl) (by decide) (by decide) rfl rfl)) ag rfl) rfl) (bD (ay (i:=3) eM.nd rfl (.inl rfl))) (aj (aJ (i:=4) eM.nd rfl (.inr rfl) (ax (qP T) (by decide) hr rfl T.m25 T.F25.kp T.b25 (ab (iv 0) (ab (iv 3) ag rfl) rfl) (by decide) rfl rfl) rfl (.inl rfl)) (aj (aJ (i:=5) eM.nd rfl (.inl rfl) (ax (qJ T) (by decide) hr rfl T.m27 T.F27.kp T.b27 (ab (iv 4) ag rfl) (by decide) rfl rfl) rfl (.inl rfl)) (aj (wH (iv 5) (fB (aS (ay (i:=6) eM.nd rfl (.inl rfl)) (aS (ay (i:=7) eM.nd rfl (.inl rfl)) (aS (ay (i:=8) eM.nd rfl (.inl rfl)) dC))) rfl rfl rfl rfl rfl) rfl rfl rfl) (aj (aJ (i:=9) eM.nd rfl (.inr rfl) (ax (sW T) (by decide) hr rfl T.m24 T.F24.kp T.b24 (ab (iv 6) (ab (iv 7) (ab (iv 8) ag rfl) rfl) rfl) (by decide) rfl rfl) rfl (.inl rfl)) (aj (aJ (i:=10) eM.nd rfl (.inl rfl) (aG (cw (ab iy (ab fq (ab ak (ab de (ab de (ab (cB ag) (ab (aG (cw ag)) (ab zg (ab (cB (ab de ag rfl)) (ab (cB (ab de ag rfl)) (ab (aG (wg (mE rfl) rfl T.z_list qbM (ab (iv 9) ag rfl) (by decide) (by decide) rfl rfl)) (ab (uS (iv 9) (kW ak) kK rfl) (ab (cB (ab (iv 9) ag rfl)) (ab (iv 1) ag rfl) rfl) rfl) rfl) rfl) rfl) rfl) rfl) rfl) rfl) rfl) rfl) rfl) rfl))) rfl (.inl rfl)) (aj (aJ (i:=10) eM.nd rfl (.inl rfl) (aI (bX rfl) (iv 10) (aG (cw (ab (cB (ab de (ab (iv 1) (ab (iv 1) (ab (iv 1) ag rfl) rfl) rfl) rfl)) (ab (cB (ab de (ab (iv 1) ag rfl) rfl)) (ab (cB (ab de (ab (iv 8) ag rfl) rfl)) (ab (cB (ab de (ab ak (ab (iv 8) (ab (iv 7) ag rfl) rfl) rfl) rfl)) ag rfl) rfl) rfl) rfl)))) rfl (.inl rfl)) (ao (fN (dA (aI (bX rfl) (iv 10) (aG (eB (cY (ah lY).names ["_law_script","_law_deep","_law_turn","_law_k","_law_pot_here","_law_case_here","_law_rows","_law_bounds","_law_gains","_law_told","_law_some","_law_item","_law_truth"] ["_law_turn","_law_pot_here","_law_told"] 1 [4,9] rfl rfl rfl (by decide +kernel)) rfl (by decide) (io rfl T.z_range (ab ak ag rfl) rfl) (λ_ _ _ _ _=>(bD (ay (i:=0) (show qaZ (α:=Str) ["_law_turn","_law_pot_here","_law_told"] by decide +kernel) rfl (.inl rfl)))) (λ_ _ _ _ _=>bI) (λ_ _ _ _ _=>(ax (kN T 5) (by decide) hr rfl T.m34 T.F34.kp T.b34 (ab (iv 1) (ab (iv 2) ag rfl) rfl) (by decide) rfl rfl)) (λ_=>rfl)))) rfl) (bD (ay (i:=11) eM.nd rfl (.inl rfl))) (aj (aJ (i:=12) eM.nd rfl (.inl rfl) (ax (ox T) (by decide) hr rfl T.m10 T.F10.kp T.b10 (ab (iv 6) (ab (iv 7) (ab (iv 8) (ab (iv 11) ag rfl) rfl) rfl) rfl) (by decide) rfl rfl) rfl (.inl rfl)) (ao (bS (fP (d8 (dB (cc (bg (eP rfl) rfl T.z_isinstance qaJ (ab (iv 12) (ab (gG rfl T.z_bool qc9 (by decide) (by decide)) ag rfl) rfl) (by decide) (by decide) rfl rfl) rfl rfl)) (eG (bz (pj hr rfl) (iv 12) (ax (rg T) (by decide) hr rfl T.m32 T.F32.kp T.b32 (ab (iv 5) (ab (iv 11) ag rfl) rfl) (by decide) rfl rfl) (aQ _))))) (ao (aD fq)) aR))) qbf rfl (λ_=>rfl))))))))) qbf rfl (λ_=>rfl)) (ao (aD fq)))))
theorem AF (T:Txt K mg t):bR P w K mg base CX0 9 t.f35 t.g35 ["_law_script"] (spI K rj):=
 rh (N:=["_law_script","_law_deep","_law_turn","_law_k","_law_pot_here","_law_case_here","_law_rows","_law_bounds","_law_gains","_law_told","_law_some","_law_item","_law_truth"]) (b:=vk) T.F35 eM (xk T)
end
end Own
end
namespace L2
open PySem
end L2
namespace L2
end L2
namespace L2
open PySem
def gW:Nat->List Int->Nat
 |g,[]=>g
 |g,n::ns=>gW (qeU g n.natAbs) ns
theorem rP (n:Int):∀ (g:Nat) (ns:List Int),gW g (ns++[n])=qeU (gW g ns) n.natAbs
 |g,[]=>rfl
 |g,m::ns=>rP n _ ns
theorem kY:∀ (g:Nat) (ns:List Int),gW g ns∣g/\∀ n∈ns,gW g ns∣n.natAbs
 |g,[]=>⟨Nat.dvd_refl _,λ_ h=>by cases h⟩
 |g,m::ns=>by
  have ih:=kY (qeU g m.natAbs) ns
  refine⟨qg1 ih.1 (Nat.gcd_dvd_left _ _),λn hn=>?_⟩
  rcases qar.mp hn with rfl|hn
  ·exact qg1 ih.1 (Nat.gcd_dvd_right _ _)
  ·exact ih.2 n hn
theorem wN {ns:List Int}{n:Int} (hn:n∈ns) (h0:n≠0):0<gW 0 ns/\gW 0 ns<=n.natAbs:=by
 have h:=(kY 0 ns).2 n hn
 have hp:0<n.natAbs:=by lia
 exact⟨Nat.pos_of_dvd_of_pos h hp,Nat.le_of_dvd hp h⟩
theorem ai {g:Sto->W->W->Option D}{a b:Ef}{env:Ev}{st s1 s2:Sto}{x y:W}{d:D} (ha:a env st=some (x,s1)) (hb:b env s1=some (y,s2)) (hg:g s2 x y=some d):iOp g a b env st=some (.d d,s2):=by
 simp only[iOp,ha,hb,hg,qab,qaD]
theorem aV {g:Sto->W->W->Option D}{a b:Ef}{env:Ev}{st s1 s2:Sto}{x y:W}{k:Bool} (ha:a env st=some (x,s1)) (hb:b env s1=some (y,s2)) (hg:g s2 x y=some (.bl k)):bh g a b env st=some (k,s2):=by
 simp only[bh,ha,hb,hg,qab,rF,qaD]
theorem aE {i:Nat}{f:Ef}{env:Ev}{st s:Sto}{w:W} (h:f env st=some (w,s)):aN (.nm i) f env st=some (.nx (env.set i (some w)) s):=by
 simp only[aN,h,qab,e9,qaD]
theorem aq {m:Fn}{a:Af}{env:Ev}{st s:Sto}{ws:List W}{r:W×Sto} (ha:a env st=some (ws,s)) (hm:m ws s=some r):av m a env st=some r:=by
 simp only[av,ha,hm,qab]
theorem aC {g:Sto->List W->Option D}{a:Af}{env:Ev}{st s:Sto}{ws:List W}{d:D} (ha:a env st=some (ws,s)) (hm:g s ws=some d):iCB g a env st=some (.d d,s):=by
 simp only[iCB,ha,hm,qab,qaD]
theorem ac {a:Ef}{b:Af}{env:Ev}{st s1 s2:Sto}{x:W}{y:List W} (ha:a env st=some (x,s1)) (hb:b env s1=some (y,s2)):aa a b env st=some (x::y,s2):=by
 simp only[aa,ha,hb,qab,qaD]
theorem cQ {fi:Lf}{g:Tg}{b:Sf}{env:Ev}{st s:Sto}{ds:List D}{r:Fl} (h:fi env st=some (ds,s)) (hf:dY g b ds env s=some r):jh fi g b env st=some r:=by
 simp only[jh,h,hf,qab]
theorem aY {f:Ef}{env:Ev}{st s:Sto}{w:W} (h:f env st=some (w,s)):br f env st=some (.rt w s):=by
 simp only[br,h,qaD]
theorem cm {k:Nat}{js:List Nat}{fi:Lf}{g:Tg}{tt:Tf}{te:Ef}{env:Ev}{st s s2:Sto}{ds ys:List D} (h:fi env st=some (ds,s)) (hl:ds.length<=1000000) (hc:lcI g tt te (jg k js env) ds s=some (ys,s2)):iLc k js fi g tt te env st=some (ys,s2):=by
 simp only[iLc,h,hc,hl,qab,if_true]
theorem aL {a:Lf}{env:Ev}{st s:Sto}{ds:List D} (h:a env st=some (ds,s)):aA a env st=some (.d (.lst ds),s):=by
 simp only[aA,h,qaD]
theorem az {n k:Nat}{b:Sf}{ws:List W}{st s:Sto}{w:W} (hl:ws.length=k) (h:b (ws.map some++qaC (n - k) none) st=some (.rt w s)):cC n k b ws st=some (w,s):=by
 simp only[cC,hl,if_true,h,qab]
theorem nW {n k:Nat}{b:Sf}{ws:List W}{st s:Sto}{x:D} (hl:ws.length=k) (h:b (ws.map some++qaC (n - k) none) st=some (.rt (.d x) s)):jX n k b ws st=some (.d x,s.take st.length):=by
 simp only[jX,hl,if_true,h,qab,xm]
end L2
namespace Sx
abbrev Vec:=Nat->Int
def sumN:Nat->(Nat->Int)->Int
 |0,_=>0
 |n+1,f=>sumN n f+f n
theorem sumN_congr {n:Nat}{f g:Nat->Int} (h:∀ k,k<n->f k=g k):sumN n f=sumN n g:=by
 induction n with
 |zero=>rfl
 |succ n ih=>rw[sumN,sumN,ih λk hk=>h k (by omega),h n (by omega)]
theorem sumN_add (n:Nat) (f g:Nat->Int):sumN n (λk=>f k+g k)=sumN n f+sumN n g:=by
 induction n with
 |zero=>rfl
 |succ n ih=>rw[sumN,sumN,sumN,ih];omega
theorem sumN_mul (n:Nat) (c:Int) (f:Nat->Int):sumN n (λk=>c*f k)=c*sumN n f:=by
 induction n with
 |zero=>simp[sumN]
 |succ n ih=>rw[sumN,sumN,ih,qb6]
theorem sumN_zero (n:Nat):sumN n (λ_=>0)=0:=by
 induction n with
 |zero=>rfl
 |succ n ih=>rw[sumN,ih];rfl
theorem sumN_single {n i:Nat} (hi:i<n) {f:Nat->Int} (h:∀ k,k<n->k≠i->f k=0):sumN n f=f i:=by
 induction n with
 |zero=>omega
 |succ n ih=>
  rw[sumN]
  by_cases e:i=n
  ·subst e
   rw[sumN_congr (g:=λ_=>0) λk hk=>h k (by omega) (by omega),sumN_zero];omega
  ·rw[ih (by omega) λk hk hne=>h k (by omega) hne,h n (by omega) (by omega)];omega
theorem sumN_pair {n i j:Nat} (hi:i<n) (hj:j<n) (hij:i≠j) {f:Nat->Int} (h:∀ k,k<n->k≠i->k≠j->f k=0):sumN n f=f i+f j:=by
 have e:sumN n f=sumN n (λk=>(if k=i then f i else 0)+(if k=j then f j else 0)):=by
  refine sumN_congr λk hk=>?_
  by_cases h1:k=i
  ·subst h1;rw[if_pos rfl,if_neg hij];omega
  ·by_cases h2:k=j
   ·subst h2;rw[if_neg h1,if_pos rfl];omega
   ·rw[if_neg h1,if_neg h2,h k hk h1 h2];rfl
 rw[e,sumN_add,sumN_single hi λk _ hne=>if_neg hne,sumN_single hj λk _ hne=>if_neg hne,if_pos rfl,if_pos rfl]
def skip (k j:Nat):Nat:=if j<k then j else j+1
def sg (k:Nat):Int:=if k%2=0 then 1 else -1
theorem sg_succ (k:Nat):sg (k+1)=- sg k:=by
 unfold sg
 by_cases h:k%2=0
 ·rw[if_pos h,if_neg (by omega)]
 ·rw[if_neg h,if_pos (by omega)];rfl
def det:Nat->(Nat->Vec)->Int
 |0,_=>1
 |m+1,C=>sumN (m+1) λk=>sg k*C k 0*det m (λj t=>C (skip k j) (t+1))
theorem det_congr:∀ (m:Nat) {C E:Nat->Vec},(∀ k t,k<m->t<m->C k t=E k t)->det m C=det m E:=by
 intro m
 induction m with
 |zero=>intros;rfl
 |succ m ih=>
  intro C E h
  rw[det,det]
  refine sumN_congr λk hk=>?_
  rw[h k 0 hk (by omega),ih (C:=λj t=>C (skip k j) (t+1)) (E:=λj t=>E (skip k j) (t+1)) λj t hj ht=>h (skip k j) (t+1) (by unfold skip;split<;>omega) (by omega)]
def upd (C:Nat->Vec) (i:Nat) (v:Vec):Nat->Vec:=λj=>if j=i then v else C j
theorem upd_same (C:Nat->Vec) (i:Nat) (v:Vec):upd C i v i=v:=if_pos rfl
theorem upd_ne {C:Nat->Vec}{i j:Nat}{v:Vec} (h:j≠i):upd C i v j=C j:=if_neg h
theorem upd_self (C:Nat->Vec) (i:Nat):upd C i (C i)=C:=by
 funext j
 by_cases h:j=i
 ·rw[h,upd_same]
 ·rw[upd_ne h]
theorem upd_upd (C:Nat->Vec) (i:Nat) (u v:Vec):upd (upd C i u) i v=upd C i v:=by
 funext j
 by_cases h:j=i
 ·rw[h,upd_same,upd_same]
 ·rw[upd_ne h,upd_ne h,upd_ne h]
theorem upd_comm {C:Nat->Vec}{i j:Nat}{u v:Vec} (h:i≠j):upd (upd C i u) j v=upd (upd C j v) i u:=by
 funext k
 by_cases h1:k=i
 ·subst h1;rw[upd_ne h,upd_same,upd_same]
 ·by_cases h2:k=j
  ·subst h2;rw[upd_same,upd_ne h1,upd_same]
  ·rw[upd_ne h2,upd_ne h1,upd_ne h1,upd_ne h2]
def unskip (k i:Nat):Nat:=if i<k then i else i - 1
theorem skip_upd {C:Nat->Vec}{k i:Nat}{v:Vec} (h:k≠i):(λj t=>upd C i v (skip k j) (t+1))=upd (λj t=>C (skip k j) (t+1)) (unskip k i) (λt=>v (t+1)):=by
 funext j t
 unfold upd skip unskip
 by_cases h1:j<k<;>by_cases h2:i<k<;>simp only[h1,h2,if_true,if_false]
 ·by_cases e:j=i
  ·rw[if_pos e,if_pos e]
  ·rw[if_neg e,if_neg e]
 ·rw[if_neg (by omega),if_neg (by omega)]
 ·rw[if_neg (by omega),if_neg (by omega)]
 ·by_cases e:j+1=i
  ·rw[if_pos e,if_pos (by omega)]
  ·rw[if_neg e,if_neg (by omega)]
theorem skip_self {C:Nat->Vec}{i:Nat}{v:Vec}:(λj t=>upd C i v (skip i j) (t+1))=λj t=>C (skip i j) (t+1):=by
 funext j t
 rw[upd_ne]
 unfold skip
 split<;>omega
theorem det_add:∀ (m:Nat) (C:Nat->Vec) (i:Nat) (u v:Vec),i<m->det m (upd C i λt=>u t+v t)=det m (upd C i u)+det m (upd C i v):=by
 intro m
 induction m with
 |zero=>intros;omega
 |succ m ih=>
  intro C i u v hi
  rw[det,det,det,<-sumN_add]
  refine sumN_congr λk hk=>?_
  by_cases e:k=i
  ·subst e
   rw[skip_self,skip_self,skip_self,upd_same,upd_same,upd_same,qb6,qdB]
  ·rw[skip_upd e,skip_upd e,skip_upd e,upd_ne e,upd_ne e,upd_ne e,ih _ _ (λt=>u (t+1)) (λt=>v (t+1)) (by unfold unskip;split<;>omega),qb6]
theorem det_mul:∀ (m:Nat) (C:Nat->Vec) (i:Nat) (c:Int) (u:Vec),i<m->det m (upd C i λt=>c*u t)=c*det m (upd C i u):=by
 intro m
 induction m with
 |zero=>intros;omega
 |succ m ih=>
  intro C i c u hi
  rw[det,det,<-sumN_mul]
  refine sumN_congr λk hk=>?_
  by_cases e:k=i
  ·subst e
   rw[skip_self,skip_self,upd_same,upd_same]
   rw[show sg k*(c*u 0)=c*(sg k*u 0) by rw[qaP],qbt]
  ·rw[skip_upd e,skip_upd e,upd_ne e,upd_ne e,ih _ _ c (λt=>u (t+1)) (by unfold unskip;split<;>omega),qaP]
theorem det_adj:∀ (m:Nat) (C:Nat->Vec) (i:Nat),i+1<m->C i=C (i+1)->det m C=0:=by
 intro m
 induction m with
 |zero=>intros;omega
 |succ m ih=>
  intro C i hi h
  rw[det,sumN_pair (i:=i) (j:=i+1) (by omega) (by omega) (by omega) λk hk h1 h2=>?_]
  ·have e:(λj t=>C (skip i j) (t+1))=λj t=>C (skip (i+1) j) (t+1):=by
    funext j t
    by_cases e:j=i
    ·subst e
     have a1:skip j j=j+1:=by unfold skip;rw[if_neg (by omega)]
     have a2:skip (j+1) j=j:=by unfold skip;rw[if_pos (by omega)]
     rw[a1,a2,h]
    ·have:skip i j=skip (i+1) j:=by
      unfold skip
      by_cases h1:j<i
      ·rw[if_pos h1,if_pos (by omega)]
      ·rw[if_neg h1,if_neg (by omega)]
     rw[this]
   rw[e,h,sg_succ]
   rw[<-qdB,<-qdB]
   rw[show sg i+-sg i=0 by omega]
   simp
  ·have hz:det m (λj t=>C (skip k j) (t+1))=0:=by
    by_cases hk':k<i
    ·refine ih _ (i - 1) (by omega) ?_
     funext t
     have a1:skip k (i - 1)=i:=by unfold skip;rw[if_neg (by omega)];omega
     have a2:skip k (i - 1+1)=i+1:=by unfold skip;rw[if_neg (by omega)];omega
     rw[a1,a2,h]
    ·refine ih _ i (by omega) ?_
     funext t
     have a1:skip k i=i:=by unfold skip;rw[if_pos (by omega)]
     have a2:skip k (i+1)=i+1:=by unfold skip;rw[if_pos (by omega)]
     rw[a1,a2,h]
   rw[hz,qbc]
theorem det_swap {m:Nat} (C:Nat->Vec) {i:Nat} (hi:i+1<m):det m (upd (upd C i (C (i+1))) (i+1) (C i))=- det m C:=by
 have key:∀ u v:Vec,det m (upd (upd C i u) (i+1) v)+det m (upd (upd C i v) (i+1) u)=0:=λu v=>by
  have h0:det m (upd (upd C i λt=>u t+v t) (i+1) λt=>u t+v t)=0:=det_adj m _ i hi (by rw[upd_ne (by omega),upd_same,upd_same])
  have hu:det m (upd (upd C i u) (i+1) u)=0:=det_adj m _ i hi (by rw[upd_ne (by omega),upd_same,upd_same])
  have hv:det m (upd (upd C i v) (i+1) v)=0:=det_adj m _ i hi (by rw[upd_ne (by omega),upd_same,upd_same])
  rw[det_add m _ (i+1) u v hi,upd_comm (by omega),upd_comm (v:=v) (by omega),det_add m _ i u v (by omega),det_add m _ i u v (by omega)]at h0
  rw[<-upd_comm (C:=C) (i:=i) (j:=i+1) (u:=u) (v:=u) (by omega),<-upd_comm (C:=C) (i:=i) (j:=i+1) (u:=v) (v:=u) (by omega),<-upd_comm (C:=C) (i:=i) (j:=i+1) (u:=u) (v:=v) (by omega),<-upd_comm (C:=C) (i:=i) (j:=i+1) (u:=v) (v:=v) (by omega),hu,hv]at h0
  omega
 have:=key (C i) (C (i+1))
 have e:upd (upd C i (C i)) (i+1) (C (i+1))=C:=by rw[upd_self,upd_self]
 rw[e]at this
 omega
theorem det_same {m:Nat}:∀ (d:Nat) (C:Nat->Vec) (i j:Nat),j=i+d+1->j<m->C i=C j->det m C=0:=by
 intro d
 induction d with
 |zero=>intro C i j hj hm h;subst hj;exact det_adj m C i hm h
 |succ d ih=>
  intro C i j hj hm h
  have hs:=det_swap (m:=m) C (i:=j - 1) (by omega)
  have e1:j - 1+1=j:=by omega
  rw[e1]at hs
  have:=ih (upd (upd C (j - 1) (C j)) j (C (j - 1))) i (j - 1) (by omega) (by omega) (by rw[upd_ne (by omega),upd_ne (by omega),upd_ne (by omega),upd_same,h])
  rw[this]at hs
  omega
theorem det_eq0 {m:Nat} (C:Nat->Vec) {i j:Nat} (hi:i<m) (hj:j<m) (hij:i≠j) (h:C i=C j):det m C=0:=by
 rcases Nat.lt_or_gt_of_ne hij with h1|h1
 ·exact det_same (j - i - 1) C i j (by omega) hj h
 ·exact det_same (i - j - 1) C j i (by omega) hi h.symm
theorem det_zero {m:Nat} (C:Nat->Vec) {i:Nat} (hi:i<m):det m (upd C i λ_=>0)=0:=by
 have:=det_mul m C i 0 (λ_=>0) hi
 simpa using this
theorem det_sum {m:Nat} (C:Nat->Vec) {i:Nat} (hi:i<m) (x:Nat->Int) (V:Nat->Vec):∀ n,det m (upd C i λt=>sumN n λk=>x k*V k t)=sumN n λk=>x k*det m (upd C i (V k)):=by
 intro n
 induction n with
 |zero=>exact det_zero C hi
 |succ n ih=>
  have e:(λt=>sumN (n+1) λk=>x k*V k t)=λt=>(sumN n λk=>x k*V k t)+x n*V n t:=rfl
  rw[e,det_add m C i _ _ hi,ih,det_mul m C i (x n) (V n) hi]
  rfl
theorem cramer {m:Nat} (B:Nat->Vec) (a:Vec) (p:Int) (x:Nat->Int) (h:∀ t,p*a t=sumN m λk=>x k*B k t) {i:Nat} (hi:i<m):p*det m (upd B i a)=x i*det m B:=by
 rw[<-det_mul m B i p a hi]
 have e:(λt=>p*a t)=λt=>sumN m λk=>x k*B k t:=funext h
 rw[e,det_sum B hi x B m,sumN_single hi λk hk hne=>?_,upd_self]
 rw[det_eq0 (upd B i (B k)) hi hk (qbu hne) (by rw[upd_same,upd_ne hne]),qbc]
theorem cramer2 {m:Nat} (B:Nat->Vec) (a b:Vec) (p:Int) (hp:p=det m B) (hp0:p≠0) (x y:Nat->Int) (hx:∀ t,p*a t=sumN m λk=>x k*B k t) (hy:∀ t,p*b t=sumN m λk=>y k*B k t) {i r:Nat} (hi:i<m) (hr:r<m) (hir:i≠r) :
  p*det m (upd (upd B r a) i b)=x r*y i - x i*y r:=by
 have h1:p*det m (upd (upd B r a) i b)=sumN m λk=>y k*det m (upd (upd B r a) i (B k)):=by
  rw[<-det_mul m _ i p b hi]
  have e:(λt=>p*b t)=λt=>sumN m λk=>y k*B k t:=funext hy
  rw[e,det_sum _ hi y B m]
 rw[h1,sumN_pair hi hr hir λk hk h2 h3=>?_]
 ·have e1:upd (upd B r a) i (B i)=upd B r a:=by
   have:(upd B r a) i=B i:=upd_ne hir
   rw[<-this,upd_self]
  have e2:p*det m (upd B r a)=x r*p:=by rw[cramer B a p x hx hr,<-hp]
  have e3:p*det m (upd (upd B r a) i (B r))=- (x i*p):=by
   have hc:upd (upd B r a) i (B r)=upd (upd B i (B r)) r a:=upd_comm (qbu hir)
   rw[hc,<-det_mul m _ r p a hr]
   have e:(λt=>p*a t)=λt=>sumN m λk=>x k*B k t:=funext hx
   rw[e,det_sum _ hr x B m,sumN_single hi λk hk hne=>?_]
   ·-- columns i and r exchanged
    have hsw:det m (upd (upd B i (B r)) r (B i))=- det m B:=by
     have key:∀ u v:Vec,det m (upd (upd B i u) r v)+det m (upd (upd B i v) r u)=0:=λu v=>by
      have z:∀ w:Vec,det m (upd (upd B i w) r w)=0:=λw=>det_eq0 _ hi hr hir (by rw[upd_ne hir,upd_same,upd_same])
      have h0:=z λt=>u t+v t
      rw[det_add m _ r u v hr,upd_comm hir,upd_comm (v:=v) hir,det_add m _ i u v hi,det_add m _ i u v hi]at h0
      rw[<-upd_comm (C:=B) (i:=i) (j:=r) (u:=u) (v:=u) hir,<-upd_comm (C:=B) (i:=i) (j:=r) (u:=v) (v:=u) hir,<-upd_comm (C:=B) (i:=i) (j:=r) (u:=u) (v:=v) hir,<-upd_comm (C:=B) (i:=i) (j:=r) (u:=v) (v:=v) hir,z u,z v]at h0
      omega
     have:=key (B i) (B r)
     rw[show upd (upd B i (B i)) r (B r)=B by rw[upd_self,upd_self]]at this
     omega
    rw[hsw,<-hp,qf2]
   ·by_cases hkr:k=r
    ·subst hkr
     rw[det_eq0 _ hi hr hir (by rw[upd_ne hir,upd_same,upd_same]),qbc]
    ·rw[det_eq0 (upd (upd B i (B r)) r (B k)) hr hk (qbu hkr) (by rw[upd_same,upd_ne hkr,upd_ne hne]),qbc]
  rw[e1]
  have:p*(y i*det m (upd B r a)+y r*det m (upd (upd B r a) i (B r)))=p*(x r*y i - x i*y r):=by
   rw[qb6,qaP,e2,qaP p (y r),e3,qcO,qf2]
   rw[show y i*(x r*p)=p*(x r*y i) by rw[qa6 (y i),qbd,qa6]]
   rw[show y r*(x i*p)=p*(x i*y r) by rw[qa6 (y r),qbt,qa6 p (y r),<-qbt,qa6 (x i*y r) p]]
   omega
  exact qdn hp0 this
 ·rw[det_eq0 (upd (upd B r a) i (B k)) hi hk (qbu h2) (by rw[upd_same,upd_ne h2,upd_ne h3]),qbc]
def unit (k:Nat):Vec:=λt=>if t=k then 1 else 0
theorem det_unit:∀ m,det m unit=1:=by
 intro m
 induction m with
 |zero=>rfl
 |succ m ih=>
  rw[det,sumN_single (i:=0) (by omega) λk hk hne=>by rw[show unit k 0=0 by unfold unit;rw[if_neg (by omega)]];simp]
  have e:(λj t=>unit (skip 0 j) (t+1))=unit:=by
   funext j t
   unfold unit skip
   rw[if_neg (by omega:¬ j<0)]
   by_cases h:t=j
   ·rw[if_pos (by omega),if_pos h]
   ·rw[if_neg (by omega),if_neg h]
  rw[e,ih]
  rfl
structure Pb where
 m:Nat
 n:Nat
 A:Nat->Vec
 b:Vec
 g:Nat->Int
structure Tb where
 p:Int
 kept:Nat->Nat
 free:Nat->Nat
 T:Nat->Nat->Int
 G:Nat->Int
variable (P:Pb)
def colV (S:Tb) (c:Nat):Vec:=if c<P.n then P.A (S.free c) else P.b
def gainC (S:Tb) (c:Nat):Int:=if c<P.n then P.g (S.free c) else 0
def basis (S:Tb):Nat->Vec:=λi=>P.A (S.kept i)
structure Good (S:Tb):Prop where
 pos:0<S.p
 dt:S.p=det P.m (basis P S)
 eq:∀ c,c<=P.n->∀ t,S.p*colV P S c t=sumN P.m λi=>S.T i c*P.A (S.kept i) t
 goal:∀ c,c<=P.n->S.G c=(sumN P.m λi=>P.g (S.kept i)*S.T i c) - S.p*gainC P S c
def piv (S:Tb) (r e:Nat):Tb where
 p:=S.T r e
 kept:=λi=>if i=r then S.free e else S.kept i
 free:=λc=>if c=e then S.kept r else S.free c
 T:=λi c=>if i=r then (if c=e then S.p else S.T r c) else (if c=e then - S.T i e else (S.T r e*S.T i c - S.T i e*S.T r c) / S.p)
 G:=λc=>if c=e then - S.G e else (S.T r e*S.G c - S.G e*S.T r c) / S.p
variable {P}
theorem Good.entry {S:Tb} (h:Good P S) {c i:Nat} (hc:c<=P.n) (hi:i<P.m):S.T i c=det P.m (upd (basis P S) i (colV P S c)):=by
 have:=cramer (basis P S) (colV P S c) S.p (λk=>S.T k c) (λt=>h.eq c hc t) hi
 rw[<-h.dt,qa6]at this
 exact (qe2 (by have:=h.pos;omega) this).symm
theorem Good.whole {S:Tb} (h:Good P S) {r e c i:Nat} (he:e<=P.n) (hc:c<=P.n) (hi:i<P.m) (hr:r<P.m) (hir:i≠r):∃ d,S.T r e*S.T i c - S.T i e*S.T r c=S.p*d:=
 ⟨_,(cramer2 (basis P S) (colV P S e) (colV P S c) S.p h.dt (by have:=h.pos;omega) (λk=>S.T k e) (λk=>S.T k c) (λt=>h.eq e he t) (λt=>h.eq c hc t) hi hr hir).symm⟩
theorem ediv_of {p a d:Int} (hp:0<p) (h:a=p*d):p*(a / p)=a:=by
 rw[h,qfc _ (by omega)]
theorem piv_T {S:Tb} (h:Good P S) {r e c i:Nat} (he:e<=P.n) (hc:c<=P.n) (hi:i<P.m) (hr:r<P.m) (hir:i≠r) (hce:c≠e):S.p*(piv S r e).T i c=S.T r e*S.T i c - S.T i e*S.T r c:=by
 obtain⟨d,hd⟩:=h.whole (c:=c) he hc hi hr hir
 show S.p*(if i=r then _ else (if c=e then _ else _))=_
 rw[if_neg hir,if_neg hce]
 exact ediv_of h.pos hd
theorem sumN_split {n r:Nat} (hr:r<n) (f:Nat->Int):sumN n f=f r+sumN n (λk=>if k=r then 0 else f k):=by
 have e:sumN n f=sumN n (λk=>(if k=r then f r else 0)+(if k=r then 0 else f k)):=by
  refine sumN_congr λk hk=>?_
  by_cases h:k=r
  ·rw[if_pos h,if_pos h,h];omega
  ·rw[if_neg h,if_neg h];omega
 rw[e,sumN_add,sumN_single hr λk _ hne=>if_neg hne,if_pos rfl]
theorem sumN_sub (n:Nat) (f g:Nat->Int):sumN n (λk=>f k - g k)=sumN n f - sumN n g:=by
 induction n with
 |zero=>rfl
 |succ n ih=>rw[sumN,sumN,sumN,ih];omega
theorem piv_eq {S:Tb} (h:Good P S) {r e:Nat} (he:e<P.n) (hr:r<P.m):∀ c,c<=P.n->∀ t,(piv S r e).p*colV P (piv S r e) c t=sumN P.m λi=>(piv S r e).T i c*P.A ((piv S r e).kept i) t:=by
 intro c hc t
 have hp:=h.pos
 have hE:=h.eq e (by omega) t
 have hcE:colV P S e=P.A (S.free e):=if_pos he
 rw[hcE,sumN_split hr]at hE
 have kr:(piv S r e).kept r=S.free e:=if_pos rfl
 have kn:∀ i,i≠r->(piv S r e).kept i=S.kept i:=λi hi=>if_neg hi
 rw[sumN_split hr,kr]
 by_cases hce:c=e
 ·subst hce
  have c1:colV P (piv S r c) c=P.A (S.kept r):=by
   unfold colV;rw[if_pos he];show P.A (if c=c then _ else _)=_;rw[if_pos rfl]
  have t1:(piv S r c).T r c=S.p:=by show (if r=r then (if c=c then _ else _) else _)=_;rw[if_pos rfl,if_pos rfl]
  have t2:(sumN P.m λk=>if k=r then 0 else (piv S r c).T k c*P.A ((piv S r c).kept k) t)=- sumN P.m λk=>if k=r then 0 else S.T k c*P.A (S.kept k) t:=by
   have:(sumN P.m λk=>if k=r then 0 else (piv S r c).T k c*P.A ((piv S r c).kept k) t)=sumN P.m λk=>(-1)*(if k=r then 0 else S.T k c*P.A (S.kept k) t):=by
    refine sumN_congr λk hk=>?_
    by_cases hk':k=r
    ·rw[if_pos hk',if_pos hk'];rfl
    ·rw[if_neg hk',if_neg hk',kn k hk']
     show (if k=r then _ else (if c=c then - S.T k c else _))*_=_
     rw[if_neg hk',if_pos rfl,qc6,qc6,qeV]
   rw[this,sumN_mul];omega
  rw[c1,t1,t2]
  show S.T r c*P.A (S.kept r) t=_
  omega
 ·have c1:colV P (piv S r e) c=colV P S c:=by
   unfold colV
   by_cases hcn:c<P.n
   ·rw[if_pos hcn,if_pos hcn];show P.A (if c=e then _ else _)=_;rw[if_neg hce]
   ·rw[if_neg hcn,if_neg hcn]
  have t1:(piv S r e).T r c=S.T r c:=by show (if r=r then (if c=e then _ else _) else _)=_;rw[if_pos rfl,if_neg hce]
  have hC:=h.eq c hc t
  rw[sumN_split hr]at hC
  rw[c1,t1]
  refine qdn (a:=S.p) (by omega) ?_
  have t2:S.p*(sumN P.m λk=>if k=r then 0 else (piv S r e).T k c*P.A ((piv S r e).kept k) t)=(sumN P.m λk=>S.T r e*(if k=r then 0 else S.T k c*P.A (S.kept k) t)) - sumN P.m λk=>S.T r c*(if k=r then 0 else S.T k e*P.A (S.kept k) t):=by
   rw[<-sumN_mul,<-sumN_sub]
   refine sumN_congr λk hk=>?_
   by_cases hk':k=r
   ·rw[if_pos hk',if_pos hk',if_pos hk'];simp
   ·rw[if_neg hk',if_neg hk',if_neg hk',kn k hk',<-qbt,piv_T h (by omega) hc hk hr hk' hce,qf1]
    rw[qbt,qa6 (S.T k e),qbt]
  rw[qb6,t2,sumN_mul,sumN_mul]
  show S.p*(S.T r e*colV P S c t)=_
  rw[qaP,hC,<-qbt S.p,qa6 S.p (S.T r c),qbt,hE,qb6,qb6]
  generalize (sumN P.m λk=>if k=r then 0 else S.T k c*P.A (S.kept k) t)=X
  generalize (sumN P.m λk=>if k=r then 0 else S.T k e*P.A (S.kept k) t)=Y
  rw[show S.T r e*(S.T r c*P.A (S.kept r) t)=S.T r c*(S.T r e*P.A (S.kept r) t) by rw[qaP]]
  omega
theorem piv_goal {S:Tb} (h:Good P S) {r e:Nat} (he:e<P.n) (hr:r<P.m):∀ c,c<=P.n->(piv S r e).G c=(sumN P.m λi=>P.g ((piv S r e).kept i)*(piv S r e).T i c) - (piv S r e).p*gainC P (piv S r e) c:=by
 intro c hc
 have hp:=h.pos
 have hE:=h.goal e (by omega)
 have gE:gainC P S e=P.g (S.free e):=if_pos he
 rw[gE,sumN_split hr]at hE
 have kr:(piv S r e).kept r=S.free e:=if_pos rfl
 have kn:∀ i,i≠r->(piv S r e).kept i=S.kept i:=λi hi=>if_neg hi
 rw[sumN_split hr,kr]
 by_cases hce:c=e
 ·subst hce
  have c1:gainC P (piv S r c) c=P.g (S.kept r):=by
   unfold gainC;rw[if_pos he];show P.g (if c=c then _ else _)=_;rw[if_pos rfl]
  have t1:(piv S r c).T r c=S.p:=by show (if r=r then (if c=c then _ else _) else _)=_;rw[if_pos rfl,if_pos rfl]
  have t2:(sumN P.m λk=>if k=r then 0 else P.g ((piv S r c).kept k)*(piv S r c).T k c)=- sumN P.m λk=>if k=r then 0 else P.g (S.kept k)*S.T k c:=by
   have:(sumN P.m λk=>if k=r then 0 else P.g ((piv S r c).kept k)*(piv S r c).T k c)=sumN P.m λk=>(-1)*(if k=r then 0 else P.g (S.kept k)*S.T k c):=by
    refine sumN_congr λk hk=>?_
    by_cases hk':k=r
    ·rw[if_pos hk',if_pos hk'];rfl
    ·rw[if_neg hk',if_neg hk',kn k hk']
     show _*(if k=r then _ else (if c=c then - S.T k c else _))=_
     rw[if_neg hk',if_pos rfl,qf2,qc6,qeV]
   rw[this,sumN_mul];omega
  rw[c1,t1,t2]
  show (if c=c then - S.G c else _)=_ - S.T r c*_
  rw[if_pos rfl,hE,qa6 (S.T r c),qa6 S.p]
  omega
 ·have c1:gainC P (piv S r e) c=gainC P S c:=by
   unfold gainC
   by_cases hcn:c<P.n
   ·rw[if_pos hcn,if_pos hcn];show P.g (if c=e then _ else _)=_;rw[if_neg hce]
   ·rw[if_neg hcn,if_neg hcn]
  have t1:(piv S r e).T r c=S.T r c:=by show (if r=r then (if c=e then _ else _) else _)=_;rw[if_pos rfl,if_neg hce]
  have hC:=h.goal c hc
  rw[sumN_split hr]at hC
  rw[c1,t1]
  have t2:S.p*(sumN P.m λk=>if k=r then 0 else P.g ((piv S r e).kept k)*(piv S r e).T k c)=(sumN P.m λk=>S.T r e*(if k=r then 0 else P.g (S.kept k)*S.T k c)) - sumN P.m λk=>S.T r c*(if k=r then 0 else P.g (S.kept k)*S.T k e):=by
   rw[<-sumN_mul,<-sumN_sub]
   refine sumN_congr λk hk=>?_
   by_cases hk':k=r
   ·rw[if_pos hk',if_pos hk',if_pos hk'];simp
   ·rw[if_neg hk',if_neg hk',if_neg hk',kn k hk',qaP,piv_T h (by omega) hc hk hr hk' hce,qcO]
    rw[qaP,qa6 (S.T k e),qaP (S.T r c)]
  rw[sumN_mul,sumN_mul]at t2
  have key:S.T r e*S.G c - S.G e*S.T r c=S.p*(P.g (S.free e)*S.T r c+(sumN P.m λk=>if k=r then 0 else P.g ((piv S r e).kept k)*(piv S r e).T k c) - S.T r e*gainC P S c):=by
   rw[qcO,qb6,t2,hC,hE]
   generalize (sumN P.m λk=>if k=r then 0 else P.g (S.kept k)*S.T k c)=X
   generalize (sumN P.m λk=>if k=r then 0 else P.g (S.kept k)*S.T k e)=Y
   rw[qcO,qb6,qf1,qdB]
   rw[show S.T r e*(P.g (S.kept r)*S.T r c)=P.g (S.kept r)*S.T r e*S.T r c by rw[qaP,qbt]]
   rw[show S.T r e*(S.p*gainC P S c)=S.p*(S.T r e*gainC P S c) by rw[qaP]]
   rw[show S.p*(P.g (S.free e)*S.T r c)=S.p*P.g (S.free e)*S.T r c by rw[qbt]]
   rw[qa6 Y]
   omega
  show (if c=e then _ else (S.T r e*S.G c - S.G e*S.T r c) / S.p)=_
  rw[if_neg hce,key,qfc _ (by omega)]
  rfl
theorem Good.piv {S:Tb} (h:Good P S) {r e:Nat} (he:e<P.n) (hr:r<P.m) (hq:0<S.T r e):Good P (piv S r e):=by
 refine⟨hq,?_,piv_eq h he hr,piv_goal h he hr⟩
 show S.T r e=_
 rw[h.entry (by omega) hr]
 refine congrArg _ ?_
 funext i
 unfold basis
 by_cases hi:i=r
 ·rw[hi,upd_same]
  show colV P S e=P.A (if r=r then _ else _)
  rw[if_pos rfl];exact if_pos he
 ·rw[upd_ne hi]
  show _=P.A (if i=r then _ else _)
  rw[if_neg hi]
end Sx
namespace Sx
def lexP (M:Nat) (v:Nat->Int):Prop:=∃ j,j<M/\0<v j/\∀ l,l<j->v l=0
theorem lexP_congr {M:Nat}{v w:Nat->Int} (h:∀ s,s<M->v s=w s) (hv:lexP M v):lexP M w:=by
 obtain⟨j,h1,h2,h3⟩:=hv
 exact⟨j,h1,by rw[<-h j h1];exact h2,λl hl=>by rw[<-h l (by omega)];exact h3 l hl⟩
theorem lexP_mul {M:Nat}{v:Nat->Int}{c:Int} (hc:0<c) (hv:lexP M v):lexP M λs=>c*v s:=by
 obtain⟨j,h1,h2,h3⟩:=hv
 exact⟨j,h1,qh9 hc h2,λl hl=>by show c*v l=0;rw[h3 l hl,qbc]⟩
theorem lexP_unmul {M:Nat}{v:Nat->Int}{c:Int} (hc:0<c) (hv:lexP M λs=>c*v s):lexP M v:=by
 obtain⟨j,h1,h2,h3⟩:=hv
 have h2':0<v j*c:=by rw[qa6];exact h2
 refine⟨j,h1,Int.pos_of_mul_pos_left h2' hc,λl hl=>?_⟩
 have:=h3 l hl
 rcases Int.mul_eq_zero.mp this with h|h
 ·omega
 ·exact h
theorem lexP_add {M:Nat}{v w:Nat->Int} (hv:lexP M v) (hw:lexP M w):lexP M λs=>v s+w s:=by
 obtain⟨j,h1,h2,h3⟩:=hv
 obtain⟨k,k1,k2,k3⟩:=hw
 rcases Nat.lt_trichotomy j k with h|h|h
 ·exact⟨j,h1,by show 0<v j+w j;rw[k3 j h];omega,λl hl=>by show v l+w l=0;rw[h3 l hl,k3 l (by omega)];rfl⟩
 ·subst h
  exact⟨j,h1,by show 0<v j+w j;omega,λl hl=>by show v l+w l=0;rw[h3 l hl,k3 l hl];rfl⟩
 ·exact⟨k,k1,by show 0<v k+w k;rw[h3 k h];omega,λl hl=>by show v l+w l=0;rw[h3 l (by omega),k3 l hl];rfl⟩
theorem lexP_addn {M:Nat}{v w:Nat->Int}{c:Int} (hc:0<=c) (hv:lexP M v) (hw:lexP M w):lexP M λs=>v s+c*w s:=by
 rcases qgc hc with h|h
 ·exact lexP_add hv (lexP_mul h hw)
 ·subst h
  exact lexP_congr (λs _=>by rw[qcS,qfz]) hv
theorem lexP_not0 {M:Nat}{v:Nat->Int} (h:∀ s,s<M->v s=0):¬ lexP M v:=λ⟨j,h1,h2,_⟩=>by rw[h j h1]at h2;omega
theorem lexP_first {M:Nat}{v:Nat->Int} (hM:0<M) (h:lexP M v):0<=v 0:=by
 obtain⟨j,h1,h2,h3⟩:=h
 rcases Nat.eq_zero_or_pos j with e|e
 ·subst e;omega
 ·rw[h3 0 e];exact qdA _
variable (P:Pb)
def XV (s:Nat):Vec:=if s=0 then P.b else unit (s - 1)
def LV (S:Tb) (i s:Nat):Int:=det P.m (upd (basis P S) i (XV P s))
def ZV (S:Tb) (s:Nat):Int:=sumN P.m λi=>P.g (S.kept i)*LV P S i s
structure Named (S:Tb):Prop where
 one:∀ r,r<P.m->P.A (P.n+r)=unit r
 all:∀ k,k<P.n+P.m->(∃ c,c<P.n/\S.free c=k)\/∃ i,i<P.m/\S.kept i=k
 bound:(∀ c,c<P.n->S.free c<P.n+P.m)/\∀ i,i<P.m->S.kept i<P.n+P.m
def Fe (S:Tb):Prop:=∀ i,i<P.m->lexP (P.m+1) (LV P S i)
variable {P}
theorem Good.rep_free {S:Tb} (h:Good P S) {c:Nat} (hc:c<=P.n) (t:Nat):S.p*colV P S c t=sumN P.m λi=>det P.m (upd (basis P S) i (colV P S c))*P.A (S.kept i) t:=by
 rw[h.eq c hc t]
 exact sumN_congr λi hi=>by rw[h.entry hc hi]
theorem det_kept {S:Tb} (h:Good P S) {i j:Nat} (hi:i<P.m) (hj:j<P.m):det P.m (upd (basis P S) i (basis P S j))=if i=j then S.p else 0:=by
 by_cases e:i=j
 ·subst e;rw[upd_self,if_pos rfl,h.dt]
 ·rw[if_neg e]
  exact det_eq0 _ hi hj e (by rw[upd_same,upd_ne (qbu e)])
theorem Good.rep_kept {S:Tb} (h:Good P S) {j:Nat} (hj:j<P.m) (t:Nat):S.p*P.A (S.kept j) t=sumN P.m λi=>det P.m (upd (basis P S) i (P.A (S.kept j)))*P.A (S.kept i) t:=by
 rw[sumN_single hj λi hi hne=>?_]
 ·have:=det_kept h hj hj
  rw[if_pos rfl]at this
  have e:det P.m (upd (basis P S) j (P.A (S.kept j)))=S.p:=this
  rw[e]
 ·have:=det_kept h hi hj
  rw[if_neg hne]at this
  have e:det P.m (upd (basis P S) i (P.A (S.kept j)))=0:=this
  rw[e,qcS]
theorem Good.rep {S:Tb} (h:Good P S) (hn:Named P S) {s:Nat} (hs:s<P.m+1) (t:Nat):S.p*XV P s t=sumN P.m λi=>LV P S i s*P.A (S.kept i) t:=by
 unfold LV
 by_cases h0:s=0
 ·subst h0
  have e:XV P 0=colV P S P.n:=by unfold XV colV;rw[if_pos rfl,if_neg (qaX _)]
  rw[e]
  exact h.rep_free (qal _) t
 ·have e:XV P s=P.A (P.n+(s - 1)):=by unfold XV;rw[if_neg h0,hn.one (s - 1) (by omega)]
  rw[e]
  rcases hn.all (P.n+(s - 1)) (by omega) with⟨c,hc,hk⟩|⟨j,hj,hk⟩
  ·have e2:P.A (P.n+(s - 1))=colV P S c:=by unfold colV;rw[if_pos hc,hk]
   rw[e2]
   exact h.rep_free (by omega) t
  ·rw[<-hk]
   exact h.rep_kept hj t
theorem piv_basis {S:Tb}{r e:Nat} (he:e<P.n):basis P (piv S r e)=upd (basis P S) r (colV P S e):=by
 funext i
 unfold basis
 by_cases hi:i=r
 ·rw[hi,upd_same]
  show P.A (if r=r then _ else _)=colV P S e
  rw[if_pos rfl];exact (if_pos he).symm
 ·rw[upd_ne hi]
  show P.A (if i=r then _ else _)=_
  rw[if_neg hi]
theorem LV_r {S:Tb}{r e s:Nat} (he:e<P.n):LV P (piv S r e) r s=LV P S r s:=by
 unfold LV
 rw[piv_basis he,upd_upd]
theorem LV_i {S:Tb} (h:Good P S) (hn:Named P S) {r e s i:Nat} (he:e<P.n) (hs:s<P.m+1) (hi:i<P.m) (hr:r<P.m) (hir:i≠r):S.p*LV P (piv S r e) i s=S.T r e*LV P S i s - S.T i e*LV P S r s:=by
 unfold LV
 rw[piv_basis he]
 exact cramer2 (basis P S) (colV P S e) (XV P s) S.p h.dt (by have:=h.pos;omega) (λk=>S.T k e) (λk=>LV P S k s) (λt=>h.eq e (by omega) t) (λt=>h.rep hn hs t) hi hr hir
theorem ZV_piv {S:Tb} (h:Good P S) (hn:Named P S) {r e s:Nat} (he:e<P.n) (hs:s<P.m+1) (hr:r<P.m):S.p*ZV P (piv S r e) s=S.T r e*ZV P S s - S.G e*LV P S r s:=by
 have hE:=h.goal e (by omega)
 have gE:gainC P S e=P.g (S.free e):=if_pos he
 rw[gE,sumN_split hr]at hE
 unfold ZV
 have kr:(piv S r e).kept r=S.free e:=if_pos rfl
 have kn:∀ i,i≠r->(piv S r e).kept i=S.kept i:=λi hi=>if_neg hi
 rw[sumN_split hr,kr,LV_r he,qb6]
 have t2:S.p*(sumN P.m λk=>if k=r then 0 else P.g ((piv S r e).kept k)*LV P (piv S r e) k s)=(sumN P.m λk=>S.T r e*(if k=r then 0 else P.g (S.kept k)*LV P S k s)) - sumN P.m λk=>LV P S r s*(if k=r then 0 else P.g (S.kept k)*S.T k e):=by
  rw[<-sumN_mul,<-sumN_sub]
  refine sumN_congr λk hk=>?_
  by_cases hk':k=r
  ·rw[if_pos hk',if_pos hk',if_pos hk'];simp
  ·rw[if_neg hk',if_neg hk',if_neg hk',kn k hk',qaP,LV_i h hn he hs hk hr hk',qcO]
   rw[qaP,qa6 (S.T k e),qaP (LV P S r s)]
 rw[t2,sumN_mul,sumN_mul,sumN_split hr (λi=>P.g (S.kept i)*LV P S i s),hE]
 generalize (sumN P.m λk=>if k=r then 0 else P.g (S.kept k)*LV P S k s)=X
 generalize (sumN P.m λk=>if k=r then 0 else P.g (S.kept k)*S.T k e)=Y
 generalize LV P S r s=L
 rw[qf1,qdB,qb6]
 rw[show S.T r e*(P.g (S.kept r)*L)=P.g (S.kept r)*S.T r e*L by rw[qaP,qbt]]
 rw[show S.p*(P.g (S.free e)*L)=S.p*P.g (S.free e)*L by rw[qbt]]
 rw[qa6 Y]
 omega
def less (P:Pb) (S S':Tb):Prop:=lexP (P.m+1) λs=>S.p*ZV P S' s - S'.p*ZV P S s
theorem less_trans {S1 S2 S3:Tb} (h1:0<S1.p) (h2:0<S2.p) (h3:0<S3.p) (a:less P S1 S2) (b:less P S2 S3):less P S1 S3:=by
 refine lexP_unmul h2 (lexP_congr (λs _=>?_) (lexP_add (lexP_mul h1 b) (lexP_mul h3 a)))
 generalize ZV P S1 s=x
 generalize ZV P S2 s=y
 generalize ZV P S3 s=z
 rw[qcO,qcO,qcO]
 rw[show S1.p*(S3.p*y)=S3.p*(S1.p*y) by rw[qaP],show S1.p*(S2.p*z)=S2.p*(S1.p*z) by rw[qaP],show S3.p*(S2.p*x)=S2.p*(S3.p*x) by rw[qaP]]
 omega
theorem same_kept {S S':Tb} (h:Good P S) (h':Good P S') (e:∀ i,i<P.m->S.kept i=S'.kept i):S.p=S'.p/\∀ s,ZV P S s=ZV P S' s:=by
 have hb:∀ i,i<P.m->basis P S i=basis P S' i:=λi hi=>by unfold basis;rw[e i hi]
 have hL:∀ i s,i<P.m->LV P S i s=LV P S' i s:=λi s hi=>by
  unfold LV
  refine det_congr P.m λk t hk _=>?_
  by_cases hki:k=i
  ·rw[hki,upd_same,upd_same]
  ·rw[upd_ne hki,upd_ne hki,hb k hk]
 refine⟨?_,λs=>?_⟩
 ·rw[h.dt,h'.dt]
  exact det_congr P.m λk t hk _=>by rw[hb k hk]
 ·unfold ZV
  exact sumN_congr λi hi=>by rw[e i hi,hL i s hi]
theorem less_kept {S S':Tb} (h:Good P S) (h':Good P S') (l:less P S S'):¬ ∀ i,i<P.m->S.kept i=S'.kept i:=λe=>by
 obtain⟨e1,e2⟩:=same_kept h h' e
 refine lexP_not0 (λs _=>?_) l
 rw[e1,e2 s];omega
theorem lines_unlike {S:Tb} (h:Good P S) (hA:∀ i,i<P.m->∀ t,P.m<=t->P.A (S.kept i) t=0) {i r:Nat} (hi:i<P.m) (hr:r<P.m) (hir:i≠r) {a b:Int} (ha:0<a) (hs:∀ s,s<P.m+1->a*LV P S i s=b*LV P S r s):False:=by
 have key:∀ k,k<P.m->det P.m (upd (basis P S) k (basis P S i))=sumN P.m λs=>basis P S i s*LV P S k (s+1):=λk hk=>by
  have e:basis P S i=λt=>sumN P.m λs=>basis P S i s*unit s t:=by
   funext t
   by_cases ht:t<P.m
   ·rw[sumN_single ht λs _ hne=>by unfold unit;rw[if_neg (qbu hne),qbc]]
    unfold unit
    rw[if_pos rfl,qd6]
   ·rw[sumN_congr (g:=λ_=>0) λs hs'=>by unfold unit;rw[if_neg (by omega),qbc],sumN_zero]
    exact hA i hi t (by omega)
  have e2:=det_sum (m:=P.m) (basis P S) hk (λs=>basis P S i s) unit P.m
  rw[<-e]at e2
  rw[e2]
  refine sumN_congr λs hs'=>?_
  unfold LV XV
  rw[if_neg (by omega),qcc]
 have k1:=key i hi
 have k2:=key r hr
 rw[det_kept h hi hi,if_pos rfl]at k1
 rw[det_kept h hr hi,if_neg (qbu hir)]at k2
 have:a*S.p=b*0:=by
  rw[k1,k2,<-sumN_mul,<-sumN_mul]
  refine sumN_congr λs hs'=>?_
  rw[qaP,hs (s+1) (by omega),qaP]
 have:=qh9 ha h.pos
 omega
theorem Named.piv {S:Tb} (hn:Named P S) {r e:Nat} (he:e<P.n) (hr:r<P.m):Named P (piv S r e):=by
 refine⟨hn.one,λk hk=>?_,λc hc=>?_,λi hi=>?_⟩
 ·rcases hn.all k hk with⟨c,hc,e1⟩|⟨i,hi,e1⟩
  ·by_cases hce:c=e
   ·subst hce;exact .inr ⟨r,hr,by show (if r=r then _ else _)=_;rw[if_pos rfl];exact e1⟩
   ·exact .inl ⟨c,hc,by show (if c=e then _ else _)=_;rw[if_neg hce];exact e1⟩
  ·by_cases hir:i=r
   ·subst hir;exact .inl ⟨e,he,by show (if e=e then _ else _)=_;rw[if_pos rfl];exact e1⟩
   ·exact .inr ⟨i,hi,by show (if i=r then _ else _)=_;rw[if_neg hir];exact e1⟩
 ·show (if c=e then _ else _)<_
  split
  ·exact hn.bound.2 r hr
  ·exact hn.bound.1 c hc
 ·show (if i=r then _ else _)<_
  split
  ·exact hn.bound.1 e he
  ·exact hn.bound.2 i hi
theorem step {S:Tb} (h:Good P S) (hn:Named P S) (hf:Fe P S) {r e:Nat} (he:e<P.n) (hr:r<P.m) (hq:0<S.T r e) (hg:S.G e<0)
  (hmin:∀ i,i<P.m->i≠r->0<S.T i e->lexP (P.m+1) λs=>S.T r e*LV P S i s - S.T i e*LV P S r s) :
  Good P (piv S r e)/\Named P (piv S r e)/\Fe P (piv S r e)/\less P S (piv S r e):=by
 refine⟨h.piv he hr hq,hn.piv he hr,λi hi=>?_,?_⟩
 ·by_cases hir:i=r
  ·subst hir
   exact lexP_congr (λs _=>(LV_r he).symm) (hf i hi)
  ·refine lexP_unmul h.pos (lexP_congr (λs hs=>(LV_i h hn he hs hi hr hir).symm) ?_)
   by_cases ht:0<S.T i e
   ·exact hmin i hi hir ht
   ·refine lexP_congr (λs _=>?_) (lexP_addn (c:=- S.T i e) (by omega) (lexP_mul hq (hf i hi)) (hf r hr))
    show S.T r e*LV P S i s+- S.T i e*LV P S r s=_
    rw[qc6];omega
 ·refine lexP_congr (λs hs=>?_) (lexP_mul (c:=- S.G e) (by omega) (hf r hr))
  show - S.G e*LV P S r s=S.p*ZV P (piv S r e) s - S.T r e*ZV P S s
  rw[ZV_piv h hn he hs hr,qc6];omega
theorem filt_len (N:Nat):∀ l:List Nat,(l.filter λx=>decide (x=N)).length+(l.filter λx=>decide (x≠N)).length=l.length
 |[]=>rfl
 |x::l=>by
  have ih:=filt_len N l
  by_cases h:x=N
  ·rw[qds (by simpa using h),qdt (by simpa using h),qas,qas];omega
  ·rw[qdt (by simpa using h),qds (by simpa using h),qas,qas];omega
theorem nodup_le:∀ (N:Nat) (l:List Nat),l.Nodup->(∀ x∈l,x<N)->l.length<=N:=by
 intro N
 induction N with
 |zero=>
  intro l _ h
  cases l with
  |nil=>exact qal _
  |cons x l=>exact absurd (h x qaf) (by omega)
 |succ N ih=>
  intro l hl h
  have h1:=ih (l.filter λx=>decide (x≠N)) (hl.filter _) λx hx=>by
   have:=qcF.mp hx
   have h2:=h x this.1
   have h3:x≠N:=by simpa using this.2
   omega
  have h2:(l.filter λx=>decide (x=N)).length<=1:=by
   have hn:=hl.filter λx=>decide (x=N)
   have hall:∀ x∈l.filter (λx=>decide (x=N)),x=N:=λx hx=>by simpa using (qcF.mp hx).2
   match l.filter (λx=>decide (x=N)),hn,hall with
   |[],_,_=>exact qb5 _
   |[x],_,_=>exact qal _
   |x::y::r,hn,hall=>
    have e1:=hall x qaf
    have e2:=hall y (qaj _ qaf)
    exact absurd (e1.trans e2.symm) ((qfV.mp hn).1 y qaf)
  have h3:=filt_len N l
  omega
def code (b:Nat) (f:Nat->Nat):Nat->Nat
 |0=>0
 |m+1=>code b f m*b+f m
theorem code_lt {b:Nat}{f:Nat->Nat}:∀ {m:Nat},(∀ i,i<m->f i<b)->code b f m<b^m
 |0,_=>Nat.one_pos
 |m+1,h=>by
  have ih:=code_lt (m:=m) λi hi=>h i (by omega)
  have h1:=h m (by omega)
  rw[code,qhU]
  calc code b f m*b+f m<code b f m*b+b:=by omega
   _=(code b f m+1)*b:=by rw[qh8,qfU]
   _<=b^m*b:=qbW b ih
theorem code_inj {b:Nat}{f g:Nat->Nat}:∀ {m:Nat},(∀ i,i<m->f i<b)->(∀ i,i<m->g i<b)->code b f m=code b g m->∀ i,i<m->f i=g i
 |0,_,_,_,i,hi=>absurd hi (by omega)
 |m+1,hf,hg,e,i,hi=>by
  rw[code,code]at e
  have h1:=hf m (by omega)
  have h2:=hg m (by omega)
  have e1:f m=g m:=by
   have:=congrArg (·%b) e
   simp only[Nat.mul_add_mod_self_right]at this
   rw[qgs h1,qgs h2]at this
   exact this
  have e2:code b f m=code b g m:=by
   rw[e1]at e
   exact Nat.eq_of_mul_eq_mul_right (by omega:0<b) (by omega)
  by_cases him:i=m
  ·rw[him];exact e1
  ·exact code_inj (m:=m) (λi hi=>hf i (by omega)) (λi hi=>hg i (by omega)) e2 i (by omega)
end Sx
namespace Sx
def leastR (tops bots:Nat->Int):List Nat->List Nat->List Nat
 |[],least=>least
 |p::ps,[]=>leastR tops bots ps [p]
 |p::ps,l0::r=>if tops p*bots l0 > tops l0*bots p then leastR tops bots ps (l0::r) else if tops p*bots l0<tops l0*bots p then leastR tops bots ps [p] else leastR tops bots ps ((l0::r)++[p])
structure Least (tops bots:Nat->Int) (ps out:List Nat):Prop where
 ne:ps≠[]->out≠[]
 sub:∀ x∈out,x∈ps
 nd:ps.Nodup->out.Nodup
 eq:∀ x∈out,∀ y∈out,tops x*bots y=tops y*bots x
 lt:∀ x∈out,∀ y∈ps,y∉out->tops x*bots y<tops y*bots x
theorem ratio_lt {a b c p q r:Int} (hp:0<p) (hq:0<q) (hr:0<r) (h1:a*q<b*p) (h2:b*r<=c*q):a*r<c*p:=by
 have e1:a*q*r<b*p*r:=qc7 h1 hr
 have e2:b*r*p<=c*q*p:=qcT h2 (by omega)
 rw[qbd b p r]at e1
 have e3:a*r*q<c*p*q:=by rw[qbd a r q,qbd c p q];omega
 exact qdd e3 (by omega)
theorem leastR_ok {tops bots:Nat->Int}:∀ (ps done least:List Nat),(∀ x∈done++ps,0<bots x)->(done++ps).Nodup->Least tops bots done least->Least tops bots (done++ps) (leastR tops bots ps least):=by
 intro ps
 induction ps with
 |nil=>intro done least _ _ h;rw[qbO];cases least<;>exact h
 |cons p ps ih=>
  intro done least hb hnd h
  have hp:0<bots p:=hb p (qau _ qaf)
  have hpd:p∉done:=λhm=>by
   rw[qck]at hnd
   exact hnd.2.2 p hm p qaf rfl
  have e:done++p::ps=(done++[p])++ps:=by simp
  have hdn:done.Nodup:=(qck.mp hnd).1
  rw[e]at hb hnd ⊢
  cases least with
  |nil=>
   have hd:done=[]:=by
    cases done with
    |nil=>rfl
    |cons x d=>exact absurd rfl (h.ne (by simp))
   subst hd
   rw[leastR]
   refine ih _ _ hb hnd ⟨λ_=>by simp,λx hx=>by simpa using hx,λ_=>by simp,λx hx y hy=>?_,λx hx y hy hn=>absurd (by simpa using hy) (by simpa using hn)⟩
   rw[qag.mp hx,qag.mp hy]
  |cons l0 r=>
   have hl0:l0∈l0::r:=qaf
   have hl0d:=h.sub l0 hl0
   have hb0:0<bots l0:=hb l0 (qaY _ (qaY _ hl0d))
   have hbd:∀ y∈done,0<bots y:=λy hy=>hb y (qaY _ (qaY _ hy))
   rw[leastR]
   by_cases c1:tops p*bots l0 > tops l0*bots p
   ·rw[if_pos c1]
    refine ih _ _ hb hnd ⟨λ_=>by simp,λx hx=>qaY _ (h.sub x hx),λ_=>h.nd hdn,h.eq,λx hx y hy hn=>?_⟩
    rcases qaM.mp hy with hy|hy
    ·exact h.lt x hx y hy hn
    ·rw[qag.mp hy]
     have hx0:=h.eq l0 hl0 x hx
     have hxb:0<bots x:=hbd x (h.sub x hx)
     -- x is as l0,l0 is below p
     exact Int.lt_of_lt_of_le (by
      have e1:tops x*bots l0*bots p=tops l0*bots p*bots x:=by rw[<-hx0,qbd]
      have e2:tops l0*bots p*bots x<tops p*bots l0*bots x:=qc7 c1 hxb
      have e3:tops x*bots p*bots l0<tops p*bots x*bots l0:=by rw[qbd,e1,qbd (tops p)];exact e2
      exact qdd e3 (by omega)) (qdA _)
   ·rw[if_neg c1]
    by_cases c2:tops p*bots l0<tops l0*bots p
    ·rw[if_pos c2]
     refine ih _ _ hb hnd ⟨λ_=>by simp,λx hx=>by rw[qag.mp hx];simp,λ_=>by simp,λx hx y hy=>by rw[qag.mp hx,qag.mp hy],λx hx y hy hn=>?_⟩
     rw[qag.mp hx]
     rcases qaM.mp hy with hy|hy
     ·have hyb:=hbd y hy
      have hle:tops l0*bots y<=tops y*bots l0:=by
       by_cases hm:y∈l0::r
       ·exact Int.le_of_eq (h.eq l0 hl0 y hm)
       ·exact Int.le_of_lt (h.lt l0 hl0 y hy hm)
      exact ratio_lt hp hb0 hyb c2 hle
     ·exact absurd (by simpa using hy) (by simpa using hn)
    ·rw[if_neg c2]
     have ceq:tops p*bots l0=tops l0*bots p:=by omega
     have hpx:∀ x∈l0::r,tops p*bots x=tops x*bots p:=λx hx=>by
      have hx0:=h.eq l0 hl0 x hx
      have hxb:0<bots x:=hbd x (h.sub x hx)
      have e1:tops p*bots x*bots l0=tops x*bots p*bots l0:=by
       rw[qbd,ceq,qbd,hx0,qbd]
      exact qe2 (by omega) e1
     refine ih _ _ hb hnd ⟨λ_=>by simp,λx hx=>?_,λ_=>?_,λx hx y hy=>?_,λx hx y hy hn=>?_⟩
     ·rcases qaM.mp hx with hx|hx
      ·exact qaY _ (h.sub x hx)
      ·exact qau _ hx
     ·rw[qck]
      refine⟨h.nd hdn,by simp,λx hx y hy e=>?_⟩
      rw[qag.mp hy]at e
      rw[e]at hx
      exact hpd (h.sub p hx)
     ·rcases qaM.mp hx with hx|hx<;>rcases qaM.mp hy with hy|hy
      ·exact h.eq x hx y hy
      ·rw[qag.mp hy];exact (hpx x hx).symm
      ·rw[qag.mp hx];exact hpx y hy
      ·rw[qag.mp hx,qag.mp hy]
     ·have hyd:y∈done:=by
       rcases qaM.mp hy with hy|hy
       ·exact hy
       ·exact absurd (qau _ hy) hn
      have hyn:y∉l0::r:=λhm=>hn (qaY _ hm)
      rcases qaM.mp hx with hx|hx
      ·exact h.lt x hx y hyd hyn
      ·rw[qag.mp hx]
       have hl:=h.lt l0 hl0 y hyd hyn
       have hyb:=hbd y hyd
       have e1:tops p*bots y*bots l0<tops y*bots p*bots l0:=by
        rw[qbd,ceq,qbd (tops l0),qbd (tops y)]
        exact qc7 hl hp
       exact qdd e1 (by omega)
theorem least_of {tops bots:Nat->Int}{ps:List Nat} (hb:∀ x∈ps,0<bots x) (hnd:ps.Nodup):Least tops bots ps (leastR tops bots ps []):=by
 have:=leastR_ok (tops:=tops) (bots:=bots) ps [] [] (by simpa using hb) (by simpa using hnd) ⟨λh=>absurd rfl h,λx hx=>(nomatch hx),λ_=>qcN,λx hx=>(nomatch hx),λx hx=>(nomatch hx)⟩
 simpa using this
def leaveL (W:Nat->Nat->Int) (bots:Nat->Int):List Nat->List Nat->List Nat
 |[],ps=>ps
 |s::ss,ps=>if ps.length<2 then ps else leaveL W bots ss (leastR (W s) bots ps [])
structure Lv (W:Nat->Nat->Int) (bots:Nat->Int) (C:List Nat) (s:Nat) (ps:List Nat):Prop where
 ne:ps≠[]
 nd:ps.Nodup
 sub:∀ x∈ps,x∈C
 eq:∀ x∈ps,∀ y∈ps,∀ l,l<s->bots x*W l y - bots y*W l x=0
 lt:∀ x∈ps,∀ y∈C,y∉ps->lexP s λl=>bots x*W l y - bots y*W l x
theorem lexP_mono {M N:Nat}{v:Nat->Int} (h:M<=N) (hv:lexP M v):lexP N v:=let ⟨j,h1,h2,h3⟩:=hv;⟨j,by omega,h2,h3⟩
theorem Lv.step {W:Nat->Nat->Int}{bots:Nat->Int}{C ps:List Nat}{s:Nat} (hb:∀ x∈C,0<bots x) (h:Lv W bots C s ps):Lv W bots C (s+1) (leastR (W s) bots ps []):=by
 have L:=least_of (tops:=W s) (bots:=bots) (ps:=ps) (λx hx=>hb x (h.sub x hx)) h.nd
 refine⟨L.ne h.ne,L.nd h.nd,λx hx=>h.sub x (L.sub x hx),λx hx y hy l hl=>?_,λx hx y hy hn=>?_⟩
 ·rcases qfw l s with h1|h1
  ·exact h.eq x (L.sub x hx) y (L.sub y hy) l h1
  ·have:l=s:=by omega
   subst this
   have:=L.eq y hy x hx
   rw[qa6 (bots x),qa6 (bots y),this];omega
 ·by_cases hm:y∈ps
  ·have hl:=L.lt x hx y hm hn
   refine⟨s,by omega,?_,λl hl'=>h.eq x (L.sub x hx) y hm l hl'⟩
   show 0<bots x*W s y - bots y*W s x
   rw[qa6 (bots x),qa6 (bots y)];omega
  ·exact lexP_mono (by omega) (h.lt x (L.sub x hx) y hy hm)
theorem leaveL_ok {W:Nat->Nat->Int}{bots:Nat->Int}{C:List Nat} (hb:∀ x∈C,0<bots x):∀ (k s:Nat) (ps:List Nat),Lv W bots C s ps->∃ s',s<=s'/\s'<=s+k/\Lv W bots C s' (leaveL W bots ((qah k).map λj=>s+j) ps)/\(s'<s+k->(leaveL W bots ((qah k).map λj=>s+j) ps).length<2):=by
 intro k
 induction k with
 |zero=>intro s ps h;exact⟨s,qal _,qal _,h,λh=>absurd h (by omega)⟩
 |succ k ih=>
  intro s ps h
  have e:(qah (k+1)).map (λj=>s+j)=s::(qah k).map λj=>(s+1)+j:=by
   rw[qcb,qaB,qbi]
   congr 1
   refine qc1 λj _=>?_
   show s+(j+1)=_
   omega
  rw[e,leaveL]
  by_cases hl:ps.length<2
  ·rw[if_pos hl]
   exact⟨s,qal _,by omega,h,λ_=>hl⟩
  ·rw[if_neg hl]
   obtain⟨s',h1,h2,h3,h4⟩:=ih (s+1) _ (h.step hb)
   exact⟨s',by omega,by omega,h3,λh=>h4 (by omega)⟩
variable {P:Pb}
theorem leaving_ok {S:Tb} (h:Good P S) (hA:∀ i,i<P.m->∀ t,P.m<=t->P.A (S.kept i) t=0) {e:Nat}{C:List Nat} (hC:∀ i,i∈C↔i<P.m/\0<S.T i e) (hn:C.Nodup) (hne:C≠[]) :
  ∃ r,leaveL (λs i=>LV P S i s) (λi=>S.T i e) ((qah (P.m+1)).map λj=>0+j) C=[r]/\r<P.m/\0<S.T r e/\∀ i,i<P.m->i≠r->0<S.T i e->lexP (P.m+1) λs=>S.T r e*LV P S i s - S.T i e*LV P S r s:=by
 have hb:∀ x∈C,0<S.T x e:=λx hx=>((hC x).mp hx).2
 have h0:Lv (λs i=>LV P S i s) (λi=>S.T i e) C 0 C:=⟨hne,hn,λx hx=>hx,λx _ y _ l hl=>absurd hl (by omega),λx _ y hy hm=>absurd hy hm⟩
 obtain⟨s',h1,h2,h3,h4⟩:=leaveL_ok hb (P.m+1) 0 C h0
 generalize leaveL (λs i=>LV P S i s) (λi=>S.T i e) ((qah (P.m+1)).map λj=>0+j) C=out at h3 h4
 have hone:out.length<2:=by
  rcases qfw out.length 2 with hl|hl
  ·exact hl
  ·exfalso
   have hs:s'=P.m+1:=by
    rcases qfw s' (0+(P.m+1)) with hlt|hge
    ·exact absurd (h4 hlt) (by omega)
    ·omega
   match out,hl,h3 with
   |x::y::r,_,h3=>
    have hx:=(hC x).mp (h3.sub x qaf)
    have hy:=(hC y).mp (h3.sub y (qaj _ qaf))
    have hxy:x≠y:=λe=>by
     have:=(qfV.mp h3.nd).1 y qaf
     exact this e
    refine lines_unlike h hA hy.1 hx.1 (qbu hxy) (a:=S.T x e) (b:=S.T y e) hx.2 λs hs'=>?_
    have:=h3.eq x qaf y (qaj _ qaf) s (by omega)
    omega
 match out,hone,h3 with
 |[],_,h3=>exact absurd rfl h3.ne
 |[r],_,h3=>
  have hr:=(hC r).mp (h3.sub r qaf)
  refine⟨r,rfl,hr.1,hr.2,λi hi hir hT=>?_⟩
  exact lexP_mono (by omega) (h3.lt r qaf i ((hC i).mpr ⟨hi,hT⟩) (by simpa using hir))
end Sx
namespace Sx
variable {P:Pb}
theorem sumN_swap (n m:Nat) (f:Nat->Nat->Int):(sumN n λi=>sumN m λk=>f i k)=sumN m λk=>sumN n λi=>f i k:=by
 induction n with
 |zero=>rw[sumN];exact (sumN_zero m).symm
 |succ n ih=>
  rw[sumN,ih]
  rw[<-sumN_add]
  rfl
theorem sumN_nonneg {n:Nat}{f:Nat->Int} (h:∀ k,k<n->0<=f k):0<=sumN n f:=by
 induction n with
 |zero=>exact qdA _
 |succ n ih=>rw[sumN];have:=ih λk hk=>h k (by omega);have:=h n (by omega);omega
theorem sumN_append (a b:Nat) (f:Nat->Int):sumN (a+b) f=sumN a f+sumN b λk=>f (a+k):=by
 induction b with
 |zero=>rw[sumN];simp
 |succ b ih=>rw[<-Nat.add_assoc,sumN,ih,sumN];omega
theorem sumN_right (n:Nat) (c:Int) (f:Nat->Int):sumN n (λk=>f k*c)=sumN n f*c:=by
 rw[qa6,<-sumN_mul]
 exact sumN_congr λk _=>qa6 _ _
def byName (P:Pb) (S:Tb) (y:Nat->Int) (k:Nat):Int:=sumN P.m λi=>if S.kept i=k then y i else 0
theorem byName_sum (S:Tb) (y:Nat->Int) {N:Nat} (hN:∀ i,i<P.m->S.kept i<N) (f:Nat->Int):(sumN N λk=>byName P S y k*f k)=sumN P.m λi=>y i*f (S.kept i):=by
 have e:(sumN N λk=>byName P S y k*f k)=sumN N λk=>sumN P.m λi=>(if S.kept i=k then y i else 0)*f k:=sumN_congr λk _=>(sumN_right _ _ _).symm
 rw[e,sumN_swap]
 refine sumN_congr λi hi=>?_
 rw[sumN_single (hN i hi) λk _ hne=>by rw[if_neg (qbu hne),qcS],if_pos rfl]
theorem byName_nonneg {S:Tb}{y:Nat->Int} (h:∀ i,i<P.m->0<=y i) (k:Nat):0<=byName P S y k:=sumN_nonneg λi hi=>by split;exact h i hi;exact qdA _
theorem byName_at {S:Tb}{y:Nat->Int} (hinj:∀ i j,i<P.m->j<P.m->S.kept i=S.kept j->i=j) {i:Nat} (hi:i<P.m):byName P S y (S.kept i)=y i:=by
 unfold byName
 rw[sumN_single hi λj hj hne=>if_neg λe=>hne (hinj j i hj hi e),if_pos rfl]
theorem byName_not {S:Tb}{y:Nat->Int}{k:Nat} (h:∀ i,i<P.m->S.kept i≠k):byName P S y k=0:=by
 unfold byName
 rw[sumN_congr (g:=λ_=>0) λi hi=>if_neg (h i hi),sumN_zero]
theorem unit_sum {m:Nat}{v:Vec}{r:Nat} (hr:r<m):(sumN m λk=>v k*unit k r)=v r:=by
 rw[sumN_single hr λk _ hne=>by unfold unit;rw[if_neg (qbu hne),qbc]]
 unfold unit
 rw[if_pos rfl,qd6]
theorem amounts_ok {S:Tb} (h:Good P S) (hn:Named P S) (hT:∀ i,i<P.m->0<=S.T i P.n) {r:Nat} (hr:r<P.m):(sumN P.n λj=>byName P S (λi=>S.T i P.n) j*P.A j r)<=S.p*P.b r:=by
 have e1:=h.eq P.n (qal _) r
 have c1:colV P S P.n=P.b:=by unfold colV;rw[if_neg (qaX _)]
 rw[c1]at e1
 have e2:=byName_sum (P:=P) S (λi=>S.T i P.n) (N:=P.n+P.m) hn.bound.2 λk=>P.A k r
 rw[<-e1,sumN_append]at e2
 have e3:(sumN P.m λk=>byName P S (λi=>S.T i P.n) (P.n+k)*P.A (P.n+k) r)=byName P S (λi=>S.T i P.n) (P.n+r):=by
  rw[sumN_congr (g:=λk=>byName P S (λi=>S.T i P.n) (P.n+k)*unit k r) λk hk=>by rw[hn.one k hk]]
  exact unit_sum (v:=λk=>byName P S (λi=>S.T i P.n) (P.n+k)) hr
 have e4:=byName_nonneg (P:=P) (S:=S) (y:=λi=>S.T i P.n) hT (P.n+r)
 omega
theorem gains_amounts {S:Tb} (h:Good P S) (hn:Named P S) (hg:∀ r,r<P.m->P.g (P.n+r)=0):(sumN P.n λj=>byName P S (λi=>S.T i P.n) j*P.g j)=S.G P.n:=by
 have e2:=byName_sum (P:=P) S (λi=>S.T i P.n) (N:=P.n+P.m) hn.bound.2 P.g
 rw[sumN_append,sumN_congr (n:=P.m) (g:=λ_=>0) λk hk=>by rw[hg k hk,qbc],sumN_zero,qfz]at e2
 rw[e2,h.goal P.n (qal _)]
 have:gainC P S P.n=0:=by unfold gainC;rw[if_neg (qaX _)]
 rw[this,qbc,qfy]
 exact sumN_congr λi _=>qa6 _ _
theorem det_by_units {S:Tb}{v:Vec} (hv:∀ t,P.m<=t->v t=0) {i:Nat} (hi:i<P.m):det P.m (upd (basis P S) i v)=sumN P.m λs=>v s*LV P S i (s+1):=by
 have e:v=λt=>sumN P.m λs=>v s*unit s t:=by
  funext t
  by_cases ht:t<P.m
  ·exact (unit_sum (v:=v) ht).symm
  ·rw[sumN_congr (g:=λ_=>0) λs hs'=>by unfold unit;rw[if_neg (by omega),qbc],sumN_zero]
   exact hv t (by omega)
 have e2:=det_sum (m:=P.m) (basis P S) hi (λs=>v s) unit P.m
 rw[<-e]at e2
 rw[e2]
 refine sumN_congr λs hs'=>?_
 unfold LV XV
 rw[if_neg (by omega),qcc]
theorem prices_col {S:Tb}{v:Vec} (hv:∀ t,P.m<=t->v t=0):(sumN P.m λr=>v r*ZV P S (r+1))=sumN P.m λi=>P.g (S.kept i)*det P.m (upd (basis P S) i v):=by
 have e:(sumN P.m λr=>v r*ZV P S (r+1))=sumN P.m λr=>sumN P.m λi=>P.g (S.kept i)*(v r*LV P S i (r+1)):=sumN_congr λr _=>by
  unfold ZV
  rw[<-sumN_mul]
  exact sumN_congr λi _=>by rw[qaP]
 rw[e,sumN_swap]
 refine sumN_congr λi hi=>?_
 rw[sumN_mul,det_by_units hv hi]
theorem prices_ok {S:Tb} (h:Good P S) (hn:Named P S) (hA:∀ k,k<P.n+P.m->∀ t,P.m<=t->P.A k t=0) (hG:∀ c,c<P.n->0<=S.G c) {j:Nat} (hj:j<P.n):S.p*P.g j<=sumN P.m λr=>P.A j r*ZV P S (r+1):=by
 rw[prices_col (hA j (by omega))]
 rcases hn.all j (by omega) with⟨c,hc,e⟩|⟨i,hi,e⟩
 ·have e1:=h.goal c (by omega)
  have g1:gainC P S c=P.g j:=by unfold gainC;rw[if_pos hc,e]
  have c1:colV P S c=P.A j:=by unfold colV;rw[if_pos hc,e]
  have e2:(sumN P.m λi=>P.g (S.kept i)*det P.m (upd (basis P S) i (P.A j)))=sumN P.m λi=>P.g (S.kept i)*S.T i c:=sumN_congr λi hi=>by rw[<-c1,<-h.entry (by omega) hi]
  rw[g1]at e1
  rw[e2]
  have:=hG c hc
  omega
 ·rw[sumN_single hi λk hk hne=>?_]
  ·have:=det_kept h hi hi
   rw[if_pos rfl]at this
   have e2:det P.m (upd (basis P S) i (P.A j))=S.p:=by rw[<-e];exact this
   rw[e2,e,qa6]
   exact qdA _
  ·have:=det_kept h hk hi
   rw[if_neg hne]at this
   have e2:det P.m (upd (basis P S) k (P.A j))=0:=by rw[<-e];exact this
   rw[e2,qbc]
theorem bounds_prices {S:Tb} (h:Good P S) (hb:∀ t,P.m<=t->P.b t=0):(sumN P.m λr=>P.b r*ZV P S (r+1))=S.G P.n:=by
 have c1:colV P S P.n=P.b:=by unfold colV;rw[if_neg (qaX _)]
 have:gainC P S P.n=0:=by unfold gainC;rw[if_neg (qaX _)]
 rw[prices_col hb,h.goal P.n (qal _),this,qbc,qfy]
 exact sumN_congr λi hi=>by rw[h.entry (qal _) hi,c1]
theorem price_free {S:Tb} (h:Good P S) (hn:Named P S) (hg:∀ r,r<P.m->P.g (P.n+r)=0) {r c:Nat} (hr:r<P.m) (hc:c<P.n) (e:S.free c=P.n+r):ZV P S (r+1)=S.G c:=by
 have g1:gainC P S c=0:=by unfold gainC;rw[if_pos hc,e,hg r hr]
 have c1:colV P S c=unit r:=by unfold colV;rw[if_pos hc,e,hn.one r hr]
 rw[h.goal c (by omega),g1,qbc,qfy]
 unfold ZV
 refine sumN_congr λi hi=>?_
 rw[h.entry (by omega) hi,c1]
 unfold LV XV
 rw[if_neg (by omega),qcc]
theorem price_kept {S:Tb} (h:Good P S) (hn:Named P S) (hg:∀ r,r<P.m->P.g (P.n+r)=0) {r j:Nat} (hr:r<P.m) (hj:j<P.m) (e:S.kept j=P.n+r):ZV P S (r+1)=0:=by
 unfold ZV
 rw[sumN_single hj λk hk hne=>?_]
 ·rw[e,hg r hr,qcS]
 ·have:=det_kept h hk hj
  rw[if_neg hne]at this
  have e2:LV P S k (r+1)=0:=by
   unfold LV XV
   rw[if_neg (by omega),qcc,<-hn.one r hr,<-e]
   exact this
  rw[e2,qbc]
def wayN (P:Pb) (S:Tb) (e k:Nat):Int:=byName P S (λi=>- S.T i e) k+if S.free e=k then S.p else 0
theorem way_sum {S:Tb} (hn:Named P S) {e:Nat} (he:e<P.n) (f:Nat->Int):(sumN (P.n+P.m) λk=>wayN P S e k*f k)=S.p*f (S.free e) - sumN P.m λi=>S.T i e*f (S.kept i):=by
 have e1:=byName_sum (P:=P) S (λi=>- S.T i e) (N:=P.n+P.m) hn.bound.2 f
 have e2:(sumN (P.n+P.m) λk=>(if S.free e=k then S.p else 0)*f k)=S.p*f (S.free e):=by
  rw[sumN_single (hn.bound.1 e he) λk _ hne=>by rw[if_neg (qbu hne),qcS],if_pos rfl]
 have e3:(sumN (P.n+P.m) λk=>wayN P S e k*f k)=sumN (P.n+P.m) λk=>byName P S (λi=>- S.T i e) k*f k+(if S.free e=k then S.p else 0)*f k:=sumN_congr λk _=>by unfold wayN;rw[qdB]
 rw[e3,sumN_add,e1,e2]
 have e4:(sumN P.m λi=>- S.T i e*f (S.kept i))=- sumN P.m λi=>S.T i e*f (S.kept i):=by
  have:(sumN P.m λi=>- S.T i e*f (S.kept i))=sumN P.m λi=>(-1)*(S.T i e*f (S.kept i)):=sumN_congr λi _=>by rw[qc6,qc6,qeV]
  rw[this,sumN_mul];omega
 rw[e4];omega
theorem way_nonneg {S:Tb} (h:Good P S) {e:Nat} (ht:∀ i,i<P.m->S.T i e<=0) (k:Nat):0<=wayN P S e k:=by
 unfold wayN
 have:=byName_nonneg (P:=P) (S:=S) (y:=λi=>- S.T i e) (λi hi=>by have:=ht i hi;show 0<=- S.T i e;omega) k
 have:=h.pos
 split<;>omega
theorem way_rows {S:Tb} (h:Good P S) (hn:Named P S) {e:Nat} (he:e<P.n) (ht:∀ i,i<P.m->S.T i e<=0) {r:Nat} (hr:r<P.m):(sumN P.n λk=>wayN P S e k*P.A k r)<=0:=by
 have e1:=way_sum (S:=S) hn he λk=>P.A k r
 have e2:=h.eq e (by omega) r
 have c1:colV P S e=P.A (S.free e):=by unfold colV;rw[if_pos he]
 rw[c1]at e2
 rw[e2,Int.sub_self,sumN_append]at e1
 have e3:(sumN P.m λk=>wayN P S e (P.n+k)*P.A (P.n+k) r)=wayN P S e (P.n+r):=by
  rw[sumN_congr (g:=λk=>wayN P S e (P.n+k)*unit k r) λk hk=>by rw[hn.one k hk]]
  exact unit_sum (v:=λk=>wayN P S e (P.n+k)) hr
 have:=way_nonneg h ht (P.n+r)
 omega
theorem way_gains {S:Tb} (h:Good P S) (hn:Named P S) (hg:∀ r,r<P.m->P.g (P.n+r)=0) {e:Nat} (he:e<P.n) (hG:S.G e<0):0<sumN P.n λk=>wayN P S e k*P.g k:=by
 have e1:=way_sum (S:=S) hn he P.g
 rw[sumN_append,sumN_congr (n:=P.m) (g:=λ_=>0) λk hk=>by rw[hg k hk,qbc],sumN_zero,qfz]at e1
 have e2:=h.goal e (by omega)
 have g1:gainC P S e=P.g (S.free e):=by unfold gainC;rw[if_pos he]
 rw[g1]at e2
 have e3:(sumN P.m λi=>S.T i e*P.g (S.kept i))=sumN P.m λi=>P.g (S.kept i)*S.T i e:=sumN_congr λi _=>qa6 _ _
 rw[e1,e3]
 omega
def tb0 (P:Pb) (T:Nat->Nat->Int) (G:Nat->Int):Tb:=⟨1,λi=>P.n+i,λc=>c,T,G⟩
theorem good0 {T:Nat->Nat->Int}{G:Nat->Int} (h1:∀ r,r<P.m->P.A (P.n+r)=unit r) (hA:∀ k,k<P.n->∀ t,P.m<=t->P.A k t=0) (hb:∀ t,P.m<=t->P.b t=0) (hg:∀ r,r<P.m->P.g (P.n+r)=0)
  (hT:∀ i c,i<P.m->c<P.n->T i c=P.A c i) (hL:∀ i,i<P.m->T i P.n=P.b i) (hG:∀ c,c<P.n->G c=- P.g c) (hGn:G P.n=0):Good P (tb0 P T G)/\Named P (tb0 P T G)/\((∀ t,t<P.m->0<=P.b t)->Fe P (tb0 P T G)):=by
 have hbas:∀ i,i<P.m->basis P (tb0 P T G) i=unit i:=λi hi=>h1 i hi
 have hdet:det P.m (basis P (tb0 P T G))=1:=by
  rw[det_congr P.m (E:=unit) λk t hk _=>by rw[hbas k hk],det_unit]
 have heq:∀ c,c<=P.n->∀ t,(1:Int)*colV P (tb0 P T G) c t=sumN P.m λi=>T i c*P.A (P.n+i) t:=λc hc t=>by
  rw[qeV,sumN_congr (g:=λi=>T i c*unit i t) λi hi=>by rw[h1 i hi]]
  have hcol:∀ t',P.m<=t'->colV P (tb0 P T G) c t'=0:=λt' ht'=>by
   unfold colV
   by_cases hcn:c<P.n
   ·rw[if_pos hcn];exact hA c hcn t' ht'
   ·rw[if_neg hcn];exact hb t' ht'
  by_cases ht:t<P.m
  ·rw[unit_sum (v:=λi=>T i c) ht]
   unfold colV
   by_cases hcn:c<P.n
   ·rw[if_pos hcn,hT t c ht hcn];rfl
   ·have:c=P.n:=by omega
    subst this
    rw[if_neg hcn,hL t ht]
  ·rw[hcol t (by omega),sumN_congr (g:=λ_=>0) λi hi=>by unfold unit;rw[if_neg (by omega),qbc],sumN_zero]
 have hgood:Good P (tb0 P T G):=by
  refine⟨by show (0:Int)<1;decide,hdet.symm,heq,λc hc=>?_⟩
  show G c=(sumN P.m λi=>P.g (P.n+i)*T i c) - 1*gainC P (tb0 P T G) c
  rw[sumN_congr (g:=λ_=>0) λi hi=>by rw[hg i hi,qcS],sumN_zero]
  unfold gainC
  by_cases hcn:c<P.n
  ·rw[if_pos hcn,hG c hcn]
   show - P.g c=0 - 1*P.g c
   omega
  ·have:c=P.n:=by omega
   subst this
   rw[if_neg hcn,hGn];rfl
 refine⟨hgood,⟨h1,λk hk=>?_,λc hc=>by show c<_;omega,λi hi=>by show P.n+i<_;omega⟩,λhbn i hi=>?_⟩
 ·by_cases hkn:k<P.n
  ·exact .inl ⟨k,hkn,rfl⟩
  ·exact .inr ⟨k - P.n,by omega,by show P.n+(k - P.n)=k;omega⟩
 ·have l0:LV P (tb0 P T G) i 0=P.b i:=by
   have e:=hgood.entry (c:=P.n) (qal _) hi
   have c1:colV P (tb0 P T G) P.n=P.b:=by unfold colV;rw[if_neg (qaX _)]
   rw[c1]at e
   unfold LV XV
   rw[if_pos rfl,<-e]
   exact hL i hi
  have ls:∀ s,s<P.m->LV P (tb0 P T G) i (s+1)=if i=s then 1 else 0:=λs hs=>by
   have:=det_kept hgood hi hs
   unfold LV XV
   rw[if_neg (by omega),qcc,<-hbas s hs]
   exact this
  have hb0:=hbn i hi
  rcases qgc hb0 with hp|hp
  ·exact⟨0,by omega,by rw[l0];exact hp,λl hl=>absurd hl (by omega)⟩
  ·refine⟨i+1,by omega,by rw[ls i hi,if_pos rfl];decide,λl hl=>?_⟩
   cases l with
   |zero=>rw[l0,<-hp]
   |succ l=>rw[ls l (by omega),if_neg (by omega)]
end Sx
set_option maxHeartbeats 1000000
namespace Own
open PySem L2
open Sx (Pb Tb Good Named Fe LV ZV piv lexP leastR leaveL sumN unit colV basis)
theorem kF {e:Ef}{z:Int}{m:Nat}{env:Ev}{st s:Sto} (he:e env st=some (.d (.int z),s)) (h0:0<=z) (h1:z<=1000) (hm:z.toNat=m):cO (aa e ae) env st=some (dn 0 m,s):=by
 have hb:-(2^62)<=z/\z<2^62:=⟨Int.le_trans (by decide) h0,Int.lt_of_le_of_lt h1 (by decide)⟩
 have h2:=ac (b:=ae) he rfl
 simp only[cO,h2,qab,hb,and_self,if_true,hm]
theorem cD {f:Ef}{env:Ev}{st s:Sto}{ds:List D} (h:f env st=some (.d (.lst ds),s)):bj f env st=some (ds,s):=by
 simp only[bj,h,qab]
theorem iF {f:Ef}{env:Ev}{st s:Sto}{ds:List D} (h:f env st=some (.d (.tup ds),s)):bj f env st=some (ds,s):=by
 simp only[bj,h,qab]
theorem wI {c:Tf}{a b:Ef}{env:Ev}{st s:Sto}{r:Option (W×Sto)} (h:c env st=some (true,s)) (ha:a env s=r):my c a b env st=r:=by
 simp only[my,h,qab,if_true,ha]
theorem As {c:Tf}{a b:Ef}{env:Ev}{st s:Sto}{r:Option (W×Sto)} (h:c env st=some (false,s)) (hb:b env s=r):my c a b env st=r:=by
 simp only[my,h,qab,qbw,if_false,hb]
theorem zi (s:Sto) (ns:List Int):qh s [.d (.lst (ns.map D.int))]=some (.int ns.sum):=by
 show (jo (ns.map D.int)).map (λns=>D.int ns.sum)=_
 rw[kq];rfl
theorem oS (s:Sto) (a b:Int):dEq s (.d (.int a)) (.d (.int b))=some (.bl (a==b)):=by
 show ((eqK (.fl (.int a)) (.fl (.int b))).map λk=>D.bl k)=_
 rfl
theorem B2 (s:Sto) (a b:Str):dEq s (.d (.str a)) (.d (.str b))=some (.bl (a==b)):=by
 show ((eqK (.fl (.str a)) (.fl (.str b))).map λk=>D.bl k)=_
 rfl
theorem iz (s:Sto) {a b:List D} (h:a.length+b.length<=1000000):cg s (.d (.lst a)) (.d (.lst b))=some (.lst (a++b)):=if_pos h
theorem tm (s:Sto) {a b:List D} (h:a.length+b.length<=1000000):cg s (.d (.tup a)) (.d (.tup b))=some (.tup (a++b)):=if_pos h
def mpI (n:Nat) (f:Nat->Int):List D:=(qah n).map λk=>D.int (f k)
def lnD (n:Nat) (T:Nat->Nat->Int) (i:Nat):D:=.lst (mpI (n+1) (T i))
def aW (m n:Nat) (T:Nat->Nat->Int):List D:=(qah m).map (lnD n T)
def nI (f:Nat->Nat):Nat->Int:=λk=>((f k:Nat):Int)
abbrev obN:List Str:=["amounts","lines","goal","part","free","kept"]
def obD (P:Pb) (S:Tb):D:=.ob obN [.int (P.n:Int),.lst (aW P.m P.n S.T),.lst (mpI (P.n+1) S.G),.int S.p,.lst (mpI P.n (nI S.free)),.lst (mpI P.m (nI S.kept))]
theorem bF (n:Nat) (f:Nat->Int):(mpI n f).length=n:=by unfold mpI;rw[qam,qap]
theorem eN (m n:Nat) (T:Nat->Nat->Int):(aW m n T).length=m:=by unfold aW;rw[qam,qap]
theorem dR {n:Nat}{f:Nat->Int}{k:Nat} (h:k<n):(mpI n f)[k]?=some (.int (f k)):=by
 unfold mpI;rw[qaS,qbH h];rfl
theorem no {m n:Nat}{T:Nat->Nat->Int}{k:Nat} (h:k<m):(aW m n T)[k]?=some (lnD n T k):=by
 unfold aW;rw[qaS,qbH h];rfl
theorem cu {n:Nat}{f g:Nat->Int} (h:∀ k,k<n->f k=g k):mpI n f=mpI n g:=by
 unfold mpI
 refine qc1 λk hk=>?_
 rw[h k (qaG.mp hk)]
theorem se (n:Nat) (f:Nat->Int):mpI (n+1) f=mpI n f++[.int (f n)]:=by
 unfold mpI;rw[qeJ,qc2];rfl
theorem cL (n:Nat) (f:Nat->Int):mpI n f=((qah n).map f).map D.int:=by unfold mpI;rw[qbi];rfl
theorem rd (n:Nat) (f:Nat->Int):(mpI n f).all eW=true:=by
 rw[qa9]
 intro d hd
 obtain⟨k,_,rfl⟩:=qa7.mp hd
 rfl
theorem i5 {n:Nat}{f:Nat->Int}{k:Nat}{x:Int}:(mpI n f).set k (.int x)=mpI n λj=>if j=k then x else f j:=by
 apply qcm
 intro j
 by_cases hj:j<n
 ·rw[dR hj]
  by_cases e:j=k
  ·subst e;rw[if_pos rfl,qba (by rw[bF];exact hj)]
  ·rw[if_neg e,qbo (qbu e),dR hj]
 ·rw[qbb (by rw[qbx,bF];lia),qbb (by rw[bF];lia)]
theorem gT (st:Sto) {n:Nat}{f:Nat->Int}{k:Nat} (h:k<n):dIx st (.d (.lst (mpI n f))) (.d (.int (k:Int)))=some (.int (f k)):=dD (dR h)
theorem rM (st:Sto) {m n:Nat}{T:Nat->Nat->Int}{k:Nat} (h:k<m):dIx st (.d (.lst (aW m n T))) (.d (.int (k:Int)))=some (lnD n T k):=dD (no h)
theorem sD (st:Sto) {n:Nat}{T:Nat->Nat->Int}{i c:Nat} (h:c<=n):dIx st (.d (lnD n T i)) (.d (.int (c:Int)))=some (.int (T i c)):=gT st (by lia)
theorem u5 (st:Sto) {n:Nat}{T:Nat->Nat->Int}{i:Nat}:dIx st (.d (lnD n T i)) (.d (.int (-1)))=some (.int (T i n)):=by
 show atI (mpI (n+1) (T i)) (-1)=_
 rw[se];exact wk _ _
section
variable {P:Pb}{S:Tb}{a:Ef}{env:Ev}{st s:Sto}
theorem dM (h:a env st=some (.d (obD P S),s)):aw "amounts" a env st=some (.d (.int (P.n:Int)),s):=by simp only[aw,h,qab,obD];rfl
theorem fC (h:a env st=some (.d (obD P S),s)):aw "lines" a env st=some (.d (.lst (aW P.m P.n S.T)),s):=by simp only[aw,h,qab,obD];rfl
theorem mI (h:a env st=some (.d (obD P S),s)):aw "goal" a env st=some (.d (.lst (mpI (P.n+1) S.G)),s):=by simp only[aw,h,qab,obD];rfl
theorem mD (h:a env st=some (.d (obD P S),s)):aw "part" a env st=some (.d (.int S.p),s):=by simp only[aw,h,qab,obD];rfl
theorem mJ (h:a env st=some (.d (obD P S),s)):aw "free" a env st=some (.d (.lst (mpI P.n (nI S.free))),s):=by simp only[aw,h,qab,obD];rfl
theorem pK (h:a env st=some (.d (obD P S),s)):aw "kept" a env st=some (.d (.lst (mpI P.m (nI S.kept))),s):=by simp only[aw,h,qab,obD];rfl
end
theorem lc {te:Ef}{l:Ev}{st:Sto}{g:Nat->D} (F:Nat->D):∀ {ks:List Nat},(∀ k∈ks,te (some (.d (g k))::l) st=some (.d (F k),st))->lcI (.nm 0) bn te (none::l) (ks.map g) st=some (ks.map F,st)
 |[],_=>rfl
 |k::ks,h=>by
  have ih:=lc (te:=te) (l:=l) (st:=st) (g:=g) F (ks:=ks) λx hx=>h x (qaj _ hx)
  have h1:=h k qaf
  rw[qaB,qaB]
  unfold lcI
  rw[show e9 (.nm 0) (.d (g k)) (none::l)=some (some (.d (g k))::l) from rfl,qab,show bn (some (.d (g k))::l) st=some (true,st) from rfl,qab,if_pos rfl,h1,qab,ih];rfl
def Sm (z:Int):Prop:=z.natAbs<2^1800
theorem mulOk {a b:Int} (x y:Nat) (ha:a.natAbs<2^x) (hb:b.natAbs<2^y) (h:x+y<=134217728):qbr a b:=
 qgK (qfm.mpr ha) (qfm.mpr hb) h
theorem zD {a b:Int}{x y:Nat} (ha:a.natAbs<2^x) (hb:b.natAbs<2^y):(a*b).natAbs<2^(x+y):=by
 rw[qdm,qfT]
 exact Nat.mul_lt_mul'' ha hb
theorem Sm.mulOk {a b:Int} (ha:Sm a) (hb:Sm b):qbr a b:=Own.mulOk 1800 1800 ha hb (by decide)
theorem ef (st:Sto) {a b:Int} (h:qbr a b):cv st (.d (.int a)) (.d (.int b))=some (.int (a*b)):=if_pos h
theorem Sm.log {a:Int} (h:Sm a):a.natAbs.log2<9000:=by
 by_cases h0:a.natAbs=0
 ·rw[h0];decide
 ·have:=(qh7 h0).mpr h
  lia
theorem tM (st:Sto) {a b:Int} (h0:0<b) (h:Sm b):mS st (.d (.int a)) (.d (.int b))=some (.int (a / b)):=if_pos ⟨h0,h.log⟩
end Own
set_option maxHeartbeats 1000000
namespace Own
open PySem L2
open Sx (Pb Tb Good Named Fe LV ZV piv lexP leastR leaveL sumN unit colV basis)
theorem cX {a b:Sf}{env:Ev}{st s:Sto}{w:W} (h:a env st=some (.rt w s)):ar a b env st=some (.rt w s):=by simp only[ar,h,qab]
theorem au {a b:Sf}{env e:Ev}{st s:Sto}{r:Option Fl} (h:a env st=some (.nx e s)) (hb:b e s=r):ar a b env st=r:=by simp only[ar,h,qab,hb]
theorem cU {c:Tf}{a b:Sf}{env:Ev}{st s:Sto}{r:Option Fl} (h:c env st=some (true,s)) (ha:a env s=r):ca c a b env st=r:=by simp only[ca,h,qab,if_true,ha]
theorem cy {c:Tf}{a b:Sf}{env:Ev}{st s:Sto}{r:Option Fl} (h:c env st=some (false,s)) (hb:b env s=r):ca c a b env st=r:=by simp only[ca,h,qab,qbw,if_false,hb]
theorem B1 {o a:Ef}{env:Ev}{st s1 s2:Sto}{n:Nat}{d:D}{ds0 ds:List D} (ho:o env st=some (.h n,s1)) (ha:a env s1=some (.d d,s2)) (h0:lg s1 n=some ds0) (hg:lg s2 n=some ds) (hz:ds.length<1000000):kg (lW hZ o (aa a ae)) env st=some (.nx env (s2.set n (.l (ds++[d])))):=by
 have hc:=ac (b:=ae) ha rfl
 simp only[kg,lW,ho,hc,h0,hg,hZ,hz,if_true,qab,qaD]
theorem rC (st:Sto) (a b:C):(st++[a]).set st.length b=st++[b]:=by
 rw[List.set_append];simp
structure Okt (P:Pb) (S:Tb):Prop where
 good:Good P S
 named:Named P S
 m64:P.m<=100
 n64:P.n<=100
 sT:∀ i c,i<P.m->c<=P.n->Sm (S.T i c)
 sL:∀ i s,i<P.m->s<=P.m->Sm (LV P S i s)
 sG:∀ c,c<=P.n->Sm (S.G c)
 sp:Sm S.p
def psD (ps:List Nat):List D:=ps.map λk=>D.int ((k:Nat):Int)
theorem u1 (ps:List Nat):(psD ps).length=ps.length:=by unfold psD;rw[qam]
theorem mG {n k:Nat}{b:Sf}{ws:List W}{st s:Sto}{h:Nat}{ds:List D} (hl:ws.length=k) (hb:b (ws.map some++qaC (n - k) none) st=some (.rt (.h h) s)) (hh:st.length<=h) (hd:lg s h=some ds):jX n k b ws st=some (.d (.lst ds),s.take st.length):=by
 simp only[jX,hl,if_true,hb,qab,xm,if_neg (qgj.mpr hh),hd,qaD]
theorem uZ {st u:Sto}{h:Nat}{c:C} (hh:st.length<=h):(st++u).set h c=st++u.set (h - st.length) c:=by
 rw[qcf _ _ hh]
theorem zJ {s:Sto}{h:Nat}{ds es:List D} (hg:lg s h=some ds):lg (s.set h (.l es)) h=some es:=by
 have:=(qao.mp (uI hg)).1
 unfold lg
 rw[qba this]
theorem kG (s:Sto) (ds:List D):lg (s++[.l ds]) s.length=some ds:=by unfold lg;simp
theorem zx (s:Sto) {h:Nat}{ds:List D} (hg:lg s h=some ds):bN s (.h h)=some (!ds.isEmpty):=by
 show (iT s (.h h)).map _=_
 show (lg s h).map _=_
 rw[hg];rfl
theorem BR (s:Sto) {h:Nat}{d:D}{ds:List D} (hg:lg s h=some (d::ds)):dIx s (.h h) (.d (.int 0))=some d:=by
 show (lg s h).bind (λds=>atI ds 0)=_
 rw[hg,qab,xL]
theorem oM (s:Sto) (a b:Int):dLt s (.d (.int a)) (.d (.int b))=some (.bl (decide (a<b))):=rfl
theorem sX (s:Sto) (a b:Int):dGt s (.d (.int a)) (.d (.int b))=some (.bl (decide (a > b))):=rfl
theorem wl (s:Sto) (a b:Int):dGe s (.d (.int a)) (.d (.int b))=some (.bl (decide (a>=b))):=rfl
section
variable {tops bots:Nat->Int}{m:Nat}{st:Sto}{x0:Option W}
theorem lh (ht:∀ i,i<m->Sm (tops i)) (hb:∀ i,i<m->Sm (bots i)):∀ (ps least:List Nat) (u:Sto) (h:Nat) (o4 o5 o6:Option W),(∀ x∈ps,x<m)->(∀ x∈least,x<m)->lg (st++u) h=some (psD least)->st.length<=h->least.length+ps.length<=1000->
  ∃ u' h' o4' o5' o6',dY (.nm 4) bA (psD ps) [x0,some (.d (.lst (mpI m tops))),some (.d (.lst (mpI m bots))),some (.h h),o4,o5,o6] (st++u)=some (.nx [x0,some (.d (.lst (mpI m tops))),some (.d (.lst (mpI m bots))),some (.h h'),o4',o5',o6'] (st++u'))/\
   lg (st++u') h'=some (psD (leastR tops bots ps least))/\st.length<=h'
 |[],least,u,h,o4,o5,o6,_,_,hg,hh,_=>⟨u,h,o4,o5,o6,rfl,by rw[leastR];exact hg,hh⟩
 |p::ps,least,u,h,o4,o5,o6,hp,hl,hg,hh,hz=>by
  have hp0:p<m:=hp p qaf
  have hps:∀ x∈ps,x<m:=λx hx=>hp x (qaj _ hx)
  rw[qas]at hz
  have hs:∀ o5 o6 hh',e9 (.nm 4) (.d (.int ((p:Nat):Int))) [x0,some (.d (.lst (mpI m tops))),some (.d (.lst (mpI m bots))),some (.h hh'),o4,o5,o6]=some [x0,some (.d (.lst (mpI m tops))),some (.d (.lst (mpI m bots))),some (.h hh'),some (.d (.int ((p:Nat):Int))),o5,o6]:=λ_ _ _=>rfl
  have app:∀ (u:Sto) (h:Nat) (ls:List Nat) (o5 o6:Option W),lg (st++u) h=some (psD ls)->st.length<=h->ls.length<1000->kg (lW hZ (iV 3) (aa (iV 4) ae)) [x0,some (.d (.lst (mpI m tops))),some (.d (.lst (mpI m bots))),some (.h h),some (.d (.int ((p:Nat):Int))),o5,o6] (st++u)=some (.nx [x0,some (.d (.lst (mpI m tops))),some (.d (.lst (mpI m bots))),some (.h h),some (.d (.int ((p:Nat):Int))),o5,o6] (st++u.set (h - st.length) (.l (psD (ls++[p])))))/\lg (st++u.set (h - st.length) (.l (psD (ls++[p])))) h=some (psD (ls++[p])):=λu h ls o5 o6 hg hh hl=>by
   have e:=B1 (o:=iV 3) (a:=iV 4) (env:=[x0,some (.d (.lst (mpI m tops))),some (.d (.lst (mpI m bots))),some (.h h),some (.d (.int ((p:Nat):Int))),o5,o6]) (st:=st++u) (n:=h) (d:=.int ((p:Nat):Int)) rfl rfl hg hg (by rw[u1];lia)
   have e2:psD ls++[.int ((p:Nat):Int)]=psD (ls++[p]):=by unfold psD;rw[qc2];rfl
   rw[e2,uZ hh]at e
   refine⟨e,?_⟩
   rw[<-uZ hh]
   exact zJ hg
  cases least with
  |nil=>
   have t0:bM bN (iV 3) [x0,some (.d (.lst (mpI m tops))),some (.d (.lst (mpI m bots))),some (.h h),some (.d (.int ((p:Nat):Int))),o5,o6] (st++u)=some (false,st++u):=by
    have:=zx (st++u) hg
    simp only[bM,show iV 3 [x0,some (.d (.lst (mpI m tops))),some (.d (.lst (mpI m bots))),some (.h h),some (.d (.int ((p:Nat):Int))),o5,o6] (st++u)=some (.h h,st++u) from rfl,qab,this];rfl
   obtain⟨a1,a2⟩:=app u h [] o5 o6 hg hh (by decide)
   obtain⟨u',h',o4',o5',o6',i1,i2,i3⟩:=lh ht hb ps [p] _ h (some (.d (.int ((p:Nat):Int)))) o5 o6 hps (λx hx=>by rw[qag.mp hx];exact hp0) a2 hh (by simp at hz ⊢;lia)
   refine⟨u',h',o4',o5',o6',?_,by rw[leastR];exact i2,i3⟩
   have hb':bA [x0,some (.d (.lst (mpI m tops))),some (.d (.lst (mpI m bots))),some (.h h),some (.d (.int ((p:Nat):Int))),o5,o6] (st++u)=_:=au (cy t0 rfl) a1
   show dY (.nm 4) bA (.int ((p:Nat):Int)::psD ps) _ _=_
   simp only[dY,hs,qab,hb']
   exact i1
  |cons l0 r=>
   have hl0:l0<m:=hl l0 qaf
   have t0:bM bN (iV 3) [x0,some (.d (.lst (mpI m tops))),some (.d (.lst (mpI m bots))),some (.h h),some (.d (.int ((p:Nat):Int))),o5,o6] (st++u)=some (true,st++u):=by
    have:=zx (st++u) hg
    simp only[bM,show iV 3 [x0,some (.d (.lst (mpI m tops))),some (.d (.lst (mpI m bots))),some (.h h),some (.d (.int ((p:Nat):Int))),o5,o6] (st++u)=some (.h h,st++u) from rfl,qab,this];rfl
   have i0:∀ o5 o6,iOp dIx (iV 3) (iC (.int 0)) [x0,some (.d (.lst (mpI m tops))),some (.d (.lst (mpI m bots))),some (.h h),some (.d (.int ((p:Nat):Int))),o5,o6] (st++u)=some (.d (.int ((l0:Nat):Int)),st++u):=λ_ _=>ai rfl rfl (BR (st++u) hg)
   have s5:aN (.nm 5) (iOp cv (iOp dIx (iV 1) (iV 4)) (iOp dIx (iV 2) (iOp dIx (iV 3) (iC (.int 0))))) [x0,some (.d (.lst (mpI m tops))),some (.d (.lst (mpI m bots))),some (.h h),some (.d (.int ((p:Nat):Int))),o5,o6] (st++u)=some (.nx [x0,some (.d (.lst (mpI m tops))),some (.d (.lst (mpI m bots))),some (.h h),some (.d (.int ((p:Nat):Int))),some (.d (.int (tops p*bots l0))),o6] (st++u)):=
    aE (ai (ai rfl rfl (gT _ hp0)) (ai rfl (i0 _ _) (gT _ hl0)) (ef _ (Sm.mulOk (ht p hp0) (hb l0 hl0))))
   have s6:aN (.nm 6) (iOp cv (iOp dIx (iV 1) (iOp dIx (iV 3) (iC (.int 0)))) (iOp dIx (iV 2) (iV 4))) [x0,some (.d (.lst (mpI m tops))),some (.d (.lst (mpI m bots))),some (.h h),some (.d (.int ((p:Nat):Int))),some (.d (.int (tops p*bots l0))),o6] (st++u)=some (.nx [x0,some (.d (.lst (mpI m tops))),some (.d (.lst (mpI m bots))),some (.h h),some (.d (.int ((p:Nat):Int))),some (.d (.int (tops p*bots l0))),some (.d (.int (tops l0*bots p)))] (st++u)):=
    aE (ai (ai rfl (i0 _ _) (gT _ hl0)) (ai rfl rfl (gT _ hp0)) (ef _ (Sm.mulOk (ht l0 hl0) (hb p hp0))))
   generalize hM:tops p*bots l0=M at *
   generalize hB:tops l0*bots p=B at *
   have tg:bh dGt (iV 5) (iV 6) [x0,some (.d (.lst (mpI m tops))),some (.d (.lst (mpI m bots))),some (.h h),some (.d (.int ((p:Nat):Int))),some (.d (.int M)),some (.d (.int B))] (st++u)=some (decide (M > B),st++u):=aV rfl rfl (sX _ _ _)
   have tl:bh dLt (iV 5) (iV 6) [x0,some (.d (.lst (mpI m tops))),some (.d (.lst (mpI m bots))),some (.h h),some (.d (.int ((p:Nat):Int))),some (.d (.int M)),some (.d (.int B))] (st++u)=some (decide (M<B),st++u):=aV rfl rfl (oM _ _ _)
   by_cases c1:M > B
   ·rw[decide_eq_true c1]at tg
    obtain⟨u',h',o4',o5',o6',i1,i2,i3⟩:=lh ht hb ps (l0::r) u h (some (.d (.int ((p:Nat):Int)))) (some (.d (.int M))) (some (.d (.int B))) hps hl hg hh (by lia)
    refine⟨u',h',o4',o5',o6',?_,by rw[leastR,hM,hB,if_pos c1];exact i2,i3⟩
    have hb':bA [x0,some (.d (.lst (mpI m tops))),some (.d (.lst (mpI m bots))),some (.h h),some (.d (.int ((p:Nat):Int))),o5,o6] (st++u)=some (.ct [x0,some (.d (.lst (mpI m tops))),some (.d (.lst (mpI m bots))),some (.h h),some (.d (.int ((p:Nat):Int))),some (.d (.int M)),some (.d (.int B))] (st++u)):=by
     have inner:ca (bM bN (iV 3)) (ar (aN (.nm 5) (iOp cv (iOp dIx (iV 1) (iV 4)) (iOp dIx (iV 2) (iOp dIx (iV 3) (iC (.int 0)))))) (ar (aN (.nm 6) (iOp cv (iOp dIx (iV 1) (iOp dIx (iV 3) (iC (.int 0)))) (iOp dIx (iV 2) (iV 4)))) (ar (ca (bh dGt (iV 5) (iV 6)) oY bm) (ca (bh dLt (iV 5) (iV 6)) (aN (.nm 3) (fF (cf ae))) bm)))) bm [x0,some (.d (.lst (mpI m tops))),some (.d (.lst (mpI m bots))),some (.h h),some (.d (.int ((p:Nat):Int))),o5,o6] (st++u)=some (.ct [x0,some (.d (.lst (mpI m tops))),some (.d (.lst (mpI m bots))),some (.h h),some (.d (.int ((p:Nat):Int))),some (.d (.int M)),some (.d (.int B))] (st++u)):=by
      refine cU t0 (au s5 (au s6 ?_))
      have:=cU (a:=oY) (b:=bm) tg rfl
      simp only[ar,this];rfl
     show ar _ _ _ _=_
     simp only[ar,inner];rfl
    show dY (.nm 4) bA (.int ((p:Nat):Int)::psD ps) _ _=_
    simp only[dY,hs,qab,hb']
    exact i1
   ·rw[decide_eq_false c1]at tg
    by_cases c2:M<B
    ·rw[decide_eq_true c2]at tl
     have hn:lg (st++(u++[.l []])) (st++u).length=some (psD []):=by rw[<-qbY];exact kG _ _
     have hlen:st.length<=(st++u).length:=by rw[qan];lia
     obtain⟨a1,a2⟩:=app (u++[.l []]) (st++u).length [] (some (.d (.int M))) (some (.d (.int B))) hn hlen (by decide)
     obtain⟨u',h',o4',o5',o6',i1,i2,i3⟩:=lh ht hb ps [p] _ (st++u).length (some (.d (.int ((p:Nat):Int)))) (some (.d (.int M))) (some (.d (.int B))) hps (λx hx=>by rw[qag.mp hx];exact hp0) a2 hlen (by simp at hz ⊢;lia)
     refine⟨u',h',o4',o5',o6',?_,by rw[leastR,hM,hB,if_neg c1,if_pos c2];exact i2,i3⟩
     have sn:aN (.nm 3) (fF (cf ae)) [x0,some (.d (.lst (mpI m tops))),some (.d (.lst (mpI m bots))),some (.h h),some (.d (.int ((p:Nat):Int))),some (.d (.int M)),some (.d (.int B))] (st++u)=some (.nx [x0,some (.d (.lst (mpI m tops))),some (.d (.lst (mpI m bots))),some (.h (st++u).length),some (.d (.int ((p:Nat):Int))),some (.d (.int M)),some (.d (.int B))] (st++(u++[.l []]))):=by rw[<-qbY];rfl
     have hb':bA [x0,some (.d (.lst (mpI m tops))),some (.d (.lst (mpI m bots))),some (.h h),some (.d (.int ((p:Nat):Int))),o5,o6] (st++u)=_:=au (cU t0 (au s5 (au s6 (au (cy tg rfl) (cU tl sn))))) a1
     show dY (.nm 4) bA (.int ((p:Nat):Int)::psD ps) _ _=_
     simp only[dY,hs,qab,hb']
     exact i1
    ·rw[decide_eq_false c2]at tl
     obtain⟨a1,a2⟩:=app u h (l0::r) (some (.d (.int M))) (some (.d (.int B))) hg hh (by rw[qas]at hz ⊢;lia)
     obtain⟨u',h',o4',o5',o6',i1,i2,i3⟩:=lh ht hb ps ((l0::r)++[p]) _ h (some (.d (.int ((p:Nat):Int)))) (some (.d (.int M))) (some (.d (.int B))) hps (λx hx=>by
      rcases qaM.mp hx with z|z
      ·exact hl x z
      ·rw[qag.mp z];exact hp0) a2 hh (by rw[qan,qbR];lia)
     refine⟨u',h',o4',o5',o6',?_,by rw[leastR,hM,hB,if_neg c1,if_neg c2];exact i2,i3⟩
     have hb':bA [x0,some (.d (.lst (mpI m tops))),some (.d (.lst (mpI m bots))),some (.h h),some (.d (.int ((p:Nat):Int))),o5,o6] (st++u)=_:=au (cU t0 (au s5 (au s6 (au (cy tg rfl) (cy tl rfl))))) a1
     show dY (.nm 4) bA (.int ((p:Nat):Int)::psD ps) _ _=_
     simp only[dY,hs,qab,hb']
     exact i1
theorem BZ (ht:∀ i,i<m->Sm (tops i)) (hb:∀ i,i<m->Sm (bots i)) {ps:List Nat} (hp:∀ x∈ps,x<m) (hz:ps.length<=1000):ir [.d (.lst (psD ps)),.d (.lst (mpI m tops)),.d (.lst (mpI m bots))] st=some (.d (.lst (psD (leastR tops bots ps []))),st):=by
 obtain⟨u',h',o4',o5',o6',i1,i2,i3⟩:=lh (st:=st) (x0:=some (.d (.lst (psD ps)))) ht hb ps [] [.l []] st.length none none none hp (λx hx=>nomatch hx) (kG st []) (qal _) (by simpa using hz)
 have hit:bj (iV 0) [some (.d (.lst (psD ps))),some (.d (.lst (mpI m tops))),some (.d (.lst (mpI m bots))),some (.h st.length),none,none,none] (st++[.l []])=some (psD ps,st++[.l []]):=rfl
 have:=mG (n:=7) (k:=3) (b:=fX) (ws:=[.d (.lst (psD ps)),.d (.lst (mpI m tops)),.d (.lst (mpI m bots))]) (st:=st) (h:=h') rfl (au (s:=st++[.l []]) (e:=[some (.d (.lst (psD ps))),some (.d (.lst (mpI m tops))),some (.d (.lst (mpI m bots))),some (.h st.length),none,none,none]) rfl (au (cQ hit i1) rfl)) i3 i2
 rw[qdP]at this
 exact this
end
end Own
set_option maxHeartbeats 1000000
namespace Own
open PySem L2
open Sx (Pb Tb Good Named Fe LV ZV piv lexP leastR leaveL sumN unit colV basis)
theorem u7 (s:Sto) (i:Int):kA s (.d (.int i)) (.d .non)=some (.bl false):=rfl
theorem qE (s:Sto):kA s (.d .non) (.d .non)=some (.bl true):=rfl
theorem yB (s:Sto) (l:List D):kA s (.d (.tup l)) (.d .non)=some (.bl false):=rfl
def cz (n:Nat):Nat->D
 |0=>.non
 |r+1=>.int (((n+r:Nat)):Int)
theorem vF (n m:Nat):D.non::dn (n:Int) m=(qah (m+1)).map (cz n):=by
 rw[qcb,qaB,qbi]
 show _=D.non::_
 unfold dn
 congr 1
theorem le (st:Sto) (ds:List D):bf st [.d (.lst ds)]=some (.int (ds.length:Nat)):=rfl
theorem nG {P:Pb}{S:Tb}{st:Sto} (h:Okt P S):gD [.d (obD P S)] st=some (.d (.lst ((qah (P.m+1)).map (cz P.n))),st):=by
 have hm:=h.m64
 have hn:=h.n64
 have v0:iV 0 [some (.d (obD P S))] st=some (.d (obD P S),st):=rfl
 have a1:=dM (P:=P) (S:=S) v0
 have a2:=fC (P:=P) (S:=S) v0
 refine az (n:=1) (k:=1) (b:=jQ) rfl (aY (ai (x:=.d (.lst [.non])) (y:=.d (.lst (dn (P.n:Int) P.m))) (s1:=st) rfl (aL ?_) ?_))
 ·show qK _ [some (.d (obD P S))] st=_
  have e:aa (aw "amounts" (iV 0)) (aa (iOp cg (aw "amounts" (iV 0)) (iCB bf (aa (aw "lines" (iV 0)) ae))) ae) [some (.d (obD P S))] st=some ([.d (.int (P.n:Int)),.d (.int ((P.n:Int)+(P.m:Int)))],st):=by
   refine ac a1 (ac (ai a1 (aC (ac a2 rfl) (le _ _)) ?_) rfl)
   rw[eN];rfl
  simp only[qK,e,qab]
  rw[if_pos (by lia),show ((P.n:Int)+(P.m:Int) - (P.n:Int)).toNat=P.m by lia]
 ·rw[<-vF]
  exact iz st (by rw[rq];simp;lia)
theorem A4 {n k:Nat}{f:Nat->Nat}:inD (.int (k:Int)) (mpI n (nI f))=decide (∃ c,c<n/\f c=k):=by
 rw[qbK]
 unfold inD mpI
 rw[qg3,qez,decide_eq_true_eq]
 constructor
 ·rintro⟨c,hc,e⟩
  refine⟨c,qaG.mp hc,?_⟩
  have e:(((f c:Nat):Int)==(k:Int))=true:=e
  have:=beq_iff_eq.mp e
  lia
 ·rintro⟨c,hc,e⟩
  refine⟨c,qaG.mpr hc,?_⟩
  show (((f c:Nat):Int)==(k:Int))=true
  rw[e];exact beq_self_eq_true _
theorem A8 {n k:Nat}{f:Nat->Nat} (h:∃ c,c<n/\f c=k):∃ c,c<n/\f c=k/\((qah n).map (nI f)).idxOf? (k:Int)=some c:=by
 obtain⟨c,hc,e⟩:=h
 cases q:((qah n).map (nI f)).idxOf? (k:Int) with
 |none=>
  have:=List.idxOf?_eq_none_iff.mp q
  exact absurd (qa7.mpr ⟨c,qaG.mpr hc,by unfold nI;rw[e]⟩) this
 |some j=>
  obtain⟨h1,h2,_⟩:=qfb.mp q
  rw[qam,qap]at h1
  refine⟨j,h1,?_,rfl⟩
  rw[qgn,qfX]at h2
  have h2:((f j:Nat):Int)=(k:Int):=h2
  lia
theorem jr {P:Pb}{S:Tb} (h:Good P S) {i j:Nat} (hi:i<P.m) (hj:j<P.m) (e:S.kept i=S.kept j):i=j:=by
 rcases Nat.decEq i j with hne|he
 ·exfalso
  have h0:=Sx.det_eq0 (basis P S) hi hj hne (by unfold basis;rw[e])
  have:=h.pos
  rw[h.dt,h0]at this
  exact absurd this (by decide)
 ·exact he
theorem zj {P:Pb}{S:Tb}{st:Sto} (h:Okt P S) {s:Nat} (hs:s<=P.m):fA [.d (obD P S),.d (cz P.n s)] st=some (.d (.lst (mpI P.m λi=>LV P S i s)),st):=by
 have hg:=h.good
 have hm:=h.m64
 have hn:=h.n64
 cases s with
 |zero=>
  have e:mpI P.m (λi=>LV P S i 0)=mpI P.m λi=>S.T i P.n:=cu λi hi=>by
   have e:=hg.entry (c:=P.n) (qal _) hi
   have c1:colV P S P.n=P.b:=by unfold Sx.colV;rw[if_neg (qaX _)]
   rw[c1]at e
   unfold LV Sx.XV
   rw[if_pos rfl,<-e]
  rw[e]
  have a2:=fC (P:=P) (S:=S) (env:=[some (.d (obD P S)),some (.d .non),none]) (st:=st) (a:=iV 0) rfl
  refine az (n:=3) (k:=2) (b:=fD) rfl (cX (cU (s:=st) (aV (x:=.d .non) rfl rfl (qE st)) (aY (aL (cm (cD a2) (by rw[eN];lia) ?_)))))
  exact lc (g:=lnD P.n S.T) (λi=>D.int (S.T i P.n)) λi _=>ai rfl rfl (u5 st)
 |succ r=>
  have hr:r<P.m:=by lia
  have v0:∀ o,iV 0 [some (.d (obD P S)),some (.d (.int ((P.n+r:Nat):Int))),o] st=some (.d (obD P S),st):=λ_=>rfl
  have af:=mJ (P:=P) (S:=S) (v0 none)
  have hXV:Sx.XV P (r+1)=unit r:=by unfold Sx.XV;rw[if_neg (by lia),qcc]
  have tI:bh dIn (iV 1) (aw "free" (iV 0)) [some (.d (obD P S)),some (.d (.int ((P.n+r:Nat):Int))),none] st=some (decide (∃ c,c<P.n/\S.free c=P.n+r),st):=by
   refine aV rfl af ?_
   simp only[dIn,iT,eW,rd,qab,and_self,if_true,A4]
  have t0:bh kA (iV 1) (iC .non) [some (.d (obD P S)),some (.d (.int ((P.n+r:Nat):Int))),none] st=some (false,st):=aV rfl rfl (u7 st _)
  refine az (n:=3) (k:=2) (b:=fD) rfl (au (cy t0 rfl) ?_)
  by_cases hf:∃ c,c<P.n/\S.free c=P.n+r
  ·rw[decide_eq_true hf]at tI
   obtain⟨c,hc,ec,hidx⟩:=A8 hf
   have e:mpI P.m (λi=>LV P S i (r+1))=mpI P.m λi=>S.T i c:=cu λi hi=>by
    have e:=hg.entry (c:=c) (by lia) hi
    have c1:colV P S c=unit r:=by unfold Sx.colV;rw[if_pos hc,ec,h.named.one r hr]
    rw[c1]at e
    unfold LV
    rw[hXV,<-e]
   rw[e]
   have sx:aN (.nm 2) (wP (aw "free" (iV 0)) (aa (iV 1) ae)) [some (.d (obD P S)),some (.d (.int ((P.n+r:Nat):Int))),none] st=some (.nx [some (.d (obD P S)),some (.d (.int ((P.n+r:Nat):Int))),some (.d (.int (c:Int)))] st):=by
    refine aE ?_
    have ei:jo (mpI P.n (nI S.free))=some ((qah P.n).map (nI S.free)):=by rw[cL];exact kq _
    simp only[wP,af,qab,show aa (iV 1) ae [some (.d (obD P S)),some (.d (.int ((P.n+r:Nat):Int))),none] st=some ([.d (.int ((P.n+r:Nat):Int))],st) from rfl,ei]
    rw[if_pos (by rw[qam,qap];lia),hidx];rfl
   have a2:=fC (P:=P) (S:=S) (v0 (some (.d (.int (c:Int)))))
   refine cX (cU tI (au sx (aY (aL (cm (cD a2) (by rw[eN];lia) ?_)))))
   exact lc (g:=lnD P.n S.T) (λi=>D.int (S.T i c)) λi _=>ai rfl rfl (sD st (by lia))
  ·rw[decide_eq_false hf]at tI
   obtain⟨j,hj,ej⟩:∃ j,j<P.m/\S.kept j=P.n+r:=(h.named.all (P.n+r) (by lia)).elim (λz=>absurd z hf) id
   have e:mpI P.m (λi=>LV P S i (r+1))=mpI P.m λi=>if S.kept i=P.n+r then S.p else 0:=cu λi hi=>by
    have e:=Sx.det_kept hg hi hj
    have c1:basis P S j=unit r:=by unfold Sx.basis;rw[ej,h.named.one r hr]
    rw[c1]at e
    unfold LV
    rw[hXV,e]
    by_cases hij:i=j
    ·rw[if_pos hij,if_pos (by rw[hij];exact ej)]
    ·rw[if_neg hij,if_neg λz=>hij (jr hg hi hj (z.trans ej.symm))]
   rw[e]
   have a2:=pK (P:=P) (S:=S) (v0 none)
   refine au (cy tI rfl) (aY (aL (cm (cD a2) (by rw[bF];lia) ?_)))
   refine lc (g:=λi=>D.int (nI S.kept i)) (λi=>D.int (if S.kept i=P.n+r then S.p else 0)) λi _=>?_
   have ap:=mD (P:=P) (S:=S) (env:=[some (.d (.int (nI S.kept i))),some (.d (.int ((P.n+r:Nat):Int))),some (.d (obD P S))]) (st:=st) (a:=iV 2) rfl
   have te:bh dEq (iV 0) (iV 1) [some (.d (.int (nI S.kept i))),some (.d (.int ((P.n+r:Nat):Int))),some (.d (obD P S))] st=some (decide (S.kept i=P.n+r),st):=by
    refine aV rfl rfl ?_
    rw[oS]
    congr 2
    rw[qbK,beq_iff_eq,decide_eq_true_eq]
    unfold nI;lia
   by_cases hk:S.kept i=P.n+r
   ·rw[decide_eq_true hk]at te
    rw[if_pos hk]
    exact wI te ap
   ·rw[decide_eq_false hk]at te
    rw[if_neg hk]
    exact As te rfl
theorem pv (m:Nat) (f:Nat->Int):jx 0 (mpI m f)=(qah m).map λi=>D.tup [.int ((i:Nat):Int),.int (f i)]:=by
 apply qcm
 intro i
 rw[lL,qaS]
 by_cases hi:i<m
 ·rw[dR hi,qbH hi,qbN];rfl
 ·rw[qbb (by rw[bF];lia),qbb (by rw[qap];lia)];rfl
theorem sK {tt:Tf}{te:Ef}{l:Ev}{st:Sto}{g:Nat->D×D} (p:Nat->Bool) (F:Nat->D):∀ {ks:List Nat},(∀ k∈ks,tt (some (.d (g k).1)::some (.d (g k).2)::l) st=some (p k,st)/\(p k=true->te (some (.d (g k).1)::some (.d (g k).2)::l) st=some (.d (F k),st)))->
  lcI (.tp [0,1]) tt te (none::none::l) (ks.map λk=>D.tup [(g k).1,(g k).2]) st=some ((ks.filter p).map F,st)
 |[],_=>rfl
 |k::ks,h=>by
  have ih:=sK (tt:=tt) (te:=te) (l:=l) (st:=st) (g:=g) p F (ks:=ks) λx hx=>h x (qaj _ hx)
  obtain⟨h1,h2⟩:=h k qaf
  rw[qaB]
  unfold lcI
  rw[show e9 (.tp [0,1]) (.d (.tup [(g k).1,(g k).2])) (none::none::l)=some (some (.d (g k).1)::some (.d (g k).2)::l) from rfl,qab,h1,qab]
  cases hp:p k with
  |true=>rw[if_pos rfl,h2 hp,qab,ih,qds hp];rfl
  |false=>rw[if_neg (show ¬ (false=true) by decide),ih,qdt (by rw[hp];decide)]
def jb (P:Pb) (S:Tb) (c:Nat):List Nat:=(qah P.m).filter λi=>decide (S.T i c > 0)
def iW (P:Pb) (S:Tb) (c:Nat):List Nat:=leaveL (λs i=>LV P S i s) (λi=>S.T i c) (qah (P.m+1)) (jb P S c)
theorem gM {tops bots:Nat->Int}{m:Nat}:∀ {ps least:List Nat},(∀ x∈ps,x<m)->(∀ x∈least,x<m)->(∀ x∈leastR tops bots ps least,x<m)/\(leastR tops bots ps least).length<=ps.length+least.length
 |[],least,_,h=>by rw[leastR];exact⟨h,by simp⟩
 |p::ps,[],hp,_=>by
  rw[leastR]
  have:=gM (tops:=tops) (bots:=bots) (ps:=ps) (least:=[p]) (λx hx=>hp x (qaj _ hx)) λx hx=>by rw[qag.mp hx];exact hp p qaf
  exact⟨this.1,by have:=this.2;simp at this ⊢;lia⟩
 |p::ps,l0::r,hp,hl=>by
  have hps:∀ x∈ps,x<m:=λx hx=>hp x (qaj _ hx)
  have hp0:=hp p qaf
  rw[leastR]
  split
  ·have:=gM (tops:=tops) (bots:=bots) hps hl
   exact⟨this.1,by have:=this.2;simp at this ⊢;lia⟩
  ·split
   ·have:=gM (tops:=tops) (bots:=bots) (ps:=ps) (least:=[p]) hps λx hx=>by rw[qag.mp hx];exact hp0
    exact⟨this.1,by have:=this.2;simp at this ⊢;lia⟩
   ·have:=gM (tops:=tops) (bots:=bots) (ps:=ps) (least:=(l0::r)++[p]) hps λx hx=>by
     rcases qaM.mp hx with z|z
     ·exact hl x z
     ·rw[qag.mp z];exact hp0
    exact⟨this.1,by have:=this.2;simp at this ⊢;lia⟩
section
variable {P:Pb}{S:Tb}{st:Sto}{c:Nat}
theorem uE (h:Okt P S) (hc:c<=P.n):∀ (ss ps:List Nat) (o4:Option W),(∀ s∈ss,s<=P.m)->(∀ x∈ps,x<P.m)->ps.length<=1000->
  ∃ o4',dY (.nm 4) gZ (ss.map (cz P.n)) [some (.d (obD P S)),some (.d (.int (c:Int))),some (.d (.lst (mpI P.m λi=>S.T i c))),some (.d (.lst (psD ps))),o4] st=some (.nx [some (.d (obD P S)),some (.d (.int (c:Int))),some (.d (.lst (mpI P.m λi=>S.T i c))),some (.d (.lst (psD (leaveL (λs i=>LV P S i s) (λi=>S.T i c) ss ps)))),o4'] st)
 |[],ps,o4,_,_,_=>⟨o4,rfl⟩
 |s::ss,ps,o4,hs,hp,hz=>by
  have hset:e9 (.nm 4) (.d (cz P.n s)) [some (.d (obD P S)),some (.d (.int (c:Int))),some (.d (.lst (mpI P.m λi=>S.T i c))),some (.d (.lst (psD ps))),o4]=some [some (.d (obD P S)),some (.d (.int (c:Int))),some (.d (.lst (mpI P.m λi=>S.T i c))),some (.d (.lst (psD ps))),some (.d (cz P.n s))]:=rfl
  have t0:bh dLt (iCB bf (aa (iV 3) ae)) (iC (.int 2)) [some (.d (obD P S)),some (.d (.int (c:Int))),some (.d (.lst (mpI P.m λi=>S.T i c))),some (.d (.lst (psD ps))),some (.d (cz P.n s))] st=some (decide (ps.length<2),st):=by
   refine aV (aC (ws:=[.d (.lst (psD ps))]) rfl (le _ _)) rfl ?_
   rw[u1,oM]
   congr 2
   rw[qbK,decide_eq_true_eq,decide_eq_true_eq]
   lia
  rw[qaB,leaveL]
  by_cases h2:ps.length<2
  ·rw[decide_eq_true h2]at t0
   rw[if_pos h2]
   refine⟨some (.d (cz P.n s)),?_⟩
   have hb:gZ [some (.d (obD P S)),some (.d (.int (c:Int))),some (.d (.lst (mpI P.m λi=>S.T i c))),some (.d (.lst (psD ps))),some (.d (cz P.n s))] st=some (.bk [some (.d (obD P S)),some (.d (.int (c:Int))),some (.d (.lst (mpI P.m λi=>S.T i c))),some (.d (.lst (psD ps))),some (.d (cz P.n s))] st):=by
    have:=cU (a:=sS) (b:=bm) t0 rfl
    show ar _ _ _ _=_
    simp only[ar,this];rfl
   simp only[dY,hset,qab,hb]
  ·rw[decide_eq_false h2]at t0
   rw[if_neg h2]
   have e1:=zj (st:=st) h (hs s qaf)
   have e2:=BZ (st:=st) (tops:=λi=>LV P S i s) (bots:=λi=>S.T i c) (m:=P.m) (λi hi=>h.sL i s hi (hs s qaf)) (λi hi=>h.sT i c hi hc) hp hz
   have hmem:=gM (tops:=λi=>LV P S i s) (bots:=λi=>S.T i c) (m:=P.m) (ps:=ps) (least:=[]) hp (λx hx=>nomatch hx)
   obtain⟨o4',ih⟩:=uE h hc ss (leastR (λi=>LV P S i s) (λi=>S.T i c) ps []) (some (.d (cz P.n s))) (λx hx=>hs x (qaj _ hx)) hmem.1 (by have:=hmem.2;simp at this;lia)
   refine⟨o4',?_⟩
   have hb:gZ [some (.d (obD P S)),some (.d (.int (c:Int))),some (.d (.lst (mpI P.m λi=>S.T i c))),some (.d (.lst (psD ps))),some (.d (cz P.n s))] st=some (.nx [some (.d (obD P S)),some (.d (.int (c:Int))),some (.d (.lst (mpI P.m λi=>S.T i c))),some (.d (.lst (psD (leastR (λi=>LV P S i s) (λi=>S.T i c) ps [])))),some (.d (cz P.n s))] st):=
    au (cy t0 rfl) (aE (aq (ac rfl (ac (aq (ws:=[.d (obD P S),.d (cz P.n s)]) rfl e1) (ac rfl rfl))) e2))
   simp only[dY,hset,qab,hb]
   exact ih
def tO (l:List Nat):D:=match l with
 |[]=>.non
 |r::_=>.int ((r:Nat):Int)
theorem sZ (h:Okt P S) (hc:c<=P.n):jR [.d (obD P S),.d (.int (c:Int))] st=some (.d (tO (iW P S c)),st):=by
 have hm:=h.m64
 have a1:=fC (P:=P) (S:=S) (env:=[some (.d (obD P S)),some (.d (.int (c:Int))),none,none,none]) (st:=st) (a:=iV 0) rfl
 have s2:aN (.nm 2) (aA (iLc 1 [1] (bj (aw "lines" (iV 0))) (.nm 0) bn mh)) [some (.d (obD P S)),some (.d (.int (c:Int))),none,none,none] st=some (.nx [some (.d (obD P S)),some (.d (.int (c:Int))),some (.d (.lst (mpI P.m λi=>S.T i c))),none,none] st):=
  aE (aL (cm (cD a1) (by rw[eN];lia) (lc (g:=lnD P.n S.T) (λi=>D.int (S.T i c)) λi _=>ai rfl rfl (sD st hc))))
 have hen:gu (aa (iV 2) ae) [some (.d (obD P S)),some (.d (.int (c:Int))),some (.d (.lst (mpI P.m λi=>S.T i c))),none,none] st=some ((qah P.m).map λi=>D.tup [.int ((i:Nat):Int),.int (S.T i c)],st):=by
  rw[<-pv];rfl
 have s3:aN (.nm 3) (aA (iLc 2 [] (gu (aa (iV 2) ae)) (.tp [0,1]) lV lS)) [some (.d (obD P S)),some (.d (.int (c:Int))),some (.d (.lst (mpI P.m λi=>S.T i c))),none,none] st=some (.nx [some (.d (obD P S)),some (.d (.int (c:Int))),some (.d (.lst (mpI P.m λi=>S.T i c))),some (.d (.lst (psD (jb P S c)))),none] st):=
  aE (aL (cm hen (by rw[qam,qap];lia) (sK (g:=λi=>(D.int ((i:Nat):Int),.int (S.T i c))) (λi=>decide (S.T i c > 0)) (λi=>D.int ((i:Nat):Int)) λi _=>⟨aV rfl rfl (sX _ _ _),λ_=>rfl⟩)))
 have hcm:∀ x∈jb P S c,x<P.m:=λx hx=>qaG.mp (qcF.mp hx).1
 have hcl:(jb P S c).length<=1000:=by
  have:(jb P S c).length<=(qah P.m).length:=List.length_filter_le ..
  rw[qap]at this
  lia
 obtain⟨o4,hl⟩:=uE (st:=st) h hc (qah (P.m+1)) (jb P S c) none (λs hs=>by have:=qaG.mp hs;lia) hcm hcl
 have hw:=nG (st:=st) h
 have hit:bj (av gD (aa (iV 0) ae)) [some (.d (obD P S)),some (.d (.int (c:Int))),some (.d (.lst (mpI P.m λi=>S.T i c))),some (.d (.lst (psD (jb P S c)))),none] st=some ((qah (P.m+1)).map (cz P.n),st):=cD (aq (ws:=[.d (obD P S)]) rfl hw)
 refine az (n:=5) (k:=2) (b:=jP) rfl (au s2 (au s3 (au (cQ hit hl) (aY ?_))))
 show my (bM bN (iV 3)) (iOp dIx (iV 3) (iC (.int 0))) (iC .non) [some (.d (obD P S)),some (.d (.int (c:Int))),some (.d (.lst (mpI P.m λi=>S.T i c))),some (.d (.lst (psD (iW P S c)))),o4] st=_
 cases iW P S c with
 |nil=>rfl
 |cons r l=>exact wI (s:=st) rfl (ai rfl rfl (show atI (.int ((r:Nat):Int)::psD l) 0=_ from xL _ _))
theorem uf (hz:∀ i,i<P.m->S.T i c<=0):iW P S c=[]:=by
 have:jb P S c=[]:=by
  unfold jb
  rw[List.filter_eq_nil_iff]
  intro i hi
  have:=hz i (qaG.mp hi)
  simp;lia
 unfold iW
 rw[this,qcb,leaveL,if_pos (by decide)]
theorem uo (h:Okt P S) (hA:∀ i,i<P.m->∀ t,P.m<=t->P.A (S.kept i) t=0) (hz:¬ ∀ i,i<P.m->S.T i c<=0) :
  ∃ r,iW P S c=[r]/\r<P.m/\0<S.T r c/\∀ i,i<P.m->i≠r->0<S.T i c->lexP (P.m+1) λs=>S.T r c*LV P S i s - S.T i c*LV P S r s:=by
 have hC:∀ i,i∈jb P S c↔i<P.m/\0<S.T i c:=λi=>by
  unfold jb
  rw[qcF,qaG,decide_eq_true_eq]
 have hne:jb P S c≠[]:=λe=>hz λi hi=>by
  have:¬ (i<P.m/\0<S.T i c):=λz=>by
   have:=(hC i).mpr z
   rw[e]at this
   exact absurd this qa5
  lia
 obtain⟨r,h1,h2⟩:=Sx.leaving_ok h.good hA hC (qg5 List.filter_sublist List.nodup_range) hne
 refine⟨r,?_,h2⟩
 rw[<-h1]
 unfold iW
 congr 1
 rw[show (λj=>0+j)=id by funext j;simp,List.map_id]
end
end Own
set_option maxHeartbeats 1000000
namespace Own
open PySem L2
open Sx (Pb Tb Good Named Fe LV ZV piv lexP leastR leaveL sumN unit colV basis)
theorem kL (s:Sto) (a b:D):dIx s (.d (.tup [a,b])) (.d (.int 0))=some a:=rfl
theorem lC (s:Sto) (a b:D):dIx s (.d (.tup [a,b])) (.d (.int 1))=some b:=rfl
theorem vB {a:Af}{env:Ev}{st s:Sto}{ws:List W}{ds:List D} (ha:a env st=some (ws,s)) (h:mY ws=some ds) (hl:ds.length<=1000):bE a env st=some (.d (.tup ds),s):=by
 simp only[bE,ha,qab,h,hl,if_true]
section
variable {P:Pb}{S:Tb}{st:Sto}
theorem zq (s:Sto) (a:Int):dNe s (.d (.int a)) (.d (.int 0))=some (.bl (!(a==0))):=rfl
theorem Sm.two {a b:Int} (ha:Sm a) (hb:Sm b):(a*b).natAbs<2^3600:=zD (x:=1800) (y:=1800) ha hb
theorem u8 (h:Okt P S) {c1 r1 c2 r2:Nat}{M B:Int} (hr1:r1<P.m) (hr2:r2<P.m) (hM:M.natAbs<2^3600) (hB:B.natAbs<2^3600):∀ (ss:List Nat) (o5 o6 o7:Option W),(∀ s∈ss,s<=P.m)->
  (∃ b,dY (.nm 5) dO (ss.map (cz P.n)) [some (.d (obD P S)),some (.d (.tup [.int (c1:Int),.int (r1:Int)])),some (.d (.tup [.int (c2:Int),.int (r2:Int)])),some (.d (.int M)),some (.d (.int B)),o5,o6,o7] st=some (.rt (.d (.bl b)) st))\/
  ∃ e,dY (.nm 5) dO (ss.map (cz P.n)) [some (.d (obD P S)),some (.d (.tup [.int (c1:Int),.int (r1:Int)])),some (.d (.tup [.int (c2:Int),.int (r2:Int)])),some (.d (.int M)),some (.d (.int B)),o5,o6,o7] st=some (.nx e st)
 |[],o5,o6,o7,_=>.inr ⟨_,rfl⟩
 |s::ss,o5,o6,o7,hs=>by
  have hsm:=hs s qaf
  have e1:=zj (st:=st) h hsm
  have hset:e9 (.nm 5) (.d (cz P.n s)) [some (.d (obD P S)),some (.d (.tup [.int (c1:Int),.int (r1:Int)])),some (.d (.tup [.int (c2:Int),.int (r2:Int)])),some (.d (.int M)),some (.d (.int B)),o5,o6,o7]=some [some (.d (obD P S)),some (.d (.tup [.int (c1:Int),.int (r1:Int)])),some (.d (.tup [.int (c2:Int),.int (r2:Int)])),some (.d (.int M)),some (.d (.int B)),some (.d (cz P.n s)),o6,o7]:=rfl
  have s6:aN (.nm 6) (av fA (aa (iV 0) (aa (iV 5) ae))) [some (.d (obD P S)),some (.d (.tup [.int (c1:Int),.int (r1:Int)])),some (.d (.tup [.int (c2:Int),.int (r2:Int)])),some (.d (.int M)),some (.d (.int B)),some (.d (cz P.n s)),o6,o7] st=some (.nx [some (.d (obD P S)),some (.d (.tup [.int (c1:Int),.int (r1:Int)])),some (.d (.tup [.int (c2:Int),.int (r2:Int)])),some (.d (.int M)),some (.d (.int B)),some (.d (cz P.n s)),some (.d (.lst (mpI P.m λi=>LV P S i s))),o7] st):=aE (aq (ws:=[.d (obD P S),.d (cz P.n s)]) rfl e1)
  have m1:qbr B (LV P S r2 s):=mulOk 3600 1800 hB (h.sL r2 s hr2 hsm) (by decide)
  have m2:qbr M (LV P S r1 s):=mulOk 3600 1800 hM (h.sL r1 s hr1 hsm) (by decide)
  have s7:aN (.nm 7) (iOp oi (iOp cv (iV 4) (iOp dIx (iV 6) (iOp dIx (iV 2) (iC (.int 1))))) (iOp cv (iV 3) (iOp dIx (iV 6) (iOp dIx (iV 1) (iC (.int 1)))))) [some (.d (obD P S)),some (.d (.tup [.int (c1:Int),.int (r1:Int)])),some (.d (.tup [.int (c2:Int),.int (r2:Int)])),some (.d (.int M)),some (.d (.int B)),some (.d (cz P.n s)),some (.d (.lst (mpI P.m λi=>LV P S i s))),o7] st=some (.nx [some (.d (obD P S)),some (.d (.tup [.int (c1:Int),.int (r1:Int)])),some (.d (.tup [.int (c2:Int),.int (r2:Int)])),some (.d (.int M)),some (.d (.int B)),some (.d (cz P.n s)),some (.d (.lst (mpI P.m λi=>LV P S i s))),some (.d (.int (B*LV P S r2 s - M*LV P S r1 s)))] st):=
   aE (ai (ai rfl (ai rfl (ai rfl rfl (lC st _ _)) (gT st hr2)) (ef st m1)) (ai rfl (ai rfl (ai rfl rfl (lC st _ _)) (gT st hr1)) (ef st m2)) rfl)
  generalize B*LV P S r2 s - M*LV P S r1 s=Z at s7
  have tz:bh dNe (iV 7) (iC (.int 0)) [some (.d (obD P S)),some (.d (.tup [.int (c1:Int),.int (r1:Int)])),some (.d (.tup [.int (c2:Int),.int (r2:Int)])),some (.d (.int M)),some (.d (.int B)),some (.d (cz P.n s)),some (.d (.lst (mpI P.m λi=>LV P S i s))),some (.d (.int Z))] st=some (!(Z==0),st):=aV rfl rfl (zq st Z)
  rw[qaB]
  cases hz:(Z==0) with
  |false=>
   rw[hz]at tz
   left
   refine⟨decide (Z > 0),?_⟩
   have hb:dO [some (.d (obD P S)),some (.d (.tup [.int (c1:Int),.int (r1:Int)])),some (.d (.tup [.int (c2:Int),.int (r2:Int)])),some (.d (.int M)),some (.d (.int B)),some (.d (cz P.n s)),o6,o7] st=some (.rt (.d (.bl (decide (Z > 0)))) st):=au s6 (au s7 (cU tz (aY (ai rfl rfl (sX st _ _)))))
   simp only[dY,hset,qab,hb]
  |true=>
   rw[hz]at tz
   have hb:dO [some (.d (obD P S)),some (.d (.tup [.int (c1:Int),.int (r1:Int)])),some (.d (.tup [.int (c2:Int),.int (r2:Int)])),some (.d (.int M)),some (.d (.int B)),some (.d (cz P.n s)),o6,o7] st=some (.nx [some (.d (obD P S)),some (.d (.tup [.int (c1:Int),.int (r1:Int)])),some (.d (.tup [.int (c2:Int),.int (r2:Int)])),some (.d (.int M)),some (.d (.int B)),some (.d (cz P.n s)),some (.d (.lst (mpI P.m λi=>LV P S i s))),some (.d (.int Z))] st):=au s6 (au s7 (cy tz rfl))
   have ih:=u8 h (c1:=c1) (c2:=c2) hr1 hr2 hM hB ss (some (.d (cz P.n s))) (some (.d (.lst (mpI P.m λi=>LV P S i s)))) (some (.d (.int Z))) λx hx=>hs x (qaj _ hx)
   simp only[dY,hset,qab,hb]
   exact ih
theorem B4 (h:Okt P S) {c1 r1 c2 r2:Nat} (hc1:c1<P.n) (hr1:r1<P.m) (hc2:c2<P.n) (hr2:r2<P.m):∃ b,dU [.d (obD P S),.d (.tup [.int (c1:Int),.int (r1:Int)]),.d (.tup [.int (c2:Int),.int (r2:Int)])] st=some (.d (.bl b),st):=by
 have v0:∀ o3 o4 o5 o6 o7,iV 0 [some (.d (obD P S)),some (.d (.tup [.int (c1:Int),.int (r1:Int)])),some (.d (.tup [.int (c2:Int),.int (r2:Int)])),o3,o4,o5,o6,o7] st=some (.d (obD P S),st):=λ_ _ _ _ _=>rfl
 have s3:aN (.nm 3) (iOp cv (iOp dIx (aw "goal" (iV 0)) (iOp dIx (iV 1) (iC (.int 0)))) (iOp dIx (iOp dIx (aw "lines" (iV 0)) (iOp dIx (iV 2) (iC (.int 1)))) (iOp dIx (iV 2) (iC (.int 0))))) [some (.d (obD P S)),some (.d (.tup [.int (c1:Int),.int (r1:Int)])),some (.d (.tup [.int (c2:Int),.int (r2:Int)])),none,none,none,none,none] st=some (.nx [some (.d (obD P S)),some (.d (.tup [.int (c1:Int),.int (r1:Int)])),some (.d (.tup [.int (c2:Int),.int (r2:Int)])),some (.d (.int (S.G c1*S.T r2 c2))),none,none,none,none] st):=
  aE (ai (ai (mI (v0 _ _ _ _ _)) (ai rfl rfl (kL st _ _)) (gT st (by lia))) (ai (ai (fC (v0 _ _ _ _ _)) (ai rfl rfl (lC st _ _)) (rM st hr2)) (ai rfl rfl (kL st _ _)) (sD st (by lia))) (ef st (Sm.mulOk (h.sG c1 (by lia)) (h.sT r2 c2 hr2 (by lia)))))
 have s4:aN (.nm 4) (iOp cv (iOp dIx (aw "goal" (iV 0)) (iOp dIx (iV 2) (iC (.int 0)))) (iOp dIx (iOp dIx (aw "lines" (iV 0)) (iOp dIx (iV 1) (iC (.int 1)))) (iOp dIx (iV 1) (iC (.int 0))))) [some (.d (obD P S)),some (.d (.tup [.int (c1:Int),.int (r1:Int)])),some (.d (.tup [.int (c2:Int),.int (r2:Int)])),some (.d (.int (S.G c1*S.T r2 c2))),none,none,none,none] st=some (.nx [some (.d (obD P S)),some (.d (.tup [.int (c1:Int),.int (r1:Int)])),some (.d (.tup [.int (c2:Int),.int (r2:Int)])),some (.d (.int (S.G c1*S.T r2 c2))),some (.d (.int (S.G c2*S.T r1 c1))),none,none,none] st):=
  aE (ai (ai (mI (v0 _ _ _ _ _)) (ai rfl rfl (kL st _ _)) (gT st (by lia))) (ai (ai (fC (v0 _ _ _ _ _)) (ai rfl rfl (lC st _ _)) (rM st hr1)) (ai rfl rfl (kL st _ _)) (sD st (by lia))) (ef st (Sm.mulOk (h.sG c2 (by lia)) (h.sT r1 c1 hr1 (by lia)))))
 have hit:bj (av gD (aa (iV 0) ae)) [some (.d (obD P S)),some (.d (.tup [.int (c1:Int),.int (r1:Int)])),some (.d (.tup [.int (c2:Int),.int (r2:Int)])),some (.d (.int (S.G c1*S.T r2 c2))),some (.d (.int (S.G c2*S.T r1 c1))),none,none,none] st=some ((qah (P.m+1)).map (cz P.n),st):=cD (aq (ws:=[.d (obD P S)]) rfl (nG h))
 rcases u8 (st:=st) h (c1:=c1) (c2:=c2) hr1 hr2 (Sm.two (h.sG c1 (by lia)) (h.sT r2 c2 hr2 (by lia))) (Sm.two (h.sG c2 (by lia)) (h.sT r1 c1 hr1 (by lia))) (qah (P.m+1)) none none none (λs hs=>by have:=qaG.mp hs;lia) with⟨b,e⟩|⟨e,he⟩
 ·exact⟨b,az (n:=8) (k:=3) (b:=fv) rfl (au s3 (au s4 (cX (cQ hit e))))⟩
 ·exact⟨false,az (n:=8) (k:=3) (b:=fv) rfl (au s3 (au s4 (au (cQ hit he) rfl)))⟩
def lF (P:Pb) (S:Tb) (x:D):Prop:=x=.non\/∃ c r,c<P.n/\S.G c<0/\iW P S c=[r]/\r<P.m/\0<S.T r c/\(∀ i,i<P.m->i≠r->0<S.T i c->lexP (P.m+1) λs=>S.T r c*LV P S i s - S.T i c*LV P S r s)/\x=.tup [.int (c:Int),.int (r:Int)]
theorem pS (h:Okt P S) (hA:∀ i,i<P.m->∀ t,P.m<=t->P.A (S.kept i) t=0):∀ (j k:Nat) (x:D) (o2 o3:Option W),k+j=P.n->lF P S x->(x=.non->∀ c,c<k->0<=S.G c)->
  (∃ c,c<P.n/\S.G c<0/\(∀ i,i<P.m->S.T i c<=0)/\dY (.nm 2) dw ((qdV k j).map λc=>D.int ((c:Nat):Int)) [some (.d (obD P S)),some (.d x),o2,o3] st=some (.rt (.d (.tup [.int (c:Int),.non])) st))\/
  ∃ y o2' o3',lF P S y/\(y=.non->∀ c,c<P.n->0<=S.G c)/\dY (.nm 2) dw ((qdV k j).map λc=>D.int ((c:Nat):Int)) [some (.d (obD P S)),some (.d x),o2,o3] st=some (.nx [some (.d (obD P S)),some (.d y),o2',o3'] st)
 |0,k,x,o2,o3,hk,hx,hxn=>.inr ⟨x,o2,o3,hx,by rw[<-hk,qhX];exact hxn,rfl⟩
 |j+1,k,x,o2,o3,hk,hx,hxn=>by
  have hkn:k<P.n:=by lia
  have hset:e9 (.nm 2) (.d (.int ((k:Nat):Int))) [some (.d (obD P S)),some (.d x),o2,o3]=some [some (.d (obD P S)),some (.d x),some (.d (.int ((k:Nat):Int))),o3]:=rfl
  have v0:∀ a b d,iV 0 [some (.d (obD P S)),a,b,d] st=some (.d (obD P S),st):=λ_ _ _=>rfl
  have tg:bh dGe (iOp dIx (aw "goal" (iV 0)) (iV 2)) (iC (.int 0)) [some (.d (obD P S)),some (.d x),some (.d (.int ((k:Nat):Int))),o3] st=some (decide (S.G k>=0),st):=aV (ai (mI (v0 _ _ _)) rfl (gT st (by lia))) rfl (wl st _ _)
  rw[qgl,qaB]
  by_cases hg:S.G k>=0
  ·rw[decide_eq_true hg]at tg
   have hb:dw [some (.d (obD P S)),some (.d x),some (.d (.int ((k:Nat):Int))),o3] st=some (.ct [some (.d (obD P S)),some (.d x),some (.d (.int ((k:Nat):Int))),o3] st):=by
    have:=cU (a:=oY) (b:=bm) tg rfl
    show ar _ _ _ _=_
    simp only[ar,this];rfl
   have ih:=pS h hA j (k+1) x (some (.d (.int ((k:Nat):Int)))) o3 (by lia) hx λe c hc=>by
    by_cases z:c=k
    ·rw[z];exact hg
    ·exact hxn e c (by lia)
   simp only[dY,hset,qab,hb]
   exact ih
  ·rw[decide_eq_false hg]at tg
   have hgl:S.G k<0:=by lia
   have el:=sZ (st:=st) (c:=k) h (by lia)
   have s3:aN (.nm 3) (bE (aa (iV 2) (aa (av jR (aa (iV 0) (aa (iV 2) ae))) ae))) [some (.d (obD P S)),some (.d x),some (.d (.int ((k:Nat):Int))),o3] st=some (.nx [some (.d (obD P S)),some (.d x),some (.d (.int ((k:Nat):Int))),some (.d (.tup [.int ((k:Nat):Int),tO (iW P S k)]))] st):=
    aE (vB (ac rfl (ac (aq (ws:=[.d (obD P S),.d (.int ((k:Nat):Int))]) rfl el) rfl)) rfl (by show 2<=1000;decide))
   by_cases hz:∀ i,i<P.m->S.T i k<=0
   ·rw[uf hz]at s3
    left
    refine⟨k,hkn,hgl,hz,?_⟩
    have tn:bh kA (iOp dIx (iV 3) (iC (.int 1))) (iC .non) [some (.d (obD P S)),some (.d x),some (.d (.int ((k:Nat):Int))),some (.d (.tup [.int ((k:Nat):Int),tO []]))] st=some (true,st):=aV (ai rfl rfl (lC st _ _)) rfl (qE st)
    have hb:dw [some (.d (obD P S)),some (.d x),some (.d (.int ((k:Nat):Int))),o3] st=some (.rt (.d (.tup [.int ((k:Nat):Int),.non])) st):=au (cy tg rfl) (au s3 (cX (cU tn rfl)))
    simp only[dY,hset,qab,hb]
   ·obtain⟨r,l1,l2,l3,l4⟩:=uo h hA hz
    rw[l1]at s3
    have tn:bh kA (iOp dIx (iV 3) (iC (.int 1))) (iC .non) [some (.d (obD P S)),some (.d x),some (.d (.int ((k:Nat):Int))),some (.d (.tup [.int ((k:Nat):Int),.int ((r:Nat):Int)]))] st=some (false,st):=aV (ai rfl rfl (lC st _ _)) rfl (u7 st _)
    have hnew:lF P S (.tup [.int ((k:Nat):Int),.int ((r:Nat):Int)]):=.inr ⟨k,r,hkn,hgl,l1,l2,l3,l4,rfl⟩
    have key:∃ y,lF P S y/\y≠.non/\dw [some (.d (obD P S)),some (.d x),some (.d (.int ((k:Nat):Int))),o3] st=some (.nx [some (.d (obD P S)),some (.d y),some (.d (.int ((k:Nat):Int))),some (.d (.tup [.int ((k:Nat):Int),.int ((r:Nat):Int)]))] st):=by
     rcases hx with rfl|⟨c,r',c1,c2,c3,c4,c5,c6,rfl⟩
     ·have t1:bh kA (iV 1) (iC .non) [some (.d (obD P S)),some (.d .non),some (.d (.int ((k:Nat):Int))),some (.d (.tup [.int ((k:Nat):Int),.int ((r:Nat):Int)]))] st=some (true,st):=aV rfl rfl (qE st)
      have t2:cG (bh kA (iV 1) (iC .non)) (bM bN (av dU (aa (iV 0) (aa (iV 3) (aa (iV 1) ae))))) [some (.d (obD P S)),some (.d .non),some (.d (.int ((k:Nat):Int))),some (.d (.tup [.int ((k:Nat):Int),.int ((r:Nat):Int)]))] st=some (true,st):=by simp only[cG,t1,qab,if_true]
      exact⟨_,hnew,by simp,au (cy tg rfl) (au s3 (au (cy tn rfl) (cU t2 rfl)))⟩
     ·obtain⟨b,eb⟩:=B4 (st:=st) h hkn l2 c1 c4
      have t1:bh kA (iV 1) (iC .non) [some (.d (obD P S)),some (.d (.tup [.int (c:Int),.int (r':Int)])),some (.d (.int ((k:Nat):Int))),some (.d (.tup [.int ((k:Nat):Int),.int ((r:Nat):Int)]))] st=some (false,st):=aV rfl rfl (yB st _)
      have t3:av dU (aa (iV 0) (aa (iV 3) (aa (iV 1) ae))) [some (.d (obD P S)),some (.d (.tup [.int (c:Int),.int (r':Int)])),some (.d (.int ((k:Nat):Int))),some (.d (.tup [.int ((k:Nat):Int),.int ((r:Nat):Int)]))] st=some (.d (.bl b),st):=aq (ws:=[.d (obD P S),.d (.tup [.int ((k:Nat):Int),.int ((r:Nat):Int)]),.d (.tup [.int (c:Int),.int (r':Int)])]) rfl eb
      have t2:cG (bh kA (iV 1) (iC .non)) (bM bN (av dU (aa (iV 0) (aa (iV 3) (aa (iV 1) ae))))) [some (.d (obD P S)),some (.d (.tup [.int (c:Int),.int (r':Int)])),some (.d (.int ((k:Nat):Int))),some (.d (.tup [.int ((k:Nat):Int),.int ((r:Nat):Int)]))] st=some (b,st):=by simp only[cG,t1,bM,t3,qab,qbw,if_false,bN,qaD]
      cases b with
      |true=>exact⟨_,hnew,by simp,au (cy tg rfl) (au s3 (au (cy tn rfl) (cU t2 rfl)))⟩
      |false=>exact⟨_,.inr ⟨c,r',c1,c2,c3,c4,c5,c6,rfl⟩,by simp,au (cy tg rfl) (au s3 (au (cy tn rfl) (cy t2 rfl)))⟩
    obtain⟨y,hy,hyn,hb⟩:=key
    have ih:=pS h hA j (k+1) y (some (.d (.int ((k:Nat):Int)))) (some (.d (.tup [.int ((k:Nat):Int),.int ((r:Nat):Int)]))) (by lia) hy λe=>absurd e hyn
    simp only[dY,hset,qab,hb]
    exact ih
theorem B6 (h:Okt P S) (hA:∀ i,i<P.m->∀ t,P.m<=t->P.A (S.kept i) t=0) :
  (∃ c,c<P.n/\S.G c<0/\(∀ i,i<P.m->S.T i c<=0)/\cZ [.d (obD P S)] st=some (.d (.tup [.int (c:Int),.non]),st))\/
  ∃ y,lF P S y/\(y=.non->∀ c,c<P.n->0<=S.G c)/\cZ [.d (obD P S)] st=some (.d y,st):=by
 have hn:=h.n64
 have af:=mJ (P:=P) (S:=S) (env:=[some (.d (obD P S)),some (.d .non),none,none]) (st:=st) (a:=iV 0) rfl
 have hr:cO (aa (iCB bf (aa (aw "free" (iV 0)) ae)) ae) [some (.d (obD P S)),some (.d .non),none,none] st=some ((qdV 0 P.n).map λc=>D.int ((c:Nat):Int),st):=by
  have this:=kF (z:=(P.n:Int)) (m:=P.n) (aC (ac (b:=ae) af rfl) (show bf st [.d (.lst (mpI P.n (nI S.free)))]=some (.int (P.n:Int)) by rw[le,bF])) (by lia) (by lia) (by lia)
  have e2:dn 0 P.n=(qdV 0 P.n).map λc=>D.int ((c:Nat):Int):=by
   unfold dn
   rw[qfx]
   exact qc1 λk _=>by rw[qhY]
  rw[<-e2]
  exact this
 rcases pS (st:=st) h hA P.n 0 .non none none (by lia) (.inl rfl) (λ_ c hc=>absurd hc (by lia)) with⟨c,c1,c2,c3,e⟩|⟨y,o2,o3,y1,y2,e⟩
 ·exact .inl ⟨c,c1,c2,c3,az (n:=4) (k:=1) (b:=gk) rfl (au (s:=st) (e:=[some (.d (obD P S)),some (.d .non),none,none]) rfl (cX (cQ hr e)))⟩
 ·exact .inr ⟨y,y1,y2,az (n:=4) (k:=1) (b:=gk) rfl (au (s:=st) (e:=[some (.d (obD P S)),some (.d .non),none,none]) rfl (au (cQ hr e) rfl))⟩
end
end Own
set_option maxHeartbeats 1000000
namespace Own
open PySem L2
open Sx (Pb Tb Good Named Fe LV ZV piv lexP leastR leaveL sumN unit colV basis)
theorem fV {n k:Nat} (h:k<n):ixN n (k:Int)=some k:=by
 unfold ixN
 rw[if_pos (by lia),if_pos (by lia)]
 rfl
theorem zE (n:Nat) (f g:Nat->Int):jK (mpI n f) (mpI n g)=(qah n).map λc=>D.tup [.int (f c),.int (g c)]:=by
 apply qcm
 intro i
 rw[jB,qaS]
 by_cases hi:i<n
 ·rw[dR hi,dR hi,qbH hi];rfl
 ·rw[qbb (l:=mpI n f) (by rw[bF];lia),qbb (l:=qah n) (by rw[qap];lia)];rfl
theorem rH {te:Ef}{l:Ev}{st:Sto}{g:Nat->D×D} (F:Nat->D) {ks:List Nat} (h:∀ k∈ks,te (some (.d (g k).1)::some (.d (g k).2)::l) st=some (.d (F k),st)) :
  lcI (.tp [0,1]) bn te (none::none::l) (ks.map λk=>D.tup [(g k).1,(g k).2]) st=some (ks.map F,st):=by
 have:=sK (tt:=bn) (te:=te) (l:=l) (st:=st) (g:=g) (λ_=>true) F (ks:=ks) λk hk=>⟨rfl,λ_=>h k hk⟩
 rw[this,qfI.mpr λ_ _=>rfl]
theorem rm {st:Sto}{n e:Nat}{f g:Nat->Int}{p:Int} (he:e<=n) (p0:0<p) (sp:Sm p) (sf:∀ c,c<=n->Sm (f c)) (sg:∀ c,c<=n->Sm (g c)) (hn:n<=1000) :
  jT [.d (.lst (mpI (n+1) f)),.d (.lst (mpI (n+1) g)),.d (.int (e:Int)),.d (.int p)] st=some (.d (.lst (mpI (n+1) λc=>if c=e then - f e else (g e*f c - f e*g c) / p)),st):=by
 have he1:e<n+1:=by lia
 have hz:eE (aa (iV 0) (aa (iV 1) ae)) [some (.d (.lst (mpI (n+1) f))),some (.d (.lst (mpI (n+1) g))),some (.d (.int (e:Int))),some (.d (.int p)),some (.d (.int (g e))),some (.d (.int (f e))),none] st=some ((qah (n+1)).map λc=>D.tup [.int (f c),.int (g c)],st):=by
  rw[<-zE];rfl
 have hl:lcI (.tp [0,1]) bn lP [none,none,some (.d (.int (g e))),some (.d (.int (f e))),some (.d (.int p))] ((qah (n+1)).map λc=>D.tup [.int (f c),.int (g c)]) st=some (mpI (n+1) λc=>(g e*f c - f e*g c) / p,st):=by
  refine rH (g:=λc=>(D.int (f c),.int (g c))) (λc=>D.int ((g e*f c - f e*g c) / p)) λc hc=>?_
  have hc':c<=n:=by have:=qaG.mp hc;lia
  exact ai (ai (ai rfl rfl (ef st (Sm.mulOk (sg e he) (sf c hc')))) (ai rfl rfl (ef st (Sm.mulOk (sf e he) (sg c hc')))) rfl) rfl (tM st p0 sp)
 have s6:aN (.nm 6) (fF (iLc 2 [4,5,3] (eE (aa (iV 0) (aa (iV 1) ae))) (.tp [0,1]) bn lP)) [some (.d (.lst (mpI (n+1) f))),some (.d (.lst (mpI (n+1) g))),some (.d (.int (e:Int))),some (.d (.int p)),some (.d (.int (g e))),some (.d (.int (f e))),none] st=some (.nx [some (.d (.lst (mpI (n+1) f))),some (.d (.lst (mpI (n+1) g))),some (.d (.int (e:Int))),some (.d (.int p)),some (.d (.int (g e))),some (.d (.int (f e))),some (.h st.length)] (st++[.l (mpI (n+1) λc=>(g e*f c - f e*g c) / p)])):=by
  refine aE ?_
  have:=cm (k:=2) (js:=[4,5,3]) hz (by rw[qam,qap];lia) hl
  simp only[fF,this,qaD]
 have s7:cn (iV 6) (iV 2) (iUn mq (iV 5)) [some (.d (.lst (mpI (n+1) f))),some (.d (.lst (mpI (n+1) g))),some (.d (.int (e:Int))),some (.d (.int p)),some (.d (.int (g e))),some (.d (.int (f e))),some (.h st.length)] (st++[.l (mpI (n+1) λc=>(g e*f c - f e*g c) / p)])=some (.nx [some (.d (.lst (mpI (n+1) f))),some (.d (.lst (mpI (n+1) g))),some (.d (.int (e:Int))),some (.d (.int p)),some (.d (.int (g e))),some (.d (.int (f e))),some (.h st.length)] (st++[.l (mpI (n+1) λc=>if c=e then - f e else (g e*f c - f e*g c) / p)])):=by
  have hs:hU (st++[.l (mpI (n+1) λc=>(g e*f c - f e*g c) / p)]) (.h st.length) (.d (.int (e:Int))) (.d (.int (- f e)))=some (st++[.l (mpI (n+1) λc=>if c=e then - f e else (g e*f c - f e*g c) / p)]):=by
   simp only[hU,kG,qab,bF,fV he1,qaD,rC,i5]
  have v:iUn mq (iV 5) [some (.d (.lst (mpI (n+1) f))),some (.d (.lst (mpI (n+1) g))),some (.d (.int (e:Int))),some (.d (.int p)),some (.d (.int (g e))),some (.d (.int (f e))),some (.h st.length)] (st++[.l (mpI (n+1) λc=>(g e*f c - f e*g c) / p)])=some (.d (.int (- f e)),st++[.l (mpI (n+1) λc=>(g e*f c - f e*g c) / p)]):=rfl
  have v6:iV 6 [some (.d (.lst (mpI (n+1) f))),some (.d (.lst (mpI (n+1) g))),some (.d (.int (e:Int))),some (.d (.int p)),some (.d (.int (g e))),some (.d (.int (f e))),some (.h st.length)] (st++[.l (mpI (n+1) λc=>(g e*f c - f e*g c) / p)])=some (.h st.length,st++[.l (mpI (n+1) λc=>(g e*f c - f e*g c) / p)]):=rfl
  have v2:iV 2 [some (.d (.lst (mpI (n+1) f))),some (.d (.lst (mpI (n+1) g))),some (.d (.int (e:Int))),some (.d (.int p)),some (.d (.int (g e))),some (.d (.int (f e))),some (.h st.length)] (st++[.l (mpI (n+1) λc=>(g e*f c - f e*g c) / p)])=some (.d (.int (e:Int)),st++[.l (mpI (n+1) λc=>(g e*f c - f e*g c) / p)]):=rfl
  simp only[cn,v,v6,v2,qab,hs,qaD]
 have:=mG (n:=7) (k:=4) (b:=mF) (ws:=[.d (.lst (mpI (n+1) f)),.d (.lst (mpI (n+1) g)),.d (.int (e:Int)),.d (.int p)]) (st:=st) (h:=st.length) rfl (au (aE (ai rfl rfl (gT st he1))) (au (aE (ai rfl rfl (gT st he1))) (au s6 (au s7 rfl)))) (qal _) (kG _ _)
 rw[qdP]at this
 exact this
abbrev stG (st0:Sto) (fr kp:List D) (fs:List (Str×W)):Sto:=st0++[.l fr,.l kp,.o fs]
def fsO (n:Nat) (ln:List D) (gl:List D) (p:Int) (L:Nat):List (Str×W):=[("amounts",.d (.int (n:Int))),("lines",.d (.lst ln)),("goal",.d (.lst gl)),("part",.d (.int p)),("free",.h L),("kept",.h (L+1))]
section
variable {st0:Sto}{fr kp:List D}{fs:List (Str×W)}
theorem sg2:(stG st0 fr kp fs)[st0.length+2]?=some (.o fs):=by rw[qaI (by lia)];simp
theorem sg0:lg (stG st0 fr kp fs) st0.length=some fr:=by unfold lg;rw[qaI (by lia)];simp
theorem sg1:lg (stG st0 fr kp fs) (st0.length+1)=some kp:=by unfold lg;rw[qaI (by lia)];simp
theorem ss2 {gs:List (Str×W)}:(stG st0 fr kp fs).set (st0.length+2) (.o gs)=stG st0 fr kp gs:=by rw[qcf _ _ (by lia)];simp
theorem ss0 {x:List D}:(stG st0 fr kp fs).set st0.length (.l x)=stG st0 x kp fs:=by rw[qcf _ _ (by lia)];simp
theorem ss1 {x:List D}:(stG st0 fr kp fs).set (st0.length+1) (.l x)=stG st0 fr x fs:=by rw[qcf _ _ (by lia)];simp
theorem lX {f:Str}{w:W}{a:Ef}{env:Ev} (h:a env (stG st0 fr kp fs)=some (.h (st0.length+2),stG st0 fr kp fs)) (hl:fs.lookup f=some w):aw f a env (stG st0 fr kp fs)=some (w,stG st0 fr kp fs):=by
 simp only[aw,h,qab,sg2,hl,qaD]
theorem qr {f:Str}{x:D}{o v:Ef}{env:Ev} (hv:v env (stG st0 fr kp fs)=some (.d x,stG st0 fr kp fs)) (ho:o env (stG st0 fr kp fs)=some (.h (st0.length+2),stG st0 fr kp fs)) (hz:fs.length<1000) (hl:(fs.lookup f).isSome=true):j5 f o v env (stG st0 fr kp fs)=some (.nx env (stG st0 fr kp (lE f (.d x) fs))):=by
 simp only[j5,hv,ho,qab,sg2,hz,hl,and_self,if_true,ss2]
end
section
variable {n L:Nat}{ln gl ln' gl':List D}{p p':Int}
theorem yu:lE ("goal" : Str) (.d (.lst gl')) (fsO n ln gl p L)=fsO n ln gl' p L:=rfl
theorem xI:lE ("lines" : Str) (.d (.lst ln')) (fsO n ln gl p L)=fsO n ln' gl p L:=rfl
theorem yh:lE ("part" : Str) (.d (.int p')) (fsO n ln gl p L)=fsO n ln gl p' L:=rfl
theorem r8:(fsO n ln gl p L).lookup ("lines" : Str)=some (.d (.lst ln)):=rfl
theorem za:(fsO n ln gl p L).lookup ("goal" : Str)=some (.d (.lst gl)):=rfl
theorem zc:(fsO n ln gl p L).lookup ("part" : Str)=some (.d (.int p)):=rfl
end
def stO (st0:Sto) (P:Pb) (S:Tb):Sto:=stG st0 (mpI P.n (nI S.free)) (mpI P.m (nI S.kept)) (fsO P.n (aW P.m P.n S.T) (mpI (P.n+1) S.G) S.p st0.length)
theorem wR {st0:Sto}{P:Pb}{S:Tb}{ws:List W}{ws':List W} (h:vwA (stO st0 P S) ws=some ws'):vwA (stO st0 P S) (.h (st0.length+2)::ws)=some (.d (obD P S)::ws'):=by
 have e:vwW (stO st0 P S) (.h (st0.length+2))=some (.d (obD P S)):=by
  unfold vwW stO
  dsimp only
  rw[sg2]
  dsimp only
  rw[if_pos (by show 5<6;decide)]
  have:vwF (stG st0 (mpI P.n (nI S.free)) (mpI P.m (nI S.kept)) (fsO P.n (aW P.m P.n S.T) (mpI (P.n+1) S.G) S.p st0.length)) (fsO P.n (aW P.m P.n S.T) (mpI (P.n+1) S.G) S.p st0.length)=some [.int (P.n:Int),.lst (aW P.m P.n S.T),.lst (mpI (P.n+1) S.G),.int S.p,.lst (mpI P.n (nI S.free)),.lst (mpI P.m (nI S.kept))]:=by
   simp only[fsO,vwF,qaD]
   rw[show lg (stG st0 (mpI P.n (nI S.free)) (mpI P.m (nI S.kept)) [("amounts",W.d (.int (P.n:Int))),("lines",.d (.lst (aW P.m P.n S.T))),("goal",.d (.lst (mpI (P.n+1) S.G))),("part",.d (.int S.p)),("free",.h st0.length),("kept",.h (st0.length+1))]) st0.length=some (mpI P.n (nI S.free)) from sg0,show lg (stG st0 (mpI P.n (nI S.free)) (mpI P.m (nI S.kept)) [("amounts",W.d (.int (P.n:Int))),("lines",.d (.lst (aW P.m P.n S.T))),("goal",.d (.lst (mpI (P.n+1) S.G))),("part",.d (.int S.p)),("free",.h st0.length),("kept",.h (st0.length+1))]) (st0.length+1)=some (mpI P.m (nI S.kept)) from sg1]
   rfl
  rw[this];rfl
 simp only[vwA,e,h,qab,qaD]
theorem vz {m n r:Nat}{F:Nat->Nat->Int}{g:Nat->Int}:((qah m).map λi=>D.lst (mpI (n+1) (F i))).set r (.lst (mpI (n+1) g))=aW m n λi=>if i=r then g else F i:=by
 apply qcm
 intro i
 by_cases hi:i<m
 ·rw[no hi]
  by_cases e:i=r
  ·subst e
   rw[qba (by rw[qam,qap];exact hi)]
   unfold lnD;dsimp only;rw[if_pos rfl]
  ·rw[qbo (qbu e),qaS,qbH hi]
   unfold lnD;dsimp only;rw[if_neg e];rfl
 ·rw[qbb (by rw[qbx,qam,qap];lia),qbb (by rw[eN];lia)]
theorem yK {st0:Sto}{P:Pb}{S:Tb} (h:Okt P S) {r e:Nat} (hr:r<P.m) (he:e<P.n):fJ [.h (st0.length+2),.d (.int (r:Int)),.d (.int (e:Int))] (stO st0 P S)=some (.d .non,stO st0 P (piv S r e)):=by
 have hm:=h.m64
 have hn:=h.n64
 have hp:=h.good.pos
 -- turning,part
 generalize hT:S.T=T at *
 have fin:∀ (env:Ev) (s:Sto),gK [some (.h (st0.length+2)),some (.d (.int (r:Int))),some (.d (.int (e:Int))),none,none,none,none] (stO st0 P S)=some (.nx env s)->s.take (stO st0 P S).length=s->fJ [.h (st0.length+2),.d (.int (r:Int)),.d (.int (e:Int))] (stO st0 P S)=some (.d .non,s):=λenv s h1 h2=>by
  show (gK [some (.h (st0.length+2)),some (.d (.int (r:Int))),some (.d (.int (e:Int))),none,none,none,none] (stO st0 P S)).bind _=_
  rw[h1]
  show some (W.d .non,s.take (stO st0 P S).length)=_
  rw[h2]
 have v0:∀ (a b c d g i:Option W) (s:Sto),iV 0 [some (.h (st0.length+2)),a,b,c,d,g,i] s=some (.h (st0.length+2),s):=λ_ _ _ _ _ _ _=>rfl
 have s3:aN (.nm 3) (iOp dIx (aw ("lines" : Str) (iV 0)) (iV 1)) [some (.h (st0.length+2)),some (.d (.int (r:Int))),some (.d (.int (e:Int))),none,none,none,none] (stO st0 P S)=some (.nx [some (.h (st0.length+2)),some (.d (.int (r:Int))),some (.d (.int (e:Int))),some (.d (.lst (mpI (P.n+1) (T r)))),none,none,none] (stO st0 P S)):=by
  refine aE (ai (lX (v0 _ _ _ _ _ _ _) r8) rfl ?_)
  rw[hT];exact rM _ hr
 have s4:aN (.nm 4) (aw ("part" : Str) (iV 0)) [some (.h (st0.length+2)),some (.d (.int (r:Int))),some (.d (.int (e:Int))),some (.d (.lst (mpI (P.n+1) (T r)))),none,none,none] (stO st0 P S)=some (.nx [some (.h (st0.length+2)),some (.d (.int (r:Int))),some (.d (.int (e:Int))),some (.d (.lst (mpI (P.n+1) (T r)))),some (.d (.int S.p)),none,none] (stO st0 P S)):=aE (lX (v0 _ _ _ _ _ _ _) zc)
 have sT:∀ i c,i<P.m->c<=P.n->Sm (T i c):=λi c hi hc=>by rw[<-hT];exact h.sT i c hi hc
 have hfl:iLc 1 [3,2,4] (bj (aw ("lines" : Str) (iV 0))) (.nm 0) bn gA [some (.h (st0.length+2)),some (.d (.int (r:Int))),some (.d (.int (e:Int))),some (.d (.lst (mpI (P.n+1) (T r)))),some (.d (.int S.p)),none,none] (stO st0 P S)=some ((qah P.m).map λi=>D.lst (mpI (P.n+1) λc=>if c=e then - T i e else (T r e*T i c - T i e*T r c) / S.p),stO st0 P S):=by
  have a1:=lX (f:=("lines" : Str)) (a:=iV 0) (st0:=st0) (fr:=mpI P.n (nI S.free)) (kp:=mpI P.m (nI S.kept)) (fs:=fsO P.n (aW P.m P.n S.T) (mpI (P.n+1) S.G) S.p st0.length) (v0 (some (.d (.int (r:Int)))) (some (.d (.int (e:Int)))) (some (.d (.lst (mpI (P.n+1) (T r))))) (some (.d (.int S.p))) none none _) r8
  refine cm (cD a1) (by rw[eN];lia) ?_
  show lcI (.nm 0) bn gA [none,some (.d (.lst (mpI (P.n+1) (T r)))),some (.d (.int (e:Int))),some (.d (.int S.p))] (aW P.m P.n S.T) (stO st0 P S)=_
  rw[show aW P.m P.n S.T=(qah P.m).map (lnD P.n T) by rw[hT];rfl]
  refine lc (g:=lnD P.n T) _ λi hi=>?_
  have hi':=qaG.mp hi
  exact aq (ws:=[.d (lnD P.n T i),.d (.lst (mpI (P.n+1) (T r))),.d (.int (e:Int)),.d (.int S.p)]) rfl (rm (f:=T i) (g:=T r) (by lia) hp h.sp (λc hc=>sT i c hi' hc) (λc hc=>sT r c hr hc) (by lia))
 have s5:i3 5 1 2 3 4 (iLc 1 [3,2,4] (bj (aw ("lines" : Str) (iV 0))) (.nm 0) bn gA) [some (.h (st0.length+2)),some (.d (.int (r:Int))),some (.d (.int (e:Int))),some (.d (.lst (mpI (P.n+1) (T r)))),some (.d (.int S.p)),none,none] (stO st0 P S)=some (.nx [some (.h (st0.length+2)),some (.d (.int (r:Int))),some (.d (.int (e:Int))),some (.d (.lst (mpI (P.n+1) (T r)))),some (.d (.int S.p)),some (.d (.lst (aW P.m P.n (piv S r e).T))),none] (stO st0 P S)):=by
  simp only[i3,hfl,qab,qb4,qb3]
  rw[qam,qap,fV hr,bF,fV (by lia:e<P.n+1),qab,qab,if_pos ⟨by lia,by show 5<7;decide,rd _ _⟩,i5,vz]
  show some (Fl.nx [_,_,_,_,_,some (W.d (.lst (aW P.m P.n _))),none] _)=_
  have:(λi=>if i=r then (λj=>if j=e then S.p else T r j) else λc=>if c=e then - T i e else (T r e*T i c - T i e*T r c) / S.p)=(piv S r e).T:=by
   funext i c
   show _=if i=r then (if c=e then S.p else S.T r c) else (if c=e then - S.T i e else (S.T r e*S.T i c - S.T i e*S.T r c) / S.p)
   rw[hT]
   by_cases hi:i=r
   ·rw[if_pos hi,if_pos hi]
   ·rw[if_neg hi,if_neg hi]
  rw[this]
 have s6:j5 ("goal" : Str) (iV 0) (av jT (aa (aw ("goal" : Str) (iV 0)) (aa (iV 3) (aa (iV 2) (aa (iV 4) ae))))) [some (.h (st0.length+2)),some (.d (.int (r:Int))),some (.d (.int (e:Int))),some (.d (.lst (mpI (P.n+1) (T r)))),some (.d (.int S.p)),some (.d (.lst (aW P.m P.n (piv S r e).T))),none] (stO st0 P S)=some (.nx [some (.h (st0.length+2)),some (.d (.int (r:Int))),some (.d (.int (e:Int))),some (.d (.lst (mpI (P.n+1) (T r)))),some (.d (.int S.p)),some (.d (.lst (aW P.m P.n (piv S r e).T))),none] (stG st0 (mpI P.n (nI S.free)) (mpI P.m (nI S.kept)) (fsO P.n (aW P.m P.n S.T) (mpI (P.n+1) (piv S r e).G) S.p st0.length))):=by
  have e0:(λc=>if c=e then - S.G e else (T r e*S.G c - S.G e*T r c) / S.p)=(piv S r e).G:=by
   funext c
   show _=if c=e then - S.G e else (S.T r e*S.G c - S.G e*S.T r c) / S.p
   rw[hT]
  have e1:=rm (st:=stO st0 P S) (f:=S.G) (g:=T r) (n:=P.n) (e:=e) (by lia) hp h.sp (λc hc=>h.sG c hc) (λc hc=>sT r c hr hc) (by lia)
  rw[e0]at e1
  have a1:=lX (f:=("goal" : Str)) (a:=iV 0) (st0:=st0) (fr:=mpI P.n (nI S.free)) (kp:=mpI P.m (nI S.kept)) (fs:=fsO P.n (aW P.m P.n S.T) (mpI (P.n+1) S.G) S.p st0.length) (v0 (some (.d (.int (r:Int)))) (some (.d (.int (e:Int)))) (some (.d (.lst (mpI (P.n+1) (T r))))) (some (.d (.int S.p))) (some (.d (.lst (aW P.m P.n (piv S r e).T)))) none _) za
  have:=qr (f:=("goal" : Str)) (o:=iV 0) (v:=av jT (aa (aw ("goal" : Str) (iV 0)) (aa (iV 3) (aa (iV 2) (aa (iV 4) ae))))) (st0:=st0) (fr:=mpI P.n (nI S.free)) (kp:=mpI P.m (nI S.kept)) (fs:=fsO P.n (aW P.m P.n S.T) (mpI (P.n+1) S.G) S.p st0.length) (aq (ac a1 (ac rfl (ac rfl (ac rfl rfl)))) e1) (v0 _ _ _ _ _ _ _) (by show 6<1000;decide) rfl
  rw[yu]at this
  exact this
 have s7:j5 ("lines" : Str) (iV 0) (iV 5) [some (.h (st0.length+2)),some (.d (.int (r:Int))),some (.d (.int (e:Int))),some (.d (.lst (mpI (P.n+1) (T r)))),some (.d (.int S.p)),some (.d (.lst (aW P.m P.n (piv S r e).T))),none] (stG st0 (mpI P.n (nI S.free)) (mpI P.m (nI S.kept)) (fsO P.n (aW P.m P.n S.T) (mpI (P.n+1) (piv S r e).G) S.p st0.length))=some (.nx [some (.h (st0.length+2)),some (.d (.int (r:Int))),some (.d (.int (e:Int))),some (.d (.lst (mpI (P.n+1) (T r)))),some (.d (.int S.p)),some (.d (.lst (aW P.m P.n (piv S r e).T))),none] (stG st0 (mpI P.n (nI S.free)) (mpI P.m (nI S.kept)) (fsO P.n (aW P.m P.n (piv S r e).T) (mpI (P.n+1) (piv S r e).G) S.p st0.length))):=by
  have:=qr (f:=("lines" : Str)) (o:=iV 0) (v:=iV 5) (x:=.lst (aW P.m P.n (piv S r e).T)) (env:=[some (.h (st0.length+2)),some (.d (.int (r:Int))),some (.d (.int (e:Int))),some (.d (.lst (mpI (P.n+1) (T r)))),some (.d (.int S.p)),some (.d (.lst (aW P.m P.n (piv S r e).T))),none]) (st0:=st0) (fr:=mpI P.n (nI S.free)) (kp:=mpI P.m (nI S.kept)) (fs:=fsO P.n (aW P.m P.n S.T) (mpI (P.n+1) (piv S r e).G) S.p st0.length) rfl rfl (by show 6<1000;decide) rfl
  rw[xI]at this
  exact this
 have s8:j5 ("part" : Str) (iV 0) (iOp dIx (iV 3) (iV 2)) [some (.h (st0.length+2)),some (.d (.int (r:Int))),some (.d (.int (e:Int))),some (.d (.lst (mpI (P.n+1) (T r)))),some (.d (.int S.p)),some (.d (.lst (aW P.m P.n (piv S r e).T))),none] (stG st0 (mpI P.n (nI S.free)) (mpI P.m (nI S.kept)) (fsO P.n (aW P.m P.n (piv S r e).T) (mpI (P.n+1) (piv S r e).G) S.p st0.length))=some (.nx [some (.h (st0.length+2)),some (.d (.int (r:Int))),some (.d (.int (e:Int))),some (.d (.lst (mpI (P.n+1) (T r)))),some (.d (.int S.p)),some (.d (.lst (aW P.m P.n (piv S r e).T))),none] (stG st0 (mpI P.n (nI S.free)) (mpI P.m (nI S.kept)) (fsO P.n (aW P.m P.n (piv S r e).T) (mpI (P.n+1) (piv S r e).G) (piv S r e).p st0.length))):=by
  have ep:(piv S r e).p=T r e:=by show S.T r e=_;rw[hT]
  have:=qr (f:=("part" : Str)) (o:=iV 0) (v:=iOp dIx (iV 3) (iV 2)) (x:=.int (T r e)) (env:=[some (.h (st0.length+2)),some (.d (.int (r:Int))),some (.d (.int (e:Int))),some (.d (.lst (mpI (P.n+1) (T r)))),some (.d (.int S.p)),some (.d (.lst (aW P.m P.n (piv S r e).T))),none]) (st0:=st0) (fr:=mpI P.n (nI S.free)) (kp:=mpI P.m (nI S.kept)) (fs:=fsO P.n (aW P.m P.n (piv S r e).T) (mpI (P.n+1) (piv S r e).G) S.p st0.length) (ai rfl rfl (gT _ (by lia))) rfl (by show 6<1000;decide) rfl
  rw[yh]at this
  rw[ep]
  exact this
 generalize hfs:fsO P.n (aW P.m P.n (piv S r e).T) (mpI (P.n+1) (piv S r e).G) (piv S r e).p st0.length=FS at s8
 generalize hLN:W.d (.lst (aW P.m P.n (piv S r e).T))=LN at *
 generalize hTR:W.d (.lst (mpI (P.n+1) (T r)))=TR at *
 have ixh0:∀ {fr kp:List D}{k:Nat}{d:D},fr[k]?=some d->dIx (stG st0 fr kp FS) (.h st0.length) (.d (.int (k:Int)))=some d:=λ{fr kp k d} hk=>by
  show (lg (stG st0 fr kp FS) st0.length).bind (λds=>atI ds (k:Int))=_
  rw[sg0,qab,dD hk]
 have ixh1:∀ {fr kp:List D}{k:Nat}{d:D},kp[k]?=some d->dIx (stG st0 fr kp FS) (.h (st0.length+1)) (.d (.int (k:Int)))=some d:=λ{fr kp k d} hk=>by
  show (lg (stG st0 fr kp FS) (st0.length+1)).bind (λds=>atI ds (k:Int))=_
  rw[sg1,qab,dD hk]
 have lf:FS.lookup ("free" : Str)=some (.h st0.length):=by rw[<-hfs];rfl
 have lk:FS.lookup ("kept" : Str)=some (.h (st0.length+1)):=by rw[<-hfs];rfl
 have s9:aN (.nm 6) (iOp dIx (aw ("free" : Str) (iV 0)) (iV 2)) [some (.h (st0.length+2)),some (.d (.int (r:Int))),some (.d (.int (e:Int))),some TR,some (.d (.int S.p)),some LN,none] (stG st0 (mpI P.n (nI S.free)) (mpI P.m (nI S.kept)) FS)=some (.nx [some (.h (st0.length+2)),some (.d (.int (r:Int))),some (.d (.int (e:Int))),some TR,some (.d (.int S.p)),some LN,some (.d (.int (nI S.free e)))] (stG st0 (mpI P.n (nI S.free)) (mpI P.m (nI S.kept)) FS)):=aE (ai (lX (v0 _ _ _ _ _ _ _) lf) rfl (ixh0 (dR he)))
 have s10:cn (aw ("free" : Str) (iV 0)) (iV 2) (iOp dIx (aw ("kept" : Str) (iV 0)) (iV 1)) [some (.h (st0.length+2)),some (.d (.int (r:Int))),some (.d (.int (e:Int))),some TR,some (.d (.int S.p)),some LN,some (.d (.int (nI S.free e)))] (stG st0 (mpI P.n (nI S.free)) (mpI P.m (nI S.kept)) FS)=some (.nx [some (.h (st0.length+2)),some (.d (.int (r:Int))),some (.d (.int (e:Int))),some TR,some (.d (.int S.p)),some LN,some (.d (.int (nI S.free e)))] (stG st0 (mpI P.n (nI (piv S r e).free)) (mpI P.m (nI S.kept)) FS)):=by
  have q1:iOp dIx (aw ("kept" : Str) (iV 0)) (iV 1) [some (.h (st0.length+2)),some (.d (.int (r:Int))),some (.d (.int (e:Int))),some TR,some (.d (.int S.p)),some LN,some (.d (.int (nI S.free e)))] (stG st0 (mpI P.n (nI S.free)) (mpI P.m (nI S.kept)) FS)=some (.d (.int (nI S.kept r)),stG st0 (mpI P.n (nI S.free)) (mpI P.m (nI S.kept)) FS):=ai (lX (v0 _ _ _ _ _ _ _) lk) rfl (ixh1 (dR hr))
  have q2:=lX (f:=("free" : Str)) (a:=iV 0) (st0:=st0) (fr:=mpI P.n (nI S.free)) (kp:=mpI P.m (nI S.kept)) (fs:=FS) (v0 (some (.d (.int (r:Int)))) (some (.d (.int (e:Int)))) (some TR) (some (.d (.int S.p))) (some LN) (some (.d (.int (nI S.free e)))) _) lf
  have q3:iV 2 [some (.h (st0.length+2)),some (.d (.int (r:Int))),some (.d (.int (e:Int))),some TR,some (.d (.int S.p)),some LN,some (.d (.int (nI S.free e)))] (stG st0 (mpI P.n (nI S.free)) (mpI P.m (nI S.kept)) FS)=some (.d (.int (e:Int)),stG st0 (mpI P.n (nI S.free)) (mpI P.m (nI S.kept)) FS):=rfl
  have hs:hU (stG st0 (mpI P.n (nI S.free)) (mpI P.m (nI S.kept)) FS) (.h st0.length) (.d (.int (e:Int))) (.d (.int (nI S.kept r)))=some (stG st0 (mpI P.n (nI (piv S r e).free)) (mpI P.m (nI S.kept)) FS):=by
   simp only[hU,sg0,qab,bF,fV he,qaD,ss0,i5]
   congr 3
   funext j
   show _=(((if j=e then S.kept r else S.free j:Nat)):Int)
   by_cases hj:j=e
   ·rw[if_pos hj,if_pos hj];rfl
   ·rw[if_neg hj,if_neg hj];rfl
  simp only[cn,q1,q2,q3,qab,hs,qaD]
 have s11:cn (aw ("kept" : Str) (iV 0)) (iV 1) (iV 6) [some (.h (st0.length+2)),some (.d (.int (r:Int))),some (.d (.int (e:Int))),some TR,some (.d (.int S.p)),some LN,some (.d (.int (nI S.free e)))] (stG st0 (mpI P.n (nI (piv S r e).free)) (mpI P.m (nI S.kept)) FS)=some (.nx [some (.h (st0.length+2)),some (.d (.int (r:Int))),some (.d (.int (e:Int))),some TR,some (.d (.int S.p)),some LN,some (.d (.int (nI S.free e)))] (stG st0 (mpI P.n (nI (piv S r e).free)) (mpI P.m (nI (piv S r e).kept)) FS)):=by
  have q1:iV 6 [some (.h (st0.length+2)),some (.d (.int (r:Int))),some (.d (.int (e:Int))),some TR,some (.d (.int S.p)),some LN,some (.d (.int (nI S.free e)))] (stG st0 (mpI P.n (nI (piv S r e).free)) (mpI P.m (nI S.kept)) FS)=some (.d (.int (nI S.free e)),stG st0 (mpI P.n (nI (piv S r e).free)) (mpI P.m (nI S.kept)) FS):=rfl
  have q2:=lX (f:=("kept" : Str)) (a:=iV 0) (st0:=st0) (fr:=mpI P.n (nI (piv S r e).free)) (kp:=mpI P.m (nI S.kept)) (fs:=FS) (v0 (some (.d (.int (r:Int)))) (some (.d (.int (e:Int)))) (some TR) (some (.d (.int S.p))) (some LN) (some (.d (.int (nI S.free e)))) _) lk
  have q3:iV 1 [some (.h (st0.length+2)),some (.d (.int (r:Int))),some (.d (.int (e:Int))),some TR,some (.d (.int S.p)),some LN,some (.d (.int (nI S.free e)))] (stG st0 (mpI P.n (nI (piv S r e).free)) (mpI P.m (nI S.kept)) FS)=some (.d (.int (r:Int)),stG st0 (mpI P.n (nI (piv S r e).free)) (mpI P.m (nI S.kept)) FS):=rfl
  have hs:hU (stG st0 (mpI P.n (nI (piv S r e).free)) (mpI P.m (nI S.kept)) FS) (.h (st0.length+1)) (.d (.int (r:Int))) (.d (.int (nI S.free e)))=some (stG st0 (mpI P.n (nI (piv S r e).free)) (mpI P.m (nI (piv S r e).kept)) FS):=by
   simp only[hU,sg1,qab,bF,fV hr,qaD,ss1,i5]
   congr 3
   congr 1
   funext j
   show _=(((if j=r then S.free e else S.kept j:Nat)):Int)
   by_cases hj:j=r
   ·rw[if_pos hj,if_pos hj];rfl
   ·rw[if_neg hj,if_neg hj];rfl
  simp only[cn,q1,q2,q3,qab,hs,qaD]
 have:=fin _ _ (au s3 (au s4 (au s5 (au s6 (au s7 (au s8 (au s9 (au s10 s11)))))))) ?_
 ·rw[this,<-hfs];rfl
 ·refine qca ?_
  unfold stO stG
  rw[qan,qan];exact qal _
end Own
namespace Sx
theorem sumN_abs {n:Nat}{f:Nat->Int}{B:Nat} (h:∀ k,k<n->(f k).natAbs<=B):(sumN n f).natAbs<=n*B:=by
 induction n with
 |zero=>rw[sumN];omega
 |succ n ih=>
  rw[sumN,qh8,qfU]
  have h1:=ih λk hk=>h k (by omega)
  have h2:=h n (by omega)
  have h3:=Int.natAbs_add_le (sumN n f) (f n)
  omega
theorem sg_abs (k:Nat):(sg k).natAbs=1:=by unfold sg;split<;>rfl
theorem det_le {B X:Nat}:∀ (m:Nat) {C:Nat->Vec},m*B<=X->(∀ k t,k<m->t<m->(C k t).natAbs<=B)->(det m C).natAbs<=X^m
 |0,C,_,_=>by rw[det];exact qal _
 |m+1,C,hX,h=>by
  rw[det]
  have hm:m*B<=X:=qa2 (qbW B (by omega)) hX
  have:=sumN_abs (n:=m+1) (f:=λk=>sg k*C k 0*det m (λj t=>C (skip k j) (t+1))) (B:=B*X^m) λk hk=>by
   have ih:=det_le m (C:=λj t=>C (skip k j) (t+1)) hm λj t hj ht=>h _ _ (by unfold skip;split<;>omega) (by omega)
   rw[qdm,qdm,sg_abs,qfU]
   exact qcQ (h k 0 hk (by omega)) ih
  refine qa2 this ?_
  rw[<-Nat.mul_assoc,qhU,qfv (X^m)]
  exact qbW _ hX
structure Bd (P:Pb):Prop where
 m64:P.m<=8
 n64:P.n<=100
 A:∀ k,k<P.n+P.m->∀ t,t<P.m->(P.A k t).natAbs<=2^50
 b:∀ t,t<P.m->(P.b t).natAbs<=2^50
 g:∀ k,k<P.n+P.m->(P.g k).natAbs<=2^50
variable {P:Pb}
theorem Bd.det (h:Bd P) {C:Nat->Vec} (hC:∀ k t,k<P.m->t<P.m->(C k t).natAbs<=2^50):(det P.m C).natAbs<=2^424:=by
 have hm:=h.m64
 have h1:=det_le (B:=2 ^ 50) (X:=2 ^ 53) P.m (C:=C) (by
  have:P.m*2^50<=8*2^50:=qbW _ hm
  exact qa2 this (by decide)) hC
 refine qa2 h1 ?_
 rw[<-qh6]
 exact Nat.pow_le_pow_right (by decide) (by omega)
theorem unit_le (r t:Nat):(unit r t).natAbs<=2^50:=by unfold unit;split<;>decide
theorem Bd.basis (h:Bd P) {S:Tb} (hn:Named P S) {v:Vec} (hv:∀ t,t<P.m->(v t).natAbs<=2^50) (i k t:Nat) (hk:k<P.m) (ht:t<P.m):(upd (basis P S) i v k t).natAbs<=2^50:=by
 unfold upd
 split
 ·exact hv t ht
 ·exact h.A _ (hn.bound.2 k hk) t ht
theorem Bd.T (h:Bd P) {S:Tb} (hg:Good P S) (hn:Named P S) {i c:Nat} (hi:i<P.m) (hc:c<=P.n):(S.T i c).natAbs<=2^424:=by
 rw[hg.entry hc hi]
 refine h.det λk t hk ht=>h.basis hn (λt ht=>?_) i k t hk ht
 unfold colV
 by_cases hcn:c<P.n
 ·rw[if_pos hcn];exact h.A _ (hn.bound.1 c hcn) t ht
 ·rw[if_neg hcn];exact h.b t ht
theorem Bd.L (h:Bd P) {S:Tb} (hn:Named P S) (i s:Nat):(LV P S i s).natAbs<=2^424:=by
 refine h.det λk t hk ht=>h.basis hn (λt ht=>?_) i k t hk ht
 unfold XV
 split
 ·exact h.b t ht
 ·exact unit_le _ _
theorem Bd.p (h:Bd P) {S:Tb} (hg:Good P S) (hn:Named P S):S.p.natAbs<=2^424:=by
 rw[hg.dt]
 exact h.det λk t hk ht=>h.A _ (hn.bound.2 k hk) t ht
theorem Bd.G (h:Bd P) {S:Tb} (hg:Good P S) (hn:Named P S) {c:Nat} (hc:c<=P.n):(S.G c).natAbs<=65*(2^50*2^424):=by
 rw[hg.goal c hc]
 have h1:=sumN_abs (n:=P.m) (f:=λi=>P.g (S.kept i)*S.T i c) (B:=2^50*2^424) λi hi=>by
  rw[qdm]
  exact qcQ (h.g _ (hn.bound.2 i hi)) (h.T hg hn hi hc)
 have h2:(S.p*gainC P S c).natAbs<=2^50*2^424:=by
  rw[qdm,qfv]
  refine qcQ ?_ (h.p hg hn)
  unfold gainC
  by_cases hcn:c<P.n
  ·rw[if_pos hcn];exact h.g _ (hn.bound.1 c hcn)
  ·rw[if_neg hcn];decide
 have h3:=Int.natAbs_sub_le (sumN P.m λi=>P.g (S.kept i)*S.T i c) (S.p*gainC P S c)
 have h4:P.m*(2^50*2^424)<=8*(2^50*2^424):=qbW _ h.m64
 generalize 2^50*2^424=Z at *
 omega
end Sx
set_option maxHeartbeats 1000000
namespace Own
open PySem L2
open Sx (Pb Tb Good Named Fe LV ZV piv lexP leastR leaveL sumN unit colV basis)
theorem vi {a b:Nat} (h:a<b):2^a<2^b:=Nat.pow_lt_pow_right (by decide) h
theorem wS {z:Int} (h:z.natAbs<=2^424):Sm z:=qbS h (vi (by decide))
theorem A7 {z:Int} (h:z.natAbs<=65*(2^50*2^424)):Sm z:=by
 refine qbS h ?_
 refine qbS (qbW (2^50*2^424) (by decide:65<=2^7)) ?_
 rw[<-qfT,<-qfT]
 exact vi (by decide)
theorem A9 {P:Pb}{S:Tb} (b:Sx.Bd P) (g:Good P S) (n:Named P S):Okt P S:=by
 have h1:=b.m64
 exact⟨g,n,by lia,b.n64,λi c hi hc=>wS (b.T g n hi hc),λi s _ _=>wS (b.L n i s),λc hc=>A7 (b.G g n hc),wS (b.p g n)⟩
theorem zv {c:Tf}{b:Sf}{m:Nat}{env:Ev}{st s:Sto} (h:c env st=some (false,s)):d9 c b (m+1) env st=some (.nx env s):=by
 rw[d9,h];rfl
theorem wC {c:Tf}{b:Sf}{m:Nat}{env e:Ev}{st s s2:Sto}{r:Option Fl} (h:c env st=some (true,s)) (hb:b env s=some (.nx e s2)) (hr:d9 c b m e s2=r):d9 c b (m+1) env st=r:=by
 rw[d9,h]
 show ((b env s).bind _)=_
 rw[hb];exact hr
theorem BF {c:Tf}{b:Sf}{m:Nat}{env:Ev}{st s s2:Sto}{w:W} (h:c env st=some (true,s)) (hb:b env s=some (.rt w s2)):d9 c b (m+1) env st=some (.rt w s2):=by
 rw[d9,h]
 show ((b env s).bind _)=_
 rw[hb];rfl
theorem mf {st:Sto}{a0 a2:Option W}:∀ (n a b:Nat) (o:Option W),b<n->∃ o',d9 gH ig n [a0,some (.d (.int (a:Int))),a2,some (.d (.int (b:Int))),o] st=some (.nx [a0,some (.d (.int ((qeU a b:Nat):Int))),a2,some (.d (.int 0)),o'] st)
 |0,a,b,o,h=>by lia
 |n+1,a,b,o,h=>by
  by_cases hb:b=0
  ·subst hb
   refine⟨o,?_⟩
   rw[Nat.gcd_zero_right]
   exact zv rfl
  ·have hf:(!((b:Int)==(0:Int)))=true:=by simp;lia
   obtain⟨o',ih⟩:=mf n b (a%b) (some (.d (.int ((a%b:Nat):Int)))) (by have:=Nat.mod_lt a (Nat.pos_of_ne_zero hb);lia)
   refine⟨o',?_⟩
   have eg:qeU a b=qeU b (a%b):=by rw[qhW a b,Nat.gcd_rec b a,qhW]
   have hp:(0:Int)<(b:Int):=by lia
   have em:jD st (.d (.int (a:Int))) (.d (.int (b:Int)))=some (.int ((a%b:Nat):Int)):=by
    simp only[jD,hp,if_true];rfl
   rw[eg,<-ih]
   exact wC (s:=st) (aV rfl rfl ((zq st _).trans (by rw[hf]))) (au (aE (ai rfl rfl em)) rfl) rfl
theorem qR {st:Sto}{ns:List Int} (hn:∀ n∈ns,Sm n):du [.d (.lst (ns.map D.int))] st=some (.d (.int ((gW 0 ns:Nat):Int)),st):=by
 obtain⟨env',s2,e2,⟨o2,o3,o4,rfl⟩,rfl⟩:=fm (g:=.nm 2) (body:=hJ) (ds:=ns.map D.int) (λi env s=>(∃ o2 o3 o4,env=[some (.d (.lst (ns.map D.int))),some (.d (.int ((gW 0 (ns.take i):Nat):Int))),o2,o3,o4])/\s=st)
  (env:=[some (.d (.lst (ns.map D.int))),some (.d (.int 0)),none,none,none]) (st:=st) ⟨⟨_,_,_,rfl⟩,rfl⟩ (λi d env s hd ⟨⟨o2,o3,o4,e⟩,es⟩=>by
   subst e es
   rw[qaS,qad]at hd
   obtain⟨n,hk,rfl⟩:=hd
   obtain⟨hi,hk'⟩:=qao.mp hk
   have hb:=hn n (qbD hk)
   have ea:tu s [.d (.int n)]=some (.int ((n.natAbs:Nat):Int)):=by
    show some (D.int (if n<0 then -n else n))=_
    rw[show (if n<0 then -n else n)=((n.natAbs:Nat):Int) by split<;>lia]
   have eg:gW 0 (ns.take (i+1))=qeU (gW 0 (ns.take i)) n.natAbs:=by
    rw[List.take_succ_eq_append_getElem hi,hk',rP]
   obtain⟨o',ew⟩:=mf (st:=s) (a0:=some (.d (.lst (ns.map D.int)))) (a2:=some (.d (.int n))) (2^8000) (gW 0 (ns.take i)) n.natAbs o4 (qdJ hb (vi (by decide)))
   refine⟨_,[some (.d (.lst (ns.map D.int))),some (.d (.int ((gW 0 (ns.take (i+1)):Nat):Int))),some (.d (.int n)),some (.d (.int 0)),o'],s,rfl,.inl ?_,⟨_,_,_,rfl⟩,rfl⟩
   rw[eg]
   generalize ns.map D.int=L at ew ⊢
   exact au (aE (aC (ac rfl rfl) ea)) ew)
 rw[qam,qdy]at e2
 generalize ns.map D.int=L at e2 ⊢
 exact az (n:=5) (k:=1) (b:=eI) rfl (au rfl (au (cQ (cD rfl) e2) rfl))
theorem um {te:Ef}{st:Sto}{ns:List Int}{g:Int} (h0:0<g) (hg:Sm g) (ht:te=iOp mS (iV 0) (iV 1)):lcI (.nm 0) bn te [none,some (.d (.int g))] (ns.map D.int) st=some ((ns.map λx=>x / g).map D.int,st):=by
 subst ht
 have h:=yt (g:=.nm 0) (te:=iOp mS (iV 0) (iV 1)) (env:=[none,some (.d (.int g))]) (st:=st) (λd=>match d with|.int x=>.int (x / g)|d=>d) (ds:=ns.map D.int) λd hd=>by
  obtain⟨y,hy,rfl⟩:=qa7.mp hd
  exact⟨_,rfl,ai rfl rfl (tM st h0 hg)⟩
 rw[h,qbi,qbi];rfl
theorem tD {ns:List Int}{x:Int} (hx:x∈ns) (x0:x≠0) (hs:Sm x):0<((gW 0 ns:Nat):Int)/\Sm ((gW 0 ns:Nat):Int):=by
 obtain⟨g0,g1⟩:=wN hx x0
 refine⟨by lia,?_⟩
 show ((gW 0 ns:Nat):Int).natAbs<_
 rw[Int.natAbs_natCast]
 exact qbS g1 hs
theorem ug {st:Sto}{ns:List Int} (hb:∀ x∈ns,Sm x) (hp:∃ x∈ns,x≠0) (hl:ns.length<=1000):iL [.d (.lst (ns.map D.int))] st=some (.d (.tup ((ns.map λx=>x / ((gW 0 ns:Nat):Int)).map D.int)),st):=by
 obtain⟨x,hx,x0⟩:=hp
 have e1:=qR (st:=st) hb
 obtain⟨g0,g1⟩:=tD hx x0 (hb x hx)
 generalize ((gW 0 ns:Nat):Int)=g at *
 have f0:(g==(0:Int))=false:=by simp;lia
 have key:=um (te:=lT) (st:=st) (ns:=ns) g0 g1 rfl
 have hz:(ns.map D.int).length<=1000000:=by rw[qam];lia
 generalize (ns.map λx=>x / g).map D.int=G at *
 generalize ns.map D.int=N at *
 exact az (n:=2) (k:=1) (b:=jN) rfl (au (aE (i:=1) (aq rfl e1)) (au (cy (aV rfl rfl (by rw[oS,f0])) rfl) (aY (aC (ac (aL (cm (cD rfl) hz key)) rfl) rfl))))
def acc (e:Nat->Nat) (y:Nat->Int) (i k:Nat):Int:=sumN i λj=>if e j=k then y j else 0
theorem rR (e:Nat->Nat) (y:Nat->Int) (i k:Nat):acc e y (i+1) k=acc e y i k+if e i=k then y i else 0:=rfl
theorem pN {e:Nat->Nat}{y:Nat->Int}{i k:Nat} (h:∀ j,j<i->e j≠k):acc e y i k=0:=by
 unfold acc
 rw[Sx.sumN_congr (g:=λ_=>0) λj hj=>if_neg (h j hj),Sx.sumN_zero]
theorem uH {e:Nat->Nat}{y:Nat->Int}{d N i:Nat} (hd:d<=e i) (hj:∀ j,j<i->e j≠e i):(mpI N λr=>acc e y i (d+r)).set (e i - d) (.int (y i))=mpI N λr=>acc e y (i+1) (d+r):=by
 rw[i5]
 refine cu λr _=>?_
 rw[rR]
 by_cases hr:r=e i - d
 ·rw[if_pos hr,if_pos (by lia),pN λj hj'=>by have:=hj j hj';lia];lia
 ·rw[if_neg hr,if_neg (by lia)];lia
theorem sJ {e:Nat->Nat}{y:Nat->Int}{d N i:Nat} (h:∀ r,r<N->e i≠d+r):(mpI N λr=>acc e y i (d+r))=mpI N λr=>acc e y (i+1) (d+r):=by
 refine cu λr hr=>?_
 rw[rR,if_neg (h r hr)];lia
theorem qO (n:Nat) (e:Nat->Nat) (y:Nat->Int) (d:Nat):(qaC n [D.int 0]).flatten=mpI n λr=>acc e y 0 (d+r):=by
 show _=(qah n).map λ_=>D.int 0
 induction n with
 |zero=>rfl
 |succ n ih=>rw[List.replicate_succ',List.flatten_append,ih,qeJ,qc2];rfl
theorem lN {f:Ef}{env:Ev}{st:Sto}{n:Nat} (hf:f env st=some (.d (.int (n:Int)),st)) (hn:n<=900) (e:Nat->Nat) (y:Nat->Int) (d:Nat):fF (ui oq (aA (cf (aa (iC (.int 0)) ae))) f) env st=some (.h st.length,st++[.l (mpI n λr=>acc e y 0 (d+r))]):=by
 have h0:ui oq (aA (cf (aa (iC (.int 0)) ae))) f env st=some (mpI n λr=>acc e y 0 (d+r),st):=by
  show ((f env st).bind λq=>(oq q.2 (.d (.lst [.int 0])) q.1).map λl=>(l,q.2))=_
  rw[hf]
  show (oq st (.d (.lst [.int 0])) (.d (.int (n:Int)))).map (λl=>(l,st))=_
  unfold oq;dsimp only
  rw[if_pos ⟨by show 1<=1000;decide,by lia,by lia⟩,qbZ,qO n e y d];rfl
 simp only[fF,h0,qaD]
end Own
set_option maxHeartbeats 1000000
namespace Own
open PySem L2
open Sx (Pb Tb Good Named Fe LV ZV piv lexP leastR leaveL sumN unit colV basis)
theorem sIx {o i v:Ef}{env:Ev}{st:Sto}{xs:List D}{k:Nat}{d:D} (hv:v env (st++[.l xs])=some (.d d,st++[.l xs])) (ho:o env (st++[.l xs])=some (.h st.length,st++[.l xs])) (hi:i env (st++[.l xs])=some (.d (.int (k:Int)),st++[.l xs])) (hk:k<xs.length):cn o i v env (st++[.l xs])=some (.nx env (st++[.l (xs.set k d)])):=by
 have hs:hU (st++[.l xs]) (.h st.length) (.d (.int (k:Int))) (.d d)=some (st++[.l (xs.set k d)]):=by
  simp only[hU,kG,qab,fV hk,qaD,rC]
 simp only[cn,hv,ho,hi,qab,hs,qaD]
theorem qB {a:Ef}{env:Ev}{st:Sto}{m:Nat}{f:Nat->Nat} (h:a env st=some (.d (.lst (mpI m (nI f))),st)):gu (aa a ae) env st=some ((qah m).map λi=>D.tup [.int ((i:Nat):Int),.int (nI f i)],st):=by
 have:=ac (b:=ae) h rfl
 rw[<-pv]
 simp only[gu,this,qab]
theorem nB {m:Nat}{g:Nat->D}{i:Nat}{d:D} (h:((qah m).map g)[i]?=some d):i<m/\d=g i:=by
 rw[qaS,qad]at h
 obtain⟨k,hk,rfl⟩:=h
 obtain⟨hi,hk'⟩:=qao.mp hk
 rw[qfX]at hk'
 rw[qap]at hi
 exact⟨hi,by rw[hk']⟩
theorem jS:∀ ns:List Int,tV (ns.map D.int)=true
 |[]=>rfl
 |n::ns=>jS ns
theorem wF (n:Nat) (f:Nat->Int):okT (.tup (mpI n f))=true:=by
 rw[cL];exact jS _
section
variable {P:Pb}{S:Tb}{st:Sto}
theorem Bq (h:Okt P S):iY [.d (obD P S)] st=some (.d (.lst (mpI P.n λk=>acc S.kept (λi=>S.T i P.n) P.m k)),st):=by
 have hm:=h.m64
 have hn:=h.n64
 generalize hy:(λi=>S.T i P.n)=y
 have v0:∀ (a b c:Option W) (s:Sto),iV 0 [some (.d (obD P S)),a,b,c] s=some (.d (obD P S),s):=λ_ _ _ _=>rfl
 have s1:=lN (st:=st) (dM (v0 none none none st)) (by lia) S.kept y 0
 obtain⟨env',s2,e2,⟨o2,o3,rfl⟩,rfl⟩:=fm (g:=.tp [2,3]) (body:=jm) (ds:=(qah P.m).map λi=>D.tup [.int ((i:Nat):Int),.int (nI S.kept i)])
  (λi env s=>(∃ o2 o3,env=[some (.d (obD P S)),some (.h st.length),o2,o3])/\s=st++[.l (mpI P.n λr=>acc S.kept y i (0+r))])
  (env:=[some (.d (obD P S)),some (.h st.length),none,none]) (st:=st++[.l (mpI P.n λr=>acc S.kept y 0 (0+r))]) ⟨⟨_,_,rfl⟩,rfl⟩ (λi d env s hd ⟨⟨o2,o3,e⟩,es⟩=>by
   subst e es
   obtain⟨hi,rfl⟩:=nB hd
   refine⟨_,_,_,rfl,.inl ?_,⟨some (.d (.int ((i:Nat):Int))),some (.d (.int (nI S.kept i))),rfl⟩,rfl⟩
   generalize hX:(mpI P.n λr=>acc S.kept y i (0+r))=xs
   have tl:bh dLt (iV 3) (aw ("amounts" : Str) (iV 0)) [some (.d (obD P S)),some (.h st.length),some (.d (.int ((i:Nat):Int))),some (.d (.int (nI S.kept i)))] (st++[.l xs])=some (decide (nI S.kept i<(P.n:Int)),st++[.l xs]):=aV rfl (dM (v0 _ _ _ _)) (oM _ _ _)
   by_cases hk:S.kept i<P.n
   ·rw[decide_eq_true (by show ((S.kept i:Nat):Int)<_;lia)]at tl
    have hv:iOp dIx (iOp dIx (aw ("lines" : Str) (iV 0)) (iV 2)) (iUn mq (iC (.int 1))) [some (.d (obD P S)),some (.h st.length),some (.d (.int ((i:Nat):Int))),some (.d (.int (nI S.kept i)))] (st++[.l xs])=some (.d (.int (y i)),st++[.l xs]):=by
     rw[<-hy]
     exact ai (ai (fC (v0 _ _ _ _)) rfl (rM _ hi)) rfl (u5 _)
    have:=sIx (k:=S.kept i) hv (o:=iV 1) (i:=iV 3) rfl rfl (by rw[<-hX,bF];exact hk)
    rw[<-hX]at this ⊢ tl
    rw[<-uH (d:=0) (N:=P.n) (e:=S.kept) (y:=y) (i:=i) (by lia) λj hj e=>by have:=jr h.good (by lia) hi e;lia]
    exact cU tl this
   ·rw[decide_eq_false (by show ¬ ((S.kept i:Nat):Int)<_;lia)]at tl
    rw[<-sJ (d:=0) (N:=P.n) (e:=S.kept) (y:=y) (i:=i) λr hr=>by lia,hX]
    exact cy tl rfl)
 rw[qam,qap]at e2
 have:=mG (n:=4) (k:=1) (b:=gy) (ws:=[.d (obD P S)]) (st:=st) (h:=st.length) rfl (au (aE s1) (au (cQ (qB (pK (v0 _ _ _ _))) e2) rfl)) (qal _) (kG _ _)
 rw[qdP]at this
 simp only[qbN]at this
 exact this
def pr (P:Pb) (S:Tb) (i r:Nat):Int:=if ∃ c,c<i/\S.free c=P.n+r then ZV P S (r+1) else 0
theorem Bk (h:Okt P S) (hg:∀ r,r<P.m->P.g (P.n+r)=0):ji [.d (obD P S)] st=some (.d (.lst (mpI P.m λr=>ZV P S (r+1))),st):=by
 have hm:=h.m64
 have hn:=h.n64
 have v0:∀ (a b c:Option W) (s:Sto),iV 0 [some (.d (obD P S)),a,b,c] s=some (.d (obD P S),s):=λ_ _ _ _=>rfl
 have hz:(mpI P.m λr=>acc S.free S.G 0 (0+r))=mpI P.m λr=>pr P S 0 r:=cu λr _=>by
  unfold pr
  rw[if_neg λ⟨c,hc,_⟩=>by lia];rfl
 have hlen:iCB bf (aa (aw ("lines" : Str) (iV 0)) ae) [some (.d (obD P S)),none,none,none] st=some (.d (.int ((P.m:Nat):Int)),st):=by
  have:=aC (g:=bf) (ac (b:=ae) (fC (v0 none none none st)) rfl) (le _ _)
  rw[eN]at this
  exact this
 have s1:=lN (st:=st) hlen (by lia) S.free S.G 0
 rw[hz]at s1
 obtain⟨env',s2,e2,⟨o2,o3,rfl⟩,rfl⟩:=fm (g:=.tp [2,3]) (body:=kj) (ds:=(qah P.n).map λi=>D.tup [.int ((i:Nat):Int),.int (nI S.free i)])
  (λi env s=>(∃ o2 o3,env=[some (.d (obD P S)),some (.h st.length),o2,o3])/\s=st++[.l (mpI P.m λr=>pr P S i r)])
  (env:=[some (.d (obD P S)),some (.h st.length),none,none]) (st:=st++[.l (mpI P.m λr=>pr P S 0 r)]) ⟨⟨_,_,rfl⟩,rfl⟩ (λi d env s hd ⟨⟨o2,o3,e⟩,es⟩=>by
   subst e es
   obtain⟨hi,rfl⟩:=nB hd
   refine⟨_,_,_,rfl,.inl ?_,⟨some (.d (.int ((i:Nat):Int))),some (.d (.int (nI S.free i))),rfl⟩,rfl⟩
   have hb:=h.named.bound.1 i hi
   generalize hX:(mpI P.m λr=>pr P S i r)=xs
   have tl:bh dGe (iV 3) (aw ("amounts" : Str) (iV 0)) [some (.d (obD P S)),some (.h st.length),some (.d (.int ((i:Nat):Int))),some (.d (.int (nI S.free i)))] (st++[.l xs])=some (decide (nI S.free i>=(P.n:Int)),st++[.l xs]):=aV rfl (dM (v0 _ _ _ _)) (wl _ _ _)
   by_cases hk:P.n<=S.free i
   ·rw[decide_eq_true (by show ((S.free i:Nat):Int)>=_;lia)]at tl
    have ho:iOp oi (iV 3) (aw ("amounts" : Str) (iV 0)) [some (.d (obD P S)),some (.h st.length),some (.d (.int ((i:Nat):Int))),some (.d (.int (nI S.free i)))] (st++[.l xs])=some (.d (.int ((S.free i - P.n:Nat):Int)),st++[.l xs]):=by
     rw[show ((S.free i - P.n:Nat):Int)=nI S.free i - (P.n:Int) by show _=((S.free i:Nat):Int) - _;lia]
     exact ai rfl (dM (v0 _ _ _ _)) rfl
    have hv:iOp dIx (aw ("goal" : Str) (iV 0)) (iV 2) [some (.d (obD P S)),some (.h st.length),some (.d (.int ((i:Nat):Int))),some (.d (.int (nI S.free i)))] (st++[.l xs])=some (.d (.int (S.G i)),st++[.l xs]):=ai (mI (v0 _ _ _ _)) rfl (gT _ (by lia))
    have:=sIx (k:=S.free i - P.n) hv (o:=iV 1) (i:=iOp oi (iV 3) (aw ("amounts" : Str) (iV 0))) rfl ho (by rw[<-hX,bF];lia)
    have eX:xs.set (S.free i - P.n) (.int (S.G i))=mpI P.m λr=>pr P S (i+1) r:=by
     rw[<-hX,i5]
     refine cu λr hr=>?_
     by_cases er:r=S.free i - P.n
     ·rw[if_pos er]
      unfold pr
      rw[if_pos ⟨i,by lia,by lia⟩]
      exact (Sx.price_free h.good h.named hg hr hi (by lia)).symm
     ·rw[if_neg er]
      unfold pr
      by_cases ex:∃ c,c<i/\S.free c=P.n+r
      ·rw[if_pos ex];obtain⟨c,h1,h2⟩:=ex;rw[if_pos ⟨c,by lia,h2⟩]
      ·rw[if_neg ex,if_neg λ⟨c,h1,h2⟩=>ex ⟨c,by
        by_cases z:c=i
        ·subst z;lia
        ·lia,h2⟩]
    rw[<-eX]
    exact cU tl this
   ·rw[decide_eq_false (by show ¬ ((S.free i:Nat):Int)>=_;lia)]at tl
    have eX:xs=mpI P.m λr=>pr P S (i+1) r:=by
     rw[<-hX]
     refine cu λr hr=>?_
     unfold pr
     by_cases ex:∃ c,c<i/\S.free c=P.n+r
     ·rw[if_pos ex];obtain⟨c,h1,h2⟩:=ex;rw[if_pos ⟨c,by lia,h2⟩]
     ·rw[if_neg ex,if_neg λ⟨c,h1,h2⟩=>ex ⟨c,by
        by_cases z:c=i
        ·subst z;lia
        ·lia,h2⟩]
    rw[<-eX]
    exact cy tl rfl)
 rw[qam,qap]at e2
 have:=mG (n:=4) (k:=1) (b:=ie) (ws:=[.d (obD P S)]) (st:=st) (h:=st.length) rfl (au (aE s1) (au (cQ (qB (mJ (v0 _ _ _ _))) e2) rfl)) (qal _) (kG _ _)
 rw[qdP]at this
 rw[cu (f:=λr=>pr P S P.n r) (g:=λr=>ZV P S (r+1)) λr hr=>by
  unfold pr
  by_cases ex:∃ c,c<P.n/\S.free c=P.n+r
  ·rw[if_pos ex]
  ·rw[if_neg ex]
   rcases h.named.all (P.n+r) (by lia) with hc|⟨j,hj,e⟩
   ·exact absurd hc ex
   ·exact (Sx.price_kept h.good h.named hg hr hj e).symm]at this
 exact this
theorem Bs (h:Okt P S) {e:Nat} (he:e<P.n) (ht:∀ i,i<P.m->S.T i e<=0) (hp:∃ k,k<P.n/\Sx.wayN P S e k≠0):∃ g:Int,0<g/\(∀ k,k<P.n->g∣Sx.wayN P S e k)/\(∀ k,k<P.n->Sm (Sx.wayN P S e k))/\kT [.d (obD P S),.d (.int (e:Int))] []=some (.d (.tup (mpI P.n λk=>Sx.wayN P S e k / g)),[]):=by
 have hm:=h.m64
 have hn:=h.n64
 have v0:∀ (a b c d:Option W) (s:Sto),iV 0 [some (.d (obD P S)),a,b,c,d] s=some (.d (obD P S),s):=λ_ _ _ _ _=>rfl
 have hnk:∀ i,i<P.m->S.kept i≠S.free e:=λi hi e1=>by
  have h1:=h.good.entry (c:=e) (by lia) hi
  have h2:colV P S e=basis P S i:=by unfold colV basis;rw[if_pos he,e1]
  rw[h2,Sx.upd_self,<-h.good.dt]at h1
  have:=ht i hi
  have:=h.good.pos
  lia
 generalize hy:(λi=>- S.T i e)=y
 have hw:∀ k,Sx.wayN P S e k=if k=S.free e then S.p else acc S.kept y P.m k:=λk=>by
  show Sx.byName P S (λi=>- S.T i e) k+(if S.free e=k then S.p else 0)=_
  rw[hy]
  by_cases hk:k=S.free e
  ·rw[if_pos hk,if_pos hk.symm,Sx.byName_not λi hi=>by rw[hk];exact hnk i hi];lia
  ·rw[if_neg hk,if_neg (qbu hk)]
   show acc S.kept y P.m k+0=_
   lia
 have s1:=lN (st:=[]) (dM (v0 (some (.d (.int (e:Int)))) none none none [])) (by lia) S.kept y 0
 obtain⟨env',s2,e2,⟨o2,o3,rfl⟩,rfl⟩:=fm (g:=.tp [3,4]) (body:=mV) (ds:=(qah P.m).map λi=>D.tup [.int ((i:Nat):Int),.int (nI S.kept i)])
  (λi env s=>(∃ o2 o3,env=[some (.d (obD P S)),some (.d (.int (e:Int))),some (.h 0),o2,o3])/\s=[]++[.l (mpI P.n λr=>acc S.kept y i (0+r))])
  (env:=[some (.d (obD P S)),some (.d (.int (e:Int))),some (.h 0),none,none]) (st:=[]++[.l (mpI P.n λr=>acc S.kept y 0 (0+r))]) ⟨⟨_,_,rfl⟩,rfl⟩ (λi d env s hd ⟨⟨o2,o3,e0⟩,es⟩=>by
   subst e0 es
   obtain⟨hi,rfl⟩:=nB hd
   refine⟨_,_,_,rfl,.inl ?_,⟨some (.d (.int ((i:Nat):Int))),some (.d (.int (nI S.kept i))),rfl⟩,rfl⟩
   generalize hX:(mpI P.n λr=>acc S.kept y i (0+r))=xs
   have tl:bh dLt (iV 4) (aw ("amounts" : Str) (iV 0)) [some (.d (obD P S)),some (.d (.int (e:Int))),some (.h 0),some (.d (.int ((i:Nat):Int))),some (.d (.int (nI S.kept i)))] ([]++[.l xs])=some (decide (nI S.kept i<(P.n:Int)),[]++[.l xs]):=aV rfl (dM (v0 _ _ _ _ _)) (oM _ _ _)
   by_cases hk:S.kept i<P.n
   ·rw[decide_eq_true (by show ((S.kept i:Nat):Int)<_;lia)]at tl
    have hv:iUn mq (iOp dIx (iOp dIx (aw ("lines" : Str) (iV 0)) (iV 3)) (iV 1)) [some (.d (obD P S)),some (.d (.int (e:Int))),some (.h 0),some (.d (.int ((i:Nat):Int))),some (.d (.int (nI S.kept i)))] ([]++[.l xs])=some (.d (.int (y i)),[]++[.l xs]):=by
     rw[<-hy]
     have:=ai (g:=dIx) (ai (g:=dIx) (fC (v0 (some (.d (.int (e:Int)))) (some (.h 0)) (some (.d (.int ((i:Nat):Int)))) (some (.d (.int (nI S.kept i)))) ([]++[C.l xs]))) (b:=iV 3) rfl (rM _ hi)) (b:=iV 1) rfl (sD (c:=e) _ (by lia))
     simp only[iUn,this,qab];rfl
    have:=sIx (st:=[]) (k:=S.kept i) hv (o:=iV 2) (i:=iV 4) rfl rfl (by rw[<-hX,bF];exact hk)
    rw[<-hX]at this ⊢ tl
    rw[<-uH (d:=0) (N:=P.n) (e:=S.kept) (y:=y) (i:=i) (by lia) λj hj e=>by have:=jr h.good (by lia) hi e;lia]
    exact cU tl this
   ·rw[decide_eq_false (by show ¬ ((S.kept i:Nat):Int)<_;lia)]at tl
    rw[<-sJ (d:=0) (N:=P.n) (e:=S.kept) (y:=y) (i:=i) λr hr=>by lia,hX]
    exact cy tl rfl)
 rw[qam,qap]at e2
 have s3:ca (bh dLt (iOp dIx (aw ("free" : Str) (iV 0)) (iV 1)) (aw ("amounts" : Str) (iV 0))) (cn (iV 2) (iOp dIx (aw ("free" : Str) (iV 0)) (iV 1)) (aw ("part" : Str) (iV 0))) bm [some (.d (obD P S)),some (.d (.int (e:Int))),some (.h 0),o2,o3] ([]++[.l (mpI P.n λr=>acc S.kept y P.m (0+r))])=some (.nx [some (.d (obD P S)),some (.d (.int (e:Int))),some (.h 0),o2,o3] ([]++[.l (mpI P.n λk=>Sx.wayN P S e k)])):=by
  have qf:∀ s,iOp dIx (aw ("free" : Str) (iV 0)) (iV 1) [some (.d (obD P S)),some (.d (.int (e:Int))),some (.h 0),o2,o3] s=some (.d (.int (nI S.free e)),s):=λs=>ai (mJ (v0 _ _ _ _ _)) rfl (gT _ he)
  generalize hX:(mpI P.n λr=>acc S.kept y P.m (0+r))=xs
  have tl:bh dLt (iOp dIx (aw ("free" : Str) (iV 0)) (iV 1)) (aw ("amounts" : Str) (iV 0)) [some (.d (obD P S)),some (.d (.int (e:Int))),some (.h 0),o2,o3] ([]++[.l xs])=some (decide (nI S.free e<(P.n:Int)),[]++[.l xs]):=aV (qf _) (dM (v0 _ _ _ _ _)) (oM _ _ _)
  by_cases hk:S.free e<P.n
  ·rw[decide_eq_true (by show ((S.free e:Nat):Int)<_;lia)]at tl
   have:=sIx (st:=[]) (k:=S.free e) (mD (v0 (some (.d (.int (e:Int)))) (some (.h 0)) o2 o3 ([]++[C.l xs]))) (o:=iV 2) (i:=iOp dIx (aw ("free" : Str) (iV 0)) (iV 1)) rfl (qf _) (by rw[<-hX,bF];exact hk)
   have eX:xs.set (S.free e) (.int S.p)=mpI P.n λk=>Sx.wayN P S e k:=by
    rw[<-hX,i5]
    refine cu λk _=>?_
    rw[hw k,qbN]
   rw[eX]at this
   exact cU tl this
  ·rw[decide_eq_false (by show ¬ ((S.free e:Nat):Int)<_;lia)]at tl
   have eX:xs=mpI P.n λk=>Sx.wayN P S e k:=by
    rw[<-hX]
    refine cu λk hk'=>?_
    rw[hw k,qbN,if_neg (by lia)]
   rw[<-eX]
   exact cy tl rfl
 obtain⟨k0,hk0,hk1⟩:=hp
 have hsm:∀ x∈(qah P.n).map (Sx.wayN P S e),Sm x:=λx hx=>by
  obtain⟨k,hk,rfl⟩:=qa7.mp hx
  rw[hw k]
  by_cases z:k=S.free e
  ·rw[if_pos z];exact h.sp
  ·rw[if_neg z]
   by_cases ex:∃ i,i<P.m/\S.kept i=k
   ·obtain⟨i,hi,rfl⟩:=ex
    have:acc S.kept y P.m (S.kept i)=y i:=Sx.byName_at (λi j hi hj=>jr h.good hi hj) hi
    rw[this,<-hy]
    show (- S.T i e).natAbs<_
    rw[Int.natAbs_neg]
    exact h.sT i e hi (by lia)
   ·rw[pN λj hj e=>ex ⟨j,hj,e⟩]
    exact qfS (by decide)
 have hlo:=ug (st:=[]) hsm ⟨_,qa7.mpr ⟨k0,qaG.mpr hk0,rfl⟩,hk1⟩ (by rw[qam,qap];lia)
 obtain⟨g0,g1⟩:=tD (ns:=(qah P.n).map (Sx.wayN P S e)) (qa7.mpr ⟨k0,qaG.mpr hk0,rfl⟩) hk1 (hsm _ (qa7.mpr ⟨k0,qaG.mpr hk0,rfl⟩))
 have gd:∀ k,k<P.n->((gW 0 ((qah P.n).map (Sx.wayN P S e)):Nat):Int)∣Sx.wayN P S e k:=λk hk=>qgb.mpr ((kY 0 _).2 _ (qa7.mpr ⟨k,qaG.mpr hk,rfl⟩))
 generalize hG:((gW 0 ((qah P.n).map (Sx.wayN P S e)):Nat):Int)=g at *
 refine⟨g,g0,gd,λk hk=>hsm _ (qa7.mpr ⟨k,qaG.mpr hk,rfl⟩),?_⟩
 rw[<-cL,qbi,qbi]at hlo
 have hc:gv iL (aa (iV 2) ae) [some (.d (obD P S)),some (.d (.int (e:Int))),some (.h 0),o2,o3] ([]++[.l (mpI P.n λk=>Sx.wayN P S e k)])=some (.d (.tup (mpI P.n λk=>Sx.wayN P S e k / g)),[]++[.l (mpI P.n λk=>Sx.wayN P S e k)]):=by
  have ha:aa (iV 2) ae [some (.d (obD P S)),some (.d (.int (e:Int))),some (.h 0),o2,o3] ([]++[.l (mpI P.n λk=>Sx.wayN P S e k)])=some ([.h 0],[]++[.l (mpI P.n λk=>Sx.wayN P S e k)]):=rfl
  have hvw:vwA ([]++[.l (mpI P.n λk=>Sx.wayN P S e k)]) [.h 0]=some [.d (.lst (mpI P.n λk=>Sx.wayN P S e k))]:=rfl
  have hl2:iL [.d (.lst (mpI P.n λk=>Sx.wayN P S e k))] []=some (.d (.tup (mpI P.n λk=>Sx.wayN P S e k / g)),[]):=hlo
  simp only[gv,ha,qab,hvw,hl2]
  rw[if_pos]
  exact wF _ _
 have:=nW (n:=5) (k:=2) (b:=kO) (ws:=[.d (obD P S),.d (.int (e:Int))]) (st:=[]) rfl (au (aE s1) (au (cQ (qB (pK (v0 _ _ _ _ _))) e2) (au s3 (aY hc))))
 exact this
end
end Own
set_option maxHeartbeats 1000000
namespace Own
open PySem L2
open Sx (Pb Tb Good Named Fe LV ZV piv lexP leastR leaveL sumN unit colV basis)
theorem nQ {m:Fn}{a:Af}{env:Ev}{st:Sto}{ws vs:List W}{x:D} (ha:a env st=some (ws,st)) (hv:vwA st ws=some vs) (hm:m vs []=some (.d x,[])) (hx:okT x=true):gv m a env st=some (.d x,st):=by
 simp only[gv,ha,qab,hv,hm]
 rw[if_pos hx]
structure Pd (P:Pb):Prop where
 bd:Sx.Bd P
 hA:∀ k,k<P.n+P.m->∀ t,P.m<=t->P.A k t=0
 hb:∀ t,P.m<=t->P.b t=0
 hg:∀ r,r<P.m->P.g (P.n+r)=0
section
variable {P:Pb}{S:Tb}
theorem Pd.okt (d:Pd P) (g:Good P S) (n:Named P S):Okt P S:=A9 d.bd g n
theorem Pd.kept (d:Pd P) (n:Named P S):∀ i,i<P.m->∀ t,P.m<=t->P.A (S.kept i) t=0:=λi hi t ht=>d.hA _ (n.bound.2 i hi) t ht
theorem CG (g:Good P S) (f:Fe P S):∀ i,i<P.m->0<=S.T i P.n:=λi hi=>by
 have h1:=Sx.lexP_first (by lia) (f i hi)
 rw[g.entry (qal _) hi]
 have:colV P S P.n=Sx.XV P 0:=by unfold colV Sx.XV;rw[if_neg (qaX _),if_pos rfl]
 rw[this]
 exact h1
structure xv (P:Pb) (p:Int) (am pr:Nat->Int):Prop where
 p1:1<=p
 am0:∀ k,k<P.n->0<=am k
 pr0:∀ r,r<P.m->0<=pr r
 rows:∀ r,r<P.m->(sumN P.n λj=>am j*P.A j r)<=p*P.b r
 cols:∀ j,j<P.n->p*P.g j<=sumN P.m λr=>P.A j r*pr r
 same:(sumN P.m λr=>P.b r*pr r)=sumN P.n λj=>am j*P.g j
 sp:Sm p
 sa:∀ k,k<P.n->Sm (am k)
 sr:∀ r,r<P.m->Sm (pr r)
structure nY (P:Pb) (way:Nat->Int):Prop where
 w0:∀ k,k<P.n->0<=way k
 rows:∀ r,r<P.m->(sumN P.n λj=>way j*P.A j r)<=0
 gain:0<sumN P.n λj=>way j*P.g j
 sw:∀ k,k<P.n->Sm (way k)
theorem nH {g a:Int} (h:g∣a):g*(a / g)=a:=Int.mul_ediv_cancel' h
theorem pO {n:Nat}{g:Int}{f h:Nat->Int} (hd:∀ k,k<n->g∣f k):g*(sumN n λk=>f k / g*h k)=sumN n λk=>f k*h k:=by
 rw[<-Sx.sumN_mul]
 refine Sx.sumN_congr λk hk=>?_
 rw[<-qbt,nH (hd k hk)]
theorem ve {n:Nat}{g:Int}{f h:Nat->Int} (hd:∀ k,k<n->g∣f k):g*(sumN n λk=>h k*(f k / g))=sumN n λk=>h k*f k:=by
 rw[<-Sx.sumN_mul]
 refine Sx.sumN_congr λk hk=>?_
 rw[qaP,nH (hd k hk)]
theorem BX (h:Okt P S) (hg:∀ r,r<P.m->P.g (P.n+r)=0) (hG:∀ c,c<P.n->0<=S.G c) {r:Nat} (hr:r<P.m):Sm (ZV P S (r+1))/\0<=ZV P S (r+1):=by
 rcases h.named.all (P.n+r) (by lia) with⟨c,hc,e⟩|⟨j,hj,e⟩
 ·rw[Sx.price_free h.good h.named hg hr hc e];exact⟨h.sG c (by lia),hG c hc⟩
 ·rw[Sx.price_kept h.good h.named hg hr hj e];exact⟨qfS (by decide),qdA _⟩
theorem Bn (h:Okt P S) (k:Nat):Sm (acc S.kept (λi=>S.T i P.n) P.m k):=by
 by_cases ex:∃ i,i<P.m/\S.kept i=k
 ·obtain⟨i,hi,rfl⟩:=ex
  have:acc S.kept (λi=>S.T i P.n) P.m (S.kept i)=S.T i P.n:=Sx.byName_at (λi j hi hj=>jr h.good hi hj) hi
  rw[this]
  exact h.sT i P.n hi (qal _)
 ·rw[pN λj hj e=>ex ⟨j,hj,e⟩]
  exact qfS (by decide)
theorem tK {g a b:Int} (g0:0<g) (h:g*a<=g*b):a<=b:=Int.le_of_mul_le_mul_left h g0
theorem Sm.dv {a:Int} (h:Sm a) (q:Int):Sm (a / q):=qbS (Int.natAbs_ediv_le_natAbs a q) h
theorem Cr (d:Pd P) (g:Good P S) (n:Named P S) (f:Fe P S) (hG:∀ c,c<P.n->0<=S.G c):∃ p am pr,xv P p am pr/\iQ [.d (obD P S)] []=some (.d (.tup [.str "most",.int p,.tup (mpI P.n am),.tup (mpI P.m pr)]),[]):=by
 have h:=d.okt g n
 have hm:=h.m64
 have hn:=h.n64
 have hT:=CG g f
 have e1:=Bq (st:=[]) h
 have e2:=Bk (st:=[]) h d.hg
 have hg:=d.hg
 have M1:=λr hr=>Sx.amounts_ok g n hT (r:=r) hr
 have M2:=Sx.gains_amounts g n d.hg
 have M3:=λj hj=>Sx.prices_ok g n d.hA hG (j:=j) hj
 have M4:=Sx.bounds_prices g d.hb
 have M5:∀ k,0<=acc S.kept (λi=>S.T i P.n) P.m k:=λk=>Sx.byName_nonneg (P:=P) (S:=S) (y:=λi=>S.T i P.n) hT k
 have M6:=Bn h
 have M7:=λr hr=>BX h d.hg hG (r:=r) hr
 have M8:(λj=>Sx.byName P S (λi=>S.T i P.n) j)=acc S.kept (λi=>S.T i P.n) P.m:=rfl
 have M9:∀ j,Sx.byName P S (λi=>S.T i P.n) j=acc S.kept (λi=>S.T i P.n) P.m j:=λ_=>rfl
 simp only[M9]at M1 M2
 generalize acc S.kept (λi=>S.T i P.n) P.m=am at *
 generalize hpr:(λr=>ZV P S (r+1))=pr at *
 have hpr':∀ r,ZV P S (r+1)=pr r:=λr=>by rw[<-hpr]
 simp only[hpr']at M3 M4 M7
 have hns:D.int S.p::(mpI P.n am++mpI P.m pr)=(S.p::((qah P.n).map am++(qah P.m).map pr)).map D.int:=by
  rw[qaB,qc2,cL,cL]
 have hsm:∀ x∈S.p::((qah P.n).map am++(qah P.m).map pr),Sm x:=λx hx=>by
  rcases qar.mp hx with rfl|hx
  ·exact h.sp
  ·rcases qaM.mp hx with hx|hx
   ·obtain⟨k,_,rfl⟩:=qa7.mp hx;exact M6 k
   ·obtain⟨k,hk,rfl⟩:=qa7.mp hx;exact (M7 k (qaG.mp hk)).1
 have e3:=qR (st:=[]) hsm
 have hp:=g.pos
 obtain⟨q0,q1⟩:=tD (ns:=S.p::((qah P.n).map am++(qah P.m).map pr)) qaf (by lia) h.sp
 have qd:∀ x∈S.p::((qah P.n).map am++(qah P.m).map pr),((gW 0 (S.p::((qah P.n).map am++(qah P.m).map pr)):Nat):Int)∣x:=λx hx=>qgb.mpr ((kY 0 _).2 _ hx)
 rw[<-hns]at e3
 generalize ((gW 0 (S.p::((qah P.n).map am++(qah P.m).map pr)):Nat):Int)=q at *
 have dp:q∣S.p:=qd _ qaf
 have da:∀ k,k<P.n->q∣am k:=λk hk=>qd _ (qaj _ (qaY _ (qa7.mpr ⟨k,qaG.mpr hk,rfl⟩)))
 have dr:∀ k,k<P.m->q∣pr k:=λk hk=>qd _ (qaj _ (qau _ (qa7.mpr ⟨k,qaG.mpr hk,rfl⟩)))
 refine⟨S.p / q,λk=>am k / q,λr=>pr r / q,⟨?_,λk _=>qdK (M5 k) (by lia),λr hr=>qdK (M7 r hr).2 (by lia),λr hr=>?_,λj hj=>?_,?_,h.sp.dv _,λk _=>(M6 k).dv _,λr hr=>(M7 r hr).1.dv _⟩,?_⟩
 ·have:=nH dp
  rcases Int.lt_or_le (S.p / q) 1 with z|z
  ·have:q*(S.p / q)<=q*0:=Int.mul_le_mul_of_nonneg_left (by lia) (by lia)
   lia
  ·exact z
 ·refine tK q0 ?_
  rw[pO (h:=λj=>P.A j r) da,<-qbt,nH dp]
  exact M1 r hr
 ·refine tK q0 ?_
  rw[ve (h:=λr=>P.A j r) dr,<-qbt,nH dp]
  exact M3 j hj
 ·refine qdn (a:=q) (by lia) ?_
  rw[ve (h:=λr=>P.b r) dr,pO (h:=λj=>P.g j) da,M4,M2]
 ·have v0:∀ (a b c:Option W) (s:Sto),iV 0 [some (.d (obD P S)),a,b,c] s=some (.d (obD P S),s):=λ_ _ _ _=>rfl
  have ka:lcI (.nm 0) bn ft [none,some (.d (.int q))] (mpI P.n am) []=some (mpI P.n λk=>am k / q,[]):=by
   have:=um (te:=ft) (st:=[]) (ns:=(qah P.n).map am) q0 q1 rfl
   rw[<-cL,qbi,qbi]at this
   exact this
  have kr:lcI (.nm 0) bn fz [none,some (.d (.int q))] (mpI P.m pr) []=some (mpI P.m λk=>pr k / q,[]):=by
   have:=um (te:=fz) (st:=[]) (ns:=(qah P.m).map pr) q0 q1 rfl
   rw[<-cL,qbi,qbi]at this
   exact this
  have la:(mpI P.n am).length<=1000000:=by rw[bF];lia
  have lr:(mpI P.m pr).length<=1000000:=by rw[bF];lia
  have ls1:[D.int S.p].length+(mpI P.n am).length<=1000000:=by rw[bF];show 1+_<=_;lia
  have ls2:([D.int S.p]++mpI P.n am).length+(mpI P.m pr).length<=1000000:=by rw[qan,bF,bF];show 1+_+_<=_;lia
  generalize mpI P.n am=AM at *
  generalize mpI P.m pr=PR at *
  generalize (mpI P.n λk=>am k / q)=AQ at *
  generalize (mpI P.m λk=>pr k / q)=RQ at *
  have s3:aN (.nm 3) (av du (aa (iOp cg (iOp cg (aA (cf (aa (aw ("part" : Str) (iV 0)) ae))) (iV 1)) (iV 2)) ae)) [some (.d (obD P S)),some (.d (.lst AM)),some (.d (.lst PR)),none] []=some (.nx [some (.d (obD P S)),some (.d (.lst AM)),some (.d (.lst PR)),some (.d (.int q))] []):=by
   have hl:cf (aa (aw ("part" : Str) (iV 0)) ae) [some (.d (obD P S)),some (.d (.lst AM)),some (.d (.lst PR)),none] []=some ([.int S.p],[]):=by
    have:=ac (b:=ae) (mD (v0 (some (.d (.lst AM))) (some (.d (.lst PR))) none [])) rfl
    simp only[cf,this,qab];rfl
   exact aE (aq (ac (ai (ai (aL hl) rfl (iz _ ls1)) rfl (iz _ ls2)) rfl) e3)
  have s4:bE (aa (iC (.str "most")) (aa (iOp mS (aw ("part" : Str) (iV 0)) (iV 3)) (aa (iCB jE (aa (aA (iLc 1 [3] (bj (iV 1)) (.nm 0) bn ft)) ae)) (aa (iCB jE (aa (aA (iLc 1 [3] (bj (iV 2)) (.nm 0) bn fz)) ae)) ae)))) [some (.d (obD P S)),some (.d (.lst AM)),some (.d (.lst PR)),some (.d (.int q))] []=some (.d (.tup [.str "most",.int (S.p / q),.tup AQ,.tup RQ]),[]):=
   vB (ac rfl (ac (ai (mD (v0 _ _ _ _)) rfl (tM _ q0 q1)) (ac (aC (ac (aL (cm (cD rfl) la ka)) rfl) rfl) (ac (aC (ac (aL (cm (cD rfl) lr kr)) rfl) rfl) rfl)))) rfl (by show 4<=1000;decide)
  exact az (n:=4) (k:=1) (b:=gB) rfl (au (aE (aq (ac (v0 _ _ _ _) rfl) e1)) (au (aE (aq (ac (v0 _ _ _ _) rfl) e2)) (au s3 (aY s4))))
theorem Bz (d:Pd P) (g:Good P S) (n:Named P S) {e:Nat} (he:e<P.n) (ht:∀ i,i<P.m->S.T i e<=0) (hG:S.G e<0):∃ way,nY P way/\kT [.d (obD P S),.d (.int (e:Int))] []=some (.d (.tup (mpI P.n way)),[]):=by
 have h:=d.okt g n
 have W1:=Sx.way_gains g n d.hg he hG
 have hp:∃ k,k<P.n/\Sx.wayN P S e k≠0:=by
  by_cases z:∃ k,k<P.n/\Sx.wayN P S e k≠0
  ·exact z
  ·exfalso
   rw[Sx.sumN_congr (g:=λ_=>0) λk hk=>by
    by_cases z':Sx.wayN P S e k=0
    ·rw[z',qcS]
    ·exact absurd ⟨k,hk,z'⟩ z,Sx.sumN_zero]at W1
   lia
 obtain⟨q,q0,qd,qs,ew⟩:=Bs h he ht hp
 refine⟨λk=>Sx.wayN P S e k / q,⟨λk _=>qdK (Sx.way_nonneg g ht k) (by lia),λr hr=>?_,?_,λk hk=>(qs k hk).dv _⟩,ew⟩
 ·refine tK q0 ?_
  rw[pO (h:=λj=>P.A j r) qd,qbc]
  exact Sx.way_rows g n he ht hr
 ·refine Int.lt_of_mul_lt_mul_left (a:=q) ?_ (by lia)
  rw[pO (h:=λj=>P.g j) qd,qbc]
  exact W1
end
end Own
set_option maxHeartbeats 1000000
namespace Own
open PySem L2
open Sx (Pb Tb Good Named Fe LV ZV piv lexP leastR leaveL sumN unit colV basis)
theorem Dc (n:Nat) (f:Nat->Int):okT (.tup [.str "beyond",.tup (mpI n f)])=true:=by
 simp only[okT,tV,cL,jS,qgS]
theorem Bo (n m:Nat) (p:Int) (f g:Nat->Int):okT (.tup [.str "most",.int p,.tup (mpI n f),.tup (mpI m g)])=true:=by
 simp only[okT,tV,cL,jS,qgS]
def B5 (P:Pb) (S:Tb) (x:D):Prop:=(∃ c,c<P.n/\S.G c<0/\(∀ i,i<P.m->S.T i c<=0)/\x=.tup [.int (c:Int),.non])\/(lF P S x/\(x=.non->∀ c,c<P.n->0<=S.G c))
section
variable {P:Pb}{S:Tb}
theorem xz (d:Pd P) (g:Good P S) (n:Named P S):∃ x,B5 P S x/\okT x=true/\cZ [.d (obD P S)] []=some (.d x,[]):=by
 rcases B6 (st:=[]) (d.okt g n) (d.kept n) with⟨c,hc,hg,ht,e⟩|⟨y,hy,hn,e⟩
 ·exact⟨_,.inl ⟨c,hc,hg,ht,rfl⟩,rfl,e⟩
 ·refine⟨y,.inr ⟨hy,hn⟩,?_,e⟩
  rcases hy with rfl|⟨c,r,_,_,_,_,_,_,rfl⟩<;>rfl
theorem lw {st0:Sto}{a b c o:Option W}{x:D} (e:cZ [.d (obD P S)] []=some (.d x,[])) (hx:okT x=true):gv cZ (aa (iV 3) ae) [a,b,c,some (.h (st0.length+2)),o] (stO st0 P S)=some (.d x,stO st0 P S):=
 nQ (ws:=[.h (st0.length+2)]) rfl (wR (ws:=[]) (ws':=[]) rfl) e hx
def ow (P:Pb) (f:Nat) (S:Tb) (x:D):Prop:=
 (∃ S' way,nY P way/\∀ (st0:Sto) (a b c:Option W),d9 iZ gY f [a,b,c,some (.h (st0.length+2)),some (.d x)] (stO st0 P S)=some (.rt (.d (.tup [.str "beyond",.tup (mpI P.n way)])) (stO st0 P S')))\/
 ∃ S',Good P S'/\Named P S'/\Fe P S'/\(∀ c,c<P.n->0<=S'.G c)/\∀ (st0:Sto) (a b c:Option W),d9 iZ gY f [a,b,c,some (.h (st0.length+2)),some (.d x)] (stO st0 P S)=some (.nx [a,b,c,some (.h (st0.length+2)),some (.d .non)] (stO st0 P S'))
theorem vn (d:Pd P):∀ (f:Nat) (V:List Nat) (S:Tb) (x:D),Good P S->Named P S->Fe P S->B5 P S x->V.Nodup->(∀ v∈V,v<(P.n+P.m)^P.m)->(∀ v∈V,∃ S',Good P S'/\Named P S'/\Sx.code (P.n+P.m) S'.kept P.m=v/\Sx.less P S' S)->(P.n+P.m)^P.m<f+V.length->ow P f S x
 |0,V,S,x,_,_,_,_,hV,hb,_,hf=>by
  have:=Sx.nodup_le _ V hV hb
  lia
 |f+1,V,S,x,hg,hn,hF,hx,hV,hb,hl,hf=>by
  have h:=d.okt hg hn
  rcases hx with⟨c,hc,hG,ht,rfl⟩|⟨hx,hxn⟩
  ·obtain⟨way,bw,ew⟩:=Bz d hg hn hc ht hG
   refine .inl ⟨S,way,bw,λst0 a b o=>?_⟩
   refine BF (s:=stO st0 P S) rfl (cX (cU (s:=stO st0 P S) rfl (aY (vB (ws:=[.d (.str "beyond"),.d (.tup (mpI P.n way))]) (ac rfl (ac ?_ rfl)) rfl (by show 2<=1000;decide)))))
   refine nQ (ws:=[.h (st0.length+2),.d (.int (c:Int))]) (ac rfl (ac (ai rfl rfl (kL _ _ _)) rfl)) (wR (ws:=[.d (.int (c:Int))]) (ws':=[.d (.int (c:Int))]) rfl) ew ?_
   exact wF _ _
  ·rcases hx with rfl|⟨c,r,hc,hG,_,hr,hT,hmin,rfl⟩
   ·exact .inr ⟨S,hg,hn,hF,hxn rfl,λst0 a b o=>zv rfl⟩
   ·obtain⟨g2,n2,f2,l2⟩:=Sx.step hg hn hF hc hr hT hG hmin
    obtain⟨y,sy,oy,ey⟩:=xz d g2 n2
    have hcode:∀ {S':Tb},Named P S'->∀ i,i<P.m->S'.kept i<P.n+P.m:=λn' i hi=>n'.bound.2 i hi
    have ih:=vn d f (Sx.code (P.n+P.m) S.kept P.m::V) (piv S r c) y g2 n2 f2 sy
     (qbX.mpr ⟨λhm=>by
       obtain⟨S',g',n',e',l'⟩:=hl _ hm
       exact Sx.less_kept g' hg l' (Sx.code_inj (hcode n') (hcode hn) e'),hV⟩)
     (λv hv=>by
       rcases qar.mp hv with rfl|hv
       ·exact Sx.code_lt (hcode hn)
       ·exact hb v hv)
     (λv hv=>by
       rcases qar.mp hv with rfl|hv
       ·exact⟨S,hg,hn,rfl,l2⟩
       ·obtain⟨S',g',n',e',l'⟩:=hl v hv
        exact⟨S',g',n',e',Sx.less_trans g'.pos hg.pos g2.pos l' l2⟩)
     (by rw[qas];lia)
    have key:∀ (st0:Sto) (a b o:Option W),gY [a,b,o,some (.h (st0.length+2)),some (.d (.tup [.int (c:Int),.int (r:Int)]))] (stO st0 P S)=some (.nx [a,b,o,some (.h (st0.length+2)),some (.d y)] (stO st0 P (piv S r c))):=λst0 a b o=>by
     have ed:kg (av fJ (aa (iV 3) (aa (iOp dIx (iV 4) (iC (.int 1))) (aa (iOp dIx (iV 4) (iC (.int 0))) ae)))) [a,b,o,some (.h (st0.length+2)),some (.d (.tup [.int (c:Int),.int (r:Int)]))] (stO st0 P S)=some (.nx [a,b,o,some (.h (st0.length+2)),some (.d (.tup [.int (c:Int),.int (r:Int)]))] (stO st0 P (piv S r c))):=by
      have:=aq (m:=fJ) (a:=aa (iV 3) (aa (iOp dIx (iV 4) (iC (.int 1))) (aa (iOp dIx (iV 4) (iC (.int 0))) ae))) (env:=[a,b,o,some (.h (st0.length+2)),some (.d (.tup [.int (c:Int),.int (r:Int)]))]) (st:=stO st0 P S) (ac rfl (ac (ai rfl rfl (lC _ _ _)) (ac (ai rfl rfl (kL _ _ _)) rfl))) (yK h hr hc)
      simp only[kg,this,qaD]
     exact au (cy (s:=stO st0 P S) rfl rfl) (au ed (aE (lw ey oy)))
    rcases ih with⟨S',way,bw,hw⟩|⟨S',gS,nS,fS,hS,hw⟩
    ·exact .inl ⟨S',way,bw,λst0 a b o=>wC (s:=stO st0 P S) rfl (key st0 a b o) (hw st0 a b o)⟩
    ·exact .inr ⟨S',gS,nS,fS,hS,λst0 a b o=>wC (s:=stO st0 P S) rfl (key st0 a b o) (hw st0 a b o)⟩
end
def oK (m n:Nat) (R:Nat->Nat->Int) (b g:Nat->Int):Pb where
 m:=m
 n:=n
 A:=λk t=>if k<n then (if t<m then R t k else 0) else unit (k - n) t
 b:=λt=>if t<m then b t else 0
 g:=λk=>if k<n then g k else 0
def xu (m n:Nat) (R:Nat->Nat->Int) (b g:Nat->Int):Tb:=Sx.tb0 (oK m n R b g) (λi c=>if c<n then R i c else b i) (λc=>if c<n then - g c else 0)
def bi (m n:Nat) (R:Nat->Nat->Int):D:=.tup ((qah m).map λi=>D.tup (mpI n (R i)))
structure Inp (m n:Nat) (R:Nat->Nat->Int) (b g:Nat->Int):Prop where
 m64:m<=64
 m8:m<=8
 n64:n<=100
 R:∀ i c,i<m->c<n->(R i c).natAbs<=2^50
 b:∀ i,i<m->(b i).natAbs<=2^50/\0<=b i
 g:∀ c,c<n->(g c).natAbs<=2^50
section
variable {m n:Nat}{R:Nat->Nat->Int}{b g:Nat->Int}
theorem zm (h:Inp m n R b g):Pd (oK m n R b g) where
 bd:={
  m64:=h.m8
  n64:=h.n64
  A:=λk _ t ht=>by
   show (if k<n then (if t<m then R t k else 0) else unit (k - n) t).natAbs<=_
   by_cases hk:k<n
   ·rw[if_pos hk,if_pos (show t<m from ht)];exact h.R t k ht hk
   ·rw[if_neg hk];exact Sx.unit_le _ _
  b:=λt ht=>by
   show (if t<m then b t else 0).natAbs<=_
   rw[if_pos (show t<m from ht)];exact (h.b t ht).1
  g:=λk _=>by
   show (if k<n then g k else 0).natAbs<=_
   by_cases hk:k<n
   ·rw[if_pos hk];exact h.g k hk
   ·rw[if_neg hk];exact qb5 _ }
 hA:=λk hk t ht=>by
  have hk':k<n+m:=hk
  have ht':m<=t:=ht
  show (if k<n then (if t<m then R t k else 0) else unit (k - n) t)=0
  by_cases hkn:k<n
  ·rw[if_pos hkn,if_neg (by lia)]
  ·rw[if_neg hkn];unfold unit;rw[if_neg (by lia)]
 hb:=λt ht=>if_neg (qgj.mpr ht)
 hg:=λr _=>if_neg (by show ¬ n+r<n;lia)
theorem x9 (h:Inp m n R b g):Good (oK m n R b g) (xu m n R b g)/\Named (oK m n R b g) (xu m n R b g)/\Fe (oK m n R b g) (xu m n R b g):=by
 have d:=zm h
 have:=Sx.good0 (P:=oK m n R b g) (T:=λi c=>if c<n then R i c else b i) (G:=λc=>if c<n then - g c else 0)
  (λr _=>by
    funext t
    show (if n+r<n then _ else unit (n+r - n) t)=_
    rw[if_neg (by lia),Nat.add_sub_cancel_left])
  (λk hk=>d.hA k (by show k<n+m;have:k<n:=hk;lia)) d.hb d.hg
  (λi c hi hc=>by
    show (if c<n then R i c else b i)=if c<n then (if i<m then R i c else 0) else _
    rw[if_pos (show c<n from hc),if_pos (show c<n from hc),if_pos (show i<m from hi)])
  (λi hi=>by
    show (if n<n then _ else b i)=if i<m then b i else 0
    rw[if_neg (qaX _),if_pos (show i<m from hi)])
  (λc hc=>by
    show (if c<n then - g c else 0)=- (if c<n then g c else 0)
    rw[if_pos (show c<n from hc),if_pos (show c<n from hc)])
  (by show (if n<n then _ else (0:Int))=0;rw[if_neg (qaX _)])
 refine⟨this.1,this.2.1,this.2.2 λt ht=>?_⟩
 show 0<=if t<m then b t else 0
 rw[if_pos (show t<m from ht)]
 exact (h.b t ht).2
theorem vb (f:Nat->Int) (x:Int):mpI n f++[.int x]=mpI (n+1) λc=>if c<n then f c else x:=by
 rw[se,if_neg (qaX _)]
 rw[cu (n:=n) (g:=λc=>if c<n then f c else x) λk hk=>by rw[if_pos hk]]
theorem wM (lo:Nat) (m:Nat):dn (lo:Int) m=mpI m (nI λi=>lo+i):=by
 unfold dn mpI
 refine qc1 λk _=>?_
 show D.int ((lo:Int)+(k:Int))=D.int (((lo+k:Nat)):Int)
 rw[Int.natCast_add]
theorem Cf {st0:Sto}{o3 o4:Option W} (h:Inp m n R b g):ph 4 4 d5 (aa (iV 0) (aa (iV 1) (aa (iV 2) ae))) [some (.d (bi m n R)),some (.d (.tup (mpI m b))),some (.d (.tup (mpI n g))),o3,o4] st0=some (.h (st0.length+2),stO st0 (oK m n R b g) (xu m n R b g)):=by
 have hm:=h.m64
 have hn:=h.n64
 have ev:∀ {o:Option W},[o,some (.d (bi m n R)),some (.d (.tup (mpI m b))),some (.d (.tup (mpI n g)))]=o::([W.d (bi m n R),.d (.tup (mpI m b)),.d (.tup (mpI n g))].map some++qaC (4 - 4) none):=rfl
 generalize hE:([none,some (.d (bi m n R)),some (.d (.tup (mpI m b))),some (.d (.tup (mpI n g)))]:Ev)=E
 have v1:∀ s,iV 1 E s=some (.d (bi m n R),s):=λs=>by rw[<-hE];rfl
 have v2:∀ s,iV 2 E s=some (.d (.tup (mpI m b)),s):=λs=>by rw[<-hE];rfl
 have v3:∀ s,iV 3 E s=some (.d (.tup (mpI n g)),s):=λs=>by rw[<-hE];rfl
 have lenG:∀ s,iCB bf (aa (iV 3) ae) E s=some (.d (.int (n:Int)),s):=λs=>by
  have:=aC (g:=bf) (d:=.int ((mpI n g).length:Nat)) (ac (b:=ae) (v3 s) rfl) rfl
  rw[bF]at this;exact this
 have lenR:∀ s,iCB bf (aa (iV 1) ae) E s=some (.d (.int (m:Int)),s):=λs=>by
  have:=aC (g:=bf) (d:=.int (((qah m).map λi=>D.tup (mpI n (R i))).length:Nat)) (ac (b:=ae) (v1 s) rfl) rfl
  rw[qam,qap]at this;exact this
 have f2:aA (iLc 2 [] (eE (aa (iV 1) (aa (iV 2) ae))) (.tp [0,1]) bn jk) E st0=some (.d (.lst (aW m n λi c=>if c<n then R i c else b i)),st0):=by
  have hz:eE (aa (iV 1) (aa (iV 2) ae)) E st0=some ((qah m).map λi=>D.tup [.tup (mpI n (R i)),.int (b i)],st0):=by
   have e1:jK ((qah m).map λi=>D.tup (mpI n (R i))) (mpI m b)=(qah m).map λi=>D.tup [.tup (mpI n (R i)),.int (b i)]:=by
    apply qcm
    intro i
    rw[jB,qaS,qaS]
    by_cases hi:i<m
    ·rw[dR hi,qbH hi];rfl
    ·rw[qbb (l:=qah m) (by rw[qap];lia)];rfl
   rw[<-e1]
   have:=ac (v1 st0) (ac (b:=ae) (v2 st0) rfl)
   simp only[eE,this,qab];rfl
  refine aL (cm hz (by rw[qam,qap];lia) ?_)
  refine rH (g:=λi=>(D.tup (mpI n (R i)),.int (b i))) (lnD n λi c=>if c<n then R i c else b i) λi hi=>?_
  unfold lnD
  rw[<-vb (R i) (b i)]
  exact ai (aL (show iCL mT (aa (iV 0) ae) _ _=some (mpI n (R i),_) from rfl)) (aL (show cf (aa (iV 1) ae) _ _=some ([.int (b i)],_) from rfl)) (iz _ (by rw[bF];show _+1<=_;lia))
 have f3:iOp cg (aA (iLc 1 [] (bj (iV 3)) (.nm 0) bn jz)) (aA (cf (aa (iC (.int 0)) ae))) E st0=some (.d (.lst (mpI (n+1) λc=>if c<n then - g c else 0)),st0):=by
  rw[<-vb (λc=>- g c) 0]
  refine ai (aL (cm (iF (v3 st0)) (by rw[bF];lia) (lc (g:=λk=>D.int (g k)) (λk=>D.int (- g k)) λk _=>rfl))) (aL (show cf (aa (iC (.int 0)) ae) E st0=some ([.int 0],st0) from rfl)) (iz _ ?_)
  rw[qam,qap];show _+1<=_;lia
 have f5:fF (vw (aa (iCB bf (aa (iV 3) ae)) ae)) E st0=some (.h st0.length,st0++[.l (mpI n (nI λc=>c))]):=by
  have:=ac (b:=ae) (lenG st0) rfl
  have e1:vw (aa (iCB bf (aa (iV 3) ae)) ae) E st0=some (mpI n (nI λc=>c),st0):=by
   simp only[vw,this,qab]
   rw[if_pos ⟨by lia,by lia⟩,qbZ,show dn 0 n=dn ((0:Nat):Int) n from rfl,wM]
   simp only[qbN]
  simp only[fF,e1,qaD]
 have f6:fF (qK (aa (iCB bf (aa (iV 3) ae)) (aa (iOp cg (iCB bf (aa (iV 3) ae)) (iCB bf (aa (iV 1) ae))) ae))) E (st0++[.l (mpI n (nI λc=>c))])=some (.h (st0.length+1),st0++[.l (mpI n (nI λc=>c)),.l (mpI m (nI λi=>n+i))]):=by
  generalize hs:(st0++[C.l (mpI n (nI λc=>c))])=s1
  have h2:iOp cg (iCB bf (aa (iV 3) ae)) (iCB bf (aa (iV 1) ae)) E s1=some (.d (.int ((n:Int)+(m:Int))),s1):=ai (lenG s1) (lenR s1) rfl
  have:=ac (lenG s1) (ac (b:=ae) h2 rfl)
  have e1:qK (aa (iCB bf (aa (iV 3) ae)) (aa (iOp cg (iCB bf (aa (iV 3) ae)) (iCB bf (aa (iV 1) ae))) ae)) E s1=some (mpI m (nI λi=>n+i),s1):=by
   simp only[qK,this,qab]
   rw[if_pos ⟨by lia,by lia,by lia,by lia⟩,show (((n:Int)+(m:Int)) - (n:Int)).toNat=m by lia,wM]
  simp only[fF,e1,qaD]
  rw[<-hs,qan]
  simp
 have hini:pT d5 E st0=some (fsO n (aW m n λi c=>if c<n then R i c else b i) (mpI (n+1) λc=>if c<n then - g c else 0) 1 st0.length,st0++[.l (mpI n (nI λc=>c)),.l (mpI m (nI λi=>n+i))]):=by
  unfold d5
  simp only[pT,lenG st0,f2,f3,f5,f6,qab,qaD,show iC (.int 1) E st0=some (.d (.int 1),st0) from rfl]
  rfl
 have ha:aa (iV 0) (aa (iV 1) (aa (iV 2) ae)) [some (.d (bi m n R)),some (.d (.tup (mpI m b))),some (.d (.tup (mpI n g))),o3,o4] st0=some ([.d (bi m n R),.d (.tup (mpI m b)),.d (.tup (mpI n g))],st0):=rfl
 simp only[ph,ha,qab]
 rw[if_pos (show [W.d (bi m n R),W.d (D.tup (mpI m b)),W.d (D.tup (mpI n g))].length+1=4 from rfl)]
 show (pT d5 [none,some (.d (bi m n R)),some (.d (.tup (mpI m b))),some (.d (.tup (mpI n g)))] st0).map _=_
 rw[hE,hini,qaD]
 show some (W.h (st0++[C.l (mpI n (nI λc=>c)),.l (mpI m (nI λi=>n+i))]).length,(st0++[C.l (mpI n (nI λc=>c)),.l (mpI m (nI λi=>n+i))])++[_])=_
 rw[qan,qbY]
 rfl
inductive x6 (P:Pb):D->Prop
 |most (p:Int) (am pr:Nat->Int):xv P p am pr->x6 P (.tup [.str "most",.int p,.tup (mpI P.n am),.tup (mpI P.m pr)])
 |beyond (way:Nat->Int):nY P way->x6 P (.tup [.str "beyond",.tup (mpI P.n way)])
theorem wA {m n:Nat} (hm:m<=64) (hn:n<=100):(n+m)^m<2^8000:=by
 have h1:(n+m)^m<=(2^8)^m:=Nat.pow_le_pow_left (by show n+m<=256;lia) m
 rw[<-qh6]at h1
 exact qbS h1 (vi (by lia))
theorem zb (h:Inp m n R b g):∃ x,x6 (oK m n R b g) x/\okT x=true/\∀ st:Sto,∃ u,jU [.d (bi m n R),.d (.tup (mpI m b)),.d (.tup (mpI n g))] st=some (.d x,st++u):=by
 have d:=zm h
 obtain⟨g1,n1,f1⟩:=x9 h
 obtain⟨y,sy,oy,ey⟩:=xz d g1 n1
 have hl:=vn d (2^8000) [] _ y g1 n1 f1 sy qcN (λv hv=>nomatch hv) (λv hv=>nomatch hv) (by rw[qcG,qhX];exact wA h.m64 h.n64)
 generalize hM:(bi m n R)=A at *
 generalize hB:D.tup (mpI m b)=B at *
 generalize hC:D.tup (mpI n g)=C at *
 have s3:∀ st0,aN (.nm 3) (ph 4 4 d5 (aa (iV 0) (aa (iV 1) (aa (iV 2) ae)))) [some (.d A),some (.d B),some (.d C),none,none] st0=some (.nx [some (.d A),some (.d B),some (.d C),some (.h (st0.length+2)),none] (stO st0 (oK m n R b g) (xu m n R b g))):=λst0=>by
  rw[<-hM,<-hB,<-hC]
  exact aE (Cf h)
 rcases hl with⟨S',way,bw,hw⟩|⟨S',gS,nS,fS,hS,hw⟩
 ·refine⟨_,.beyond way bw,Dc _ _,λst0=>⟨_,az (n:=5) (k:=3) (b:=iK) rfl (au (s3 st0) (au (aE (lw ey oy)) (cX (hw st0 _ _ _))))⟩⟩
 ·obtain⟨p,am,pr,mi,em⟩:=Cr d gS nS fS hS
  refine⟨_,.most p am pr mi,Bo _ _ _ _ _,λst0=>⟨_,az (n:=5) (k:=3) (b:=iK) rfl (au (s3 st0) (au (aE (lw ey oy)) (au (hw st0 _ _ _) (aY (nQ (ws:=[.h (st0.length+2)]) rfl (wR (ws:=[]) (ws':=[]) rfl) em (Bo _ _ _ _ _))))))⟩⟩
end
end Own
set_option maxHeartbeats 1000000
namespace Own
open PySem L2
open Sx (Pb Tb Good Named Fe LV ZV piv lexP leastR leaveL sumN unit colV basis)
theorem yR {st:Sto}{n:Nat}{m:Int} (h:bT st n) (m0:0<m) (m1:m<=1000):∃ r st',0<=r/\r<m/\Stp n st st'/\aH [.h n,.d (.int m)] st=some (.d (.int r),st'):=by
 have hn:=h.lt
 obtain⟨x,y,z,h0,h⟩:=h
 have m2:m<1073741824:=by lia
 have slow:(x > 0/\z+1<=400->False)->∃ r st',0<=r/\r<m/\Stp n st st'/\aH [.h n,.d (.int m)] st=some (.d (.int r),st'):=λhne=>by
  have hy0:0<=(y*48271+12345+(z+1))%2147483647:=qeW _ (by decide)
  have hy1:(y*48271+12345+(z+1))%2147483647<2147483647:=qef _ (by decide)
  have k1:qbr y 48271:=mH (by decide)
  have k3:∀ q,qbr ((y*48271+12345+(z+1))%2147483647) q:=λq=>kM (by lia)
  have hw:∃ w:Int,(y*48271+12345+(z+1))%2147483647=w:=⟨_,rfl⟩
  obtain⟨w,hw⟩:=hw
  rw[hw]at hy0 hy1 k3
  refine⟨w*(w%39373+7)%2147483629 / 64%m,st.set n (.l [.int x,.int w,.int (z+1)]),qeW _ (by lia),qef _ m0,⟨⟨_,rfl⟩,_,_,_,h0,kZ hn⟩,?_⟩
  by_cases hx:x > 0
  ·have hz:¬ z+1<=400:=λq=>hne ⟨hx,q⟩
   simp only[aH,eV,iV,iC,iOp,bh,pb,bm,ar,aN,hU,cn,br,ca,cC,e9,rF,iT,lsD,dIx,cg,cv,nh,jD,dLe,dGt,qab,qaD,qb3,qb4,qcD,qcE,qaB,qcy,qas,qcG,qbe,qcx,qcW,qcg,qdw,qdv,if_true,if_false,qbw,xL,Ci,Aj,BW,zF,qbN,and_self,decide_true,decide_false,lg,qdz,h,hx,hz,m0,decide_false,and_self,kZ hn,qet,k1,k3,hw,show (0:Int)<2147483647 by decide,show (0:Int)<39373 by decide,show (0:Int)<2147483629 by decide,show (0:Int)<64 by decide,show (64:Int)<1073741824 by decide]
  ·simp only[aH,eV,iV,iC,iOp,bh,pb,bm,ar,aN,hU,cn,br,ca,cC,e9,rF,iT,lsD,dIx,cg,cv,nh,jD,dLe,dGt,qab,qaD,qb3,qb4,qcD,qcE,qaB,qcy,qas,qcG,qbe,qcx,qcW,qcg,qdw,qdv,if_true,if_false,qbw,xL,Ci,Aj,BW,zF,qbN,and_self,decide_false,lg,qdz,h,hx,m0,decide_false,and_self,kZ hn,qet,k1,k3,hw,show (0:Int)<2147483647 by decide,show (0:Int)<39373 by decide,show (0:Int)<2147483629 by decide,show (0:Int)<64 by decide,show (64:Int)<1073741824 by decide]
 by_cases hq:x > 0/\z+1<=400
 ·obtain⟨hx,hz⟩:=hq
  refine⟨x%m,st.set n (.l [.int (x / m),.int y,.int (z+1)]),qeW _ (by lia),qef _ m0,⟨⟨_,rfl⟩,_,_,_,qdK h0 (by lia),kZ hn⟩,?_⟩
  simp only[aH,eV,iV,iC,iOp,bh,pb,bm,ar,aN,hU,cn,br,ca,cC,e9,rF,iT,lsD,dIx,cg,cv,nh,jD,dLe,dGt,qab,qaD,qb3,qb4,qcD,qcE,qaB,qcy,qas,qcG,qbe,qcx,qcW,qcg,qdw,qdv,if_true,xL,Aj,CU,zF,qbN,and_self,decide_true,lg,qdz,h,hx,hz,m0,m2,decide_true,and_self,kZ hn,qet]
 ·exact slow hq
theorem Cu (b:Bool):(0:Int)<=if b=true then 1 else 0:=by cases b<;>decide
theorem Bt (b:Bool):(if b=true then (1:Int) else 0)<2^64:=by cases b<;>decide
theorem Cb (b:Bool):-(2^64)<(if b=true then (1:Int) else 0):=by cases b<;>decide
theorem AC {st:Sto}{ns:List Int}{k:Nat} (hk8:k<=1000):∃ x y:Int,0<=x/\fE [.d (.scr ns),.d (.int k)] st=some (.h st.length,st++[.l [.int x,.int y,.int 0]]):=by
 have p18':sv 10 18:=p18
 have k1:∀ q,qbr 5303 q:=λq=>kM (by decide)
 have k2:∀ q,qbr q 48271:=λq=>mH (by decide)
 have k4:∀ q,qbr q (k:Int):=λq=>mH (by lia)
 have k3:∀ (q:Int) (b:Bool),qbr q (if b=true then 1 else 0):=λq b=>mH ⟨Cb b,Bt b⟩
 have key:∀ c:Int,(if (k:Int)<((ns.map D.int).length:Nat) then atI (ns.map D.int) (k:Int)=some (.int c) else c=0)->∃ x y:Int,0<=x/\fE [.d (.scr ns),.d (.int k)] st=some (.h st.length,st++[.l [.int x,.int y,.int 0]]):=λc hc=>by
  have ha:∃ a:Int,(if c<0 then -c else c)=a/\0<=a:=⟨_,rfl,by split<;>lia⟩
  obtain⟨a,ha,a0⟩:=ha
  obtain⟨g,hg⟩:∃ g,decide (a>=10^qgB 18)=g:=⟨_,rfl⟩
  refine⟨a*(if g=true then 1 else 0),(c%2147483629+5303*(k:Int)*k+17)*48271%2147483647,qgM a0 (Cu _),?_⟩
  by_cases hk:(k:Int)<((ns.map D.int).length:Nat)
  ·rw[if_pos hk]at hc
   simp only[fE,gU,iV,iC,iOp,bh,my,ae,aa,iCB,cf,fF,ar,aN,br,cC,e9,mY,rF,iT,lsD,dIx,cg,cv,jD,mz,dLt,dGe,bf,tu,vo,qab,qaD,qb3,qb4,qcD,qcE,qaB,qcy,qas,qcG,qbe,qcx,qcW,qcg,qdw,qdv,if_true,qbN,decide_true,lg,qdz,hk,hc,ha,hg,p18',k1,k2,k3,k4,show (0:Int)<2147483629 by decide,show (0:Int)<2147483647 by decide,show (3:Nat)<=1000 by decide]
  ·rw[if_neg hk]at hc
   subst hc
   have ha0:a=0:=by rw[<-ha];rfl
   subst ha0
   rw[<-hg]
   simp only[fE,gU,iV,iC,iOp,bh,my,ae,aa,iCB,cf,fF,ar,aN,br,cC,e9,mY,rF,iT,lsD,dIx,cg,cv,jD,mz,dLt,dGe,bf,tu,vo,qab,qaD,qb3,qb4,qcD,qcE,qaB,qcy,qas,qcG,qbe,qcx,qcW,qcg,qdw,qdv,if_true,if_false,qbw,qbN,decide_false,lg,Int.reduceLT,qdz,hk,p18',k1,k2,k3,k4,show (0:Int)<2147483629 by decide,show (0:Int)<2147483647 by decide,show (3:Nat)<=1000 by decide]
 by_cases hk:(k:Int)<((ns.map D.int).length:Nat)
 ·have hk':k<ns.length:=by rw[qam]at hk;lia
  exact key ns[k] (by rw[if_pos hk];exact dD (by rw[qaS,qaK hk'];rfl))
 ·exact key 0 (by rw[if_neg hk])
theorem rQ {te:Ef}{st:Sto}{n:Nat}{a:Option W}{l:Ev} (Q:D->Prop) {ds:List D} (h:bT st n) (hte:∀ s d,d∈ds->bT s n->∃ x s',Q x/\Stp n s s'/\te (some (.d d)::l) s=some (.d x,s')) :
  ∃ us st',us.length=ds.length/\(∀ u∈us,Q u)/\Stp n st st'/\lcI (.nm 0) bn te (a::l) ds st=some (us,st'):=by
 obtain⟨us,s2,e2,t2,hl,hv⟩:=pW (g:=.nm 0) (tt:=bn) (te:=te) (env:=a::l) (ds:=ds)
  (λi ys s=>Stp n st s/\ys.length=i/\∀ u ∈ ys,Q u) (st:=st) (ys0:=[]) ⟨Stp.refl h,rfl,(λ_ h=>nomatch h)⟩ (λi d ys s hd ⟨p1,p3,p4⟩=>by
   obtain⟨x,s2,hx,t2,e2⟩:=hte s d (qbD hd) p1.hand
   exact⟨_,rfl,.inl ⟨s,x,s2,rfl,e2,p1.trans t2,by rw[qan,p3];rfl,λu hu=>by
    rcases qaM.mp hu with z|z
    ·exact p4 u z
    ·rw[qag.mp z];exact hx⟩⟩)
 exact⟨us,s2,by simpa using hl,by simpa using hv,t2,e2⟩
end Own
set_option maxHeartbeats 1000000
namespace Own
open PySem L2
open Sx (Pb Tb Good Named Fe LV ZV piv lexP leastR leaveL sumN unit colV basis)
theorem cx {f:Tf}{env:Ev}{st s:Sto}{k:Bool} (h:f env st=some (k,s)):bB f env st=some (!k,s):=by
 simp only[bB,h,qaD]
theorem cV {a b:Tf}{env:Ev}{st s s':Sto}{k:Bool} (ha:a env st=some (false,s)) (hb:b env s=some (k,s')):cG a b env st=some (k,s'):=by
 simp only[cG,ha,qab,qbw,if_false,hb]
theorem nw {a b:Tf}{env:Ev}{st s:Sto} (ha:a env st=some (true,s)):cG a b env st=some (true,s):=by
 simp only[cG,ha,qab,if_true]
theorem ju {a b:Tf}{env:Ev}{st:Sto}{k j:Bool} (ha:a env st=some (k,st)) (hb:b env st=some (j,st)):cG a b env st=some (k||j,st):=by
 cases k with
 |true=>exact nw ha
 |false=>exact cV ha hb
theorem iw {a b:Ef}{env:Ev}{st:Sto}{k j:Bool} (ha:a env st=some (.d (.bl k),st)) (hb:b env st=some (.d (.bl j),st)):d7 a b env st=some (.d (.bl (k&&j)),st):=by
 cases k with
 |true=>simp only[d7,ha,qab,blW,if_true,hb];rfl
 |false=>simp only[d7,ha,qab,blW,qbw,if_false];rfl
theorem kc {c:Tf}{r:Sf}{env:Ev}{st:Sto}{k j:Bool} (hc:c env st=some (k,st)) (hr:r env st=some (.rt (.d (.bl j)) st)):ar (ca c (br (iC (.bl false))) bm) r env st=some (.rt (.d (.bl (!k&&j))) st):=by
 cases k with
 |true=>exact cX (cU (s:=st) hc rfl)
 |false=>exact au (cy (s:=st) hc rfl) hr
theorem eA {f:Ef}{env:Ev}{st s:Sto}{k:Bool} (h:f env st=some (.d (.bl k),s)):bM bN f env st=some (k,s):=by
 simp only[bM,h,qab];rfl
def ti (xs:List Int):D:=.tup (xs.map D.int)
def eZ (xs ys:List Int):Int:=(List.zipWith (λa b=>a*b) xs ys).sum
def Sml (xs:List Int):Prop:=xs.length<=1000/\∀ x∈xs,x.natAbs<=2^50
theorem sP {α:Type}{te:Ef}{l:Ev}{st:Sto}{g:α->D×D} (F:α->D):∀ {ks:List α},(∀ k∈ks,te (some (.d (g k).1)::some (.d (g k).2)::l) st=some (.d (F k),st))->
  lcI (.tp [0,1]) bn te (none::none::l) (ks.map λk=>D.tup [(g k).1,(g k).2]) st=some (ks.map F,st)
 |[],_=>rfl
 |k::ks,h=>by
  have ih:=sP (te:=te) (l:=l) (st:=st) (g:=g) F (ks:=ks) λx hx=>h x (qaj _ hx)
  have h1:=h k qaf
  rw[qaB,qaB]
  unfold lcI
  rw[show e9 (.tp [0,1]) (.d (.tup [(g k).1,(g k).2])) (none::none::l)=some (some (.d (g k).1)::some (.d (g k).2)::l) from rfl,qab,show bn (some (.d (g k).1)::some (.d (g k).2)::l) st=some (true,st) from rfl,qab,if_pos rfl,h1,qab,ih];rfl
theorem tT {α:Type}{te:Ef}{l:Ev}{st:Sto}{g:α->D} (F:α->D):∀ {ks:List α},(∀ k∈ks,te (some (.d (g k))::l) st=some (.d (F k),st))->lcI (.nm 0) bn te (none::l) (ks.map g) st=some (ks.map F,st)
 |[],_=>rfl
 |k::ks,h=>by
  have ih:=tT (te:=te) (l:=l) (st:=st) (g:=g) F (ks:=ks) λx hx=>h x (qaj _ hx)
  have h1:=h k qaf
  rw[qaB,qaB]
  unfold lcI
  rw[show e9 (.nm 0) (.d (g k)) (none::l)=some (some (.d (g k))::l) from rfl,qab,show bn (some (.d (g k))::l) st=some (true,st) from rfl,qab,if_pos rfl,h1,qab,ih];rfl
theorem nn {α β:Type} (f:α->D) (g:β->D):∀ (xs:List α) (ys:List β),jK (xs.map f) (ys.map g)=(xs.zip ys).map λq=>D.tup [f q.1,g q.2]
 |[],ys=>by cases ys<;>rfl
 |x::xs,[]=>rfl
 |x::xs,y::ys=>by rw[qaB,qaB,jK,nn f g xs ys];rfl
theorem pP {α:Type} (f:α->Int):∀ (xs:List α) (ys:List Int),((xs.zip ys).map λq=>f q.1*q.2).sum=eZ (xs.map f) ys
 |[],ys=>by cases ys<;>rfl
 |x::xs,[]=>rfl
 |x::xs,y::ys=>by
  have ih:=pP f xs ys
  unfold eZ at ih ⊢
  rw[qec,qaB,qaB,List.zipWith_cons_cons,qgL,qgL,ih]
theorem lQ {a b:Int} (h:a.natAbs<=2^50):qbr a b:=kM (by lia)
abbrev B3:Sf:=br (iCB qh (aa (aA (iLc 2 [] (eE (aa (iV 0) (aa (iV 1) ae))) (.tp [0,1]) bn (iOp cv (iV 0) (iV 1)))) ae))
theorem u9 {st:Sto}{d:D}{xs ys:List Int} (hd:d=.tup (xs.map D.int)\/d=.lst (xs.map D.int)) (hx:Sml xs):cC 2 2 B3 [.d d,.d (ti ys)] st=some (.d (.int (eZ xs ys)),st):=by
 have hz:eE (aa (iV 0) (aa (iV 1) ae)) [some (.d d),some (.d (ti ys))] st=some ((xs.zip ys).map λq=>D.tup [.int q.1,.int q.2],st):=by
  rw[<-nn D.int D.int]
  rcases hd with rfl|rfl<;>rfl
 have hl:lcI (.tp [0,1]) bn (iOp cv (iV 0) (iV 1)) [none,none] ((xs.zip ys).map λq=>D.tup [.int q.1,.int q.2]) st=some ((xs.zip ys).map λq=>D.int (q.1*q.2),st):=
  sP (g:=λq:Int×Int=>(D.int q.1,D.int q.2)) (λq=>D.int (q.1*q.2)) λq hq=>ai rfl rfl (ef st (lQ (hx.2 q.1 (qc0 hq).1)))
 have hs:qh st [.d (.lst ((xs.zip ys).map λq=>D.int (q.1*q.2)))]=some (.int (eZ xs ys)):=by
  have:=zi st ((xs.zip ys).map λq=>q.1*q.2)
  rw[pP (λx=>x),qbi,qg2]at this
  exact this
 have hlen:((xs.zip ys).map λq=>D.tup [.int q.1,.int q.2]).length<=1000000:=by
  rw[qam,qeK];have:=hx.1;lia
 exact az (n:=2) (k:=2) (b:=B3) rfl (aY (aC (ac (aL (cm hz hlen hl)) rfl) hs))
theorem rE {st:Sto}{d:D}{xs ys:List Int} (hd:d=.tup (xs.map D.int)\/d=.lst (xs.map D.int)) (hx:Sml xs):aZ [.d d,.d (ti ys)] st=some (.d (.int (eZ xs ys)),st):=u9 hd hx
theorem rA {st:Sto}{xs ys:List Int} (hx:Sml xs):cN [.d (ti xs),.d (ti ys)] st=some (.d (.int (eZ xs ys)),st):=u9 (.inl rfl) hx
theorem rX (s:Sto) {α:Type} (f:α->Bool) (ks:List α):ms s [.d (.lst (ks.map λk=>D.bl (f k)))]=some (.bl (ks.all f)):=by
 show (jI _).map _=_
 rw[show (ks.map λk=>D.bl (f k))=(ks.map f).map D.bl by rw[qbi];rfl,ku]
 show some (D.bl ((ks.map f).all id))=_
 rw[qg4];rfl
theorem Ct (s:Sto) {α:Type} (f:α->Bool) (ks:List α):uP s [.d (.lst (ks.map λk=>D.bl (f k)))]=some (.bl (ks.any f)):=by
 show (jI _).map _=_
 rw[show (ks.map λk=>D.bl (f k))=(ks.map f).map D.bl by rw[qbi];rfl,ku]
 show some (D.bl ((ks.map f).any id))=_
 rw[qg3];rfl
def gf (xs:List Int) (k:Nat):Bool:=(xs.length==k)&&xs.all λx=>decide (x>=0)
theorem CM (s:Sto) (xs:List Int):bf s [.d (ti xs)]=some (.int (xs.length:Int)):=by
 show some (D.int ((xs.map D.int).length:Nat))=_
 rw[qam]
theorem qU {w:Fn}{st:Sto}{xs:List Int}{k:Nat} (hw:∀ (i:Int) (s:Sto),w [.d (.int i)] s=some (.d (.bl true),s)) (hl:xs.length<=1000):cC 2 2 (ar (ca (cG (bB (bM bN (iCB gm (aa (iV 0) (aa (iC (.ty "tuple")) ae))))) (bh dNe (iCB bf (aa (iV 0) ae)) (iV 1))) (br (iC (.bl false))) bm) (br (iCB ms (aa (aA (iLc 1 [] (bj (iV 0)) (.nm 0) bn (d7 (av w (aa (iV 0) ae)) (iOp dGe (iV 0) (iC (.int 0)))))) ae)))) [.d (ti xs),.d (.int (k:Int))] st=some (.d (.bl (gf xs k)),st):=by
 have h1:cG (bB (bM bN (iCB gm (aa (iV 0) (aa (iC (.ty "tuple")) ae))))) (bh dNe (iCB bf (aa (iV 0) ae)) (iV 1)) [some (.d (ti xs)),some (.d (.int (k:Int)))] st=some (!(xs.length==k),st):=by
  refine cV (s:=st) rfl (aV (aC (ac rfl rfl) (CM st xs)) rfl ?_)
  show some (D.bl (!((xs.length:Int)==(k:Int))))=_
  rw[show ((xs.length:Int)==(k:Int))=(xs.length==k) by rw[qbK];simp;lia]
 have hlc:lcI (.nm 0) bn (d7 (av w (aa (iV 0) ae)) (iOp dGe (iV 0) (iC (.int 0)))) [none] (xs.map D.int) st=some (xs.map λx=>D.bl (decide (x>=0)),st):=
  tT (g:=D.int) (λx=>D.bl (decide (x>=0))) λx _=>iw (k:=true) (aq rfl (hw x st)) (ai rfl rfl (wl st _ _))
 have:=kc (r:=br (iCB ms (aa (aA (iLc 1 [] (bj (iV 0)) (.nm 0) bn (d7 (av w (aa (iV 0) ae)) (iOp dGe (iV 0) (iC (.int 0)))))) ae))) h1 (aY (aC (ac (aL (cm (iF rfl) (by rw[qam];lia) hlc)) rfl) (rX st (λx:Int=>decide (x>=0)) xs)))
 rw[qfr]at this
 exact az (n:=2) (k:=2) rfl this
theorem AX {st:Sto}{xs:List Int}{k:Nat} (hl:xs.length<=1000):bH [.d (ti xs),.d (.int (k:Int))] st=some (.d (.bl (gf xs k)),st):=qU (w:=dJ) (λ_ _=>rfl) hl
theorem zL {st:Sto}{xs:List Int}{k:Nat} (hl:xs.length<=1000):bo [.d (ti xs),.d (.int (k:Int))] st=some (.d (.bl (gf xs k)),st):=qU (w:=cI) (λ_ _=>rfl) hl
end Own
set_option maxHeartbeats 1000000
namespace Own
open PySem L2
open Sx (Pb Tb Good Named Fe LV ZV piv lexP leastR leaveL sumN unit colV basis)
def rlL (n:Nat) (R:Nat->Nat->Int) (i:Nat):List Int:=(qah n).map (R i)
def clL (m:Nat) (R:Nat->Nat->Int) (k:Nat):List Int:=(qah m).map λr=>R r k
theorem qv (n:Nat) (f:Nat->Int):D.tup (mpI n f)=ti ((qah n).map f):=by unfold ti;rw[cL]
theorem wv (m n:Nat) (R:Nat->Nat->Int) (b:Nat->Int):jK ((qah m).map λi=>D.tup (mpI n (R i))) (mpI m b)=(qah m).map λi=>D.tup [.tup (mpI n (R i)),.int (b i)]:=by
 apply qcm
 intro i
 rw[jB,qaS,qaS]
 by_cases hi:i<m
 ·rw[dR hi,qbH hi];rfl
 ·rw[qbb (l:=qah m) (by rw[qap];lia)];rfl
section
variable {m n:Nat}{R:Nat->Nat->Int}{b g:Nat->Int}
theorem Inp.row (h:Inp m n R b g) {i:Nat} (hi:i<m):Sml (rlL n R i):=by
 have:=h.n64
 refine⟨by unfold rlL;rw[qam,qap];lia,λx hx=>?_⟩
 obtain⟨c,hc,rfl⟩:=qa7.mp hx
 exact h.R i c hi (qaG.mp hc)
theorem Inp.col (h:Inp m n R b g) {k:Nat} (hk:k<n):Sml (clL m R k):=by
 have:=h.m64
 refine⟨by unfold clL;rw[qam,qap];lia,λx hx=>?_⟩
 obtain⟨c,hc,rfl⟩:=qa7.mp hx
 exact h.R c k (qaG.mp hc) hk
theorem Inp.bL (h:Inp m n R b g):Sml ((qah m).map b):=by
 have:=h.m64
 refine⟨by rw[qam,qap];lia,λx hx=>?_⟩
 obtain⟨c,hc,rfl⟩:=qa7.mp hx
 exact (h.b c (qaG.mp hc)).1
theorem Inp.gL (h:Inp m n R b g):Sml ((qah n).map g):=by
 have:=h.n64
 refine⟨by rw[qam,qap];lia,λx hx=>?_⟩
 obtain⟨c,hc,rfl⟩:=qa7.mp hx
 exact h.g c (qaG.mp hc)
def j7 (m n:Nat) (R:Nat->Nat->Int) (b:Nat->Int) (am:List Int) (p:Int):Bool:=(qah m).all λr=>decide (eZ (rlL n R r) am<=b r*p)
def sM (m n:Nat) (R:Nat->Nat->Int) (g:Nat->Int) (pr:List Int) (p:Int):Bool:=(qah n).all λk=>decide (eZ (clL m R k) pr>=g k*p)
def eqB (m n:Nat) (b g:Nat->Int) (am pr:List Int):Bool:=eZ ((qah m).map b) pr==eZ ((qah n).map g) am
def oW (m n:Nat) (R:Nat->Nat->Int) (b g:Nat->Int) (p:Int) (am pr:List Int):Bool:=!(decide (p<1))&&(gf am n&&(gf pr m&&(j7 m n R b am p&&(sM m n R g pr p&&eqB m n b g am pr))))
def ze (m n:Nat) (R:Nat->Nat->Int) (g:Nat->Int) (way:List Int):Bool:=gf way n&&(j7 m n R (λ_=>0) way 1&&decide (eZ ((qah n).map g) way > 0))
theorem Cm (s:Sto) (a b:Int):dLe s (.d (.int a)) (.d (.int b))=some (.bl (decide (a<=b))):=rfl
theorem uV {st:Sto}{B:D}{am:List Int}{p:Int} (hm:m<=64) (hB:B=.tup (mpI m b)\/B=.lst (mpI m b)) (hR:∀ i,i<m->Sml (rlL n R i)) (hb:∀ i,i<m->(b i).natAbs<=2^50):cE [.d (bi m n R),.d B,.d (ti am),.d (.int p)] st=some (.d (.bl (j7 m n R b am p)),st):=by
 have hz:eE (aa (iV 0) (aa (iV 1) ae)) [some (.d (bi m n R)),some (.d B),some (.d (ti am)),some (.d (.int p))] st=some ((qah m).map λi=>D.tup [.tup (mpI n (R i)),.int (b i)],st):=by
  rw[<-wv]
  rcases hB with rfl|rfl<;>rfl
 have hl:lcI (.tp [0,1]) bn im [none,none,some (.d (ti am)),some (.d (.int p))] ((qah m).map λi=>D.tup [.tup (mpI n (R i)),.int (b i)]) st=some ((qah m).map λr=>D.bl (decide (eZ (rlL n R r) am<=b r*p)),st):=
  rH (g:=λi=>(D.tup (mpI n (R i)),.int (b i))) (λr=>D.bl (decide (eZ (rlL n R r) am<=b r*p))) λi hi=>by
   have hi':=qaG.mp hi
   exact ai (aq (ws:=[.d (.tup (mpI n (R i))),.d (ti am)]) rfl (rE (xs:=rlL n R i) (.inl (by unfold rlL;rw[<-cL])) (hR i hi'))) (ai rfl rfl (ef st (lQ (hb i hi')))) (Cm _ _ _)
 exact az (n:=4) (k:=4) (b:=eF) rfl (aY (aC (ac (aL (cm hz (by rw[qam,qap];lia) hl)) rfl) (rX st _ _)))
theorem At {st:Sto}{k:Nat} (hm:m<=64) (hk:k<n):jG [.d (bi m n R),.d (.int (k:Int))] st=some (.d (.lst ((clL m R k).map D.int)),st):=by
 have hl:lcI (.nm 0) bn j9 [none,some (.d (.int (k:Int)))] ((qah m).map λi=>D.tup (mpI n (R i))) st=some ((qah m).map λr=>D.int (R r k),st):=
  lc (g:=λi=>D.tup (mpI n (R i))) (λr=>D.int (R r k)) λi _=>ai rfl rfl (show dIx st (.d (.tup (mpI n (R i)))) (.d (.int (k:Int)))=some (.int (R i k)) from dD (dR hk))
 unfold clL
 rw[qbi]
 exact az (n:=2) (k:=2) (b:=ij) rfl (aY (aL (cm (iF rfl) (by rw[qam,qap];lia) hl)))
theorem zU {st:Sto}{pr:List Int}{p:Int} (h:Inp m n R b g):fZ [.d (bi m n R),.d (.tup (mpI n g)),.d (ti pr),.d (.int p)] st=some (.d (.bl (sM m n R g pr p)),st):=by
 have hm:=h.m64
 have hn:=h.n64
 have hz:gu (aa (iV 1) ae) [some (.d (bi m n R)),some (.d (.tup (mpI n g))),some (.d (ti pr)),some (.d (.int p))] st=some ((qah n).map λi=>D.tup [.int ((i:Nat):Int),.int (g i)],st):=by
  rw[<-pv];rfl
 have hl:lcI (.tp [0,1]) bn jd [none,none,some (.d (bi m n R)),some (.d (ti pr)),some (.d (.int p))] ((qah n).map λi=>D.tup [.int ((i:Nat):Int),.int (g i)]) st=some ((qah n).map λk=>D.bl (decide (eZ (clL m R k) pr>=g k*p)),st):=
  rH (g:=λi=>(D.int ((i:Nat):Int),.int (g i))) (λk=>D.bl (decide (eZ (clL m R k) pr>=g k*p))) λi hi=>by
   have hi':=qaG.mp hi
   exact ai (aq (ac (aq (ws:=[.d (bi m n R),.d (.int ((i:Nat):Int))]) rfl (At hm hi')) (ac rfl rfl)) (rE (.inr rfl) (h.col hi'))) (ai rfl rfl (ef st (lQ (h.g i hi')))) (wl _ _ _)
 exact az (n:=4) (k:=4) (b:=fQ) rfl (aY (aC (ac (aL (cm hz (by rw[qam,qap];lia) hl)) rfl) (rX st _ _)))
theorem pq (s:Sto) (f:Nat->Int):bf s [.d (.tup (mpI n f))]=some (.int (n:Int)):=by
 show some (D.int ((mpI n f).length:Nat))=_
 rw[bF]
theorem uW (s:Sto):bf s [.d (bi m n R)]=some (.int (m:Int)):=by
 show some (D.int (((qah m).map λi=>D.tup (mpI n (R i))).length:Nat))=_
 rw[qam,qap]
theorem AN {st:Sto}{p:Int}{am pr:List Int} (h:Inp m n R b g) (ha:am.length<=1000) (hp:pr.length<=1000):iO [.d (bi m n R),.d (.tup (mpI m b)),.d (.tup (mpI n g)),.d (.int p),.d (ti am),.d (ti pr)] st=some (.d (.bl (oW m n R b g p am pr)),st):=by
 have k1:=AX (st:=st) (xs:=am) (k:=n) ha
 have k2:=AX (st:=st) (xs:=pr) (k:=m) hp
 have k3:=uV (st:=st) (m:=m) (n:=n) (R:=R) (b:=b) (am:=am) (p:=p) h.m64 (.inl rfl) (λi hi=>h.row hi) (λi hi=>(h.b i hi).1)
 have k4:=zU (st:=st) (pr:=pr) (p:=p) h
 have k5:=rE (st:=st) (d:=.tup (mpI m b)) (xs:=(qah m).map b) (ys:=pr) (.inl (by rw[cL])) h.bL
 have k6:=rE (st:=st) (d:=.tup (mpI n g)) (xs:=(qah n).map g) (ys:=am) (.inl (by rw[cL])) h.gL
 have l1:=pq (n:=n) st g
 have l2:=uW (m:=m) (n:=n) (R:=R) st
 generalize bi m n R=rs at *
 generalize D.tup (mpI m b)=bs at *
 generalize D.tup (mpI n g)=gs at *
 generalize ti am=ta at *
 generalize ti pr=tp at *
 have c1:cG (bB (bM bN (av dJ (aa (iV 3) ae)))) (bh dLt (iV 3) (iC (.int 1))) [some (.d rs),some (.d bs),some (.d gs),some (.d (.int p)),some (.d ta),some (.d tp)] st=some (false||decide (p<1),st):=ju (k:=false) rfl (aV rfl rfl (oM _ _ _))
 have c2:cG (bB (bM bN (av bH (aa (iV 4) (aa (iCB bf (aa (iV 2) ae)) ae))))) (bB (bM bN (av bH (aa (iV 5) (aa (iCB bf (aa (iV 0) ae)) ae))))) [some (.d rs),some (.d bs),some (.d gs),some (.d (.int p)),some (.d ta),some (.d tp)] st=some (!(gf am n)||!(gf pr m),st):=ju (cx (eA (aq (ac rfl (ac (aC (ac rfl rfl) l1) rfl)) k1))) (cx (eA (aq (ac rfl (ac (aC (ac rfl rfl) l2) rfl)) k2)))
 have c3:cG (bB (bM bN (av cE (aa (iV 0) (aa (iV 1) (aa (iV 4) (aa (iV 3) ae))))))) (bB (bM bN (av fZ (aa (iV 0) (aa (iV 2) (aa (iV 5) (aa (iV 3) ae))))))) [some (.d rs),some (.d bs),some (.d gs),some (.d (.int p)),some (.d ta),some (.d tp)] st=some (!(j7 m n R b am p)||!(sM m n R g pr p),st):=ju (cx (eA (aq rfl k3))) (cx (eA (aq rfl k4)))
 have c4:iOp dEq (av aZ (aa (iV 1) (aa (iV 5) ae))) (av aZ (aa (iV 2) (aa (iV 4) ae))) [some (.d rs),some (.d bs),some (.d gs),some (.d (.int p)),some (.d ta),some (.d tp)] st=some (.d (.bl (eqB m n b g am pr)),st):=ai (aq rfl k5) (aq rfl k6) (oS _ _ _)
 have:=az (n:=6) (k:=6) (b:=dE) (ws:=[.d rs,.d bs,.d gs,.d (.int p),.d ta,.d tp]) rfl (kc c1 (kc c2 (kc c3 (aY c4))))
 show cC 6 6 dE _ st=_
 rw[this]
 unfold oW
 cases decide (p<1)<;>cases gf am n<;>cases gf pr m<;>cases j7 m n R b am p<;>cases sM m n R g pr p<;>rfl
theorem AV {st:Sto}{way:List Int} (h:Inp m n R b g) (hw:way.length<=1000):lp [.d (bi m n R),.d (.tup (mpI n g)),.d (ti way)] st=some (.d (.bl (ze m n R g way)),st):=by
 have hm:=h.m64
 have k1:=AX (st:=st) (xs:=way) (k:=n) hw
 have k3:=uV (st:=st) (m:=m) (n:=n) (R:=R) (b:=λ_=>0) (am:=way) (p:=1) h.m64 (.inr rfl) (λi hi=>h.row hi) (λi hi=>qb5 _)
 have k6:=rE (st:=st) (d:=.tup (mpI n g)) (xs:=(qah n).map g) (ys:=way) (.inl (by rw[cL])) h.gL
 have l1:=pq (n:=n) st g
 have l2:=uW (m:=m) (n:=n) (R:=R) st
 have hz:cv st (.d (.lst [.int 0])) (.d (.int (m:Int)))=some (.lst (mpI m λ_=>0)):=by
  unfold cv;dsimp only
  rw[if_pos ⟨by show 1<=1000;decide,by lia,by lia⟩,qbZ,qO m (λ_=>0) (λ_=>0) 0]
  rw[cu (g:=λ_=>0) λk _=>pN λj hj=>absurd hj (qc5 _)]
 generalize bi m n R=rs at *
 generalize D.tup (mpI n g)=gs at *
 generalize ti way=tw at *
 have c1:bB (bM bN (av bH (aa (iV 2) (aa (iCB bf (aa (iV 1) ae)) ae)))) [some (.d rs),some (.d gs),some (.d tw)] st=some (!(gf way n),st):=cx (eA (aq (ac rfl (ac (aC (ac rfl rfl) l1) rfl)) k1))
 have c2:av cE (aa (iV 0) (aa (iOp cv (aA (cf (aa (iC (.int 0)) ae))) (iCB bf (aa (iV 0) ae))) (aa (iV 2) (aa (iC (.int 1)) ae)))) [some (.d rs),some (.d gs),some (.d tw)] st=some (.d (.bl (j7 m n R (λ_=>0) way 1)),st):=aq (ac rfl (ac (ai rfl (aC (ac rfl rfl) l2) hz) rfl)) k3
 have:=az (n:=3) (k:=3) (b:=iH) (ws:=[.d rs,.d gs,.d tw]) rfl (kc c1 (aY (iw c2 (ai (aq rfl k6) rfl (sX _ _ _)))))
 show cC 3 3 iH _ st=_
 rw[this,qfr];rfl
end
end Own
set_option maxHeartbeats 1000000
namespace Own
open PySem L2
open Sx (Pb Tb Good Named Fe LV ZV piv lexP leastR leaveL sumN unit colV basis)
inductive Itm:D->Prop
 |two (w:Str) (xs:List Int):xs.length<=1000->Itm (.tup [.str w,ti xs])
 |four (w:Str) (p:Int) (xs ys:List Int):xs.length<=1000->ys.length<=1000->Itm (.tup [.str w,.int p,ti xs,ti ys])
def cR (m n:Nat) (R:Nat->Nat->Int) (b g:Nat->Int):D:=.tup [bi m n R,.tup (mpI m b),.tup (mpI n g)]
theorem oR (s:Sto) (a b:Str):dEq s (.d (.str a)) (.d (.str b))=some (.bl (a==b)):=B2 s a b
section
variable {m n:Nat}{R:Nat->Nat->Int}{b g:Nat->Int}
theorem zR {st:Sto}{w:Str}{xs:List Int} (h:Inp m n R b g) (hx:xs.length<=1000):ci [.d (bi m n R),.d (.tup (mpI m b)),.d (.tup (mpI n g)),.d (.tup [.str w,ti xs])] st=some (.d (.bl ((w=="beyond")&&ze m n R g xs)),st):=by
 have k:=AV (st:=st) (way:=xs) h hx
 generalize bi m n R=rs at *
 generalize D.tup (mpI m b)=bs at *
 generalize D.tup (mpI n g)=gs at *
 generalize ti xs=tx at *
 exact az (n:=4) (k:=4) (b:=cK) rfl (au (cy (s:=st) (cV (s:=st) rfl (cV (s:=st) rfl (cx (k:=true) (eA (aC (ac (ai rfl rfl (kL _ _ _)) (ac rfl rfl)) rfl))))) rfl) (au (cy (s:=st) rfl rfl) (aY (iw (ai (ai rfl rfl (kL _ _ _)) rfl (oR _ _ _)) (aq (ac rfl (ac rfl (ac (ai rfl rfl (lC _ _ _)) rfl))) k)))))
theorem Am {st:Sto}{w:Str}{p:Int}{xs ys:List Int} (h:Inp m n R b g) (hx:xs.length<=1000) (hy:ys.length<=1000):ci [.d (bi m n R),.d (.tup (mpI m b)),.d (.tup (mpI n g)),.d (.tup [.str w,.int p,ti xs,ti ys])] st=some (.d (.bl ((w=="most")&&oW m n R b g p xs ys)),st):=by
 have k:=AN (st:=st) (p:=p) (am:=xs) (pr:=ys) h hx hy
 generalize bi m n R=rs at *
 generalize D.tup (mpI m b)=bs at *
 generalize D.tup (mpI n g)=gs at *
 generalize ti xs=tx at *
 generalize ti ys=ty at *
 have i0:dIx st (.d (.tup [.str w,.int p,tx,ty])) (.d (.int 0))=some (.str w):=rfl
 have i1:dIx st (.d (.tup [.str w,.int p,tx,ty])) (.d (.int 1))=some (.int p):=rfl
 have i2:dIx st (.d (.tup [.str w,.int p,tx,ty])) (.d (.int 2))=some tx:=rfl
 have i3:dIx st (.d (.tup [.str w,.int p,tx,ty])) (.d (.int 3))=some ty:=rfl
 exact az (n:=4) (k:=4) (b:=cK) rfl (au (cy (s:=st) (cV (s:=st) rfl (cV (s:=st) rfl (cx (k:=true) (eA (aC (ac (ai rfl rfl i0) (ac rfl rfl)) rfl))))) rfl) (cX (cU (s:=st) rfl (aY (iw (ai (ai rfl rfl i0) rfl (oR _ _ _)) (aq (ac rfl (ac rfl (ac rfl (ac (ai rfl rfl i1) (ac (ai rfl rfl i2) (ac (ai rfl rfl i3) rfl)))))) k))))))
theorem vf {st:Sto}{cs ta:D}{p:Int}{pr:List Int} (h:Inp m n R b g):∀ (ks:List Nat) (o:Option W),(∀ k∈ks,k<n)->∃ o',dY (.nm 7) cb (ks.map λk=>D.int (0+((k:Nat):Int))) [some (.d cs),some (.d (.int p)),some (.d ta),some (.d (ti pr)),some (.d (bi m n R)),some (.d (.tup (mpI m b))),some (.d (.tup (mpI n g))),o] st=if (ks.all λk=>decide (eZ (clL m R k) pr>=g k*p))=true then some (.nx [some (.d cs),some (.d (.int p)),some (.d ta),some (.d (ti pr)),some (.d (bi m n R)),some (.d (.tup (mpI m b))),some (.d (.tup (mpI n g))),o'] st) else some (.rt (.d (.bl false)) st)
 |[],o,_=>⟨o,rfl⟩
 |k::ks,o,hk=>by
  have hm:=h.m64
  have hkn:=hk k qaf
  obtain⟨o',ih⟩:=vf (st:=st) (cs:=cs) (ta:=ta) (p:=p) (pr:=pr) h ks (some (.d (.int ((k:Nat):Int)))) λx hx=>hk x (qaj _ hx)
  have hz:eE (aa (iV 4) (aa (iV 3) ae)) [some (.d cs),some (.d (.int p)),some (.d ta),some (.d (ti pr)),some (.d (bi m n R)),some (.d (.tup (mpI m b))),some (.d (.tup (mpI n g))),some (.d (.int ((k:Nat):Int)))] st=some (((qah m).zip pr).map λq=>D.tup [.tup (mpI n (R q.1)),.int q.2],st):=by
   rw[<-nn (λi=>D.tup (mpI n (R i))) D.int];rfl
  have hl:lcI (.tp [0,1]) bn fj [none,none,some (.d (.int ((k:Nat):Int)))] (((qah m).zip pr).map λq=>D.tup [.tup (mpI n (R q.1)),.int q.2]) st=some (((qah m).zip pr).map λq=>D.int (R q.1 k*q.2),st):=
   sP (g:=λq:Nat×Int=>(D.tup (mpI n (R q.1)),D.int q.2)) (λq=>D.int (R q.1 k*q.2)) λq hq=>ai (ai rfl rfl (show dIx st (.d (.tup (mpI n (R q.1)))) (.d (.int ((k:Nat):Int)))=some (.int (R q.1 k)) from dD (dR hkn))) rfl (ef st (lQ (h.R q.1 k (qaG.mp (qc0 hq).1) hkn)))
  have hs:qh st [.d (.lst (((qah m).zip pr).map λq=>D.int (R q.1 k*q.2)))]=some (.int (eZ (clL m R k) pr)):=by
   have:=zi st (((qah m).zip pr).map λq=>R q.1 k*q.2)
   rw[pP (λr=>R r k),qbi]at this
   exact this
  have hlen:(((qah m).zip pr).map λq=>D.tup [.tup (mpI n (R q.1)),.int q.2]).length<=1000000:=by
   rw[qam,qeK,qap];lia
  have ht:bh dLt (iCB qh (aa (aA (iLc 2 [7] (eE (aa (iV 4) (aa (iV 3) ae))) (.tp [0,1]) bn fj)) ae)) (iOp cv (iOp dIx (iV 6) (iV 7)) (iV 1)) [some (.d cs),some (.d (.int p)),some (.d ta),some (.d (ti pr)),some (.d (bi m n R)),some (.d (.tup (mpI m b))),some (.d (.tup (mpI n g))),some (.d (.int ((k:Nat):Int)))] st=some (decide (eZ (clL m R k) pr<g k*p),st):=
   aV (aC (ac (aL (cm hz hlen hl)) rfl) hs) (ai (ai rfl rfl (show dIx st (.d (.tup (mpI n g))) (.d (.int ((k:Nat):Int)))=some (.int (g k)) from dD (dR hkn))) rfl (ef st (lQ (h.g k hkn)))) (oM _ _ _)
  have ek:(0:Int)+((k:Nat):Int)=((k:Nat):Int):=by lia
  refine⟨o',?_⟩
  rw[qaB,ek]
  by_cases hc:eZ (clL m R k) pr<g k*p
  ·rw[decide_eq_true hc]at ht
   have hb:cb [some (.d cs),some (.d (.int p)),some (.d ta),some (.d (ti pr)),some (.d (bi m n R)),some (.d (.tup (mpI m b))),some (.d (.tup (mpI n g))),some (.d (.int ((k:Nat):Int)))] st=some (.rt (.d (.bl false)) st):=cU ht rfl
   rw[qbp,decide_eq_false (show ¬ eZ (clL m R k) pr>=g k*p by lia),qgH,if_neg (by decide)]
   simp only[dY,show e9 (.nm 7) (.d (.int ((k:Nat):Int))) [some (.d cs),some (.d (.int p)),some (.d ta),some (.d (ti pr)),some (.d (bi m n R)),some (.d (.tup (mpI m b))),some (.d (.tup (mpI n g))),o]=some [some (.d cs),some (.d (.int p)),some (.d ta),some (.d (ti pr)),some (.d (bi m n R)),some (.d (.tup (mpI m b))),some (.d (.tup (mpI n g))),some (.d (.int ((k:Nat):Int)))] from rfl,qab,hb]
  ·rw[decide_eq_false hc]at ht
   have hb:cb [some (.d cs),some (.d (.int p)),some (.d ta),some (.d (ti pr)),some (.d (bi m n R)),some (.d (.tup (mpI m b))),some (.d (.tup (mpI n g))),some (.d (.int ((k:Nat):Int)))] st=some (.nx [some (.d cs),some (.d (.int p)),some (.d ta),some (.d (ti pr)),some (.d (bi m n R)),some (.d (.tup (mpI m b))),some (.d (.tup (mpI n g))),some (.d (.int ((k:Nat):Int)))] st):=cy ht rfl
   rw[qbp,decide_eq_true (show eZ (clL m R k) pr>=g k*p by lia),qgQ,<-ih]
   simp only[dY,show e9 (.nm 7) (.d (.int ((k:Nat):Int))) [some (.d cs),some (.d (.int p)),some (.d ta),some (.d (ti pr)),some (.d (bi m n R)),some (.d (.tup (mpI m b))),some (.d (.tup (mpI n g))),o]=some [some (.d cs),some (.d (.int p)),some (.d ta),some (.d (ti pr)),some (.d (bi m n R)),some (.d (.tup (mpI m b))),some (.d (.tup (mpI n g))),some (.d (.int ((k:Nat):Int)))] from rfl,qab,hb]
theorem BJ {st:Sto}{p:Int}{am pr:List Int} (h:Inp m n R b g) (ha:am.length<=1000) (hp:pr.length<=1000):eJ [.d (cR m n R b g),.d (.int p),.d (ti am),.d (ti pr)] st=some (.d (.bl (oW m n R b g p am pr)),st):=by
 have hm:=h.m64
 have hn:=h.n64
 have k1:=zL (st:=st) (xs:=am) (k:=n) ha
 have k2:=zL (st:=st) (xs:=pr) (k:=m) hp
 have k5:=rA (st:=st) (xs:=(qah m).map b) (ys:=pr) h.bL
 have k6:=rA (st:=st) (xs:=(qah n).map g) (ys:=am) h.gL
 rw[<-qv]at k5 k6
 have l1:=pq (n:=n) st g
 have l2:=uW (m:=m) (n:=n) (R:=R) st
 obtain⟨o',hf⟩:=vf (st:=st) (cs:=cR m n R b g) (ta:=ti am) (p:=p) (pr:=pr) h (qah n) none λk hk=>qaG.mp hk
 have hzb:eE (aa (iV 4) (aa (iV 5) ae)) [some (.d (cR m n R b g)),some (.d (.int p)),some (.d (ti am)),some (.d (ti pr)),some (.d (bi m n R)),some (.d (.tup (mpI m b))),some (.d (.tup (mpI n g))),none] st=some ((qah m).map λi=>D.tup [.tup (mpI n (R i)),.int (b i)],st):=by
  rw[<-wv];rfl
 have hany:lcI (.tp [0,1]) bn fk [none,none,some (.d (ti am)),some (.d (.int p))] ((qah m).map λi=>D.tup [.tup (mpI n (R i)),.int (b i)]) st=some ((qah m).map λr=>D.bl (decide (eZ (rlL n R r) am > b r*p)),st):=
  rH (g:=λi=>(D.tup (mpI n (R i)),.int (b i))) (λr=>D.bl (decide (eZ (rlL n R r) am > b r*p))) λi hi=>by
   have hi':=qaG.mp hi
   have kd:=rA (st:=st) (xs:=rlL n R i) (ys:=am) (h.row hi')
   unfold rlL at kd
   rw[<-qv]at kd
   exact ai (aq (ws:=[.d (.tup (mpI n (R i))),.d (ti am)]) rfl kd) (ai rfl rfl (ef st (lQ (h.b i hi').1))) (sX _ _ _)
 have c0:aN (.tp [4,5,6]) (iV 0) [some (.d (cR m n R b g)),some (.d (.int p)),some (.d (ti am)),some (.d (ti pr)),none,none,none,none] st=some (.nx [some (.d (cR m n R b g)),some (.d (.int p)),some (.d (ti am)),some (.d (ti pr)),some (.d (bi m n R)),some (.d (.tup (mpI m b))),some (.d (.tup (mpI n g))),none] st):=rfl
 have hrng:cO (aa (iCB bf (aa (iV 6) ae)) ae) [some (.d (cR m n R b g)),some (.d (.int p)),some (.d (ti am)),some (.d (ti pr)),some (.d (bi m n R)),some (.d (.tup (mpI m b))),some (.d (.tup (mpI n g))),none] st=some (dn 0 n,st):=kF (aC (ac rfl rfl) l1) (by lia) (by lia) (by lia)
 generalize cR m n R b g=cs at *
 generalize bi m n R=rs at *
 generalize D.tup (mpI m b)=bs at *
 generalize D.tup (mpI n g)=gs at *
 generalize ti am=ta at *
 generalize ti pr=tp at *
 have c1:cG (bB (bM bN (av cI (aa (iV 1) ae)))) (cG (bh dLt (iV 1) (iC (.int 1))) (bB (bM bN (av bo (aa (iV 2) (aa (iCB bf (aa (iV 6) ae)) ae)))))) [some (.d cs),some (.d (.int p)),some (.d ta),some (.d tp),some (.d rs),some (.d bs),some (.d gs),none] st=some (false||(decide (p<1)||!(gf am n)),st):=ju (k:=false) rfl (ju (aV rfl rfl (oM _ _ _)) (cx (eA (aq (ac rfl (ac (aC (ac rfl rfl) l1) rfl)) k1))))
 have c2:bB (bM bN (av bo (aa (iV 3) (aa (iCB bf (aa (iV 4) ae)) ae)))) [some (.d cs),some (.d (.int p)),some (.d ta),some (.d tp),some (.d rs),some (.d bs),some (.d gs),none] st=some (!(gf pr m),st):=cx (eA (aq (ac rfl (ac (aC (ac rfl rfl) l2) rfl)) k2))
 have c3:bM bN (iCB uP (aa (aA (iLc 2 [2,1] (eE (aa (iV 4) (aa (iV 5) ae))) (.tp [0,1]) bn fk)) ae)) [some (.d cs),some (.d (.int p)),some (.d ta),some (.d tp),some (.d rs),some (.d bs),some (.d gs),none] st=some ((qah m).any λr=>decide (eZ (rlL n R r) am > b r*p),st):=eA (aC (ac (aL (cm hzb (by rw[qam,qap];lia) hany)) rfl) (Ct st _ _))
 have c4:ar (jh (cO (aa (iCB bf (aa (iV 6) ae)) ae)) (.nm 7) cb) (br (iOp dEq (av cN (aa (iV 5) (aa (iV 3) ae))) (av cN (aa (iV 6) (aa (iV 2) ae))))) [some (.d cs),some (.d (.int p)),some (.d ta),some (.d tp),some (.d rs),some (.d bs),some (.d gs),none] st=some (.rt (.d (.bl (sM m n R g pr p&&eqB m n b g am pr))) st):=by
  change dY (.nm 7) cb (dn 0 n) _ st=if sM m n R g pr p=true then _ else _ at hf
  cases hcv:sM m n R g pr p with
  |true=>
   rw[hcv,if_pos rfl]at hf
   exact au (cQ hrng hf) (aY (ai (aq rfl k5) (aq rfl k6) (oS _ _ _)))
  |false=>
   rw[hcv,if_neg (by decide)]at hf
   exact cX (cQ hrng hf)
 have:=az (n:=8) (k:=4) (b:=bP) (ws:=[.d cs,.d (.int p),.d ta,.d tp]) rfl (au c0 (kc c1 (kc c2 (kc c3 c4))))
 show cC 8 4 bP _ st=_
 rw[this]
 have e3:((qah m).any λr=>decide (eZ (rlL n R r) am > b r*p))=!(j7 m n R b am p):=by
  unfold j7
  rw[List.not_all_eq_any_not]
  congr 1
  funext r
  rw[qbK];simp
 rw[e3]
 unfold oW
 cases decide (p<1)<;>cases gf am n<;>cases gf pr m<;>cases j7 m n R b am p<;>rfl
theorem CK {st:Sto}{w:Str}{xs:List Int} (h:Inp m n R b g) (hx:xs.length<=1000):dk [.d (cR m n R b g),.d (.tup [.str w,ti xs])] st=some (.d (.bl ((w=="beyond")&&ze m n R g xs)),st):=by
 have hm:=h.m64
 have k1:=zL (st:=st) (xs:=xs) (k:=n) hx
 have k6:=rA (st:=st) (xs:=(qah n).map g) (ys:=xs) h.gL
 rw[<-qv]at k6
 have l1:=pq (n:=n) st g
 have hl:lcI (.nm 0) bn i4 [none,some (.d (.tup [.str w,ti xs]))] ((qah m).map λi=>D.tup (mpI n (R i))) st=some ((qah m).map λr=>D.bl (decide (eZ (rlL n R r) xs<=0)),st):=
  lc (g:=λi=>D.tup (mpI n (R i))) (λr=>D.bl (decide (eZ (rlL n R r) xs<=0))) λi hi=>by
   have kd:=rA (st:=st) (xs:=rlL n R i) (ys:=xs) (h.row (qaG.mp hi))
   unfold rlL at kd
   rw[<-qv]at kd
   exact ai (aq (ws:=[.d (.tup (mpI n (R i))),.d (ti xs)]) (ac rfl (ac (ai rfl rfl (lC _ _ _)) rfl)) kd) rfl (Cm _ _ _)
 have j0:dIx st (.d (cR m n R b g)) (.d (.int 0))=some (bi m n R):=rfl
 have j2:dIx st (.d (cR m n R b g)) (.d (.int 2))=some (.tup (mpI n g)):=rfl
 generalize cR m n R b g=cs at *
 generalize D.tup (mpI n g)=gs at *
 generalize ti xs=tx at *
 have c1:cG (bh dNe (iOp dIx (iV 1) (iC (.int 0))) (iC (.str "beyond"))) (bB (bM bN (av bo (aa (iOp dIx (iV 1) (iC (.int 1))) (aa (iCB bf (aa (iOp dIx (iV 0) (iC (.int 2))) ae)) ae))))) [some (.d cs),some (.d (.tup [.str w,tx]))] st=some (!(w=="beyond")||!(gf xs n),st):=ju (aV (ai rfl rfl (kL _ _ _)) rfl rfl) (cx (eA (aq (ac (ai rfl rfl (lC _ _ _)) (ac (aC (ac (ai rfl rfl j2) rfl) l1) rfl)) k1)))
 have c2:d7 (iCB ms (aa (aA (iLc 1 [1] (bj (iOp dIx (iV 0) (iC (.int 0)))) (.nm 0) bn i4)) ae)) (iOp dGt (av cN (aa (iOp dIx (iV 0) (iC (.int 2))) (aa (iOp dIx (iV 1) (iC (.int 1))) ae))) (iC (.int 0))) [some (.d cs),some (.d (.tup [.str w,tx]))] st=some (.d (.bl (((qah m).all λr=>decide (eZ (rlL n R r) xs<=0))&&decide (eZ ((qah n).map g) xs > 0))),st):=iw (aC (ac (aL (cm (iF (ai rfl rfl j0)) (by rw[qam,qap];lia) hl)) rfl) (rX st _ _)) (ai (aq (ac (ai rfl rfl j2) (ac (ai rfl rfl (lC _ _ _)) rfl)) k6) rfl (sX _ _ _))
 have:=az (n:=2) (k:=2) (b:=dg) (ws:=[.d cs,.d (.tup [.str w,tx])]) rfl (au (cy (s:=st) (cV (s:=st) rfl (cV (s:=st) rfl (cx (k:=true) (eA (aC (ac (ai rfl rfl (kL _ _ _)) (ac rfl rfl)) rfl))))) rfl) (au (cy (s:=st) rfl rfl) (kc c1 (aY c2))))
 show cC 2 2 dg _ st=_
 rw[this]
 have e3:((qah m).all λr=>decide (eZ (rlL n R r) xs<=0))=j7 m n R (λ_=>0) xs 1:=rfl
 rw[e3]
 unfold ze
 cases (w=="beyond")<;>cases gf xs n<;>rfl
theorem CO {st:Sto}{w:Str}{p:Int}{xs ys:List Int} (h:Inp m n R b g) (hx:xs.length<=1000) (hy:ys.length<=1000):dk [.d (cR m n R b g),.d (.tup [.str w,.int p,ti xs,ti ys])] st=some (.d (.bl ((w=="most")&&oW m n R b g p xs ys)),st):=by
 have k:=BJ (st:=st) (p:=p) (am:=xs) (pr:=ys) h hx hy
 generalize cR m n R b g=cs at *
 generalize ti xs=tx at *
 generalize ti ys=ty at *
 have i0:dIx st (.d (.tup [.str w,.int p,tx,ty])) (.d (.int 0))=some (.str w):=rfl
 have i1:dIx st (.d (.tup [.str w,.int p,tx,ty])) (.d (.int 1))=some (.int p):=rfl
 have i2:dIx st (.d (.tup [.str w,.int p,tx,ty])) (.d (.int 2))=some tx:=rfl
 have i3:dIx st (.d (.tup [.str w,.int p,tx,ty])) (.d (.int 3))=some ty:=rfl
 exact az (n:=2) (k:=2) (b:=dg) rfl (au (cy (s:=st) (cV (s:=st) rfl (cV (s:=st) rfl (cx (k:=true) (eA (aC (ac (ai rfl rfl i0) (ac rfl rfl)) rfl))))) rfl) (cX (cU (s:=st) rfl (aY (iw (ai (ai rfl rfl i0) rfl (oR _ _ _)) (aq (ac rfl (ac (ai rfl rfl i1) (ac (ai rfl rfl i2) (ac (ai rfl rfl i3) rfl)))) k))))))
theorem pi {x:D} (h:Inp m n R b g) (hx:Itm x):∃ k:Bool,∀ st,ci [.d (bi m n R),.d (.tup (mpI m b)),.d (.tup (mpI n g)),.d x] st=some (.d (.bl k),st)/\dk [.d (cR m n R b g),.d x] st=some (.d (.bl k),st):=by
 cases hx with
 |two w xs h1=>exact⟨_,λst=>⟨zR h h1,CK h h1⟩⟩
 |four w p xs ys h1 h2=>exact⟨_,λst=>⟨Am h h1 h2,CO h h1 h2⟩⟩
end
end Own
set_option maxHeartbeats 1000000
namespace Own
open PySem L2
open Sx (Pb Tb Good Named Fe LV ZV piv lexP leastR leaveL sumN unit colV basis)
def BH (z:Int):Prop:=z.natAbs<=2^50
theorem uD {α:Type} [Inhabited α] {Q:α->Prop}{G:α->D}:∀ {us:List D},(∀ u∈us,∃ x,Q x/\u=G x)->∃ F:Nat->α,us=(qah us.length).map (λi=>G (F i))/\∀ i,i<us.length->Q (F i)
 |[],_=>⟨λ_=>default,rfl,λi hi=>absurd hi (qc5 _)⟩
 |u::us,h=>by
  obtain⟨x,hx,e⟩:=h u qaf
  obtain⟨F,e2,h2⟩:=uD (us:=us) λv hv=>h v (qaj _ hv)
  refine⟨λi=>match i with|0=>x|i+1=>F i,?_,λi hi=>?_⟩
  ·rw[qas,qcb,qaB,qbi,e]
   congr 1
  ·match i,hi with
   |0,_=>exact hx
   |i+1,hi=>exact h2 i (by rw[qas]at hi;lia)
theorem xQ {Q:Int->Prop}{us:List D}{n:Nat} (h:∀ u∈us,∃ z,Q z/\u=.int z) (hn:us.length=n):∃ f,us=mpI n f/\∀ k,k<n->Q (f k):=by
 obtain⟨F,e,h2⟩:=uD h
 rw[hn]at e h2
 exact⟨F,e,h2⟩
def tP (lo hi:Int) (u:D):Prop:=∃ z,(lo<=z/\z<=hi)/\u=.int z
def Ac (n:Nat) (u:D):Prop:=∃ f:Nat->Int,(∀ c,c<n->BH (f c))/\u=.tup (mpI n f)
theorem Bh {us:List D}{n:Nat}{lo hi:Int} (h:∀ u∈us,tP lo hi u) (hl:-1000000000000000<=lo) (hh:hi<=1000000000000000) (hn:us.length=n):Ac n (.tup us):=by
 obtain⟨f,e,hf⟩:=xQ h hn
 refine⟨f,λc hc=>?_,by rw[e]⟩
 have:=hf c hc
 unfold BH
 lia
theorem Aq {rs bs gs:List D}{m n:Nat} (hm:m<=8) (hn:n<=100) (hr:rs.length=m) (h1:∀ u∈rs,Ac n u) (hb:bs.length=m) (h2:∀ u∈bs,tP 0 1000000000000000 u) (hg:gs.length=n) (h3:∀ u∈gs,tP (-1000000) 1000000 u):∃ R b g,Inp m n R b g/\D.tup [.tup rs,.tup bs,.tup gs]=cR m n R b g:=by
 obtain⟨F,e,hF⟩:=uD (α:=Nat->Int) h1
 obtain⟨b,eb,hB⟩:=xQ h2 hb
 obtain⟨g,eg,hG⟩:=xQ h3 hg
 rw[hr]at e hF
 refine⟨F,b,g,⟨by lia,hm,hn,λi c hi hc=>hF i hi c hc,λi hi=>⟨?_,(hB i hi).1⟩,λc hc=>?_⟩,by rw[e,eb,eg];rfl⟩
 ·have:=hB i hi;lia
 ·have:=hG c hc;lia
theorem dz {a b:Ef}{env:Ev}{st:Sto}{p:Nat}{m:Int} (ha:a env st=some (.h p,st)) (hb:b env st=some (.d (.int m),st)) (h:bT st p) (m0:0<m) (m1:m<=1000):∃ r st',0<=r/\r<m/\Stp p st st'/\av aH (aa a (aa b ae)) env st=some (.d (.int r),st'):=by
 obtain⟨r,st',r0,r1,t,e⟩:=yR h m0 m1
 exact⟨r,st',r0,r1,t,aq (ac ha (ac hb rfl)) e⟩
theorem rT {a b:Ef}{env:Ev}{st u:Sto}{p:Nat}{m:Int} (ha:a env (st++u)=some (.h p,st++u)) (hb:b env (st++u)=some (.d (.int m),st++u)) (h:bT st p) (m0:0<m) (m1:m<=1000):∃ r st',0<=r/\r<m/\Stp p st st'/\av aH (aa a (aa b ae)) env (st++u)=some (.d (.int r),st'++u):=by
 obtain⟨r,s,r0,r1,t,e⟩:=dz ha hb (h.app u) m0 m1
 obtain⟨st',rfl,t'⟩:=t.unapp h.lt
 exact⟨r,st',r0,r1,t',e⟩
theorem oP {te:Ef}{st u:Sto}{n:Nat}{a:Option W}{l:Ev} (Q:D->Prop) {ds:List D} (h:bT st n) (hte:∀ s d,d∈ds->bT s n->∃ x s',Q x/\Stp n s s'/\te (some (.d d)::l) s=some (.d x,s')) :
  ∃ us st',us.length=ds.length/\(∀ u∈us,Q u)/\Stp n st st'/\lcI (.nm 0) bn te (a::l) ds (st++u)=some (us,st'++u):=by
 obtain⟨us,s,h1,h2,t,e⟩:=rQ (a:=a) Q (h.app u) hte
 obtain⟨st',rfl,t'⟩:=t.unapp h.lt
 exact⟨us,st',h1,h2,t',e⟩
theorem wj {te:Ef}{p L:Nat}{all:List D}{l:Ev}{u:Sto} (Q:D->Prop) (hte:∀ s d,d∈all->bT s p->∃ x s',Q x/\Stp p s s'/\te (some (.d d)::l) s=some (.d x,s')):∀ (ds:List D) (a:Option W) (st:Sto),(∀ d∈ds,d∈all)->st.length=L->bT st p->
  ∃ us st',us.length=ds.length/\(∀ u∈us,Q u)/\Stp p st st'/\lcH L all (.nm 0) bn te (a::l) ds (st++.l all::u)=some (us,st'++.l all::u)
 |[],a,st,_,hL,h=>by
  refine⟨[],st,rfl,(λ_ h=>nomatch h),Stp.refl h,?_⟩
  unfold lcH
  rw[if_pos (by unfold lg;rw[qaI (by lia),hL,qci];rfl)]
 |d::ds,a,st,hm,hL,h=>by
  obtain⟨x,s,hx,t,e⟩:=hte (st++.l all::u) d (hm d qaf) (h.app _)
  obtain⟨b,rfl,t'⟩:=t.unapp h.lt
  obtain⟨us,st',h1,h2,t2,e2⟩:=wj Q hte ds a b (λv hv=>hm v (qaj _ hv)) (by rw[t'.len,hL]) t'.hand
  refine⟨x::us,st',by rw[qas,qas,h1],λv hv=>?_,t'.trans t2,?_⟩
  ·rcases qar.mp hv with rfl|hv
   ·exact hx
   ·exact h2 v hv
  ·unfold lcH
   rw[if_pos (by unfold lg;rw[qaI (by lia),hL,qci];rfl)]
   rw[show e9 (.nm 0) (.d d) (a::l)=some (some (.d d)::l) from rfl,qab,show bn (some (.d d)::l) (st++.l all::u)=some (true,st++.l all::u) from rfl,qab,if_pos rfl,e,qab,show mY [W.d x]=some [x] from rfl,qab,e2]
   rfl
theorem qq {b u:Sto}{L:Nat}{xs:List D} (h:b.length=L):lg (b++.l xs::u) L=some xs:=by
 unfold lg;rw[qaI (by lia),h,qci];rfl
theorem zd {b u:Sto}{L:Nat}{c c':C} (h:b.length=L):(b++c::u).set L c'=b++c'::u:=by
 rw[qcf _ _ (by lia),h,qci];rfl
theorem vQ {a b lo hi:Int} (h0:lo<=a) (h1:a<=hi) (hl:lo<=0) (hh:0<=hi) (hb:b=0\/b=1):lo<=a*b/\a*b<=hi:=by
 rcases hb with rfl|rfl
 ·rw[qbc];lia
 ·rw[qd6];lia
theorem yp {st:Sto}{p:Nat} (h:bT st p):∃ m n R b g st',1<=n/\Inp m n R b g/\Stp p st st'/\jy [.h p] st=some (.d (cR m n R b g),st'):=by
 -- many
 obtain⟨r1,a1,q0,q1,t1,e1⟩:=dz (a:=iV 0) (b:=iC (.int 5)) (env:=[some (.h p),none,none,none,none,none,none]) rfl rfl h (by decide) (by decide)
 obtain⟨many,hmany⟩:∃ many:Nat,(many:Int)=1+r1:=⟨(1+r1).toNat,by lia⟩
 have s1:aN (.nm 1) (iOp cg (iC (.int 1)) (av aH (aa (iV 0) (aa (iC (.int 5)) ae)))) [some (.h p),none,none,none,none,none,none] st=some (.nx [some (.h p),some (.d (.int (many:Int))),none,none,none,none,none] a1):=by
  rw[hmany];exact aE (ai rfl e1 rfl)
 -- low
 obtain⟨r2,a2,q2,q3,t2,e2⟩:=dz (a:=iV 0) (b:=iC (.int 3)) (env:=[some (.h p),some (.d (.int (many:Int))),none,none,none,none,none]) (st:=a1) rfl rfl t1.hand (by decide) (by decide)
 have hlow:∃ low:Int,0<=low/\low<=3/\∀ s,dIx s (.d (.lst [.int 0,.int 3,.int 1])) (.d (.int r2))=some (.int low):=by
  have:r2=0\/r2=1\/r2=2:=by lia
  rcases this with rfl|rfl|rfl
  ·exact⟨0,by decide,by decide,λ_=>rfl⟩
  ·exact⟨3,by decide,by decide,λ_=>rfl⟩
  ·exact⟨1,by decide,by decide,λ_=>rfl⟩
 obtain⟨low,l0,l1,hlow⟩:=hlow
 have s2:aN (.nm 2) (iOp dIx (aA (cf (aa (iC (.int 0)) (aa (iC (.int 3)) (aa (iC (.int 1)) ae))))) (av aH (aa (iV 0) (aa (iC (.int 3)) ae)))) [some (.h p),some (.d (.int (many:Int))),none,none,none,none,none] a1=some (.nx [some (.h p),some (.d (.int (many:Int))),some (.d (.int low)),none,none,none,none] a2):=aE (ai rfl e2 (hlow _))
 have t12:=t1.trans t2
 have s3:aN (.nm 3) (fF (cf ae)) [some (.h p),some (.d (.int (many:Int))),some (.d (.int low)),none,none,none,none] a2=some (.nx [some (.h p),some (.d (.int (many:Int))),some (.d (.int low)),some (.h a2.length),none,none,none] (a2++[.l []])):=rfl
 obtain⟨r4,a4,q4,q5,t4,e4⟩:=rT (a:=iV 0) (b:=iC (.int 6)) (env:=[some (.h p),some (.d (.int (many:Int))),some (.d (.int low)),some (.h a2.length),none,none,none]) (st:=a2) (u:=[.l []]) rfl rfl t2.hand (by decide) (by decide)
 obtain⟨m,hm⟩:∃ m:Nat,r4.toNat=m:=⟨_,rfl⟩
 have hit:=kF e4 q4 (by lia) hm
 have rngM:∀ (o3 o4 o5 o6:Option W) (s:Sto),cO (aa (iV 1) ae) [some (.h p),some (.d (.int (many:Int))),some (.d (.int low)),o3,o4,o5,o6] s=some (dn 0 many,s):=λo3 o4 o5 o6 s=>kF (e:=iV 1) (z:=(many:Int)) rfl (by lia) (by lia) (by lia)
 have rlen:(dn 0 many).length=many:=by unfold dn;rw[qam,qap]
 have row1:∀ s d,d∈dn 0 many->bT s p->∃ x s',tP (-9) 9 x/\Stp p s s'/\fY (some (.d d)::[some (.h p),some (.d (.int low))]) s=some (.d x,s'):=λs d _ hs=>by
  obtain⟨x1,c1,y0,y1,v1,f1⟩:=dz (a:=iV 1) (b:=iC (.int 7)) (env:=[some (.d d),some (.h p),some (.d (.int low))]) (st:=s) rfl rfl hs (by decide) (by decide)
  obtain⟨x2,c2,y2,y3,v2,f2⟩:=dz (a:=iV 1) (b:=iC (.int 4)) (env:=[some (.d d),some (.h p),some (.d (.int low))]) (st:=c1) rfl rfl v1.hand (by decide) (by decide)
  have hi:∃ k:Int,(k=0\/k=1)/\vo c2 [.d (.bl (decide (x2 > 0)))]=some (.int k):=by
   cases decide (x2 > 0) with
   |true=>exact⟨1,.inr rfl,rfl⟩
   |false=>exact⟨0,.inl rfl,rfl⟩
  obtain⟨k,hk,ek⟩:=hi
  have sm:=vQ (lo:=-9) (hi:=9) (a:=x1 - low) (b:=k) (by lia) (by lia) (by decide) (by decide) hk
  exact⟨_,c2,⟨_,sm,rfl⟩,v1.trans v2,ai (ai f1 rfl rfl) (aC (ac (ai f2 rfl (sX _ _ _)) rfl) ek) (ef _ (kM (by lia)))⟩
 obtain⟨env',s5,e5,⟨o4,rfl⟩,us,b5,rfl,tb5,ul,uq⟩:=fm (g:=.nm 4) (body:=j6) (ds:=dn 0 m)
  (λi env s=>(∃ o4,env=[some (.h p),some (.d (.int (many:Int))),some (.d (.int low)),some (.h a2.length),o4,none,none])/\∃ us b,s=b++[.l us]/\Stp p a2 b/\us.length=i/\∀ u∈us,Ac many u)
  (env:=[some (.h p),some (.d (.int (many:Int))),some (.d (.int low)),some (.h a2.length),none,none,none]) (st:=a4++[.l []]) ⟨⟨_,rfl⟩,[],a4,rfl,t4,rfl,λ_ h=>nomatch h⟩ (λi d env s hd ⟨⟨o4,e0⟩,us,b,es,tb,hl,hq⟩=>by
   subst e0 es
   obtain⟨hi,rfl⟩:=nB hd
   obtain⟨vs,b',vl,vq,tv,ev⟩:=oP (a:=none) (u:=[.l us]) (tP (-9) 9) tb.hand row1
   refine⟨_,[some (.h p),some (.d (.int (many:Int))),some (.d (.int low)),some (.h a2.length),some (.d (.int (0+((i:Nat):Int)))),none,none],b'++[.l (us++[.tup vs])],rfl,.inl ?_,⟨_,rfl⟩,us++[.tup vs],b',rfl,tb.trans tv,by rw[qan,hl];rfl,λu hu=>?_⟩
   ·have hb':b'.length=a2.length:=by rw[tv.len,tb.len]
    have ha:iCB jE (aa (aA (iLc 1 [0,2] (cO (aa (iV 1) ae)) (.nm 0) bn fY)) ae) [some (.h p),some (.d (.int (many:Int))),some (.d (.int low)),some (.h a2.length),some (.d (.int (0+((i:Nat):Int)))),none,none] (b++[C.l us])=some (.d (.tup vs),b'++[C.l us]):=aC (ac (aL (cm (rngM _ _ _ _ _) (by rw[rlen];lia) ev)) rfl) rfl
    have:=B1 (o:=iV 3) (a:=iCB jE (aa (aA (iLc 1 [0,2] (cO (aa (iV 1) ae)) (.nm 0) bn fY)) ae)) (env:=[some (.h p),some (.d (.int (many:Int))),some (.d (.int low)),some (.h a2.length),some (.d (.int (0+((i:Nat):Int)))),none,none]) (st:=b++[C.l us]) (s1:=b++[C.l us]) (s2:=b'++[C.l us]) (d:=.tup vs) rfl ha (qq tb.len) (qq hb') (by lia)
    rw[zd hb']at this
    exact this
   ·rcases qaM.mp hu with hu|hu
    ·exact hq u hu
    ·rw[qag.mp hu]
     exact Bh vq (by decide) (by decide) (by rw[vl,rlen]))
 have ml:(dn 0 m).length=m:=by unfold dn;rw[qam,qap]
 rw[ml]at ul
 have hb5:b5.length=a2.length:=tb5.len
 -- far
 obtain⟨r6,b6,q6,q7,t6,e6⟩:=rT (a:=iV 0) (b:=iC (.int 4)) (env:=[some (.h p),some (.d (.int (many:Int))),some (.d (.int low)),some (.h a2.length),o4,none,none]) (st:=b5) (u:=[.l us]) rfl rfl tb5.hand (by decide) (by decide)
 have hpow:∀ s,mz s (.d (.int 10)) (.d (.int 12))=some (.int 1000000000000):=λs=>by
  show (if sv 10 12 then some (D.int (10^qgB 12)) else none)=_
  rw[if_pos ⟨by decide,by decide,by decide⟩];rfl
 have hfar:∃ far:Int,(0<=far/\far<=1000000000000)/\∀ s,dIx s (.d (.lst [.int 1,.int 1,.int 1,.int 1000000000000])) (.d (.int r6))=some (.int far):=by
  have:r6=0\/r6=1\/r6=2\/r6=3:=by lia
  rcases this with rfl|rfl|rfl|rfl
  ·exact⟨1,by decide,λ_=>rfl⟩
  ·exact⟨1,by decide,λ_=>rfl⟩
  ·exact⟨1,by decide,λ_=>rfl⟩
  ·exact⟨1000000000000,by decide,λ_=>rfl⟩
 obtain⟨far,hf,efar⟩:=hfar
 have s6:aN (.nm 5) (iOp dIx (aA (cf (aa (iC (.int 1)) (aa (iC (.int 1)) (aa (iC (.int 1)) (aa (iOp mz (iC (.int 10)) (iC (.int 12))) ae)))))) (av aH (aa (iV 0) (aa (iC (.int 4)) ae)))) [some (.h p),some (.d (.int (many:Int))),some (.d (.int low)),some (.h a2.length),o4,none,none] (b5++[.l us])=some (.nx [some (.h p),some (.d (.int (many:Int))),some (.d (.int low)),some (.h a2.length),o4,some (.d (.int far)),none] (b6++[.l us])):=by
  have hl:cf (aa (iC (.int 1)) (aa (iC (.int 1)) (aa (iC (.int 1)) (aa (iOp mz (iC (.int 10)) (iC (.int 12))) ae)))) [some (.h p),some (.d (.int (many:Int))),some (.d (.int low)),some (.h a2.length),o4,none,none] (b5++[.l us])=some ([.int 1,.int 1,.int 1,.int 1000000000000],b5++[.l us]):=by
   have:=ac (a:=iC (.int 1)) (env:=[some (.h p),some (.d (.int (many:Int))),some (.d (.int low)),some (.h a2.length),o4,none,none]) (st:=b5++[.l us]) rfl (ac (a:=iC (.int 1)) rfl (ac (a:=iC (.int 1)) rfl (ac (b:=ae) (ai (a:=iC (.int 10)) (b:=iC (.int 12)) rfl rfl (hpow _)) rfl)))
   simp only[cf,this,qab];rfl
  exact aE (ai (aL hl) e6 (efar _))
 have t56:=tb5.trans t6
 -- bounds
 obtain⟨bs,b7,bl,bq,t7,e7⟩:=wj (p:=p) (L:=a2.length) (all:=us) (te:=fT) (l:=[some (.h p),some (.d (.int far))]) (u:=[]) (tP 0 1000000000000000) (λs d _ hs=>by
  obtain⟨x1,c1,y0,y1,v1,f1⟩:=dz (a:=iV 1) (b:=iC (.int 8)) (env:=[some (.d d),some (.h p),some (.d (.int far))]) (st:=s) rfl rfl hs (by decide) (by decide)
  refine⟨_,c1,⟨x1*far,⟨qgM y0 hf.1,?_⟩,rfl⟩,v1,ai f1 rfl (ef _ (kM (by lia)))⟩
  have h1:x1*far<=7*far:=qcT (by lia) hf.1
  lia) us none b6 (λ_ h=>h) (by rw[t6.len,hb5]) t6.hand
 have hb6:b6.length=a2.length:=by rw[t6.len,hb5]
 have s7:aN (.nm 6) (iCB jE (aa (aA (sY 1 [0,5] (iV 3) (.nm 0) bn fT)) ae)) [some (.h p),some (.d (.int (many:Int))),some (.d (.int low)),some (.h a2.length),o4,some (.d (.int far)),none] (b6++[.l us])=some (.nx [some (.h p),some (.d (.int (many:Int))),some (.d (.int low)),some (.h a2.length),o4,some (.d (.int far)),some (.d (.tup bs))] (b7++[.l us])):=by
  have hlc:sY 1 [0,5] (iV 3) (.nm 0) bn fT [some (.h p),some (.d (.int (many:Int))),some (.d (.int low)),some (.h a2.length),o4,some (.d (.int far)),none] (b6++[.l us])=some (bs,b7++[.l us]):=by
   have hv:iV 3 [some (.h p),some (.d (.int (many:Int))),some (.d (.int low)),some (.h a2.length),o4,some (.d (.int far)),none] (b6++[.l us])=some (.h a2.length,b6++[.l us]):=rfl
   simp only[sY,hv,qab,qq hb6]
   rw[if_pos (by lia)]
   exact e7
  exact aE (aC (ac (aL hlc) rfl) rfl)
 -- gains
 obtain⟨gs,b8,gl,gq,t8,e8⟩:=oP (te:=iB) (a:=none) (l:=[some (.h p)]) (ds:=dn 0 many) (u:=[.l us]) (tP (-1000000) 1000000) t7.hand (λs d _ hs=>by
  obtain⟨x1,c1,y0,y1,v1,f1⟩:=dz (a:=iV 1) (b:=iC (.int 9)) (env:=[some (.d d),some (.h p)]) (st:=s) rfl rfl hs (by decide) (by decide)
  exact⟨_,c1,⟨x1 - 3,⟨by lia,by lia⟩,rfl⟩,v1,ai f1 rfl rfl⟩)
 have hb7:b7.length=a2.length:=by rw[t7.len,hb6]
 have s8:bE (aa (iCB jE (aa (iV 3) ae)) (aa (iV 6) (aa (iCB jE (aa (aA (iLc 1 [0] (cO (aa (iV 1) ae)) (.nm 0) bn iB)) ae)) ae))) [some (.h p),some (.d (.int (many:Int))),some (.d (.int low)),some (.h a2.length),o4,some (.d (.int far)),some (.d (.tup bs))] (b7++[.l us])=some (.d (.tup [.tup us,.tup bs,.tup gs]),b8++[.l us]):=by
  have hd:jE (b7++[.l us]) [.h a2.length]=some (.tup us):=by
   show (lg (b7++[.l us]) a2.length).map _=_
   rw[qq hb7];rfl
  exact vB (ac (aC (ac rfl rfl) hd) (ac rfl (ac (aC (ac (aL (cm (rngM _ _ _ _ _) (by rw[rlen];lia) e8)) rfl) rfl) rfl))) rfl (by show 3<=1000;decide)
 obtain⟨R,bb,gg,hinp,hcase⟩:=Aq (m:=m) (n:=many) (by lia) (by lia) ul uq (by rw[bl,ul]) bq (by rw[gl,rlen]) gq
 refine⟨m,many,R,bb,gg,b8,by lia,hinp,t12.trans (t56.trans (t7.trans t8)),?_⟩
 rw[<-hcase]
 have:=nW (n:=7) (k:=1) (b:=ge) (ws:=[.h p]) (st:=st) rfl (au s1 (au s2 (au s3 (au (cQ hit e5) (au s6 (au s7 (aY s8)))))))
 show jX 7 1 ge [.h p] st=_
 rw[this,List.take_left' (by rw[t8.len,hb7,t12.len])]
end Own
set_option maxHeartbeats 1000000
namespace Own
open PySem L2
open Sx (Pb Tb Good Named Fe LV ZV piv lexP leastR leaveL sumN unit colV basis)
def Pl:D->Bool
 |.ob _ _=>false
 |.ty _=>false
 |.scr _=>false
 |_=>true
def Pt (d:D):Prop:=Pl d=true/\∀ es,d=.tup es->es.length<=1000/\∀ e∈es,Pl e=true
def Th (x:D):Prop:=Pl x=true/\∀ ds,x=.tup ds->ds.length<=1000/\∀ d∈ds,Pt d
def kz:D->Bool
 |.int _=>true
 |_=>false
def nnB:D->Bool
 |.int i=>decide (i>=0)
 |_=>false
def d6:D->Nat->Bool
 |.tup ds,k=>(ds.length==k)&&ds.all nnB
 |_,_=>false
theorem lJ (d:D) (h:Pl d=true) (st:Sto):dJ [.d d] st=some (.d (.bl (kz d)),st):=by
 cases d with
 |ob _ _=>cases h
 |ty _=>cases h
 |scr _=>cases h
 |_=>rfl
theorem sI {w:Fn} (hw:∀ (d:D) (s:Sto),Pl d=true->w [.d d] s=some (.d (.bl (kz d)),s)) {st:Sto}{c:D}{k:Nat} (hc:Pt c):cC 2 2 (ar (ca (cG (bB (bM bN (iCB gm (aa (iV 0) (aa (iC (.ty "tuple")) ae))))) (bh dNe (iCB bf (aa (iV 0) ae)) (iV 1))) (br (iC (.bl false))) bm) (br (iCB ms (aa (aA (iLc 1 [] (bj (iV 0)) (.nm 0) bn (d7 (av w (aa (iV 0) ae)) (iOp dGe (iV 0) (iC (.int 0)))))) ae)))) [.d c,.d (.int (k:Int))] st=some (.d (.bl (d6 c k)),st):=by
 cases c with
 |ob _ _=>cases hc.1
 |ty _=>cases hc.1
 |scr _=>cases hc.1
 |tup ds=>
  obtain⟨hl,hp⟩:=hc.2 ds rfl
  have h1:cG (bB (bM bN (iCB gm (aa (iV 0) (aa (iC (.ty "tuple")) ae))))) (bh dNe (iCB bf (aa (iV 0) ae)) (iV 1)) [some (.d (.tup ds)),some (.d (.int (k:Int)))] st=some (!(ds.length==k),st):=by
   refine cV (s:=st) rfl (aV (aC (ac rfl rfl) (show bf st [.d (.tup ds)]=some (.int (ds.length:Int)) from rfl)) rfl ?_)
   show some (D.bl (!((ds.length:Int)==(k:Int))))=_
   rw[show ((ds.length:Int)==(k:Int))=(ds.length==k) by rw[qbK];simp;lia]
  have hlc:lcI (.nm 0) bn (d7 (av w (aa (iV 0) ae)) (iOp dGe (iV 0) (iC (.int 0)))) [none] (ds.map λd=>d) st=some (ds.map λd=>D.bl (nnB d),st):=
   tT (g:=λd=>d) (λd=>D.bl (nnB d)) λd hd=>by
    have hwd:=hw d st (hp d hd)
    cases d with
    |int i=>exact iw (k:=true) (aq rfl hwd) (ai rfl rfl (wl st _ _))
    |ob _ _=>cases hp _ hd
    |ty _=>cases hp _ hd
    |scr _=>cases hp _ hd
    |_=>
     have:=aq (m:=w) (a:=aa (iV 0) ae) (env:=[some (.d _)]) (st:=st) rfl hwd
     simp only[d7,this,qab,blW,kz,qbw,if_false];rfl
  rw[qg2]at hlc
  have:=kc (r:=br (iCB ms (aa (aA (iLc 1 [] (bj (iV 0)) (.nm 0) bn (d7 (av w (aa (iV 0) ae)) (iOp dGe (iV 0) (iC (.int 0)))))) ae))) h1 (aY (aC (ac (aL (cm (iF rfl) (by lia) hlc)) rfl) (rX st nnB ds)))
  rw[qfr]at this
  exact az (n:=2) (k:=2) rfl this
 |_=>rfl
theorem tH {st:Sto}{c:D}{k:Nat} (hc:Pt c):bH [.d c,.d (.int (k:Int))] st=some (.d (.bl (d6 c k)),st):=sI (w:=dJ) (λd s h=>lJ d h s) hc
theorem t5 {st:Sto}{c:D}{k:Nat} (hc:Pt c):bo [.d c,.d (.int (k:Int))] st=some (.d (.bl (d6 c k)),st):=sI (w:=cI) (λd s h=>lJ d h s) hc
theorem uL:∀ {ds:List D},ds.all nnB=true->∃ xs:List Int,ds=xs.map D.int
 |[],_=>⟨[],rfl⟩
 |d::ds,h=>by
  rw[qbp,qaR]at h
  obtain⟨xs,rfl⟩:=uL h.2
  cases d with
  |int i=>exact⟨i::xs,rfl⟩
  |_=>exact absurd h.1 qax
theorem pR {c:D}{k:Nat} (h:d6 c k=true):∃ xs:List Int,c=ti xs/\xs.length=k:=by
 cases c with
 |tup ds=>
  have h':((ds.length==k)&&ds.all nnB)=true:=h
  rw[qaR]at h'
  obtain⟨xs,rfl⟩:=uL h'.2
  refine⟨xs,rfl,?_⟩
  have:=beq_iff_eq.mp h'.1
  rwa [qam]at this
 |_=>exact absurd h qax
section
variable {m n:Nat}{R:Nat->Nat->Int}{b g:Nat->Int}
theorem zO {w:Str}{c:D}{st:Sto} (h:Inp m n R b g) (hc:Pt c) (hn:d6 c n=false):ci [.d (bi m n R),.d (.tup (mpI m b)),.d (.tup (mpI n g)),.d (.tup [.str w,c])] st=some (.d (.bl false),st)/\dk [.d (cR m n R b g),.d (.tup [.str w,c])] st=some (.d (.bl false),st):=by
 have l1:=pq (n:=n) st g
 have k1:=tH (st:=st) (k:=n) hc
 have k2:=t5 (st:=st) (k:=n) hc
 rw[hn]at k1 k2
 have j2:dIx st (.d (cR m n R b g)) (.d (.int 2))=some (.tup (mpI n g)):=rfl
 generalize bi m n R=rs at *
 generalize D.tup (mpI m b)=bs at *
 generalize D.tup (mpI n g)=gs at *
 generalize cR m n R b g=cs at *
 have kw:lp [.d rs,.d gs,.d c] st=some (.d (.bl false),st):=az (n:=3) (k:=3) (b:=iH) rfl (cX (cU (s:=st) (cx (k:=false) (eA (aq (ac rfl (ac (aC (ac rfl rfl) l1) rfl)) k1))) rfl))
 constructor
 ·have:=az (n:=4) (k:=4) (b:=cK) (ws:=[.d rs,.d bs,.d gs,.d (.tup [.str w,c])]) (st:=st) rfl (au (cy (s:=st) (cV (s:=st) rfl (cV (s:=st) rfl (cx (k:=true) (eA (aC (ac (ai rfl rfl (kL _ _ _)) (ac rfl rfl)) rfl))))) rfl) (au (cy (s:=st) rfl rfl) (aY (iw (ai (ai rfl rfl (kL _ _ _)) rfl (oR _ _ _)) (aq (ac rfl (ac rfl (ac (ai rfl rfl (lC _ _ _)) rfl))) kw)))))
  rw[qdU]at this
  exact this
 ·have c1:cG (bh dNe (iOp dIx (iV 1) (iC (.int 0))) (iC (.str "beyond"))) (bB (bM bN (av bo (aa (iOp dIx (iV 1) (iC (.int 1))) (aa (iCB bf (aa (iOp dIx (iV 0) (iC (.int 2))) ae)) ae))))) [some (.d cs),some (.d (.tup [.str w,c]))] st=some (!(w=="beyond")||!false,st):=ju (aV (ai rfl rfl (kL _ _ _)) rfl rfl) (cx (eA (aq (ac (ai rfl rfl (lC _ _ _)) (ac (aC (ac (ai rfl rfl j2) rfl) l1) rfl)) k2)))
  rw[Bool.not_false,Bool.or_true]at c1
  exact az (n:=2) (k:=2) (b:=dg) rfl (au (cy (s:=st) (cV (s:=st) rfl (cV (s:=st) rfl (cx (k:=true) (eA (aC (ac (ai rfl rfl (kL _ _ _)) (ac rfl rfl)) rfl))))) rfl) (au (cy (s:=st) rfl rfl) (cX (cU c1 rfl))))
theorem xV {w:Str}{p c e:D}{st:Sto} (h:Inp m n R b g) (hp:Pt p) (hc:Pt c) (he:Pt e) (hn:(kz p&&(d6 c n&&d6 e m))=false):ci [.d (bi m n R),.d (.tup (mpI m b)),.d (.tup (mpI n g)),.d (.tup [.str w,p,c,e])] st=some (.d (.bl false),st)/\dk [.d (cR m n R b g),.d (.tup [.str w,p,c,e])] st=some (.d (.bl false),st):=by
 have l1:=pq (n:=n) st g
 have l2:=uW (m:=m) (n:=n) (R:=R) st
 have kp:=lJ p hp.1 st
 have k1:=tH (st:=st) (k:=n) hc
 have k2:=tH (st:=st) (k:=m) he
 have q1:=t5 (st:=st) (k:=n) hc
 have q2:=t5 (st:=st) (k:=m) he
 have c0:aN (.tp [4,5,6]) (iV 0) [some (.d (cR m n R b g)),some (.d p),some (.d c),some (.d e),none,none,none,none] st=some (.nx [some (.d (cR m n R b g)),some (.d p),some (.d c),some (.d e),some (.d (bi m n R)),some (.d (.tup (mpI m b))),some (.d (.tup (mpI n g))),none] st):=rfl
 generalize bi m n R=rs at *
 generalize D.tup (mpI m b)=bs at *
 generalize D.tup (mpI n g)=gs at *
 generalize cR m n R b g=cs at *
 have i0:dIx st (.d (.tup [.str w,p,c,e])) (.d (.int 0))=some (.str w):=rfl
 have i1:dIx st (.d (.tup [.str w,p,c,e])) (.d (.int 1))=some p:=rfl
 have i2:dIx st (.d (.tup [.str w,p,c,e])) (.d (.int 2))=some c:=rfl
 have i3:dIx st (.d (.tup [.str w,p,c,e])) (.d (.int 3))=some e:=rfl
 have main:iO [.d rs,.d bs,.d gs,.d p,.d c,.d e] st=some (.d (.bl false),st)/\eJ [.d cs,.d p,.d c,.d e] st=some (.d (.bl false),st):=by
  have kl:cI [.d p] st=some (.d (.bl (kz p)),st):=kp
  cases hw:kz p with
  |false=>
   rw[hw]at kp kl
   exact⟨az (n:=6) (k:=6) (b:=dE) rfl (cX (cU (s:=st) (nw (s:=st) (cx (k:=false) (eA (aq rfl kp)))) rfl)),az (n:=8) (k:=4) (b:=bP) rfl (au c0 (cX (cU (s:=st) (nw (s:=st) (cx (k:=false) (eA (aq rfl kl)))) rfl)))⟩
  |true=>
   rw[hw]at kp kl
   rw[hw,qgQ]at hn
   cases p with
   |int z=>
    have a1:cG (bB (bM bN (av dJ (aa (iV 3) ae)))) (bh dLt (iV 3) (iC (.int 1))) [some (.d rs),some (.d bs),some (.d gs),some (.d (.int z)),some (.d c),some (.d e)] st=some (false||decide (z<1),st):=ju (k:=false) (cx (k:=true) (eA (aq rfl kp))) (aV rfl rfl (oM _ _ _))
    have a2:cG (bB (bM bN (av bH (aa (iV 4) (aa (iCB bf (aa (iV 2) ae)) ae))))) (bB (bM bN (av bH (aa (iV 5) (aa (iCB bf (aa (iV 0) ae)) ae))))) [some (.d rs),some (.d bs),some (.d gs),some (.d (.int z)),some (.d c),some (.d e)] st=some (!(d6 c n)||!(d6 e m),st):=ju (cx (eA (aq (ac rfl (ac (aC (ac rfl rfl) l1) rfl)) k1))) (cx (eA (aq (ac rfl (ac (aC (ac rfl rfl) l2) rfl)) k2)))
    have b1:cG (bB (bM bN (av cI (aa (iV 1) ae)))) (cG (bh dLt (iV 1) (iC (.int 1))) (bB (bM bN (av bo (aa (iV 2) (aa (iCB bf (aa (iV 6) ae)) ae)))))) [some (.d cs),some (.d (.int z)),some (.d c),some (.d e),some (.d rs),some (.d bs),some (.d gs),none] st=some (false||(decide (z<1)||!(d6 c n)),st):=ju (k:=false) (cx (k:=true) (eA (aq rfl kl))) (ju (aV rfl rfl (oM _ _ _)) (cx (eA (aq (ac rfl (ac (aC (ac rfl rfl) l1) rfl)) q1))))
    have b2:bB (bM bN (av bo (aa (iV 3) (aa (iCB bf (aa (iV 4) ae)) ae)))) [some (.d cs),some (.d (.int z)),some (.d c),some (.d e),some (.d rs),some (.d bs),some (.d gs),none] st=some (!(d6 e m),st):=cx (eA (aq (ac rfl (ac (aC (ac rfl rfl) l2) rfl)) q2))
    have e2:(!(d6 c n)||!(d6 e m))=true:=by
     revert hn
     cases d6 c n<;>cases d6 e m<;>decide
    rw[e2]at a2
    constructor
    ·cases hz:decide (z<1) with
     |true=>rw[hz]at a1;exact az (n:=6) (k:=6) (b:=dE) rfl (cX (cU (s:=st) a1 rfl))
     |false=>rw[hz]at a1;exact az (n:=6) (k:=6) (b:=dE) rfl (au (cy (s:=st) a1 rfl) (cX (cU (s:=st) a2 rfl)))
    ·cases hz:(false||(decide (z<1)||!(d6 c n))) with
     |true=>rw[hz]at b1;exact az (n:=8) (k:=4) (b:=bP) rfl (au c0 (cX (cU (s:=st) b1 rfl)))
     |false=>
      rw[hz]at b1
      have e3:(!(d6 e m))=true:=by
       revert hz e2
       cases d6 c n<;>cases d6 e m<;>cases decide (z<1)<;>decide
      rw[e3]at b2
      exact az (n:=8) (k:=4) (b:=bP) rfl (au c0 (au (cy (s:=st) b1 rfl) (cX (cU (s:=st) b2 rfl))))
   |_=>exact absurd hw qax
 constructor
 ·have:=az (n:=4) (k:=4) (b:=cK) (ws:=[.d rs,.d bs,.d gs,.d (.tup [.str w,p,c,e])]) (st:=st) rfl (au (cy (s:=st) (cV (s:=st) rfl (cV (s:=st) rfl (cx (k:=true) (eA (aC (ac (ai rfl rfl i0) (ac rfl rfl)) rfl))))) rfl) (cX (cU (s:=st) rfl (aY (iw (ai (ai rfl rfl i0) rfl (oR _ _ _)) (aq (ac rfl (ac rfl (ac rfl (ac (ai rfl rfl i1) (ac (ai rfl rfl i2) (ac (ai rfl rfl i3) rfl)))))) main.1))))))
  rw[qdU]at this
  exact this
 ·have:=az (n:=2) (k:=2) (b:=dg) (ws:=[.d cs,.d (.tup [.str w,p,c,e])]) (st:=st) rfl (au (cy (s:=st) (cV (s:=st) rfl (cV (s:=st) rfl (cx (k:=true) (eA (aC (ac (ai rfl rfl i0) (ac rfl rfl)) rfl))))) rfl) (cX (cU (s:=st) rfl (aY (iw (ai (ai rfl rfl i0) rfl (oR _ _ _)) (aq (ac rfl (ac (ai rfl rfl i1) (ac (ai rfl rfl i2) (ac (ai rfl rfl i3) rfl)))) main.2))))))
  rw[qdU]at this
  exact this
theorem nK {x:D}{st:Sto} (rs bs gs cs:D) (hb:∀ (i:Nat) (env:Ev),iV i env st=some (.d x,st)->cG (bB (bM bN (iCB gm (aa (iV i) (aa (iC (.ty "tuple")) ae))))) (cG (bh jj (iCB bf (aa (iV i) ae)) (bE (aa (iC (.int 2)) (aa (iC (.int 4)) ae)))) (bB (bM bN (iCB gm (aa (iOp dIx (iV i) (iC (.int 0))) (aa (iC (.ty "str")) ae)))))) env st=some (true,st)):ci [.d rs,.d bs,.d gs,.d x] st=some (.d (.bl false),st)/\dk [.d cs,.d x] st=some (.d (.bl false),st):=
 ⟨az (n:=4) (k:=4) (b:=cK) rfl (cX (cU (hb 3 _ rfl) rfl)),az (n:=2) (k:=2) (b:=dg) rfl (cX (cU (hb 1 _ rfl) rfl))⟩
theorem wc (st:Sto) (l:Int):jj st (.d (.int l)) (.d (.tup [.int 2,.int 4]))=some (.bl (!(l==2||l==4))):=by
 show some (D.bl (!(inD (.int l) [.int 2,.int 4])))=_
 rw[show inD (.int l) [.int 2,.int 4]=(l==2||l==4) by
  show (((2:Int)==l)||(((4:Int)==l)||false))=_
  rw[qgR,qbK];simp;lia]
theorem wW {x:D} (h:Inp m n R b g) (hx:Th x):∃ k:Bool,∀ st,ci [.d (bi m n R),.d (.tup (mpI m b)),.d (.tup (mpI n g)),.d x] st=some (.d (.bl k),st)/\dk [.d (cR m n R b g),.d x] st=some (.d (.bl k),st):=by
 have hn:=h.n64
 have hm:=h.m64
 cases x with
 |ob _ _=>cases hx.1
 |ty _=>cases hx.1
 |scr _=>cases hx.1
 |tup ds=>
  obtain⟨hl,hp⟩:=hx.2 ds rfl
  by_cases hlen:ds.length=2\/ds.length=4
  ·have hd0:∃ a rest,ds=a::rest:=by
    cases ds with
    |nil=>rcases hlen with q|q<;>cases q
    |cons a rest=>exact⟨a,rest,rfl⟩
   obtain⟨a,rest,rfl⟩:=hd0
   have ha:=hp a qaf
   by_cases hs:∃ w,a=.str w
   ·obtain⟨w,rfl⟩:=hs
    rcases hlen with q|q
    ·match rest,q,hp with
     |[c],_,hp=>
      have hc:=hp c (by simp)
      cases hk:d6 c n with
      |false=>exact⟨false,λst=>zO h hc hk⟩
      |true=>
       obtain⟨xs,rfl,hxs⟩:=pR hk
       exact pi h (.two w xs (by lia))
    ·match rest,q,hp with
     |[p,c,e],_,hp=>
      have h1:=hp p (by simp)
      have h2:=hp c (by simp)
      have h3:=hp e (by simp)
      cases hk:(kz p&&(d6 c n&&d6 e m)) with
      |false=>exact⟨false,λst=>xV h h1 h2 h3 hk⟩
      |true=>
       rw[qaR,qaR]at hk
       obtain⟨xs,rfl,hxs⟩:=pR hk.2.1
       obtain⟨ys,rfl,hys⟩:=pR hk.2.2
       cases p with
       |int z=>exact pi h (.four w z xs ys (by lia) (by lia))
       |_=>exact absurd hk.1 qax
   ·refine⟨false,λst=>nK _ _ _ _ λi env hi=>?_⟩
    have hty:∀ s,gm s [.d a,.d (.ty "str")]=some (.bl false):=λs=>by
     cases a with
     |str w=>exact absurd ⟨w,rfl⟩ hs
     |ob _ _=>cases ha.1
     |ty _=>cases ha.1
     |scr _=>cases ha.1
     |_=>rfl
    have hl2:bh jj (iCB bf (aa (iV i) ae)) (bE (aa (iC (.int 2)) (aa (iC (.int 4)) ae))) env st=some (false,st):=by
     refine aV (aC (ac hi rfl) (show bf st [.d (.tup (a::rest))]=some (.int ((a::rest).length:Int)) from rfl)) (y:=.d (.tup [.int 2,.int 4])) rfl ?_
     rw[wc]
     rcases hlen with q|q<;>rw[q]<;>rfl
    exact cV (s:=st) (cx (k:=true) (eA (aC (ac hi (ac rfl rfl)) rfl))) (cV (s:=st) hl2 (cx (k:=false) (eA (aC (ac (ai hi rfl (show dIx st (.d (.tup (a::rest))) (.d (.int ((0:Nat):Int)))=some a from dD rfl)) (ac rfl rfl)) (hty _)))))
  ·refine⟨false,λst=>nK _ _ _ _ λi env hi=>?_⟩
   have hl2:bh jj (iCB bf (aa (iV i) ae)) (bE (aa (iC (.int 2)) (aa (iC (.int 4)) ae))) env st=some (true,st):=by
    refine aV (aC (ac hi rfl) (show bf st [.d (.tup ds)]=some (.int (ds.length:Int)) from rfl)) (y:=.d (.tup [.int 2,.int 4])) rfl ?_
    rw[wc]
    have e1:((ds.length:Int)==2)=false:=beq_eq_false_iff_ne.mpr (by lia)
    have e2:((ds.length:Int)==4)=false:=beq_eq_false_iff_ne.mpr (by lia)
    rw[e1,e2];rfl
   exact cV (s:=st) (cx (k:=true) (eA (aC (ac hi (ac rfl rfl)) rfl))) (nw (s:=st) hl2)
 |_=>exact⟨false,λst=>nK _ _ _ _ λi env hi=>nw (s:=st) (cx (k:=false) (eA (aC (ac hi (ac rfl rfl)) rfl)))⟩
end
end Own
set_option maxHeartbeats 1000000
namespace Own
open PySem L2
open Sx (Pb Tb Good Named Fe LV ZV piv lexP leastR leaveL sumN unit colV basis)
theorem oX {a:Af}{env:Ev}{st s:Sto}{ws:List W}{ds:List D} (h:a env st=some (ws,s)) (hd:mY ws=some ds) (hl:ds.length<=1000):cf a env st=some (ds,s):=by
 simp only[cf,h,qab,hd,hl,if_true]
theorem AD {s:Sto}{L:List D}{r:Int} (r0:0<=r) (r1:r<(L.length:Int)):∃ d∈L,dIx s (.d (.lst L)) (.d (.int r))=some d:=by
 obtain⟨k,rfl⟩:=qfj r0
 have hk:k<L.length:=by lia
 exact⟨L[k],qcV hk,dD (qaK hk)⟩
def jW (x:D):List D:=[.non,.bl true,.bl false,.int 0,.int 1,.int (-1),.str "",.str "most",.str "beyond",.str "Most",.tup [],.lst [],.dct,.tup [x],.lst [x],.int 10000000000000000000,.dct]
theorem nq {st:Sto}{p:Nat}{x:D}{o2:Option W}:aN (.nm 2) (aA (cf (aa (iC .non) (aa (iC (.bl true)) (aa (iC (.bl false)) (aa (iC (.int 0)) (aa (iC (.int 1)) (aa (iUn mq (iC (.int 1))) (aa (iC (.str "")) (aa (iC (.str "most")) (aa (iC (.str "beyond")) (aa (iC (.str "Most")) (aa (bE ae) (aa (aA (cf ae)) (aa (iC .dct) (aa (bE (aa (iV 1) ae)) (aa (aA (cf (aa (iV 1) ae))) (aa (iOp mz (iC (.int 10)) (iC (.int 19))) (aa (iC .dct) ae))))))))))))))))))) [some (.h p),some (.d x),o2] st=some (.nx [some (.h p),some (.d x),some (.d (.lst (jW x)))] st):=by
 have hpow:mz st (.d (.int 10)) (.d (.int 19))=some (.int 10000000000000000000):=by
  show (if sv 10 19 then some (D.int (10^qgB 19)) else none)=_
  rw[if_pos ⟨by decide,by decide,by decide⟩];rfl
 refine aE (w:=.d (.lst (jW x))) (aL (oX (ws:=(jW x).map W.d) ?_ rfl (by show 17<=1000;decide)))
 exact ac rfl (ac rfl (ac rfl (ac rfl (ac rfl (ac rfl (ac rfl (ac rfl (ac rfl (ac rfl (ac rfl (ac rfl (ac rfl (ac rfl (ac rfl (ac (ai rfl rfl hpow) (ac rfl rfl))))))))))))))))
def mR (Q:D->Prop) (x:D):Prop:=(∀ d∈jW x,Q d)/\((∃ z:Int,x=.int z/\z.natAbs.log2<1920/\(∀ w,Q (.str w))/\(∀ b,Q (.bl b))/\∀ i,Q (.int i))\/(∃ w:Str,x=.str w/\w.length<=1000/\(∀ w,Q (.str w))/\Q (.tup [x,x]))\/∃ ds,x=.tup ds/\ds.length<=500/\Q (.lst ds)/\Q (.tup (ds++[.int 0]))/\Q (.tup (je ds (some 1) none))/\Q (.tup ds.reverse))
theorem tN {Q:D->Prop}{x:D}{st:Sto}{p:Nat} (hx:mR Q x) (h:bT st p):∃ y st',Q y/\Stp p st st'/\kv [.h p,.d x] st=some (.d y,st'):=by
 obtain⟨hb,hx⟩:=hx
 have fin:∀ L:List D,(∀ d∈L,Q d)->0<L.length->L.length<=100->∃ y st',Q y/\Stp p st st'/\br (iOp dIx (iV 2) (av aH (aa (iV 0) (aa (iCB bf (aa (iV 2) ae)) ae)))) [some (.h p),some (.d x),some (.d (.lst L))] st=some (.rt (.d y) st'):=λL hL h0 h1=>by
  obtain⟨r,s1,r0,r1,t1,e1⟩:=dz (a:=iV 0) (b:=iCB bf (aa (iV 2) ae)) (env:=[some (.h p),some (.d x),some (.d (.lst L))]) (st:=st) (m:=(L.length:Int)) rfl (aC (ac rfl rfl) rfl) h (by lia) (by lia)
  obtain⟨d,hd,ed⟩:=AD (s:=s1) r0 r1
  exact⟨d,s1,hL d hd,t1,aY (ai rfl e1 ed)⟩
 have app:∀ M:List D,(∀ d∈M,Q d)->∀ d∈jW x++M,Q d:=λM hM d hd=>by
  rcases qaM.mp hd with hd|hd
  ·exact hb d hd
  ·exact hM d hd
 have hl:(jW x).length=17:=rfl
 rcases hx with⟨z,rfl,hz,qs,qb,qi⟩|⟨w,rfl,hw,qs,qt⟩|⟨ds,rfl,hd,q1,q2,q3,q4⟩
 ·obtain⟨y,s1,hy,t1,e1⟩:=fin (jW (.int z)++[.str (toString z),.bl (z==1),.int (z+1),.int (0 - z)]) (app _ λd hd=>by
   rcases qar.mp hd with rfl|hd
   ·exact qs _
   ·rcases qar.mp hd with rfl|hd
    ·exact qb _
    ·rcases qar.mp hd with rfl|hd
     ·exact qi _
     ·rw[qag.mp hd];exact qi _) (by rw[qan];lia) (by rw[qan,hl];show 17+4<=100;decide)
  refine⟨y,s1,hy,t1,az (n:=3) (k:=2) (b:=fK) rfl (au nq (au (cU (s:=st) rfl (aE (ai rfl (aL (oX (ds:=[.str (toString z),.bl (z==1),.int (z+1),.int (0 - z)]) (ac (aC (ac rfl rfl) (if_pos hz)) (ac (ai rfl rfl (oS _ _ _)) (ac rfl (ac rfl rfl)))) rfl (by show 4<=1000;decide))) (iz _ (by rw[hl];show 17+4<=_;decide))))) (au (cy (s:=st) rfl rfl) (au (cy (s:=st) rfl rfl) e1))))⟩
 ·obtain⟨y,s1,hy,t1,e1⟩:=fin (jW (.str w)++[.str (w++"a"),.str (rV w (some 1) none),.tup [.str w,.str w]]) (app _ λd hd=>by
   rcases qar.mp hd with rfl|hd
   ·exact qs _
   ·rcases qar.mp hd with rfl|hd
    ·exact qs _
    ·rw[qag.mp hd];exact qt) (by rw[qan];lia) (by rw[qan,hl];show 17+3<=100;decide)
  have e2:∀ s (o:Option W),xZ (iV 1) (iPs (iC (.int 1))) iPn [some (.h p),some (.d (.str w)),o] s=some (.d (.str (rV w (some 1) none)),s):=λs o=>by
   show (if w.length<=1000000 then some (W.d (.str (rV w (some 1) none)),s) else none)=_
   rw[if_pos (by lia)]
  have e3:∀ s,cg s (.d (.str w)) (.d (.str "a"))=some (.str (w++"a")):=λs=>by
   show (if w.length+("a" : Str).length<=1000000 then some (D.str (w++"a")) else none)=_
   rw[if_pos (by show w.length+1<=_;lia)]
  refine⟨y,s1,hy,t1,az (n:=3) (k:=2) (b:=fK) rfl (au nq (au (cy (s:=st) rfl rfl) (au (cy (s:=st) rfl rfl) (au (cU (s:=st) rfl (aE (ai rfl (aL (oX (ds:=[.str (w++"a"),.str (rV w (some 1) none),.tup [.str w,.str w]]) (ac (ai rfl rfl (e3 _)) (ac (e2 _ _) (ac rfl rfl))) rfl (by show 3<=1000;decide))) (iz _ (by rw[hl];show 17+3<=_;decide))))) e1))))⟩
 ·obtain⟨y,s1,hy,t1,e1⟩:=fin (jW (.tup ds)++[.lst ds,.tup (ds++[.int 0]),.tup (je ds (some 1) none),.tup ds.reverse]) (app _ λd hd=>by
   rcases qar.mp hd with rfl|hd
   ·exact q1
   ·rcases qar.mp hd with rfl|hd
    ·exact q2
    ·rcases qar.mp hd with rfl|hd
     ·exact q3
     ·rw[qag.mp hd];exact q4) (by rw[qan];lia) (by rw[qan,hl];show 17+4<=100;decide)
  have e2:∀ s (o:Option W),iOp cg (iV 1) (bE (aa (iC (.int 0)) ae)) [some (.h p),some (.d (.tup ds)),o] s=some (.d (.tup (ds++[.int 0])),s):=λs o=>ai rfl (y:=.d (.tup [.int 0])) rfl (tm _ (by show _+1<=_;lia))
  refine⟨y,s1,hy,t1,az (n:=3) (k:=2) (b:=fK) rfl (au nq (au (cy (s:=st) rfl rfl) (au (cU (s:=st) rfl (aE (ai rfl (aL (oX (ds:=[.lst ds,.tup (ds++[D.int 0]),.tup (je ds (some 1) none),.tup ds.reverse]) (ac rfl (ac (e2 _ _) (ac rfl (ac rfl rfl)))) rfl (by show 4<=1000;decide))) (iz _ (by rw[hl];show 17+4<=_;decide))))) (au (cy (s:=st) rfl rfl) e1))))⟩
theorem CZ (ds:List D) (k:Nat):je ds none (some (k:Int))=ds.take k:=by
 unfold je
 rw[HT.sIx_nat,HT.sIx_none,qeZ,qhT]
 rcases qhV k ds.length with h|h
 ·rw[qgz h]
 ·rw[qgt h,qdy,qca h]
theorem yk (ds:List D) (k:Nat):je ds (some (k:Int)) none=ds.drop k:=by
 unfold je
 rw[HT.sIx_nat,HT.sIx_none]
 rcases qhV k ds.length with h|h
 ·rw[qgz h,qca (by rw[qb7];lia)]
 ·rw[qgt h,qci,qcp,List.drop_eq_nil_of_le h]
theorem lM {Q:D->Prop}{x:D}{st:Sto}{p f:Nat} (hx:mR Q x) (hn:∀ s,gm s [.d x,.d (.ty "tuple")]=some (.bl false)) (h:bT st p):∃ y st',Q y/\Stp p st st'/\aX (f+1) [.h p,.d x] st=some (.d y,st'):=by
 obtain⟨y,s1,hy,t1,e1⟩:=tN hx h
 exact⟨y,s1,hy,t1,az (n:=3) (k:=2) (b:=db (aX f)) rfl (cX (cU (s:=st) (nw (s:=st) (cx (k:=false) (eA (aC (ac rfl (ac rfl rfl)) (hn _))))) (aY (aq rfl e1))))⟩
theorem rY {Q:D->Prop}{ds:List D}{st:Sto}{p f:Nat} (hx:mR Q (.tup ds)) (hl:ds.length<=500) (hs:∀ d∈ds,∀ s,bT s p->∃ y s',Q (.tup (ds.take 0))/\Stp p s s'/\(∀ k,ds[k]?=some d->Q (.tup ((ds.take k++[y])++ds.drop (k+1))))/\aX f [.h p,.d d] s=some (.d y,s')) (h:bT st p):∃ y st',Q y/\Stp p st st'/\aX (f+1) [.h p,.d (.tup ds)] st=some (.d y,st'):=by
 have c1:bB (bM bN (iCB gm (aa (iV 1) (aa (iC (.ty "tuple")) ae)))) [some (.h p),some (.d (.tup ds)),none] st=some (false,st):=rfl
 have c2:bh dEq (iV 1) (bE ae) [some (.h p),some (.d (.tup ds)),none] st=some (ds.isEmpty,st):=by
  refine aV rfl (y:=.d (.tup [])) rfl ?_
  cases ds with
  |nil=>rfl
  |cons x xs=>rfl
 cases hd:ds with
 |nil=>
  rw[hd]at hx c1 c2
  obtain⟨y,s1,hy,t1,e1⟩:=tN hx h
  exact⟨y,s1,hy,t1,az (n:=3) (k:=2) (b:=db (aX f)) rfl (cX (cU (s:=st) (cV (s:=st) c1 (nw (s:=st) c2)) (aY (aq rfl e1))))⟩
 |cons d0 rest=>
  have he:ds.isEmpty=false:=by rw[hd];rfl
  have hpos:0<ds.length:=by rw[hd,qas];lia
  rw[<-hd]
  rw[he]at c2
  obtain⟨r,s1,r0,r1,t1,e1⟩:=dz (a:=iV 0) (b:=iC (.int 6)) (env:=[some (.h p),some (.d (.tup ds)),none]) (st:=st) rfl rfl h (by decide) (by decide)
  have c3:bh dEq (av aH (aa (iV 0) (aa (iC (.int 6)) ae))) (iC (.int 0)) [some (.h p),some (.d (.tup ds)),none] st=some (r==0,s1):=aV e1 rfl (oS _ _ _)
  have c4:=cV (s:=st) c1 (cV (s:=st) c2 c3)
  cases hr:(r==0) with
  |true=>
   rw[hr]at c4
   obtain⟨y,s2,hy,t2,e2⟩:=tN hx t1.hand
   exact⟨y,s2,hy,t1.trans t2,az (n:=3) (k:=2) (b:=db (aX f)) rfl (cX (cU c4 (aY (aq rfl e2))))⟩
  |false=>
   rw[hr]at c4
   obtain⟨k,s2,k0,k1,t2,e2⟩:=dz (a:=iV 0) (b:=iCB bf (aa (iV 1) ae)) (env:=[some (.h p),some (.d (.tup ds)),none]) (st:=s1) (m:=(ds.length:Int)) rfl (aC (ac rfl rfl) rfl) t1.hand (by lia) (by lia)
   obtain⟨k,rfl⟩:=qfj k0
   have hk:k<ds.length:=by lia
   obtain⟨y,s3,_,t3,hq,e3⟩:=hs ds[k] (qcV hk) s2 t2.hand
   have ix:dIx s2 (.d (.tup ds)) (.d (.int ((k:Nat):Int)))=some ds[k]:=dD (qaK hk)
   have sa:iSl (iV 1) iPn (iPs (iV 2)) [some (.h p),some (.d (.tup ds)),some (.d (.int ((k:Nat):Int)))] s2=some (.d (.tup (ds.take k)),s2):=by
    rw[<-CZ];rfl
   have sb:iSl (iV 1) (iPs (iOp cg (iV 2) (iC (.int 1)))) iPn [some (.h p),some (.d (.tup ds)),some (.d (.int ((k:Nat):Int)))] s3=some (.d (.tup (ds.drop (k+1))),s3):=by
    rw[<-yk,show (((k+1:Nat)):Int)=((k:Nat):Int)+1 by lia];rfl
   have tk:(ds.take k).length=k:=by rw[qcv];lia
   refine⟨_,s3,hq k (qaK hk),t1.trans (t2.trans t3),az (n:=3) (k:=2) (b:=db (aX f)) rfl (au (cy c4 rfl) (au (aE e2) (aY (ai (ai sa (vB (ds:=[y]) (ac (aq (ac rfl (ac (ai rfl rfl ix) rfl)) e3) rfl) rfl (by show 1<=1000;decide)) (tm _ (by rw[tk];show _+1<=_;lia))) sb (tm _ (by rw[qan,tk,qb7];show _+1+_<=_;lia))))))⟩
theorem kS {d:D} (h:Pl d=true) (hn:∀ es,d≠.tup es):Pt d/\Th d:=⟨⟨h,λes e=>absurd e (hn es)⟩,h,λes e=>absurd e (hn es)⟩
theorem gF {ds:List D} (hl:ds.length<=1000) (h:∀ d∈ds,Pl d=true):Pt (.tup ds):=⟨rfl,λes e=>by cases e;exact⟨hl,h⟩⟩
theorem fM {ds:List D} (hl:ds.length<=1000) (h:∀ d∈ds,Pt d):Th (.tup ds):=⟨rfl,λes e=>by cases e;exact⟨hl,h⟩⟩
theorem uz (x:D):∀ d∈jW x,Pl d=true:=λd hd=>by
 unfold jW at hd
 simp only[qar,qa5,or_false]at hd
 rcases hd with rfl|rfl|rfl|rfl|rfl|rfl|rfl|rfl|rfl|rfl|rfl|rfl|rfl|rfl|rfl|rfl|rfl<;>rfl
theorem uA {x:D} (hx:Pl x=true):∀ d∈jW x,Pt d:=λd hd=>by
 have hp:=uz x d hd
 unfold jW at hd
 simp only[qar,qa5,or_false]at hd
 rcases hd with rfl|rfl|rfl|rfl|rfl|rfl|rfl|rfl|rfl|rfl|rfl|rfl|rfl|rfl|rfl|rfl|rfl<;>first|exact gF (by show 1<=1000;decide) (λd hd=>by rw[qag.mp hd];exact hx)|exact gF (by show 0<=1000;decide) (λ_ h=>by cases h)|exact (kS hp (λ_ e=>by cases e)).1
theorem Az {x:D} (hx:Pt x):∀ d∈jW x,Th d:=λd hd=>by
 have hp:=uz x d hd
 unfold jW at hd
 simp only[qar,qa5,or_false]at hd
 rcases hd with rfl|rfl|rfl|rfl|rfl|rfl|rfl|rfl|rfl|rfl|rfl|rfl|rfl|rfl|rfl|rfl|rfl<;>first|exact fM (by show 1<=1000;decide) (λd hd=>by rw[qag.mp hd];exact hx)|exact fM (by show 0<=1000;decide) (λ_ h=>by cases h)|exact (kS hp (λ_ e=>by cases e)).2
theorem tB (ds:List D):Pt (.lst ds)/\Th (.lst ds):=kS (d:=.lst ds) rfl (λ_ e=>nomatch e)
theorem AL (z:Int) (hz:z.natAbs.log2<1920):mR (λd=>Pl d=true) (.int z):=⟨uz _,.inl ⟨z,rfl,hz,λ_=>rfl,λ_=>rfl,λ_=>rfl⟩⟩
theorem dZ (d:D) (h:Pl d=true) (hn:∀ es,d≠.tup es):Pt d:=(kS h hn).1
theorem Bj (z:Int) (hz:z.natAbs.log2<1920):mR Pt (.int z):=⟨uA rfl,.inl ⟨z,rfl,hz,λw=>dZ _ rfl (λ_ e=>nomatch e),λw=>dZ _ rfl (λ_ e=>nomatch e),λw=>dZ _ rfl (λ_ e=>nomatch e)⟩⟩
theorem Ae (w:Str) (hw:w.length<=1000):mR Pt (.str w):=⟨uA rfl,.inr (.inl ⟨w,rfl,hw,λw=>dZ _ rfl (λ_ e=>nomatch e),gF (by show 2<=1000;decide) (λd hd=>by
 rcases qar.mp hd with rfl|hd
 ·rfl
 ·rw[qag.mp hd];rfl)⟩)⟩
theorem uR {Q:D->Prop}{q:D->Prop}{ds:List D} (hl:ds.length<=500) (hq:∀ d∈ds,q d) (q0:q (.int 0)) (hb:∀ d∈jW (.tup ds),Q d) (h1:Q (.lst ds)) (h2:∀ es:List D,es.length<=1000->(∀ d∈es,q d)->Q (.tup es)):mR Q (.tup ds):=by
 refine⟨hb,.inr (.inr ⟨ds,rfl,hl,h1,h2 _ (by rw[qan];show _+1<=_;lia) λd hd=>?_,h2 _ ?_ λd hd=>?_,h2 _ (by rw[qdW];lia) λd hd=>hq d (List.mem_reverse.mp hd)⟩)⟩
 ·rcases qaM.mp hd with hd|hd
  ·exact hq d hd
  ·rw[qag.mp hd];exact q0
 ·rw[show (1:Int)=((1:Nat):Int) from rfl,yk,qb7];lia
 ·rw[show (1:Int)=((1:Nat):Int) from rfl,yk]at hd
  exact hq d (qdN hd)
theorem sh {q:D->Prop}{ds:List D}{y:D} (hq:∀ d∈ds,q d) (hy:q y) (k:Nat):∀ d∈(ds.take k++[y])++ds.drop (k+1),q d:=λd hd=>by
 rcases qaM.mp hd with hd|hd
 ·rcases qaM.mp hd with hd|hd
  ·exact hq d (List.mem_of_mem_take hd)
  ·rw[qag.mp hd];exact hy
 ·exact hq d (qdN hd)
theorem rG {ds:List D}{y:D} (hl:ds.length<=500) (k:Nat):((ds.take k++[y])++ds.drop (k+1)).length<=1000:=by
 rw[qan,qan,qcv,qb7]
 show _+1+_<=_
 lia
theorem Sm.lg {z:Int} (h:Sm z):z.natAbs.log2<1920:=by
 by_cases h0:z.natAbs=0
 ·rw[h0];decide
 ·have:=(qh7 h0).mpr h
  lia
theorem v7 {k:Nat}{f:Nat->Int}{st:Sto}{p e:Nat} (hk:k<=100) (hf:∀ i,i<k->Sm (f i)) (h:bT st p):∃ y st',Pt y/\Stp p st st'/\aX (e+2) [.h p,.d (.tup (mpI k f))] st=some (.d y,st'):=by
 have hl:(mpI k f).length<=500:=by rw[bF];lia
 have hpl:∀ d∈mpI k f,Pl d=true:=λd hd=>by obtain⟨i,_,rfl⟩:=qa7.mp hd;rfl
 refine rY (uR (q:=λd=>Pl d=true) hl hpl rfl (uA rfl) (dZ _ rfl (λ_ e=>nomatch e)) (λes h1 h2=>gF h1 h2)) hl (λd hd s hs=>?_) h
 obtain⟨i,hi,rfl⟩:=qa7.mp hd
 obtain⟨y,s1,hy,t1,e1⟩:=lM (f:=e) (AL (f i) (hf i (qaG.mp hi)).lg) (λ_=>rfl) hs
 exact⟨y,s1,gF (by rw[qcp];show 0<=1000;decide) (λd hd=>by rw[qcp]at hd;cases hd),t1,λk _=>gF (rG hl k) (sh hpl hy k),e1⟩
theorem mK {k:Nat} (f:Nat->Int) (hk:k<=100):Pt (.tup (mpI k f)):=gF (by rw[bF];lia) λd hd=>by obtain⟨i,_,rfl⟩:=qa7.mp hd;rfl
theorem vJ {ds:List D}{st:Sto}{p e:Nat} (hl:ds.length<=4) (hd:∀ d∈ds,(∃ w:Str,d=.str w/\w.length<=1000)\/(∃ z:Int,d=.int z/\Sm z)\/∃ k f,d=.tup (mpI k f)/\k<=100/\∀ i,i<k->Sm (f i)) (h:bT st p):∃ y st',Th y/\Stp p st st'/\aX (e+3) [.h p,.d (.tup ds)] st=some (.d y,st'):=by
 have hpt:∀ d∈ds,Pt d:=λd hx=>by
  rcases hd d hx with⟨w,rfl,_⟩|⟨z,rfl,_⟩|⟨k,f,rfl,hk,_⟩
  ·exact dZ _ rfl (λ_ e=>nomatch e)
  ·exact dZ _ rfl (λ_ e=>nomatch e)
  ·exact mK f hk
 refine rY (uR (q:=Pt) (by lia) hpt (dZ _ rfl (λ_ e=>nomatch e)) (Az (gF (by lia) λd hx=>(hpt d hx).1)) (tB ds).2 (λes h1 h2=>fM h1 h2)) (by lia) (λd hx s hs=>?_) h
 have z0:Th (.tup (ds.take 0)):=fM (by rw[qcp];show 0<=1000;decide) (λd hd=>by rw[qcp]at hd;cases hd)
 have fin:∀ {y s1},Pt y->Stp p s s1->aX (e+2) [.h p,.d d] s=some (.d y,s1)->∃ y s',Th (.tup (ds.take 0))/\Stp p s s'/\(∀ k,ds[k]?=some d->Th (.tup ((ds.take k++[y])++ds.drop (k+1))))/\aX (e+2) [.h p,.d d] s=some (.d y,s'):=λ{y s1} hy t1 e1=>⟨y,s1,z0,t1,λk _=>fM (rG (by lia) k) (sh hpt hy k),e1⟩
 rcases hd d hx with⟨w,rfl,hw⟩|⟨z,rfl,hz⟩|⟨k,f,rfl,hk,hf⟩
 ·obtain⟨y,s1,hy,t1,e1⟩:=lM (f:=e+1) (Ae w hw) (λ_=>rfl) hs
  exact fin hy t1 e1
 ·obtain⟨y,s1,hy,t1,e1⟩:=lM (f:=e+1) (Bj z hz.lg) (λ_=>rfl) hs
  exact fin hy t1 e1
 ·obtain⟨y,s1,hy,t1,e1⟩:=v7 (e:=e) hk hf hs
  exact fin hy t1 e1
end Own
section
set_option maxHeartbeats 1000000
namespace Own
open PySem L2
open Sx (Pb Tb Good Named Fe LV ZV piv lexP leastR leaveL sumN unit colV basis)
def dp:Nat->D
 |0=>.tup []
 |k+1=>.tup [dp k]
theorem Bp:∀ k,Pl (dp k)=true
 |0=>rfl
 |_+1=>rfl
theorem zn:∀ k,Pt (dp k)
 |0=>gF (by show 0<=1000;decide) (λ_ h=>by cases h)
 |k+1=>gF (by show 1<=1000;decide) (λd hd=>by rw[qag.mp hd];exact Bp k)
theorem Bm:∀ k,Th (dp k)
 |0=>fM (by show 0<=1000;decide) (λ_ h=>by cases h)
 |k+1=>fM (by show 1<=1000;decide) (λd hd=>by rw[qag.mp hd];exact zn k)
section
variable {m n:Nat}{R:Nat->Nat->Int}{b g:Nat->Int}
theorem uh {f:D} (h:Inp m n R b g) (M:x6 (oK m n R b g) f):∃ ds,f=.tup ds/\ds.length<=4/\∀ d∈ds,(∃ w:Str,d=.str w/\w.length<=1000)\/(∃ z:Int,d=.int z/\Sm z)\/∃ k f,d=.tup (mpI k f)/\k<=100/\∀ i,i<k->Sm (f i):=by
 have hm:=h.m64
 have hn:=h.n64
 cases M with
 |most p am pr M=>
  refine⟨_,rfl,by show 4<=4;decide,λd hd=>?_⟩
  rcases qar.mp hd with rfl|hd
  ·exact .inl ⟨_,rfl,by decide⟩
  ·rcases qar.mp hd with rfl|hd
   ·exact .inr (.inl ⟨p,rfl,M.sp⟩)
   ·rcases qar.mp hd with rfl|hd
    ·exact .inr (.inr ⟨n,am,rfl,hn,M.sa⟩)
    ·rw[qag.mp hd];exact .inr (.inr ⟨m,pr,rfl,by lia,M.sr⟩)
 |beyond way M=>
  refine⟨_,rfl,by show 2<=4;decide,λd hd=>?_⟩
  rcases qar.mp hd with rfl|hd
  ·exact .inl ⟨_,rfl,by decide⟩
  ·rw[qag.mp hd];exact .inr (.inr ⟨n,way,rfl,hn,M.sw⟩)
end
theorem yq (s:Sto) (k:Bool):dNe s (.d (.bl k)) (.d (.bl k))=some (.bl false):=by
 show some (D.bl (!(k==k)))=_
 cases k<;>rfl
def lm (ds:List D) (dep:D):List D:=[.non,.bl true,.int 0,.str "",.str "most",.tup [],.lst [],.dct,.tup [.str "most"],.tup [.str "beyond"],.lst ds,.tup (je ds (some 1) none),.tup [.tup ds],dep]
def md (dep gs bs:D):List D:=[.tup [.str "most",dep,dep,dep],.tup [.str "beyond",dep],.tup [.str "beyond",gs],.tup [.str "most",.int 1,gs,bs]]
theorem y8 {ds:List D}{dep:D} (hl:ds.length<=4) (hp:∀ d∈ds,Pt d) (hd:Th dep):∀ x∈lm ds dep,Th x:=λx hx=>by
 have fl:∀ {d:D},Pl d=true->(∀ es,d≠.tup es)->Th d:=λh1 h2=>(kS h1 h2).2
 have s1:∀ w:Str,Th (.tup [.str w]):=λw=>fM (by show 1<=1000;decide) (λd hd=>by rw[qag.mp hd];exact dZ _ rfl (λ_ e=>nomatch e))
 have s0:Th (.tup []):=fM (by show 0<=1000;decide) (λ_ h=>by cases h)
 have sc:Th (.tup (je ds (some 1) none)):=by
  rw[show (1:Int)=((1:Nat):Int) from rfl,yk]
  exact fM (by rw[qb7];lia) (λd hd=>hp d (qdN hd))
 have st:Th (.tup [.tup ds]):=fM (by show 1<=1000;decide) (λd hd=>by rw[qag.mp hd];exact gF (by lia) (λd hd=>(hp d hd).1))
 unfold lm at hx
 simp only[qar,qa5,or_false]at hx
 rcases hx with rfl|rfl|rfl|rfl|rfl|rfl|rfl|rfl|rfl|rfl|rfl|rfl|rfl|rfl
 ·exact fl rfl (λ_ e=>by cases e)
 ·exact fl rfl (λ_ e=>by cases e)
 ·exact fl rfl (λ_ e=>by cases e)
 ·exact fl rfl (λ_ e=>by cases e)
 ·exact fl rfl (λ_ e=>by cases e)
 ·exact s0
 ·exact (tB []).2
 ·exact fl rfl (λ_ e=>by cases e)
 ·exact s1 _
 ·exact s1 _
 ·exact (tB ds).2
 ·exact sc
 ·exact st
 ·exact hd
theorem yI {dep gs bs:D} (hd:Pt dep) (hg:Pt gs) (hb:Pt bs):∀ x∈md dep gs bs,Th x:=λx hx=>by
 have fs:∀ w:Str,Pt (.str w):=λw=>dZ _ rfl (λ_ e=>nomatch e)
 have two:∀ {a c:D},Pt a->Pt c->Th (.tup [a,c]):=λha hc=>fM (by show 2<=1000;decide) (λd hd=>by
  rcases qar.mp hd with rfl|hd
  ·exact ha
  ·rw[qag.mp hd];exact hc)
 have four:∀ {a c e f:D},Pt a->Pt c->Pt e->Pt f->Th (.tup [a,c,e,f]):=λha hc he hf=>fM (by show 4<=1000;decide) (λd hd=>by
  simp only[qar,qa5,or_false]at hd
  rcases hd with rfl|rfl|rfl|rfl
  ·exact ha
  ·exact hc
  ·exact he
  ·exact hf)
 unfold md at hx
 simp only[qar,qa5,or_false]at hx
 rcases hx with rfl|rfl|rfl|rfl
 ·exact four (fs _) hd hd hd
 ·exact two (fs _) hd
 ·exact two (fs _) hg
 ·exact four (fs _) (dZ _ rfl (λ_ e=>nomatch e)) hg hb
theorem ya {ns:List Int}{dep:D}{i:Nat}{s:Sto}{o2 o4 o5 o6 o7 o8 o9 o10 o11 o12:Option W} (hi:i<=1000) (hd1:Pt dep) (hd2:Th dep):∃ q4 q5 q6 q7 q8 q9 q10 q11 q12 s',pZ [some (.d (.scr ns)),some (.d dep),o2,some (.d (.int (i:Int))),o4,o5,o6,o7,o8,o9,o10,o11,o12] s=some (.nx [some (.d (.scr ns)),some (.d dep),o2,some (.d (.int (i:Int))),q4,q5,q6,q7,q8,q9,q10,q11,q12] s'):=by
 obtain⟨x,y,x0,e1⟩:=AC (st:=s) (ns:=ns) (k:=i) hi
 have h1:bT (s++[.l [.int x,.int y,.int 0]]) s.length:=⟨x,y,0,x0,by rw[qaI (qal _),qci];rfl⟩
 generalize s++[C.l [.int x,.int y,.int 0]]=s1 at *
 generalize s.length=p at *
 obtain⟨m,n,R,b,g,s2,n1,hinp,t2,e2⟩:=yp h1
 have hm:=hinp.m64
 have hn:=hinp.n64
 obtain⟨f,M,_,hf⟩:=zb hinp
 obtain⟨u3,e3⟩:=hf s2
 obtain⟨ds,rfl,dl,dq⟩:=uh hinp M
 have hpt:∀ d∈ds,Pt d:=λd hx=>by
  rcases dq d hx with⟨w,rfl,_⟩|⟨z,rfl,_⟩|⟨k,f,rfl,hk,_⟩
  ·exact dZ _ rfl (λ_ e=>nomatch e)
  ·exact dZ _ rfl (λ_ e=>nomatch e)
  ·exact mK f hk
 have h3:bT (s2++u3) p:=t2.hand.app u3
 have hs:=λ{z:D} (hz:Th z)=>wW hinp hz
 have hgp:Pt (.tup (mpI n g)):=mK g hn
 have hbp:Pt (.tup (mpI m b)):=mK b (by lia)
 have un:∀ s,aN (.tp [6,7,8]) (iV 5) [some (.d (.scr ns)),some (.d dep),o2,some (.d (.int (i:Int))),some (.h p),some (.d (cR m n R b g)),o6,o7,o8,o9,o10,o11,o12] s=some (.nx [some (.d (.scr ns)),some (.d dep),o2,some (.d (.int (i:Int))),some (.h p),some (.d (cR m n R b g)),some (.d (bi m n R)),some (.d (.tup (mpI m b))),some (.d (.tup (mpI n g))),o9,o10,o11,o12] s):=λs=>rfl
 generalize s2++u3=s3 at *
 generalize cR m n R b g=cs at *
 generalize bi m n R=rs at *
 generalize D.tup (mpI m b)=bs at *
 generalize D.tup (mpI n g)=gs at *
 have n9:aN (.nm 9) (av jU (aa (iV 6) (aa (iV 7) (aa (iV 8) ae)))) [some (.d (.scr ns)),some (.d dep),o2,some (.d (.int (i:Int))),some (.h p),some (.d cs),some (.d rs),some (.d bs),some (.d gs),o9,o10,o11,o12] s2=some (.nx [some (.d (.scr ns)),some (.d dep),o2,some (.d (.int (i:Int))),some (.h p),some (.d cs),some (.d rs),some (.d bs),some (.d gs),some (.d (.tup ds)),o10,o11,o12] s3):=aE (aq rfl e3)
 have n10:aA (cf (aa (iC .non) (aa (iC (.bl true)) (aa (iC (.int 0)) (aa (iC (.str "")) (aa (iC (.str "most")) (aa (bE ae) (aa (aA (cf ae)) (aa (iC .dct) (aa (bE (aa (iC (.str "most")) ae)) (aa (bE (aa (iC (.str "beyond")) ae)) (aa (aA (iCL mT (aa (iV 9) ae))) (aa (iSl (iV 9) (iPs (iC (.int 1))) iPn) (aa (bE (aa (iV 9) ae)) (aa (iV 1) ae))))))))))))))) [some (.d (.scr ns)),some (.d dep),o2,some (.d (.int (i:Int))),some (.h p),some (.d cs),some (.d rs),some (.d bs),some (.d gs),some (.d (.tup ds)),o10,o11,o12] s3=some (.d (.lst (lm ds dep)),s3):=by
  refine aL (oX (ws:=(lm ds dep).map W.d) ?_ rfl (by show 14<=1000;decide))
  exact ac rfl (ac rfl (ac rfl (ac rfl (ac rfl (ac rfl (ac rfl (ac rfl (ac rfl (ac rfl (ac rfl (ac rfl (ac rfl (ac rfl rfl)))))))))))))
 have n11:iOp cg (iV 10) (aA (cf (aa (bE (aa (iC (.str "most")) (aa (iV 1) (aa (iV 1) (aa (iV 1) ae))))) (aa (bE (aa (iC (.str "beyond")) (aa (iV 1) ae))) (aa (bE (aa (iC (.str "beyond")) (aa (iV 8) ae))) (aa (bE (aa (iC (.str "most")) (aa (iC (.int 1)) (aa (iV 8) (aa (iV 7) ae))))) ae)))))) [some (.d (.scr ns)),some (.d dep),o2,some (.d (.int (i:Int))),some (.h p),some (.d cs),some (.d rs),some (.d bs),some (.d gs),some (.d (.tup ds)),some (.d (.lst (lm ds dep))),o11,o12] s3=some (.d (.lst (lm ds dep++md dep gs bs)),s3):=by
  refine ai rfl (aL (oX (ws:=(md dep gs bs).map W.d) (ds:=md dep gs bs) ?_ rfl (by show 4<=1000;decide))) (iz _ (by show 14+4<=_;decide))
  exact ac rfl (ac rfl (ac rfl (ac rfl rfl)))
 have hAll:∀ x∈lm ds dep++md dep gs bs,Th x:=λx hx=>by
  rcases qaM.mp hx with hx|hx
  ·exact y8 dl hpt hd2 x hx
  ·exact yI hd1 hgp hbp x hx
 have hlen:(lm ds dep++md dep gs bs).length=18:=rfl
 generalize lm ds dep++md dep gs bs=L at *
 obtain⟨us,s4,ul,uq,t4,e4⟩:=rQ (te:=qF) (a:=none) (l:=[some (.h p),some (.d (.tup ds))]) (ds:=dn 0 12) Th h3 (λs d _ hh=>by
  obtain⟨y,s',hy,t,e⟩:=vJ (e:=2) dl dq hh
  exact⟨y,s',hy,t,aq rfl e⟩)
 have hit:bj (iOp cg (iV 10) (aA (iLc 1 [4,9] (cO (aa (iC (.int 12)) ae)) (.nm 0) bn qF))) [some (.d (.scr ns)),some (.d dep),o2,some (.d (.int (i:Int))),some (.h p),some (.d cs),some (.d rs),some (.d bs),some (.d gs),some (.d (.tup ds)),some (.d (.lst L)),o11,o12] s3=some (L++us,s4):=cD (ai rfl (aL (cm (kF (e:=iC (.int 12)) (z:=12) (m:=12) rfl (by decide) (by decide) rfl) (by show 12<=1000000;decide) e4)) (iz _ (by rw[hlen,ul];show 18+12<=_;decide)))
 have hth:∀ x∈L++us,Th x:=λx hx=>by
  rcases qaM.mp hx with hx|hx
  ·exact hAll x hx
  ·exact uq x hx
 obtain⟨env',s5,e5,q11,q12,rfl⟩:=fm (g:=.nm 11) (body:=uK) (ds:=L++us)
  (λj env s=>∃ q11 q12,env=[some (.d (.scr ns)),some (.d dep),o2,some (.d (.int (i:Int))),some (.h p),some (.d cs),some (.d rs),some (.d bs),some (.d gs),some (.d (.tup ds)),some (.d (.lst L)),q11,q12])
  (env:=[some (.d (.scr ns)),some (.d dep),o2,some (.d (.int (i:Int))),some (.h p),some (.d cs),some (.d rs),some (.d bs),some (.d gs),some (.d (.tup ds)),some (.d (.lst L)),o11,o12]) (st:=s4) ⟨_,_,rfl⟩ (λj d env s hd ⟨q11,q12,e0⟩=>by
   subst e0
   obtain⟨k,hk⟩:=hs (hth d (qbD hd))
   have hk6:=hk s
   refine⟨_,[some (.d (.scr ns)),some (.d dep),o2,some (.d (.int (i:Int))),some (.h p),some (.d cs),some (.d rs),some (.d bs),some (.d gs),some (.d (.tup ds)),some (.d (.lst L)),some (.d d),some (.d (.bl k))],s,rfl,.inl ?_,⟨_,_,rfl⟩⟩
   exact au (aE (aq rfl hk6.1)) (cy (s:=s) (cV (s:=s) rfl (aV rfl (aq rfl hk6.2) (yq _ _))) rfl))
 exact⟨_,_,_,_,_,_,_,_,_,_,au (aE (aq rfl e1)) (au (aE (aq rfl e2)) (au (un _) (au n9 (au (aE n10) (au (aE n11) (cQ hit e5))))))⟩
theorem wo (ns:List Int) (hl:ns.length<=63):∃ st,rj [.d (.scr ns)] []=some (.d (.bl true),st):=by
 obtain⟨m,hm,em⟩:∃ m:Nat,m<=9/\∀ (o1 o2:Option W) s,cO (aa (iOp cg (iC (.int 1)) (iCB yd (aa (iC (.int 8)) (aa (iCB bf (aa (iV 0) ae)) ae)))) ae) [some (.d (.scr ns)),o1,o2,none,none,none,none,none,none,none,none,none,none] s=some (dn 0 m,s):=by
  have hlen:∀ s,bf s [.d (.scr ns)]=some (.int (((ns.map D.int).length:Nat):Int)):=λs=>rfl
  have hmin:∃ z:Int,(0<=z/\z<=8)/\∀ s,yd s [.d (.int 8),.d (.int (((ns.map D.int).length:Nat):Int))]=some (.int z):=by
   rw[qam]
   refine⟨if ((ns.length:Nat):Int)<8 then ((ns.length:Nat):Int) else 8,by split<;>lia,λs=>?_⟩
   rfl
  obtain⟨z,hz,ez⟩:=hmin
  exact⟨(1+z).toNat,by lia,λo1 o2 s=>kF (ai rfl (aC (ac rfl (ac (aC (ac rfl rfl) (hlen s)) rfl)) (ez s)) rfl) (by lia) (by lia) rfl⟩
 obtain⟨env1,s1,e1,⟨q2,rfl⟩,rfl⟩:=fm (g:=.nm 2) (body:=uJ) (ds:=dn 0 36)
  (λi env s=>(∃ q2,env=[some (.d (.scr ns)),some (.d (dp i)),q2,none,none,none,none,none,none,none,none,none,none])/\s=[])
  (env:=[some (.d (.scr ns)),some (.d (.tup [])),none,none,none,none,none,none,none,none,none,none,none]) (st:=[]) ⟨⟨_,rfl⟩,rfl⟩ (λi d env s hd ⟨⟨q2,e0⟩,es⟩=>by
   subst e0 es
   exact⟨_,_,_,rfl,.inl (aE (vB (ds:=[dp i]) (ac rfl rfl) rfl (by show 1<=1000;decide))),⟨_,rfl⟩,rfl⟩)
 have hdl:(dn 0 36).length=36:=by unfold dn;rw[qam,qap]
 rw[hdl]at e1
 have hd1:=zn 36
 have hd2:=Bm 36
 generalize dp 36=dep at *
 obtain⟨env',s2,e2,o3,o4,o5,o6,o7,o8,o9,o10,o11,o12,rfl⟩:=fm (g:=.nm 3) (body:=pZ) (ds:=dn 0 m)
  (λi env s=>∃ o3 o4 o5 o6 o7 o8 o9 o10 o11 o12,env=[some (.d (.scr ns)),some (.d dep),q2,o3,o4,o5,o6,o7,o8,o9,o10,o11,o12])
  (env:=[some (.d (.scr ns)),some (.d dep),q2,none,none,none,none,none,none,none,none,none,none]) (st:=[]) ⟨_,_,_,_,_,_,_,_,_,_,rfl⟩ (λi d env s hd ⟨o3,o4,o5,o6,o7,o8,o9,o10,o11,o12,e0⟩=>by
   subst e0
   obtain⟨hi,rfl⟩:=nB hd
   have ei:(0:Int)+((i:Nat):Int)=((i:Nat):Int):=by lia
   obtain⟨z4,z5,z6,z7,z8,z9,z10,z11,z12,s',e⟩:=ya (ns:=ns) (dep:=dep) (i:=i) (s:=s) (o2:=q2) (o4:=o4) (o5:=o5) (o6:=o6) (o7:=o7) (o8:=o8) (o9:=o9) (o10:=o10) (o11:=o11) (o12:=o12) (by lia) hd1 hd2
   refine⟨[some (.d (.scr ns)),some (.d dep),q2,some (.d (.int (0+((i:Nat):Int)))),o4,o5,o6,o7,o8,o9,o10,o11,o12],[some (.d (.scr ns)),some (.d dep),q2,some (.d (.int (i:Int))),z4,z5,z6,z7,z8,z9,z10,z11,z12],s',rfl,.inl ?_,⟨_,_,_,_,_,_,_,_,_,_,rfl⟩⟩
   rw[ei];exact e)
 exact⟨_,nW (n:=13) (k:=1) (b:=vk) rfl (au (show aN (.nm 1) (bE ae) [some (.d (.scr ns)),none,none,none,none,none,none,none,none,none,none,none,none] []=some (.nx [some (.d (.scr ns)),some (.d (.tup [])),none,none,none,none,none,none,none,none,none,none,none] []) from rfl) (au (cQ (kF (e:=iC (.int 36)) (z:=36) (m:=36) rfl (by decide) (by decide) rfl) e1) (au (cQ (em _ _ []) e2) rfl)))⟩
end Own
end
namespace Own
open PySem L2
theorem nP {us:List Value} (h:us.length=1):∃ a0,us=[a0]:=match us,h with|[a0],_=>⟨a0,rfl⟩
theorem lx {us:List Value} (h:us.length=2):∃ a0 a1,us=[a0,a1]:=match us,h with|[a0,a1],_=>⟨a0,a1,rfl⟩
theorem xw {us:List Value} (h:us.length=3):∃ a0 a1 a2,us=[a0,a1,a2]:=match us,h with|[a0,a1,a2],_=>⟨a0,a1,a2,rfl⟩
theorem vZ {us:List Value} (h:us.length=4):∃ a0 a1 a2 a3,us=[a0,a1,a2,a3]:=match us,h with|[a0,a1,a2,a3],_=>⟨a0,a1,a2,a3,rfl⟩
theorem CD {us:List Value} (h:us.length=6):∃ a0 a1 a2 a3 a4 a5,us=[a0,a1,a2,a3,a4,a5]:=match us,h with|[a0,a1,a2,a3,a4,a5],_=>⟨a0,a1,a2,a3,a4,a5,rfl⟩
theorem txt_mk {K:qac}{h:Heap}{mg:Str->Option Value} (X:K.In h) (G:h.Ns qat mg)
  {f0:Addr}{od0 an0:Option Addr}{sl0:Array (Option Value)}{oc0 kV0 dc0 pm0 cd0 ct0:Value}
  (a0:qaw K qat "is_whole" = some (some (.ref f0))) (l0:K.lookup f0=some ⟨oc0,od0,.func (qaH "is_whole" "is_whole" (aO eQ) (aF eQ) (ah eQ) .none kV0 dc0 pm0 an0 cd0 ct0),sl0⟩) (c0:qaA K cd0 "is_whole" = true) (k0:qav K (.ref f0)=true)
  {f1:Addr}{od1 an1:Option Addr}{sl1:Array (Option Value)}{oc1 kV1 dc1 pm1 cd1 ct1:Value}
  (a1:qaw K qat "are_amounts" = some (some (.ref f1))) (l1:K.lookup f1=some ⟨oc1,od1,.func (qaH "are_amounts" "are_amounts" (aO cq) (aF cq) (ah cq) .none kV1 dc1 pm1 an1 cd1 ct1),sl1⟩) (c1:qaA K cd1 "are_amounts" = true) (k1:qav K (.ref f1)=true)
  {f2:Addr}{od2 an2:Option Addr}{sl2:Array (Option Value)}{oc2 kV2 dc2 pm2 cd2 ct2:Value}
  (a2:qaw K qat "greatest_part" = some (some (.ref f2))) (l2:K.lookup f2=some ⟨oc2,od2,.func (qaH "greatest_part" "greatest_part" (aO ce) (aF ce) (ah ce) .none kV2 dc2 pm2 an2 cd2 ct2),sl2⟩) (c2:qaA K cd2 "greatest_part" = true) (k2:qav K (.ref f2)=true)
  {f3:Addr}{od3 an3:Option Addr}{sl3:Array (Option Value)}{oc3 kV3 dc3 pm3 cd3 ct3:Value}
  (a3:qaw K qat "lowered" = some (some (.ref f3))) (l3:K.lookup f3=some ⟨oc3,od3,.func (qaH "lowered" "lowered" (aO eY) (aF eY) (ah eY) .none kV3 dc3 pm3 an3 cd3 ct3),sl3⟩) (c3:qaA K cd3 "lowered" = true) (k3:qav K (.ref f3)=true)
  {f4:Addr}{od4 an4:Option Addr}{sl4:Array (Option Value)}{oc4 kV4 dc4 pm4 cd4 ct4:Value}
  (a4:qaw K qat "products_together" = some (some (.ref f4))) (l4:K.lookup f4=some ⟨oc4,od4,.func (qaH "products_together" "products_together" (aO bu) (aF bu) (ah bu) .none kV4 dc4 pm4 an4 cd4 ct4),sl4⟩) (c4:qaA K cd4 "products_together" = true) (k4:qav K (.ref f4)=true)
  {f5:Addr}{od5 an5:Option Addr}{sl5:Array (Option Value)}{oc5 kV5 dc5 pm5 cd5 ct5:Value}
  (a5:qaw K qat "column_of" = some (some (.ref f5))) (l5:K.lookup f5=some ⟨oc5,od5,.func (qaH "column_of" "column_of" (aO cW) (aF cW) (ah cW) .none kV5 dc5 pm5 an5 cd5 ct5),sl5⟩) (c5:qaA K cd5 "column_of" = true) (k5:qav K (.ref f5)=true)
  {f6:Addr}{od6 an6:Option Addr}{sl6:Array (Option Value)}{oc6 kV6 dc6 pm6 cd6 ct6:Value}
  (a6:qaw K qat "within_bounds" = some (some (.ref f6))) (l6:K.lookup f6=some ⟨oc6,od6,.func (qaH "within_bounds" "within_bounds" (aO bQ) (aF bQ) (ah bQ) .none kV6 dc6 pm6 an6 cd6 ct6),sl6⟩) (c6:qaA K cd6 "within_bounds" = true) (k6:qav K (.ref f6)=true)
  {f7:Addr}{od7 an7:Option Addr}{sl7:Array (Option Value)}{oc7 kV7 dc7 pm7 cd7 ct7:Value}
  (a7:qaw K qat "cover_gains" = some (some (.ref f7))) (l7:K.lookup f7=some ⟨oc7,od7,.func (qaH "cover_gains" "cover_gains" (aO cp) (aF cp) (ah cp) .none kV7 dc7 pm7 an7 cd7 ct7),sl7⟩) (c7:qaA K cd7 "cover_gains" = true) (k7:qav K (.ref f7)=true)
  {f8:Addr}{od8 an8:Option Addr}{sl8:Array (Option Value)}{oc8 kV8 dc8 pm8 cd8 ct8:Value}
  (a8:qaw K qat "are_most" = some (some (.ref f8))) (l8:K.lookup f8=some ⟨oc8,od8,.func (qaH "are_most" "are_most" (aO eL) (aF eL) (ah eL) .none kV8 dc8 pm8 an8 cd8 ct8),sl8⟩) (c8:qaA K cd8 "are_most" = true) (k8:qav K (.ref f8)=true)
  {f9:Addr}{od9 an9:Option Addr}{sl9:Array (Option Value)}{oc9 kV9 dc9 pm9 cd9 ct9:Value}
  (a9:qaw K qat "is_way" = some (some (.ref f9))) (l9:K.lookup f9=some ⟨oc9,od9,.func (qaH "is_way" "is_way" (aO gJ) (aF gJ) (ah gJ) .none kV9 dc9 pm9 an9 cd9 ct9),sl9⟩) (c9:qaA K cd9 "is_way" = true) (k9:qav K (.ref f9)=true)
  {f10:Addr}{od10 an10:Option Addr}{sl10:Array (Option Value)}{oc10 kV10 dc10 pm10 cd10 ct10:Value}
  (a10:qaw K qat "shows_most" = some (some (.ref f10))) (l10:K.lookup f10=some ⟨oc10,od10,.func (qaH "shows_most" "shows_most" (aO di) (aF di) (ah di) .none kV10 dc10 pm10 an10 cd10 ct10),sl10⟩) (c10:qaA K cd10 "shows_most" = true) (k10:qav K (.ref f10)=true)
  {f11:Addr}{od11 an11:Option Addr}{sl11:Array (Option Value)}{oc11 kV11 dc11 pm11 cd11 ct11:Value}
  {ca_Table:Addr} (cm_Table:qaw K qat "Table" = some (some (.ref ca_Table)))
  (a11:qbg K (.ref ca_Table) "__init__" = some (some (.ref f11))) (l11:K.lookup f11=some ⟨oc11,od11,.func (qaH "__init__" "Table.__init__" (aO cH) (aF cH) (ah cH) .none kV11 dc11 pm11 an11 cd11 ct11),sl11⟩) (c11:qaA K cd11 "Table.__init__" = true) (k11:qav K (.ref f11)=true)
  {f12:Addr}{od12 an12:Option Addr}{sl12:Array (Option Value)}{oc12 kV12 dc12 pm12 cd12 ct12:Value}
  (a12:qaw K qat "least_ratio" = some (some (.ref f12))) (l12:K.lookup f12=some ⟨oc12,od12,.func (qaH "least_ratio" "least_ratio" (aO cP) (aF cP) (ah cP) .none kV12 dc12 pm12 an12 cd12 ct12),sl12⟩) (c12:qaA K cd12 "least_ratio" = true) (k12:qav K (.ref f12)=true)
  {f13:Addr}{od13 an13:Option Addr}{sl13:Array (Option Value)}{oc13 kV13 dc13 pm13 cd13 ct13:Value}
  (a13:qaw K qat "weighed" = some (some (.ref f13))) (l13:K.lookup f13=some ⟨oc13,od13,.func (qaH "weighed" "weighed" (aO fI) (aF fI) (ah fI) .none kV13 dc13 pm13 an13 cd13 ct13),sl13⟩) (c13:qaA K cd13 "weighed" = true) (k13:qav K (.ref f13)=true)
  {f14:Addr}{od14 an14:Option Addr}{sl14:Array (Option Value)}{oc14 kV14 dc14 pm14 cd14 ct14:Value}
  (a14:qaw K qat "numbers_by" = some (some (.ref f14))) (l14:K.lookup f14=some ⟨oc14,od14,.func (qaH "numbers_by" "numbers_by" (aO bW) (aF bW) (ah bW) .none kV14 dc14 pm14 an14 cd14 ct14),sl14⟩) (c14:qaA K cd14 "numbers_by" = true) (k14:qav K (.ref f14)=true)
  {f15:Addr}{od15 an15:Option Addr}{sl15:Array (Option Value)}{oc15 kV15 dc15 pm15 cd15 ct15:Value}
  (a15:qaw K qat "leaving" = some (some (.ref f15))) (l15:K.lookup f15=some ⟨oc15,od15,.func (qaH "leaving" "leaving" (aO dX) (aF dX) (ah dX) .none kV15 dc15 pm15 an15 cd15 ct15),sl15⟩) (c15:qaA K cd15 "leaving" = true) (k15:qav K (.ref f15)=true)
  {f16:Addr}{od16 an16:Option Addr}{sl16:Array (Option Value)}{oc16 kV16 dc16 pm16 cd16 ct16:Value}
  (a16:qaw K qat "gains_more" = some (some (.ref f16))) (l16:K.lookup f16=some ⟨oc16,od16,.func (qaH "gains_more" "gains_more" (aO dj) (aF dj) (ah dj) .none kV16 dc16 pm16 an16 cd16 ct16),sl16⟩) (c16:qaA K cd16 "gains_more" = true) (k16:qav K (.ref f16)=true)
  {f17:Addr}{od17 an17:Option Addr}{sl17:Array (Option Value)}{oc17 kV17 dc17 pm17 cd17 ct17:Value}
  (a17:qaw K qat "best_step" = some (some (.ref f17))) (l17:K.lookup f17=some ⟨oc17,od17,.func (qaH "best_step" "best_step" (aO dN) (aF dN) (ah dN) .none kV17 dc17 pm17 an17 cd17 ct17),sl17⟩) (c17:qaA K cd17 "best_step" = true) (k17:qav K (.ref f17)=true)
  {f18:Addr}{od18 an18:Option Addr}{sl18:Array (Option Value)}{oc18 kV18 dc18 pm18 cd18 ct18:Value}
  (a18:qaw K qat "swept" = some (some (.ref f18))) (l18:K.lookup f18=some ⟨oc18,od18,.func (qaH "swept" "swept" (aO iq) (aF iq) (ah iq) .none kV18 dc18 pm18 an18 cd18 ct18),sl18⟩) (c18:qaA K cd18 "swept" = true) (k18:qav K (.ref f18)=true)
  {f19:Addr}{od19 an19:Option Addr}{sl19:Array (Option Value)}{oc19 kV19 dc19 pm19 cd19 ct19:Value}
  (a19:qaw K qat "exchange" = some (some (.ref f19))) (l19:K.lookup f19=some ⟨oc19,od19,.func (qaH "exchange" "exchange" (aO dL) (aF dL) (ah dL) .none kV19 dc19 pm19 an19 cd19 ct19),sl19⟩) (c19:qaA K cd19 "exchange" = true) (k19:qav K (.ref f19)=true)
  {f20:Addr}{od20 an20:Option Addr}{sl20:Array (Option Value)}{oc20 kV20 dc20 pm20 cd20 ct20:Value}
  (a20:qaw K qat "way_of" = some (some (.ref f20))) (l20:K.lookup f20=some ⟨oc20,od20,.func (qaH "way_of" "way_of" (aO gN) (aF gN) (ah gN) .none kV20 dc20 pm20 an20 cd20 ct20),sl20⟩) (c20:qaA K cd20 "way_of" = true) (k20:qav K (.ref f20)=true)
  {f21:Addr}{od21 an21:Option Addr}{sl21:Array (Option Value)}{oc21 kV21 dc21 pm21 cd21 ct21:Value}
  (a21:qaw K qat "amounts_of" = some (some (.ref f21))) (l21:K.lookup f21=some ⟨oc21,od21,.func (qaH "amounts_of" "amounts_of" (aO df) (aF df) (ah df) .none kV21 dc21 pm21 an21 cd21 ct21),sl21⟩) (c21:qaA K cd21 "amounts_of" = true) (k21:qav K (.ref f21)=true)
  {f22:Addr}{od22 an22:Option Addr}{sl22:Array (Option Value)}{oc22 kV22 dc22 pm22 cd22 ct22:Value}
  (a22:qaw K qat "prices_of" = some (some (.ref f22))) (l22:K.lookup f22=some ⟨oc22,od22,.func (qaH "prices_of" "prices_of" (aO dH) (aF dH) (ah dH) .none kV22 dc22 pm22 an22 cd22 ct22),sl22⟩) (c22:qaA K cd22 "prices_of" = true) (k22:qav K (.ref f22)=true)
  {f23:Addr}{od23 an23:Option Addr}{sl23:Array (Option Value)}{oc23 kV23 dc23 pm23 cd23 ct23:Value}
  (a23:qaw K qat "found_most" = some (some (.ref f23))) (l23:K.lookup f23=some ⟨oc23,od23,.func (qaH "found_most" "found_most" (aO cj) (aF cj) (ah cj) .none kV23 dc23 pm23 an23 cd23 ct23),sl23⟩) (c23:qaA K cd23 "found_most" = true) (k23:qav K (.ref f23)=true)
  {f24:Addr}{od24 an24:Option Addr}{sl24:Array (Option Value)}{oc24 kV24 dc24 pm24 cd24 ct24:Value}
  (a24:qaw K qat "most_of" = some (some (.ref f24))) (l24:K.lookup f24=some ⟨oc24,od24,.func (qaH "most_of" "most_of" (aO fO) (aF fO) (ah fO) .none kV24 dc24 pm24 an24 cd24 ct24),sl24⟩) (c24:qaA K cd24 "most_of" = true) (k24:qav K (.ref f24)=true)
  {f25:Addr}{od25 an25:Option Addr}{sl25:Array (Option Value)}{oc25 kV25 dc25 pm25 cd25 ct25:Value}
  (a25:qaw K qat "_law_pot" = some (some (.ref f25))) (l25:K.lookup f25=some ⟨oc25,od25,.func (qaH "_law_pot" "_law_pot" (aO eK) (aF eK) (ah eK) .none kV25 dc25 pm25 an25 cd25 ct25),sl25⟩) (c25:qaA K cd25 "_law_pot" = true) (k25:qav K (.ref f25)=true)
  {f26:Addr}{od26 an26:Option Addr}{sl26:Array (Option Value)}{oc26 kV26 dc26 pm26 cd26 ct26:Value}
  (a26:qaw K qat "_law_pick" = some (some (.ref f26))) (l26:K.lookup f26=some ⟨oc26,od26,.func (qaH "_law_pick" "_law_pick" (aO dG) (aF dG) (ah dG) .none kV26 dc26 pm26 an26 cd26 ct26),sl26⟩) (c26:qaA K cd26 "_law_pick" = true) (k26:qav K (.ref f26)=true)
  {f27:Addr}{od27 an27:Option Addr}{sl27:Array (Option Value)}{oc27 kV27 dc27 pm27 cd27 ct27:Value}
  (a27:qaw K qat "_law_case" = some (some (.ref f27))) (l27:K.lookup f27=some ⟨oc27,od27,.func (qaH "_law_case" "_law_case" (aO cr) (aF cr) (ah cr) .none kV27 dc27 pm27 an27 cd27 ct27),sl27⟩) (c27:qaA K cd27 "_law_case" = true) (k27:qav K (.ref f27)=true)
  {f28:Addr}{od28 an28:Option Addr}{sl28:Array (Option Value)}{oc28 kV28 dc28 pm28 cd28 ct28:Value}
  (a28:qaw K qat "_law_dot" = some (some (.ref f28))) (l28:K.lookup f28=some ⟨oc28,od28,.func (qaH "_law_dot" "_law_dot" (aO dP) (aF dP) (ah dP) .none kV28 dc28 pm28 an28 cd28 ct28),sl28⟩) (c28:qaA K cd28 "_law_dot" = true) (k28:qav K (.ref f28)=true)
  {f29:Addr}{od29 an29:Option Addr}{sl29:Array (Option Value)}{oc29 kV29 dc29 pm29 cd29 ct29:Value}
  (a29:qaw K qat "_law_whole" = some (some (.ref f29))) (l29:K.lookup f29=some ⟨oc29,od29,.func (qaH "_law_whole" "_law_whole" (aO dc) (aF dc) (ah dc) .none kV29 dc29 pm29 an29 cd29 ct29),sl29⟩) (c29:qaA K cd29 "_law_whole" = true) (k29:qav K (.ref f29)=true)
  {f30:Addr}{od30 an30:Option Addr}{sl30:Array (Option Value)}{oc30 kV30 dc30 pm30 cd30 ct30:Value}
  (a30:qaw K qat "_law_numbers" = some (some (.ref f30))) (l30:K.lookup f30=some ⟨oc30,od30,.func (qaH "_law_numbers" "_law_numbers" (aO bY) (aF bY) (ah bY) .none kV30 dc30 pm30 an30 cd30 ct30),sl30⟩) (c30:qaA K cd30 "_law_numbers" = true) (k30:qav K (.ref f30)=true)
  {f31:Addr}{od31 an31:Option Addr}{sl31:Array (Option Value)}{oc31 kV31 dc31 pm31 cd31 ct31:Value}
  (a31:qaw K qat "_law_greatest" = some (some (.ref f31))) (l31:K.lookup f31=some ⟨oc31,od31,.func (qaH "_law_greatest" "_law_greatest" (aO bJ) (aF bJ) (ah bJ) .none kV31 dc31 pm31 an31 cd31 ct31),sl31⟩) (c31:qaA K cd31 "_law_greatest" = true) (k31:qav K (.ref f31)=true)
  {f32:Addr}{od32 an32:Option Addr}{sl32:Array (Option Value)}{oc32 kV32 dc32 pm32 cd32 ct32:Value}
  (a32:qaw K qat "_law_due" = some (some (.ref f32))) (l32:K.lookup f32=some ⟨oc32,od32,.func (qaH "_law_due" "_law_due" (aO dQ) (aF dQ) (ah dQ) .none kV32 dc32 pm32 an32 cd32 ct32),sl32⟩) (c32:qaA K cd32 "_law_due" = true) (k32:qav K (.ref f32)=true)
  {f33:Addr}{od33 an33:Option Addr}{sl33:Array (Option Value)}{oc33 kV33 dc33 pm33 cd33 ct33:Value}
  (a33:qaw K qat "_law_odd" = some (some (.ref f33))) (l33:K.lookup f33=some ⟨oc33,od33,.func (qaH "_law_odd" "_law_odd" (aO eO) (aF eO) (ah eO) .none kV33 dc33 pm33 an33 cd33 ct33),sl33⟩) (c33:qaA K cd33 "_law_odd" = true) (k33:qav K (.ref f33)=true)
  {f34:Addr}{od34 an34:Option Addr}{sl34:Array (Option Value)}{oc34 kV34 dc34 pm34 cd34 ct34:Value}
  (a34:qaw K qat "_law_bent" = some (some (.ref f34))) (l34:K.lookup f34=some ⟨oc34,od34,.func (qaH "_law_bent" "_law_bent" (aO cM) (aF cM) (ah cM) .none kV34 dc34 pm34 an34 cd34 ct34),sl34⟩) (c34:qaA K cd34 "_law_bent" = true) (k34:qav K (.ref f34)=true)
  {f35:Addr}{od35 an35:Option Addr}{sl35:Array (Option Value)}{oc35 kV35 dc35 pm35 cd35 ct35:Value}
  (a35:qaw K qat "law" = some (some (.ref f35))) (l35:K.lookup f35=some ⟨oc35,od35,.func (qaH "law" "law" (aO lY) (aF lY) (ah lY) .none kV35 dc35 pm35 an35 cd35 ct35),sl35⟩) (c35:qaA K cd35 "law" = true) (k35:qav K (.ref f35)=true)
  (z_abs:qaw K qat "abs" = some none)
  (z_all:qaw K qat "all" = some none)
  (z_any:qaw K qat "any" = some none)
  (z_bool:qaw K qat "bool" = some none)
  (z_enumerate:qaw K qat "enumerate" = some none)
  (z_int:qaw K qat "int" = some none)
  (z_isinstance:qaw K qat "isinstance" = some none)
  (z_len:qaw K qat "len" = some none)
  (z_list:qaw K qat "list" = some none)
  (z_min:qaw K qat "min" = some none)
  (z_range:qaw K qat "range" = some none)
  (z_str:qaw K qat "str" = some none)
  (z_sum:qaw K qat "sum" = some none)
  (z_tuple:qaw K qat "tuple" = some none)
  (z_zip:qaw K qat "zip" = some none)
  (mk0_Table:qer K ca_Table=true)
  (mk2_Table:qgp K (.ref f11)=true)
  (mk3_Table:qav K (.ref ca_Table)=true)
  (cl0_Table:qdo K ca_Table Str.empty=true)
  (cl1_Table:qdb K ca_Table=true)
  (cl2_Table:qd3 K ca_Table=true)
  (cl3_Table:qbg K (.ref ca_Table) "__setattr__" = some (some (.builtin "object.__setattr__")))
  (na0_Table:qbg K (.ref ca_Table) "amounts" = some none)
  (na1_Table:qbg K (.ref ca_Table) "lines" = some none)
  (na2_Table:qbg K (.ref ca_Table) "goal" = some none)
  (na3_Table:qbg K (.ref ca_Table) "part" = some none)
  (na4_Table:qbg K (.ref ca_Table) "free" = some none)
  (na5_Table:qbg K (.ref ca_Table) "kept" = some none)
  : ∃ t,Txt K mg t/\t.f35=f35:=by
 have F0:=bv (st:=eQ) l0 c0 k0
 have F1:=bv (st:=cq) l1 c1 k1
 have F2:=bv (st:=ce) l2 c2 k2
 have F3:=bv (st:=eY) l3 c3 k3
 have F4:=bv (st:=bu) l4 c4 k4
 have F5:=bv (st:=cW) l5 c5 k5
 have F6:=bv (st:=bQ) l6 c6 k6
 have F7:=bv (st:=cp) l7 c7 k7
 have F8:=bv (st:=eL) l8 c8 k8
 have F9:=bv (st:=gJ) l9 c9 k9
 have F10:=bv (st:=di) l10 c10 k10
 have F11:=bv (st:=cH) l11 c11 k11
 have F12:=bv (st:=cP) l12 c12 k12
 have F13:=bv (st:=fI) l13 c13 k13
 have F14:=bv (st:=bW) l14 c14 k14
 have F15:=bv (st:=dX) l15 c15 k15
 have F16:=bv (st:=dj) l16 c16 k16
 have F17:=bv (st:=dN) l17 c17 k17
 have F18:=bv (st:=iq) l18 c18 k18
 have F19:=bv (st:=dL) l19 c19 k19
 have F20:=bv (st:=gN) l20 c20 k20
 have F21:=bv (st:=df) l21 c21 k21
 have F22:=bv (st:=dH) l22 c22 k22
 have F23:=bv (st:=cj) l23 c23 k23
 have F24:=bv (st:=fO) l24 c24 k24
 have F25:=bv (st:=eK) l25 c25 k25
 have F26:=bv (st:=dG) l26 c26 k26
 have F27:=bv (st:=cr) l27 c27 k27
 have F28:=bv (st:=dP) l28 c28 k28
 have F29:=bv (st:=dc) l29 c29 k29
 have F30:=bv (st:=bY) l30 c30 k30
 have F31:=bv (st:=bJ) l31 c31 k31
 have F32:=bv (st:=dQ) l32 c32 k32
 have F33:=bv (st:=eO) l33 c33 k33
 have F34:=bv (st:=cM) l34 c34 k34
 have F35:=bv (st:=lY) l35 c35 k35
 refine⟨⟨f0,_,f1,_,f2,_,f3,_,f4,_,f5,_,f6,_,f7,_,f8,_,f9,_,f10,_,f11,_,f12,_,f13,_,f14,_,f15,_,f16,_,f17,_,f18,_,f19,_,f20,_,f21,_,f22,_,f23,_,f24,_,f25,_,f26,_,f27,_,f28,_,f29,_,f30,_,f31,_,f32,_,f33,_,f34,_,f35,_,ca_Table⟩,⟨qaL X G cm_Table,F0,qaL X G a0,F0.binds λ_ _ _ _ _ _ us hl=>(by obtain⟨_,rfl⟩:=nP hl;rfl),F1,qaL X G a1,F1.binds λ_ _ _ _ _ _ us hl=>(by obtain⟨_,_,rfl⟩:=lx hl;rfl),F2,qaL X G a2,F2.binds λ_ _ _ _ _ _ us hl=>(by obtain⟨_,rfl⟩:=nP hl;rfl),F3,qaL X G a3,F3.binds λ_ _ _ _ _ _ us hl=>(by obtain⟨_,rfl⟩:=nP hl;rfl),F4,qaL X G a4,F4.binds λ_ _ _ _ _ _ us hl=>(by obtain⟨_,_,rfl⟩:=lx hl;rfl),F5,qaL X G a5,F5.binds λ_ _ _ _ _ _ us hl=>(by obtain⟨_,_,rfl⟩:=lx hl;rfl),F6,qaL X G a6,F6.binds λ_ _ _ _ _ _ us hl=>(by obtain⟨_,_,_,_,rfl⟩:=vZ hl;rfl),F7,qaL X G a7,F7.binds λ_ _ _ _ _ _ us hl=>(by obtain⟨_,_,_,_,rfl⟩:=vZ hl;rfl),F8,qaL X G a8,F8.binds λ_ _ _ _ _ _ us hl=>(by obtain⟨_,_,_,_,_,_,rfl⟩:=CD hl;rfl),F9,qaL X G a9,F9.binds λ_ _ _ _ _ _ us hl=>(by obtain⟨_,_,_,rfl⟩:=xw hl;rfl),F10,qaL X G a10,F10.binds λ_ _ _ _ _ _ us hl=>(by obtain⟨_,_,_,_,rfl⟩:=vZ hl;rfl),F11,F11.binds λ_ _ _ _ _ _ us hl=>(by obtain⟨_,_,_,_,rfl⟩:=vZ hl;rfl),⟨mk0_Table,a11,mk2_Table,mk3_Table⟩,⟨cl0_Table,cl1_Table,cl2_Table,cl3_Table⟩,qbU.mpr ⟨na0_Table,qbU.mpr ⟨na1_Table,qbU.mpr ⟨na2_Table,qbU.mpr ⟨na3_Table,qbU.mpr ⟨na4_Table,qbU.mpr ⟨na5_Table,λ_ h=>nomatch h⟩⟩⟩⟩⟩⟩,F12,qaL X G a12,F12.binds λ_ _ _ _ _ _ us hl=>(by obtain⟨_,_,_,rfl⟩:=xw hl;rfl),F13,qaL X G a13,F13.binds λ_ _ _ _ _ _ us hl=>(by obtain⟨_,rfl⟩:=nP hl;rfl),F14,qaL X G a14,F14.binds λ_ _ _ _ _ _ us hl=>(by obtain⟨_,_,rfl⟩:=lx hl;rfl),F15,qaL X G a15,F15.binds λ_ _ _ _ _ _ us hl=>(by obtain⟨_,_,rfl⟩:=lx hl;rfl),F16,qaL X G a16,F16.binds λ_ _ _ _ _ _ us hl=>(by obtain⟨_,_,_,rfl⟩:=xw hl;rfl),F17,qaL X G a17,F17.binds λ_ _ _ _ _ _ us hl=>(by obtain⟨_,rfl⟩:=nP hl;rfl),F18,qaL X G a18,F18.binds λ_ _ _ _ _ _ us hl=>(by obtain⟨_,_,_,_,rfl⟩:=vZ hl;rfl),F19,qaL X G a19,F19.binds λ_ _ _ _ _ _ us hl=>(by obtain⟨_,_,_,rfl⟩:=xw hl;rfl),F20,qaL X G a20,F20.binds λ_ _ _ _ _ _ us hl=>(by obtain⟨_,_,rfl⟩:=lx hl;rfl),F21,qaL X G a21,F21.binds λ_ _ _ _ _ _ us hl=>(by obtain⟨_,rfl⟩:=nP hl;rfl),F22,qaL X G a22,F22.binds λ_ _ _ _ _ _ us hl=>(by obtain⟨_,rfl⟩:=nP hl;rfl),F23,qaL X G a23,F23.binds λ_ _ _ _ _ _ us hl=>(by obtain⟨_,rfl⟩:=nP hl;rfl),F24,qaL X G a24,F24.binds λ_ _ _ _ _ _ us hl=>(by obtain⟨_,_,_,rfl⟩:=xw hl;rfl),F25,qaL X G a25,F25.binds λ_ _ _ _ _ _ us hl=>(by obtain⟨_,_,rfl⟩:=lx hl;rfl),F26,qaL X G a26,F26.binds λ_ _ _ _ _ _ us hl=>(by obtain⟨_,_,rfl⟩:=lx hl;rfl),F27,qaL X G a27,F27.binds λ_ _ _ _ _ _ us hl=>(by obtain⟨_,rfl⟩:=nP hl;rfl),F28,qaL X G a28,F28.binds λ_ _ _ _ _ _ us hl=>(by obtain⟨_,_,rfl⟩:=lx hl;rfl),F29,qaL X G a29,F29.binds λ_ _ _ _ _ _ us hl=>(by obtain⟨_,rfl⟩:=nP hl;rfl),F30,qaL X G a30,F30.binds λ_ _ _ _ _ _ us hl=>(by obtain⟨_,_,rfl⟩:=lx hl;rfl),F31,qaL X G a31,F31.binds λ_ _ _ _ _ _ us hl=>(by obtain⟨_,_,_,_,rfl⟩:=vZ hl;rfl),F32,qaL X G a32,F32.binds λ_ _ _ _ _ _ us hl=>(by obtain⟨_,_,rfl⟩:=lx hl;rfl),F33,qaL X G a33,F33.binds λ_ _ _ _ _ _ us hl=>(by obtain⟨_,_,rfl⟩:=lx hl;rfl),F34,qaL X G a34,F34.binds λ_ _ _ _ _ _ us hl=>(by obtain⟨_,_,rfl⟩:=lx hl;rfl),F35,qaL X G a35,F35.binds λ_ _ _ _ _ _ us hl=>(by obtain⟨_,rfl⟩:=nP hl;rfl),qa3 X G z_abs,qa3 X G z_all,qa3 X G z_any,qa3 X G z_bool,qa3 X G z_enumerate,qa3 X G z_int,qa3 X G z_isinstance,qa3 X G z_len,qa3 X G z_list,qa3 X G z_min,qa3 X G z_range,qa3 X G z_str,qa3 X G z_sum,qa3 X G z_tuple,qa3 X G z_zip⟩,rfl⟩
theorem txt_ex {K:qac}{mg:Str->Option Value}{f:Addr} (h:∃ t,Txt K mg t/\t.f35=f):∃ t,Txt K mg t:=let ⟨t,a,_⟩:=h;⟨t,a⟩
theorem walk {l:qes}{q:qa1}{loose:List Str}{XP:(Str->Option Value)->Heap->Prop}{YP:World->Heap->Prop}{d:DefRec}{K:Params->qac} (hn:l.most=some 63) (hdf:d.params.defaults=[])
  (hY:∀ (w:World) (h:Heap),YP w h->(K w.params).In h)
  (F:∀ (w:World) (mg:Str->Option Value) (fa:Addr) (h:Heap),(K w.params).In h->h.Ns qat mg->mg d.name=some (.ref fa)->
    ∃ fd:qaV,(∀ (s:qak) (u:Value),qf3 s fd ⟨[u],[]⟩ [("_law_script",u)])/\∀ base:Heap,(K w.params).In base->base.Ns qat mg->bR l.prog w (K w.params) mg base CX0 9 fa fd ["_law_script"] (spI (K w.params) rj)) :
  qgh q loose XP YP l.row.toRowW d [] (λf vs=>qfQ f vs):=
 L2.walk_of (n:=63) (k:=9) (x:="_law_script") (CX:=λ_=>CX0) (sp:=λw=>spI (K w.params) rj) hn (by decide) hdf ⟨rfl,by decide,by decide,rfl⟩ hY F (λ_ _ a ns hl hO hS=>yx hO hS (wo ns hl)) λ_ _ _ _ _ z=>z
theorem law_mk {l:qes}{w:World}{K:qac}{h:Heap}{mg:Str->Option Value}{fa:Addr} (hfa:mg "law" = some (.ref fa)) (T0:∃ t,Txt K mg t) :
  ∃ fd:qaV,(∀ (s:qak) (v:Value),qf3 s fd ⟨[v],[]⟩ [("_law_script",v)])/\∀ base:Heap,K.In base->base.Ns qat mg->bR l.prog w K mg base CX0 9 fa fd ["_law_script"] (spI K rj):=by
 obtain⟨t,T⟩:=T0
 have e:=hfa.symm.trans T.m35
 cases e
 refine⟨t.g35,λs v=>?_,λbase _ _=>AF T⟩
 obtain⟨oc,od,kV,doc,pm,an,cdv,ct,osl,e,_⟩:=T.F35.ex
 rw[e]
 exact .of_eq rfl
end Own
theorem PySem.W.Fast.tw684955273530753454:True:=trivial
theorem PySem.W.Fast.tw10635463909738170301:True:=trivial
theorem PySem.W.Fast.tw5774065120053856638:True:=trivial
theorem PySem.W.Fast.tw6031396261142576430:True:=trivial
theorem PySem.W.Fast.tw1828903493503503120:True:=trivial
theorem PySem.W.Fast.tw5869369714982637952:True:=trivial
theorem PySem.W.Fast.tw16468374287862027158:True:=trivial
theorem PySem.W.Fast.tw17410445483189605029:True:=trivial
theorem PySem.W.Fast.tw11156970951060752435:True:=trivial
theorem PySem.W.Fast.tw17200285311295520403:True:=trivial
theorem PySem.W.Fast.tw16344611837356849433:True:=trivial
theorem PySem.W.Fast.tw3167527463890200158:True:=trivial
theorem PySem.W.Fast.tw11010153143421986427:True:=trivial
theorem PySem.W.Fast.tw7907546496524874150:True:=trivial
theorem PySem.W.Fast.tw12290471102359711138:True:=trivial
theorem PySem.W.Fast.tw2674615102653760320:True:=trivial
theorem PySem.W.Fast.tw12803308055359375310:True:=trivial
theorem PySem.W.Fast.tw6939542126406369045:True:=trivial
theorem PySem.W.Fast.tw6127777730375350397:True:=trivial
theorem PySem.W.Fast.tw1158334777940359085:True:=trivial
theorem PySem.W.Fast.tw13350059942235475516:True:=trivial
theorem PySem.W.Fast.tw5246548168983012141:True:=trivial
theorem PySem.W.Fast.tw9990887118551573936:True:=trivial
theorem PySem.W.Fast.tw15820871448265054239:True:=trivial
theorem PySem.W.Fast.tw16950897027447326963:True:=trivial
theorem PySem.W.Fast.tw1873963776673257305:True:=trivial
theorem PySem.W.Fast.tw16930345456857507694:True:=trivial
theorem PySem.W.Fast.tw14162847968184337401:True:=trivial
theorem PySem.W.Fast.tw3026371911470923290:True:=trivial
theorem PySem.W.Fast.tw5837003140772129375:True:=trivial
theorem PySem.W.Fast.tw18409337621182483004:True:=trivial
theorem PySem.W.Fast.tw11170503945006753463:True:=trivial
theorem PySem.W.Fast.tw13592621731815006516:True:=trivial
theorem PySem.W.Fast.tw17383985061475170212:True:=trivial
theorem PySem.W.Fast.tw15192222932973087241:True:=trivial
theorem PySem.W.Fast.tw18318830846078081649:True:=trivial
theorem PySem.W.Fast.tw8594546038539324128:True:=trivial
theorem PySem.W.Fast.tw11714793223498988075:True:=trivial
theorem PySem.W.Fast.tw11458997808677419623:True:=trivial
theorem PySem.W.Fast.tw191608322683500000:True:=trivial
theorem PySem.W.Fast.tw14693844293981502542:True:=trivial
theorem PySem.W.Fast.tw10695326296287958257:True:=trivial
theorem PySem.W.Fast.tw6634655217139654119:True:=trivial
theorem PySem.W.Fast.tw18137127562746995331:True:=trivial
theorem PySem.W.Fast.tw7938693298796880493:True:=trivial
theorem PySem.W.Fast.tw7555208785263882263:True:=trivial
theorem PySem.W.Fast.tw7044010706532028138:True:=trivial
theorem PySem.W.Fast.tw16673083323534968869:True:=trivial
theorem PySem.W.Fast.tw5340987864360213291:True:=trivial
theorem PySem.W.Fast.tw3623881091551935751:True:=trivial
theorem PySem.W.Fast.tw6779365959244988473:True:=trivial
theorem PySem.W.Fast.tw10341806920285020173:True:=trivial
theorem PySem.W.Fast.tw3697551791193913951:True:=trivial
theorem PySem.W.Fast.tw9914002373972835054:True:=trivial
theorem PySem.W.Fast.tw12778005604206270871:True:=trivial
theorem PySem.W.Fast.tw8328536505665661935:True:=trivial
theorem PySem.W.Fast.tw1524449205544251071:True:=trivial
theorem PySem.W.Fast.tw14677074206379613689:True:=trivial
theorem PySem.W.Fast.tw12585336487681622170:True:=trivial
theorem PySem.W.Fast.tw17099347514438399758:True:=trivial
theorem PySem.W.Fast.tw469191374035284291:True:=trivial
theorem PySem.W.Fast.tw4674214448856587461:True:=trivial
theorem PySem.W.Fast.tw7867250920245282457:True:=trivial
theorem PySem.W.Fast.tw5586157074789035832:True:=trivial
theorem PySem.W.Fast.tw1557306149001977649:True:=trivial
theorem PySem.W.Fast.tw12292405007865097518:True:=trivial
theorem PySem.W.Fast.tw15488757303889059332:True:=trivial
theorem PySem.W.Fast.tw18296972270856720609:True:=trivial
theorem PySem.W.Fast.tw12606619211252188642:True:=trivial
theorem PySem.W.Fast.tw4742233340596094534:True:=trivial
theorem PySem.W.Fast.tw18272087689926812795:True:=trivial
theorem PySem.W.Fast.tw15957760797456920773:True:=trivial
theorem PySem.W.Fast.tw2306769905227673204:True:=trivial
theorem PySem.W.Fast.tw587487902692008533:True:=trivial
theorem PySem.W.Fast.tw1479806965599565390:True:=trivial
theorem PySem.W.Fast.tw274347099370045422:True:=trivial
theorem PySem.W.Fast.tw5762452265233377307:True:=trivial
theorem PySem.W.Fast.tw17320082893007848299:True:=trivial
theorem PySem.W.Fast.tw10364160600581581974:True:=trivial
open PySem PySem.W PyProof.Rows
set_option maxRecDepth 100000 in
set_option maxHeartbeats 0 in
theorem PySem.Challenge.cw_signpoly_k27_most_of_anything_holds : PySem.Challenge.rw_signpoly_k27_most_of_anything.Holds := by
 w_on;o_law;k_head;(case hw=>w_witness2)
 k_fill
 refine Own.walk (l:=PySem.Challenge.rw_signpoly_k27_most_of_anything) rfl rfl (λw h Y=>PySem.W.kIn_of Y) ?F
 case F=>
  intro w mg fa h KX G hmg
  refine Own.law_mk (h:=h) hmg ?T
  case T=>
   refine' Own.txt_ex (Own.txt_mk KX G ?a0 ?l0 ?c0 ?k0 ?a1 ?l1 ?c1 ?k1 ?a2 ?l2 ?c2 ?k2 ?a3 ?l3 ?c3 ?k3 ?a4 ?l4 ?c4 ?k4 ?a5 ?l5 ?c5 ?k5 ?a6 ?l6 ?c6 ?k6 ?a7 ?l7 ?c7 ?k7 ?a8 ?l8 ?c8 ?k8 ?a9 ?l9 ?c9 ?k9 ?a10 ?l10 ?c10 ?k10 ?cm_Table ?a11 ?l11 ?c11 ?k11 ?a12 ?l12 ?c12 ?k12 ?a13 ?l13 ?c13 ?k13 ?a14 ?l14 ?c14 ?k14 ?a15 ?l15 ?c15 ?k15 ?a16 ?l16 ?c16 ?k16 ?a17 ?l17 ?c17 ?k17 ?a18 ?l18 ?c18 ?k18 ?a19 ?l19 ?c19 ?k19 ?a20 ?l20 ?c20 ?k20 ?a21 ?l21 ?c21 ?k21 ?a22 ?l22 ?c22 ?k22 ?a23 ?l23 ?c23 ?k23 ?a24 ?l24 ?c24 ?k24 ?a25 ?l25 ?c25 ?k25 ?a26 ?l26 ?c26 ?k26 ?a27 ?l27 ?c27 ?k27 ?a28 ?l28 ?c28 ?k28 ?a29 ?l29 ?c29 ?k29 ?a30 ?l30 ?c30 ?k30 ?a31 ?l31 ?c31 ?k31 ?a32 ?l32 ?c32 ?k32 ?a33 ?l33 ?c33 ?k33 ?a34 ?l34 ?c34 ?k34 ?a35 ?l35 ?c35 ?k35 ?z_abs ?z_all ?z_any ?z_bool ?z_enumerate ?z_int ?z_isinstance ?z_len ?z_list ?z_min ?z_range ?z_str ?z_sum ?z_tuple ?z_zip ?mk0_Table ?mk2_Table ?mk3_Table ?cl0_Table ?cl1_Table ?cl2_Table ?cl3_Table ?na0_Table ?na1_Table ?na2_Table ?na3_Table ?na4_Table ?na5_Table)
   case a0=>k_is
   case l0=>k_is
   case c0=>k_is
   case k0=>k_is
   case a1=>k_is
   case l1=>k_is
   case c1=>k_is
   case k1=>k_is
   case a2=>k_is
   case l2=>k_is
   case c2=>k_is
   case k2=>k_is
   case a3=>k_is
   case l3=>k_is
   case c3=>k_is
   case k3=>k_is
   case a4=>k_is
   case l4=>k_is
   case c4=>k_is
   case k4=>k_is
   case a5=>k_is
   case l5=>k_is
   case c5=>k_is
   case k5=>k_is
   case a6=>k_is
   case l6=>k_is
   case c6=>k_is
   case k6=>k_is
   case a7=>k_is
   case l7=>k_is
   case c7=>k_is
   case k7=>k_is
   case a8=>k_is
   case l8=>k_is
   case c8=>k_is
   case k8=>k_is
   case a9=>k_is
   case l9=>k_is
   case c9=>k_is
   case k9=>k_is
   case a10=>k_is
   case l10=>k_is
   case c10=>k_is
   case k10=>k_is
   case cm_Table=>k_is
   case a11=>k_is
   case l11=>k_is
   case c11=>k_is
   case k11=>k_is
   case a12=>k_is
   case l12=>k_is
   case c12=>k_is
   case k12=>k_is
   case a13=>k_is
   case l13=>k_is
   case c13=>k_is
   case k13=>k_is
   case a14=>k_is
   case l14=>k_is
   case c14=>k_is
   case k14=>k_is
   case a15=>k_is
   case l15=>k_is
   case c15=>k_is
   case k15=>k_is
   case a16=>k_is
   case l16=>k_is
   case c16=>k_is
   case k16=>k_is
   case a17=>k_is
   case l17=>k_is
   case c17=>k_is
   case k17=>k_is
   case a18=>k_is
   case l18=>k_is
   case c18=>k_is
   case k18=>k_is
   case a19=>k_is
   case l19=>k_is
   case c19=>k_is
   case k19=>k_is
   case a20=>k_is
   case l20=>k_is
   case c20=>k_is
   case k20=>k_is
   case a21=>k_is
   case l21=>k_is
   case c21=>k_is
   case k21=>k_is
   case a22=>k_is
   case l22=>k_is
   case c22=>k_is
   case k22=>k_is
   case a23=>k_is
   case l23=>k_is
   case c23=>k_is
   case k23=>k_is
   case a24=>k_is
   case l24=>k_is
   case c24=>k_is
   case k24=>k_is
   case a25=>k_is
   case l25=>k_is
   case c25=>k_is
   case k25=>k_is
   case a26=>k_is
   case l26=>k_is
   case c26=>k_is
   case k26=>k_is
   case a27=>k_is
   case l27=>k_is
   case c27=>k_is
   case k27=>k_is
   case a28=>k_is
   case l28=>k_is
   case c28=>k_is
   case k28=>k_is
   case a29=>k_is
   case l29=>k_is
   case c29=>k_is
   case k29=>k_is
   case a30=>k_is
   case l30=>k_is
   case c30=>k_is
   case k30=>k_is
   case a31=>k_is
   case l31=>k_is
   case c31=>k_is
   case k31=>k_is
   case a32=>k_is
   case l32=>k_is
   case c32=>k_is
   case k32=>k_is
   case a33=>k_is
   case l33=>k_is
   case c33=>k_is
   case k33=>k_is
   case a34=>k_is
   case l34=>k_is
   case c34=>k_is
   case k34=>k_is
   case a35=>k_is
   case l35=>k_is
   case c35=>k_is
   case k35=>k_is
   case z_abs=>k_is
   case z_all=>k_is
   case z_any=>k_is
   case z_bool=>k_is
   case z_enumerate=>k_is
   case z_int=>k_is
   case z_isinstance=>k_is
   case z_len=>k_is
   case z_list=>k_is
   case z_min=>k_is
   case z_range=>k_is
   case z_str=>k_is
   case z_sum=>k_is
   case z_tuple=>k_is
   case z_zip=>k_is
   case mk0_Table=>kernel_rfl
   case mk2_Table=>kernel_rfl
   case mk3_Table=>kernel_rfl
   case cl0_Table=>kernel_rfl
   case cl1_Table=>kernel_rfl
   case cl2_Table=>kernel_rfl
   case cl3_Table=>kernel_rfl
   case na0_Table=>kernel_rfl
   case na1_Table=>kernel_rfl
   case na2_Table=>kernel_rfl
   case na3_Table=>kernel_rfl
   case na4_Table=>kernel_rfl
   case na5_Table=>kernel_rfl
