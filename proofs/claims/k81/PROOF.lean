import PyProof.Rows.All
import Wide.All
import OpenK.AllK
import Wide.FinOn
import Lean
import PyProof.EqAt
import PyProof.EqKinds
import PyProof.TupleCall
import PyProof.ListRange
import PyProof.NeKinds
import KE.KUnpack
import KE.KSortTup
import PyProof.ZipIter
import PyProof.Rows.CallKwBuiltin
import KE.KDictLaws
import KE.KDictList
import PyProof.SetKind
import PyProof.SetRoads
import PyProof.Rows.SetFrom
import PyProof.WalksMore
import KE.KIntText
import PyProof.ListStr
import OpenK.KOwn
import PyProof.ExcBaseAll.ValueError
import KE.KIsAll
import PyProof.ExcArgsOwn
import PyProof.ExcAttrAll.ValueError
import PyProof.RulesAs
import KE.KDictOf
import PyProof.AttrMissSeq
import PyProof.TupleIter
import PySem.Challenge.RW_signpoly_k81_whole_texts_there_and_back
set_option Elab.async false
set_option linter.all false
set_option maxRecDepth 100000
set_option genSizeOf false
noncomputable section
open Array renaming length_toList -> qbS, getElem?_eq_some_iff -> qbV, toList_inj -> qdu, replicate -> qf7, toList -> qgz
open Bool renaming and_eq_true -> qao, false_eq_true -> qaE, false_ne_true -> qaR, eq_iff_iff -> qbH, true_and -> qbZ, or_false -> qb0, not_true -> qcJ, and_self -> qcK, and_true -> qee, or_eq_true -> qeE, not_false -> qeU, false_bne -> qeV, false_and -> qgp, beq_comm -> qgy
open False renaming elim -> qbp
open Int renaming toNat -> qbA, reduceNeg -> qb2, emod_nonneg -> qc6, toNat_natCast -> qdq, eq_ofNat_of_zero_le -> qdx, emod_lt_of_pos -> qeh, fdiv_eq_ediv_of_nonneg -> qeR, mul_nonneg -> qgu, ne_of_gt -> qhG
open List renaming mem_cons_self -> qae, length_cons -> qaf, mem_cons_of_mem -> qah, length_append -> qai, map_cons -> qal, length_map -> qan, mem_append_right -> qap, all_eq_true -> qas, mem_cons -> qat, replicate -> qax, mem_singleton -> qaz, getElem?_eq_some_iff -> qaA, size_toArray -> qaG, nil_append -> qaI, getD_cons_zero -> qaJ, replicate_zero -> qaM, length_nil -> qaN, getElem?_append_left -> qaP, all_cons -> qaQ, mem_append_left -> qaW, map_map -> qaX, length_singleton -> qaY, cons_append -> qa0, append_nil -> qa5, getElem?_eq_getElem -> qa6, replicate_succ -> qa9, mem_append -> qba, getD_cons_succ -> qbb, take_length -> qbd, mem_map -> qbe, map_nil -> qbf, Nodup -> qbk, getElem?_append_right -> qbn, not_mem_nil -> qbt, getElem?_map -> qbu, getElem?_set_ne -> qbw, set_cons_zero -> qby, set_cons_succ -> qbz, lookup_cons -> qbB, length_drop -> qbC, getElem?_set_self -> qbJ, append_assoc -> qbK, length -> qb3, length_take -> qcg, pairwise_cons -> qci, length_set -> qcm, length_replicate -> qcn, any_cons -> qcp, mem_of_getElem? -> qcr, drop_eq_getElem_cons -> qct, filterMap_cons -> qcB, range -> qcC, getElem?_replicate -> qcI, take_of_length_le -> qcL, drop_eq_nil_of_le -> qcM, drop_zero -> qcS, all_nil -> qcT, mem_reverse -> qcU, nodup_cons -> qcZ, map_congr_left -> qc0, length_pos_iff -> qc1, all_map -> qdb, take_left -> qdg, flatten_cons -> qdn, sum_cons -> qdt, drop_length -> qdw, map_id' -> qdH, mem_of_mem_drop -> qdS, mem_iff_getElem -> qdT, mem_range -> qdV, drop_left -> qdW, drop_drop -> qdX, take_succ_cons -> qdZ, reverse_append -> qd0, push_toArray -> qek, getElem_mem -> qet, getElem_inj -> qeu, of_mem_zip -> qeA, map_append -> qeB, nodup_iff_pairwise_ne -> qeM, getElem?_take_of_lt -> qe1, take_add -> qe4, length_eq_zero_iff -> qe5, append_eq_nil_iff -> qfa, getD -> qfe, any_nil -> qff, reverse_reverse -> qfl, replicate_succ' -> qfm, mem_of_mem_take -> qfn, takeWhile_cons -> qfu, length_reverse -> qfv, zip_cons_cons -> qfE, mem_replicate -> qfF, mem_filterMap -> qfG, nodup_append -> qfO, foldl -> qfP, any_eq_false -> qfQ, isEmpty_iff -> qf5, filter_cons -> qf6, mem_filter -> qgd, foldl_cons -> qge, find?_cons -> qgf, set_set -> qgM, map_id -> qhF
open Nat renaming le_refl -> qaw, lt_of_lt_of_le -> qaD, ne_of_lt -> qaO, le_trans -> qaU, zero_add -> qa8, reduceSub -> qbg, lt_succ_of_lt -> qbl, zero_le -> qbs, lt_irrefl -> qbD, lt_succ_self -> qbI, reduceAdd -> qbN, pow_le_pow_right -> qb8, ne_of_gt -> qcd, reduceEqDiff -> qcA, le_of_eq -> qcE, mul_le_mul_right -> qcW, div_add_mod -> qc4, succ_ne_self -> qdz, pow_succ -> qdM, min_eq_left -> qdN, le_of_lt -> qdO, mod_lt -> qdR, le_succ -> qd8, succ_mul -> qer, mul_comm -> qes, not_lt_zero -> qeL, mul_le_mul -> qe0, eq_zero_or_pos -> qfN, reduceLeDiff -> qga, min_eq_right -> qgb, le_add_right -> qgc, mul_assoc -> qgL, sub_zero -> qhC, pow_zero -> qhD, add_comm -> qhE, pow_one -> qhQ, pow_mul -> qhR, log2_lt -> qhS
open Ne renaming symm -> qb5
open Option renaming bind_some -> qaa, bind_eq_some_iff -> qab, map_eq_some_iff -> qac, map_some -> qak, bind_none -> qbi, isSome_iff_exists -> qcz, map_none -> qdy, map -> qft, getD_none -> qfD
open Option.some renaming inj -> qa1
open Prod renaming fst -> qbh, snd -> qdK
open PyProof.Rows renaming boot_isinstance -> qav, boot_tuple -> qaL, boot_str -> qaT, slot_tuple_getitem -> qbr, joinOk_of_weight -> qbv, callWith_type1 -> qcb, boot_all -> qcc, boot_list -> qcy, boot_abs -> qcD, signs_ofString -> qcN, envOfC -> qcO, IntsAre -> qc5, boot_int -> qdf, envOfC -> qds, AllBare -> qeb, SortKind -> qex, KeyOrd -> qfb, subscriptTail_builtinR -> qfJ, SortSt -> qfX, entry_tuple_getitem -> qgi, args_tuple_getitem -> qgr, Subscript_ -> qgH, le_int -> qhw, in_str -> qhx, digits10_le -> qhy, callWith_builtin1 -> qhz, boot_min -> qhA, boot_bool -> qhB, slicePart_none -> qhW, boot_enumerate -> qhY
open PySem renaming Shared -> qag, wpAny_bind -> qam, mainGlobals -> qaq, Program -> qaH, sizeLine -> qaK, Around -> qaS, FuncData -> qaZ, compareOp -> qa2, boot_len -> qa3, wpAny_pure -> qa4, wpAny_mono -> qbc, mem_of_lookup -> qbm, Spec -> qbq, starEach -> qbE, binaryOp -> qbF, assignEach -> qbG, foldedSetIterable -> qbO, pushCells_keeps -> qbW, cellsFrom -> qbX, bootBuiltins -> qb6, NameKind -> qb7, wpAny_field -> qb9, sizeLine_eq -> qca, wpAny_truthy_bool -> qce, IntMulOk -> qcf, behindInMarks -> qch, call_meets -> qcl, wpAny_passesOwn -> qcs, wpAny_newObj_type -> qcv, wpAny_callSpecial?_slot -> qcP, attributeBase -> qcQ, wpAny_holding -> qc7, compEnvC -> qc8, IntMulOk -> qdc, wpAny_execs_nil -> qdh, sliceBounds -> qdi, noteFrame -> qdj, list_append -> qdk, wpAny_pyIter_tuple -> qdr, wpAny_setField -> qdv, wpAny_pyIter_enum -> qdA, wpAny_comprehension_free -> qdB, typeIs_str -> qdC, sysModules -> qdD, pushCells -> qdE, DictEntry -> qdF, wpAny_standAt -> qdJ, wpAny_call_entry -> qdP, codeAny_compStart_list -> qdU, wpAny_ite_false -> qd2, swapsWith -> qd3, letOwnedTupleGo -> qd4, getItem -> qd5, codeAny -> qd6, backTo -> qd7, JoinOk -> qej, keywordEach -> qel, wpAny_Call_Name_kw -> qev, assign -> qew, typeIs_int -> qeF, holding -> qeG, intText? -> qeH, Builtin -> qeP, IsPart -> qeQ, noFill_tuple_add -> qeW, GenState -> qe6, subscripted -> qe7, PassesOwn -> qe9, intText_digits -> qfc, wpAny_binaryOp_repeat_ref -> qfh, rawInt -> qfp, builtinsNs -> qfq, Paired -> qfs, wpAny_pyNext_enum_itemD -> qfw, valueAt -> qfx, seq_tuple_add -> qfy, callerA -> qfz, backToKw -> qfA, intText_neg -> qfB, call -> qfC, Keyword -> qfH, BindsTo -> qfI, wpAny_typeOf -> qfR, strValues -> qfS, setFlight -> qfT, seqIndex_neg -> qfU, concat_meets -> qfV, codeAny_mono -> qfW, stripSame -> qfY, stripped -> qf8, seqIndex_of -> qgh, zfilled -> qgk, stripLo -> qgl, stripHi -> qgm, compPost -> qgq, Within -> qgt, wpAny_sequenceKey -> qgA, wpAny_pyIter_list -> qgB, wpAny_assign_Name -> qgC, wpAny_Name -> qgD, slot_list_getitem -> qgE, wpAny_execs_cons -> qgT, wpAny_tests_nil -> qhI, standAt -> qhJ, leaving -> qhK, isTrue -> qhL, Result -> qhM, wpAny_seqItems -> qhU, sliceRange_one -> qhV, recursionLimit -> qhX
open PySem.Builtin.List renaming listTooLong -> qei
open PySem.Builtin.Range renaming rangeSize -> qgS
open PySem.Builtin.Slice renaming slicePlaces -> qcj, sliceAdjust -> qea, slicePartIndex -> qgQ, sliceApplied -> qgR
open PySem.Builtin.SmallTypes renaming nextOf -> qdI
open PySem.Builtin.Str renaming occurrences -> qb4, glued -> qck, partsBetween -> qcq, strSliceIndices -> qd9, strKind -> qeO, partsBetween -> qf1, padded -> qf2, occurrences -> qf3, glued -> qhT
open PySem.Builtin.Tuple renaming tupleItemsOf -> qd1, tupleTooMany -> qgO, tupleCompareSizes -> qgP
open PySem.Calls renaming Name_function_global -> qeD, evalArgs_plain -> qfg
open PySem.Draws renaming list -> qhH
open PySem.EntryCells renaming newEntry -> qeT
open PySem.F renaming slot_str_find -> qbL, type_str_find -> qbU, slot_tuple_iterator_next -> qcu, slot_str_split -> qcG, plainAttrs_str -> qcH, args_list_append_2 -> qc2, args_tuple_add_2 -> qc9, args_str_split_2 -> qda, entry_list_append -> qdd, entry_tuple_add -> qdl, entry_str_split -> qdm, slot_list_append -> qdo, slot_tuple_add -> qdp, slot_int_rmul -> qdY, type_str_rstrip -> qeJ, slot_str_rstrip -> qeK, slot_tuple_mul -> qeN, args_tuple_iterator_next_1 -> qeS, entry_tuple_iterator_next -> qe2, args_tuple_mul_2 -> qgg, entry_tuple_mul -> qgn, args_int_rmul_2 -> qgo, slot_int_index -> qgw, entry_int_rmul -> qgx, fills_int_mul -> qgN
open PySem.Heap renaming get?_push_of_some -> qaj, lt_size -> qaB, get?_push_size -> qaV, get?_update_other -> qa7, size_push -> qbR, get?_update_self -> qbY, SameBut -> qeq, get?_none_of_le -> qfo
open PySem.Heap.IsSliceOf renaming new -> qgv
open PySem.Heap.SameBut renaming update -> qeC
open PySem.IsL renaming update -> qde
open PySem.NumText renaming digitsVal -> qbM
open PySem.Obj renaming data_mapFields -> qb1, isFreed_of_fields -> qco, mapSeq -> qcR, IsDictOf -> qdL, mapFields -> qeg, cls_mapFields -> qf4
open PySem.Paired renaming length -> qf9
open PySem.PassesOwn renaming never -> qbQ
open PySem.SeqAt renaming EqAt -> qcV, ne_of_list_tuple -> qe3, RcNeAt -> qgs, RcAt -> qhv
open PySem.SeqAt.EqAt renaming of_refs -> qdG, same -> qed, str_int -> qeX, int_str -> qeY, int_int -> qeZ, tuple_str -> qiz, tuple_none -> qiA, tuple_list -> qiB, tuple_int -> qiC, tuple_bool -> qiD, str_tuple -> qiE, str_str -> qiF, str_none -> qiG, str_list -> qiH, str_bool -> qiI, none_tuple -> qiJ, none_str -> qiK, none_list -> qiL, none_int -> qiM, none_bool -> qiN, list_tuple -> qiO, list_str -> qiP, list_none -> qiQ, list_int -> qiR, list_bool -> qiS, int_tuple -> qiT, int_none -> qiU, int_list -> qiV, int_bool -> qiW, bool_tuple -> qiX, bool_str -> qiY, bool_none -> qiZ, bool_list -> qi0, bool_int -> qi1, bool_bool -> qi2
open PySem.SeqAt.RcAt renaming tuples -> qdQ, lists_lengths -> qen, lists -> qe8, tuple_str -> qh0, tuple_none -> qh1, tuple_list -> qh2, tuple_int -> qh3, tuple_bool -> qh4, str_tuple -> qh5, str_str -> qh6, str_none -> qh7, str_list -> qh8, str_int -> qh9, str_bool -> qia, none_tuple -> qib, none_str -> qic, none_none -> qid, none_list -> qie, none_int -> qif, none_bool -> qig, list_tuple -> qih, list_str -> qii, list_none -> qij, list_int -> qik, list_bool -> qil, int_tuple -> qim, int_str -> qio, int_none -> qip, int_list -> qiq, int_int -> qir, int_bool -> qis, bool_tuple -> qit, bool_str -> qiu, bool_none -> qiv, bool_list -> qiw, bool_int -> qix, bool_bool -> qiy
open PySem.SeqAt.RcNeAt renaming tuples -> qez, tuple_str -> qgV, tuple_none -> qgW, tuple_list -> qgX, tuple_int -> qgY, tuple_bool -> qgZ, str_tuple -> qg0, str_str -> qg1, str_none -> qg2, str_list -> qg3, str_int -> qg4, str_bool -> qg5, none_tuple -> qg6, none_str -> qg7, none_none -> qg8, none_list -> qg9, none_int -> qha, none_bool -> qhb, lists_lengths -> qhc, lists -> qhd, list_tuple -> qhe, list_str -> qhf, list_none -> qhg, list_int -> qhh, list_bool -> qhi, int_tuple -> qhj, int_str -> qhk, int_none -> qhl, int_list -> qhm, int_int -> qhn, int_bool -> qho, bool_tuple -> qhp, bool_str -> qhq, bool_none -> qhr, bool_list -> qhs, bool_int -> qht, bool_bool -> qhu
open PySem.Str renaming ofString -> qbo, join -> qcY, length -> qhZ
open PySem.StrLaws renaming glued_eq_join -> qbP, split_free -> qgI, occ_length_le -> qgJ, join_split -> qgK
open PySem.Txt renaming join -> qbT, split -> qcw, contains -> qcx, find -> qcX, stripBy -> qc3, split -> qef, rstripChars -> qeI, zfill -> qfk, find -> qfK, contains -> qgU
open PySem.Value renaming isStrOf -> qgj
open PySem.W renaming Frag -> qad, nsIn -> qar, mg_of -> qau, keepIn -> qay, codeIn -> qaC, fnOf -> qaF, mg_none_of -> qbj, kia_one -> qbx, cellsFrom_some -> qcF, instObj -> qeo, OpenLaw -> qep, lookIn -> qey, kitx_tuple -> qfd, kitx_list -> qfi, kitx_dict -> qfj, plainGet -> qfr, kitOne -> qfL, findIn -> qfM, excIn -> qfZ, WalkO -> qf0, callWith_K -> qgF
open PySem.W.KIN renaming val_back -> qhN, signs_num -> qhO, call_text -> qhP
open PySem.W.WShape renaming has -> qgG
open PySem.WalksT renaming enumerateD -> qec
open Sum.inr renaming inj -> qem
def U{α:Sort u}{a:α}:a=a:=rfl
def iFN{c:Prop}{d:Decidable c}(h:¬c){α:Sort u}{t e:α}:ite c t e=e:=if_neg h
def iFP{c:Prop}{d:Decidable c}(h:c){α:Sort u}{t e:α}:ite c t e=t:=if_pos h
namespace L2
open PySem PySem.Spec PyProof.Rows
abbrev Key:=Sum Int Str
def wJ:Key->Value->Bool
 |.inl k,v=>Value.isInt k v
 |.inr x,v=>qgj x v
def Gs (w:World):Key->Int
 |.inl k=>hashInt k
 |.inr x=>hashStr w x
theorem cT:∀ {k:Key}{v:Value},wJ k v=true->(∃ i t,k=Sum.inl i/\v=Value.int i t)\/(∃ x t,k=Sum.inr x/\v=Value.str x t)
 |.inl i,v,h=>by
  obtain⟨t,e⟩:=Value.isInt_shape h;exact .inl ⟨i,t,U,e⟩
 |.inr x,v,h=>by
  obtain⟨t,e⟩:=Value.isStrOf_shape h;exact .inr ⟨x,t,U,e⟩
theorem xO (x:Str) (t:Tok):wJ (.inr x) (.str x t)=true:=by simp[wJ,qgj]
theorem C9 (a b:Int):decide ((Sum.inl a:Key)=Sum.inl b)=(a==b):=by
 by_cases e:a=b
 ·subst e;simp
 ·rw[decide_eq_false (λq=>e (Sum.inl.inj q))]
  exact (beq_eq_false_iff_ne.mpr e).symm
theorem Dc (a b:Str):decide ((Sum.inr a:Key)=Sum.inr b)=decide (a=b):=by
 by_cases e:a=b
 ·simp
 ·rw[decide_eq_false (λq=>e (qem q)),decide_eq_false e]
theorem Da (a:Int) (b:Str):decide ((Sum.inl a:Key)=Sum.inr b)=false:=decide_eq_false (λq=>nomatch q)
theorem Db (a:Str) (b:Int):decide ((Sum.inr a:Key)=Sum.inl b)=false:=decide_eq_false (λq=>nomatch q)
def fu (prog:qaH) (w:World):PySem.KeyKind prog w Key where
 is:=wJ
 hash:=Gs w
 inj:=λv a b l f=>by
  rcases cT l with⟨i,t,rfl,rfl⟩|⟨x,t,rfl,rfl⟩
  ·rcases cT f with⟨j,u,rfl,e⟩|⟨y,u,rfl,e⟩
   ·injection e with c _;rw[c]
   ·exact nomatch e
  ·rcases cT f with⟨j,u,rfl,e⟩|⟨y,u,rfl,e⟩
   ·exact nomatch e
   ·injection e with c _;rw[c]
 byValue:=λk v h=>by
  rcases cT h with⟨i,t,rfl,rfl⟩|⟨x,t,rfl,rfl⟩<;>rfl
 pyHash:=λd h=>by
  rcases cT d with⟨i,t,rfl,rfl⟩|⟨x,t,rfl,rfl⟩
  ·exact wpAny_pyHash_int h
  ·exact wpAny_pyHash_str h
 eqBool:=λg d h=>by
  rcases cT g with⟨i,t,rfl,rfl⟩|⟨x,t,rfl,rfl⟩
  ·rcases cT d with⟨j,u,rfl,rfl⟩|⟨y,u,rfl,rfl⟩
   ·rw[C9]at h;exact wpAny_eqBool_int h
   ·rw[Da]at h;exact qeY i t y u _ _ _ _ h
  ·rcases cT d with⟨j,u,rfl,rfl⟩|⟨y,u,rfl,rfl⟩
   ·rw[Db]at h;exact qeX x t j u _ _ _ _ h
   ·rw[Dc]at h;exact wpAny_eqBool_str h
 «strs»:=λk x t v h=>by
  rcases cT h with⟨i,u,rfl,e⟩|⟨y,u,rfl,e⟩
  ·exact nomatch e
  ·injection e with c _
   subst c;cases v<;>rfl
theorem gW (prog:qaH) (w:World) (x:Str) (t:Tok):(fu prog w).is (.inr x) (.str x t)=true:=xO x t
inductive V where
 |non|bl (b:Bool)|int (i:Int)|str (x:Str)|byt (b:Array UInt8)|flt (b:UInt64)|ref (a:Addr)|ty (n:String)
 deriving DecidableEq
def bI:V->Value->Prop
 |.non,u=>u=Value.none
 |.bl b,u=>u=Value.bool b
 |.int i,u=>∃ t,u=Value.int i t
 |.str x,u=>∃ t,u=Value.str x t
 |.byt b,u=>∃ t,u=Value.bytes b t
 |.flt b,u=>∃ t,u=Value.float b t
 |.ref a,u=>u=Value.ref a
 |.ty n,u=>u=Value.type n
abbrev bn:List V->List Value->Prop:=qfs bI
theorem bn.length {b:List V}{a:List Value} (r:bn b a):b.length=a.length:=qf9 r
theorem bn.get:∀ {b:List V}{a:List Value}{i:Nat}{x:V},bn b a->b[i]?=some x->∃ u,a[i]?=some u/\bI x u
 |_,_,_,_,.nil,e=>by simp at e
 |_,_,0,_,.cons r _,e=>by simp at e;subst e;exact⟨_,U,r⟩
 |_,_,i+1,x,.cons _ t,e=>by
  obtain⟨u,c,d⟩:=bn.get t (by simpa using e);exact⟨u,by simpa using c,d⟩
theorem bn.set {x:V}{u:Value} (r:bI x u):∀ {b:List V}{a:List Value} (i:Nat),bn b a->bn (b.set i x) (a.set i u)
 |_,_,_,.nil=>.nil
 |_,_,0,.cons _ t=>.cons r t
 |_,_,i+1,.cons q t=>.cons q (bn.set r i t)
theorem bn.append:∀ {c a:List V}{b ws:List Value},bn c b->bn a ws->bn (c++a) (b++ws)
 |_,_,_,_,.nil,s=>s
 |_,_,_,_,.cons r t,s=>.cons r (bn.append t s)
theorem bn.take:∀ {b:List V}{a:List Value} (n:Nat),bn b a->bn (b.take n) (a.take n)
 |_,_,0,_=>.nil
 |_,_,_+1,.nil=>.nil
 |_,_,n+1,.cons r t=>.cons r (bn.take n t)
theorem bn.drop:∀ {b:List V}{a:List Value} (n:Nat),bn b a->bn (b.drop n) (a.drop n)
 |_,_,0,r=>r
 |_,_,_+1,.nil=>.nil
 |_,_,n+1,.cons _ t=>bn.drop n t
def Cu:Option V->Option Value->Prop
 |some v,some u=>bI v u
 |none,none=>True
 |_,_=>False
def KV {a:Type}:List (a×V)->List (a×Value)->Prop:=qfs λ(p:a×V) (q:a×Value)=>p.1=q.1/\bI p.2 q.2
def kV:Key->V
 |.inl i=>.int i
 |.inr x=>.str x
inductive HO where
 |lst (xs:List V)
 |tup (xs:List V)
 |dK (kvs:List (Key×V))|dT (kvs:List (List Key×V))
 |set (S:Int->Bool) (n:Nat)
 |ins (C dx:Addr) (fs:List (Str×V))
 |own (x:Addr)
 |xd (fs:List (Str×V))
 |met (f x:Addr)
 |rng (lo hi:Int)
 |frz (o:Obj) (u:HO)
 |tbl (ps:Array Value)
 |ext (φ:Heap->Prop)
abbrev Hp:=Addr->Option HO
def upd (H:Hp) (a:Addr) (o:HO):Hp:=λb=>if b=a then some o else H b
theorem bH {H:Hp}{a:Addr}{o:HO}:upd H a o a=some o:=by unfold upd;rw[iFP U]
theorem bj {H:Hp}{a b:Addr}{o:HO} (h:b≠a):upd H a o b=H b:=by unfold upd;rw[iFN h]
theorem bi {H:Hp}{a b:Addr}{o:HO} (h:H a=some o) (c:H b=none):a≠b:=by
 intro e;subst e;rw[h]at c;cases c
def iY (h:Heap) (a:Addr) (b:Array Value):Prop:=∃ o:Obj,h.get? a=some o/\o.cls=.type "tuple"/\(∃ n,o.data=.seq b n)/\o.dict=none
theorem iY.tup {h:Heap}{a:Addr}{b:Array Value} (x:iY h a b):IsTup h a b:=let ⟨o,e,c,n,_⟩:=x;⟨o,e,c,n⟩
theorem iY.new (h:Heap) (a:Array Value):iY (h.push { cls:=.type "tuple",data:=.seq a }) h.objs.size a:=⟨_,qaV _ U,U,⟨_,U⟩,U⟩
section
variable (P:qaH) (w:World)
def gm (H:Hp) (h:Heap) (a:Addr):HO->Prop
 |.lst c=>c.length<=qaK/\∃ (b:List Value) (n:Nat),bn c b/\h.get? a=some { cls:=.type "list",data:=.seq b.toArray n }
 |.tup c=>c.length<=qaK/\∃ b:List Value,bn c b/\iY h a b.toArray
 |.dK kvs=>kvs.length<=qaK/\(a==qdD)=false/\∃ vs,KV kvs vs/\h.DictOf (fu P w) a vs
 |.dT kvs=>kvs.length<=qaK/\(a==qdD)=false/\∃ c:List (List Key×Addr×Value),
   qfs (λ(p:List Key×V) (q:List Key×Addr×Value)=>p.1=q.1/\H q.2.1=some (.tup (p.1.map kV))/\bI p.2 q.2.2) kvs c/\
   ∃ o i k,h.get? a=some o/\o.ExactDict/\o.data=.dict i k/\i.toList=c.map (entryOfKey (tupleKind (fu P w)))/\(c.map (·.1)).Nodup
 |.set S n=>h.SetOf (intKind P w) a S n
 |.ins C e fs=>H e=some (.own a)/\fs.length<=1000/\e≠a/\h.get? a=some (qeo C e)/\
   ∃ d,h.Ns1 e d/\(∀ f,Cu (fs.lookup f) (d f))/\qgt d (fs.map (·.1))
 |.own _=>∃ o,h.get? a=some o
 |.xd fs=>∃ d,h.Ns1 a d/\∀ f,Cu (fs.lookup f) (d f)
 |.rng lo hi=>∃ t u v,h.get? a=some { cls:=.type "range",data:=.fields #[.int lo t,.int hi u,.int 1 v] }
 |.frz o u=>h.get? a=some o/\gm H h a u
 |.tbl ps=>h.get? a=some { cls:=.none,data:=.fields ps }
 |.met f x=>h.get? a=some (PySem.W.methodObj (.ref f) (.ref x))
 |.ext φ=>φ h/\(∃ o,h.get? a=some o)/\∀ g j:Heap,φ g->(∀ o,g.get? a=some o->j.get? a=some o)->φ j
def HOk (H:Hp) (h:Heap):Prop:=∀ a o,H a=some o->gm P w H h a o
end
section
variable {P:qaH}{w:World}{H H':Hp}{h s:Heap}{a:Addr}{o:HO}
theorem gm.lt (x:gm P w H h a o):a<h.objs.size:=by
 cases o with
 |lst i=>obtain⟨_,_,_,_,e⟩:=x;exact qaB e
 |tup i=>obtain⟨_,_,_,p⟩:=x;exact p.tup.lt
 |dK kvs=>obtain⟨_,_,_,_,o,_,_,e,_⟩:=x;exact qaB e
 |dT kvs=>obtain⟨_,_,_,_,o,_,_,e,_⟩:=x;exact qaB e
 |set S n=>obtain⟨o,_,_,_,e,_⟩:=x;exact qaB e
 |ins C N fs=>obtain⟨_,_,_,e,_⟩:=x;exact qaB e
 |own y=>obtain⟨_,e⟩:=x;exact qaB e
 |xd fs=>obtain⟨_,⟨_,_,_,e,_⟩,_⟩:=x;exact qaB e
 |rng lo hi=>obtain⟨_,_,_,e⟩:=x;exact qaB e
 |frz ob u=>obtain⟨e,_⟩:=x;exact qaB e
 |tbl ps=>exact qaB (x)
 |met f y=>exact qaB (x)
 |ext φ=>obtain⟨_,⟨_,e⟩,_⟩:=x;exact qaB e
theorem qfs.mapP {α E:Type}{F G:α->E->Prop}:∀ {m:List α}{l:List E},qfs F m l->(∀ a b,F a b->G a b)->qfs G m l
 |_,_,.nil,_=>.nil
 |_,_,.cons r t,f=>.cons (f _ _ r) (qfs.mapP t f)
theorem gm.stay (x:gm P w H h a o) (k:∀ b u,(b=a\/H b=some (.own a))->h.get? b=some u->s.get? b=some u)
  (O:∀ b,H b=some (.own a)->H' b=some (.own a)) (J:∀ b i,H b=some (.tup i)->H' b=some (.tup i)):gm P w H' s a o:=by
 induction o with
 |lst i=>obtain⟨z,A,n,r,e⟩:=x;exact⟨z,A,n,r,k _ _ (.inl U) e⟩
 |tup i=>obtain⟨z,A,r,ob,e,c⟩:=x;exact⟨z,A,r,ob,k _ _ (.inl U) e,c⟩
 |dK kvs=>obtain⟨z,y,vs,r,ob,g,j,e,c⟩:=x;exact⟨z,y,vs,r,ob,g,j,k _ _ (.inl U) e,c⟩
 |dT kvs=>
  obtain⟨z,y,i,r,ob,g,j,e,c⟩:=x;exact⟨z,y,i,qfs.mapP r λp q z=>⟨z.1,J _ _ z.2.1,z.2.2⟩,ob,g,j,k _ _ (.inl U) e,c⟩
 |set S n=>obtain⟨ob,g,j,t,e,c⟩:=x;exact⟨ob,g,j,t,k _ _ (.inl U) e,c⟩
 |ins C N fs=>
  obtain⟨d,z,ne,e,D,⟨B,g,j,M,c⟩,r⟩:=x;exact⟨O _ d,z,ne,k _ _ (.inl U) e,D,⟨B,g,j,k _ _ (.inr d) M,c⟩,r⟩
 |own y=>obtain⟨ob,e⟩:=x;exact⟨ob,k _ _ (.inl U) e⟩
 |xd fs=>obtain⟨D,⟨B,g,j,e,c⟩,r⟩:=x;exact⟨D,⟨B,g,j,k _ _ (.inl U) e,c⟩,r⟩
 |rng lo hi=>obtain⟨t,u,v,e⟩:=x;exact⟨t,u,v,k _ _ (.inl U) e⟩
 |frz ob u K=>obtain⟨e,q⟩:=x;exact⟨k _ _ (.inl U) e,K q⟩
 |tbl ps=>
  exact k a _ (.inl U) x
 |met f y=>
  exact k a _ (.inl U) x
 |ext φ=>obtain⟨p,⟨o,e⟩,st⟩:=x;exact⟨st _ _ p λo q=>k _ _ (.inl U) q,⟨o,k _ _ (.inl U) e⟩,st⟩
theorem HOk.lt (x:HOk P w H h) (e:H a=some o):a<h.objs.size:=(x a o e).lt
theorem HOk.fresh (x:HOk P w H h) (e:h.objs.size<=a):H a=none:=by
 cases q:H a with
 |none=>rfl
 |some u=>exact absurd (qaD (x.lt q) e) (qbD _)
theorem HOk.kept (x:HOk P w H h) (k:∀ b u,h.get? b=some u->s.get? b=some u):HOk P w H s:=λa o e=>
 (x a o e).stay (λb u _ q=>k b u q) (λ_ q=>q) λ_ _ q=>q
theorem HOk.laid (x:HOk P w H h) (k:∀ b u,h.get? b=some u->s.get? b=some u) (L:h.objs.size<=a) (new:gm P w (upd H a o) s a o):HOk P w (upd H a o) s:=λb u e=>by
 have hn:=x.fresh L;by_cases I:b=a
 ·subst I;rw[bH]at e;cases e;exact new
 ·rw[bj I]at e
  exact (x b u e).stay (λc v _ q=>k c v q) (λc q=>by rw[bj (bi q hn)];exact q) λc i q=>by rw[bj (bi q hn)];exact q
end
def Rd (H:Hp) (a:Addr) (u:HO):Prop:=H a=some u\/∃ o,H a=some (.frz o u)
theorem Rd.of {H:Hp}{a:Addr}{u:HO} (h:H a=some u):Rd H a u:=.inl h
theorem Rd.ok {P:qaH}{w:World}{H:Hp}{h:Heap}{a:Addr}{u:HO} (r:Rd H a u) (x:HOk P w H h):gm P w H h a u:=by
 rcases r with r|⟨o,r⟩
 ·exact x a u r
 ·obtain⟨_,q⟩:=x a _ r
  exact q
def Mut:Option HO->Prop
 |some (.lst _)=>True
 |some (.dK _)=>True
 |some (.dT _)=>True
 |some (.set _ _)=>True
 |some (.ins _ _ _)=>True
 |some (.ext _)=>True
 |_=>False
section
variable {P:qaH}{w:World}{H:Hp}{h g:Heap}{x e:Addr}{m:HO}
theorem HOk.write (ok:HOk P w H h) (f:Mut (H x)) (o:e=x\/H e=some (.own x)) (k:∀ b u,b≠e->h.get? b=some u->g.get? b=some u) (l:∃ u,g.get? e=some u)
  (new:gm P w (upd H x m) g x m):HOk P w (upd H x m) g:=λb u q=>by
 have d:∀ c y,H c=some (.own y)->c≠x:=λc y r z=>by subst z;rw[r]at f;exact f
 by_cases i:b=x
 ·subst i;rw[bH]at q;cases q;exact new
 ·rw[bj i]at q
  by_cases a:b=e
  ·have n:H b=some (.own x):=by
    rcases o with z|z
    ·exact absurd (a.trans z) i
    ·rw[a];exact z
   rw[q]at n;cases n;obtain⟨v,s⟩:=l;exact⟨v,by rw[a];exact s⟩
  ·refine (ok b u q).stay (λc v j r=>k c v ?_ r) (λc r=>by rw[bj (d c b r)];exact r) λc p r=>by rw[bj ((λc p r z=>by subst z;rw[r]at f;exact f) c p r)];exact r
   rcases j with rfl|j
   ·exact a
   ·rintro rfl
    rcases o with z|z
    ·exact d c b j z
    ·rw[j]at z;cases z;exact i U
end
structure Un (fs ex:List Addr) (H H':Hp) (h h':Heap):Prop where
 keep:∀ b o,h.get? b=some o->H b=none->b∉fs->b∉ex->h'.get? b=some o
 slot:∀ b o,h.get? b=some o->H b=none->b∈fs->b∉ex->∃ sl,h'.get? b=some { o with slots:=sl }
 free:∀ b o,h.get? b=some o->H b=none->b∉ex->H' b=none
 there:∀ b o,h.get? b=some o->b∉ex->∃ o',h'.get? b=some o'
 tups:∀ b xs,H b=some (.tup xs)->H' b=some (.tup xs)
 frzs:∀ b o u,H b=some (.frz o u)->H' b=some (.frz o u)
 tbls:∀ b ps,H b=some (.tbl ps)->∃ more,H' b=some (.tbl (ps++more))
section
variable {fs w ex p:List Addr}{H H1 H2:Hp}{h m y c:Heap}{a x e:Addr}{o:HO}
theorem Un.any (u:Un fs ex H H1 h m) {b:Addr}{ob:Obj} (q:h.get? b=some ob) (n:H b=none) (d:b∉ex):∃ t,m.get? b=some { ob with slots:=t }:=by
 by_cases g:b∈fs
 ·exact u.slot b ob q n g d
 ·exact⟨ob.slots,u.keep b ob q n g d⟩
theorem Un.kept (k:∀ b u,h.get? b=some u->c.get? b=some u):Un fs ex H H h c:=
 ⟨λb ob q _ _ _=>k b ob q,λb ob q _ _ _=>⟨ob.slots,k b ob q⟩,λ_ _ _ n _=>n,λb ob q _=>⟨ob,k b ob q⟩,λ_ _ q=>q,λ_ _ _ q=>q,λ_ ps q=>⟨#[],by rw[q];simp⟩⟩
theorem Un.refl:Un fs ex H H h h:=Un.kept λ_ _ q=>q
theorem Un.laid (k:∀ b u,h.get? b=some u->c.get? b=some u) (v:h.objs.size<=a) (hn:H a=none):Un fs ex H (upd H a o) h c where
 keep:=λb u q _ _ _=>k b u q
 slot:=λb u q _ _ _=>⟨u.slots,k b u q⟩
 free:=λb u q n _=>by rw[bj (qaO (qaD (qaB q) v))];exact n
 there:=λb u q _=>⟨u,k b u q⟩
 tups:=λb l q=>by rw[bj (bi q hn)];exact q
 frzs:=λb u l q=>by rw[bj (bi q hn)];exact q
 tbls:=λb ps q=>⟨#[],by rw[bj (bi q hn),q];simp⟩
theorem Un.write (i:Mut (H x)) (s:e=x\/H e=some (.own x)) (k:∀ b u,b≠e->h.get? b=some u->c.get? b=some u) (j:∃ u,c.get? e=some u):Un fs ex H (upd H x o) h c:=by
 have d:∀ b,H b=none->b≠x:=λb n z=>by subst z;rw[n]at i;exact i
 have g:∀ b,H b=none->b≠e:=λb n z=>by
  subst z;rcases s with r|r
  ·exact d b n r
  ·rw[n]at r;cases r
 have hm:∀ b u,H b=some u->¬ Mut (some u)->b≠x:=λb u q nm z=>by subst z;rw[q]at i;exact nm i
 refine⟨λb u q n _ _=>k b u (g b n) q,λb u q n _ _=>⟨u.slots,k b u (g b n) q⟩,λb u q n _=>by rw[bj (d b n)];exact n,λb u q _=>?_,
  λb l q=>by rw[bj (hm b _ q λz=>z)];exact q,λb u l q=>by rw[bj (hm b _ q λz=>z)];exact q,λb ps q=>⟨#[],by rw[bj (hm b _ q λz=>z),q];simp⟩⟩
 by_cases f:b=e
 ·subst f;exact j
 ·exact⟨u,k b u f q⟩
end
def trk (h:Heap) (H:Hp):List Addr:=(qcC h.objs.size).filter λa=>(H a).isSome
def xD (h:Heap) (H:Hp):Heap:=PySem.W.hideAll h (trk h H)
theorem xE (h:Heap) (H:Hp):(xD h H).objs.size=h.objs.size:=PySem.W.hideAll_size _ _
theorem yK {h:Heap}{H:Hp}{b:Addr}{o:Obj} (e:h.get? b=some o) (n:H b=none):(xD h H).get? b=some o:=
 PySem.W.hideAll_get _ e λhm=>by
  have q:=(qgd.mp hm).2;rw[n]at q;simp at q
theorem Bf {h:Heap}{H:Hp}{b:Addr}{o:Obj} (e:(xD h H).get? b=some o):h.get? b=some o/\H b=none:=by
 have a:=PySem.W.of_hideAll _ e;refine⟨a,?_⟩;cases q:H b with
 |none=>rfl
 |some x=>
  have z:(xD h H).get? b=none:=PySem.W.hideAll_none _ (qgd.mpr ⟨qdV.mpr (qaB a),by simp[q]⟩);rw[z]at e;cases e
structure Mod (K:qad) (mg:Str->Option Value) (base:Heap):Prop where
 kin:K.In base
 glob:base.Ns qaq mg
 blt:∃ mb,base.Ns qfq mb/\∀ x:Str,x≠"__name__"->mb x=qb6 x
 nolimit:base.NoLimit
structure Cx where
 prog:qaH
 w:World
 K:qad
 mg:Str->Option Value
 base:Heap
 A:qaS
 N:List Str
 s₀:qag
 H₀:Hp
 env:Env
 outer:List Env
 stack:List Env
 ex:List Addr
 fn:Str->Bool
 calm:Bool
 pn:List (Addr×Obj)
 xe:Value->qag->Prop
def frs (l:List Env):List Addr:=l.filterMap (·.frame)
abbrev Cx.fs (X:Cx):List Addr:=frs X.outer
def Vis (a:Scope) (x:Str):Prop:=a.names.lookup x=some .local\/a.names.lookup x=some .cell\/a.names.lookup x=some .free
def Loc (a:Scope) (x:Str):Prop:=a.names.lookup x=some .local\/a.names.lookup x=some .cell
def Gb (env:Env) (h:Heap) (m:Str->Option Value) (x:Str) (u:Value):Prop:=
 (env.kindOf x=some .local/\m x=some u)\/((env.kindOf x=some .cell\/env.kindOf x=some .free)/\∃ c,env.cells.lookup x=some c/\h.IsCell c (some u))
structure Cx.Ok (X:Cx):Prop where
 mod:Mod X.K X.mg X.base
 kind:X.env.scope.kind=.function
 glob:X.env.globals=qaq
 blt:X.env.builtins=qfq
 above:X.s₀.heap.objs.size<=X.env.locals
 inj:∀ x y c,X.env.cells.lookup x=some c->X.env.cells.lookup y=some c->x=y
 has:∀ x,(X.env.kindOf x=some .cell\/X.env.kindOf x=some .free)->∃ c,X.env.cells.lookup x=some c
 cab:∀ x c,X.fn x=true->X.env.cells.lookup x=some c->X.s₀.heap.objs.size<=c
 hd:X.calm=true->X.A.handled=none
 frames:X.A.frames=some X.stack
 stk:X.stack=X.outer\/(X.stack=X.env::X.outer/\X.env.frame=some X.env.locals)
 exf:∀ b∈X.ex,b≠X.env.locals/\∀ x c,X.env.cells.lookup x=some c->c≠b
 bs:∀ b o,X.base.get? b=some o->X.s₀.heap.get? b=some o/\X.H₀ b=none
 bsz:X.base.objs.size<=X.s₀.heap.objs.size
 noex:∀ b o,X.base.get? b=some o->b∉X.ex
 exfs:∀ b∈X.ex,b∉X.fs
 funs:X.s₀.heap.FunFrames X.base X.outer
 frf:∀ b∈X.fs,X.H₀ b=none
structure Inv (X:Cx) (pins:List (Addr×Obj)) (σ:List (Option V)) (H:Hp) (s:qag):Prop where
 ok:X.Ok
 os:s.os=X.s₀.os
 bare:qeb s.gens
 base:Un X.fs X.ex X.H₀ H X.s₀.heap s.heap
 loc:∃ m,s.heap.Ns X.env.locals m/\∀ (i:Nat) (x:Str) (v:V),X.N[i]?=some x->σ[i]?=some (some v)->Vis X.env.scope x->∃ u,bI v u/\Gb X.env s.heap m x u
 cell:∀ x c,X.env.cells.lookup x=some c->∃ v,s.heap.IsCell c v
 free:H X.env.locals=none
 freeC:∀ x c,X.env.cells.lookup x=some c->H c=none
 pin:∀ p∈X.pn++pins,s.heap.get? p.1=some p.2/\H p.1=none/\p.1≠X.env.locals/\p.1∉X.fs/\∀ v,p.2.data≠.cell v
 hok:HOk X.prog X.w H s.heap
 len:σ.length=X.N.length
section
variable {X:Cx}{f:List (Addr×Obj)}{B:List (Option V)}{H H':Hp}{s:qag}{F:Heap}
theorem Cx.Ok.nofr (ok:X.Ok) {b:Addr}{o:Obj} (e:X.base.get? b=some o):b∉X.fs:=λg=>by
 have:=(ok.funs.mem g).1
 rw[e]at this;cases this
theorem Inv.bs (I:Inv X f B H s):∀ b o,X.base.get? b=some o->s.heap.get? b=some o/\H b=none:=λb o e=>
 ⟨I.base.keep b o (I.ok.bs b o e).1 (I.ok.bs b o e).2 (I.ok.nofr e) (I.ok.noex b o e),I.base.free b o (I.ok.bs b o e).1 (I.ok.bs b o e).2 (I.ok.noex b o e)⟩
theorem Inv.bk (I:Inv X f B H s):∀ b o,X.base.get? b=some o->s.heap.get? b=some o:=λb o e=>(I.bs b o e).1
theorem Inv.mod (I:Inv X f B H s):Mod X.K X.mg X.base:=I.ok.mod
theorem Inv.kIn (I:Inv X f B H s):X.K.In s.heap:=I.ok.mod.kin.keeps I.bk
theorem Inv.fr (I:Inv X f B H s):∃ m,Fr X.base X.env.locals s.heap m:=
 let ⟨m,hn,_⟩:=I.loc
 ⟨m,hn,I.bk,qaU I.ok.bsz I.ok.above⟩
theorem Inv.lt (I:Inv X f B H s):X.env.locals<s.heap.objs.size:=let ⟨_,hn,_⟩:=I.loc;hn.lt
theorem Inv.sz (I:Inv X f B H s):X.s₀.heap.objs.size<=s.heap.objs.size:=qaU I.ok.above (qdO I.lt)
theorem Inv.nofs (I:Inv X f B H s) {a:Addr} (h:s.heap.objs.size<=a):a∉X.fs:=λg=>by
 obtain⟨_,o,J,_⟩:=I.ok.funs.mem g;exact absurd (qaD (qaB J) (qaU I.sz h)) (qbD _)
theorem Inv.cne (I:Inv X f B H s):∀ x c,X.env.cells.lookup x=some c->c≠X.env.locals:=λx c e z=>by
 obtain⟨v,o,J,hd⟩:=I.cell x c e;obtain⟨m,⟨T,es,ep,S,hd',_⟩,_⟩:=I.loc;rw[z,S]at J;cases J;rw[hd']at hd;cases hd
theorem Inv.funs (I:Inv X f B H s):s.heap.FunFrames X.base X.outer:=by
 have all:∀ (l:List Env),(∀ b∈frs l,b∈X.fs)->X.s₀.heap.FunFrames X.base l->s.heap.FunFrames X.base l:=by
  intro l
  induction l with
  |nil=>intro _ _;trivial
  |cons env r ih=>
   intro K hl;obtain⟨hk,⟨L,o,hf,hn,J,hd⟩,hr⟩:=hl;have Y:=K L (by unfold frs;rw[qcB,hf];exact qae);obtain⟨sl,e⟩:=I.base.slot L o J (I.ok.frf L Y) Y λz=>I.ok.exfs L z Y;exact⟨hk,⟨L,_,hf,hn,e,hd⟩,ih (λb g=>K b (by unfold frs;rw[qcB,hf];exact qah _ g)) hr⟩
 exact all X.outer (λ_ g=>g) I.ok.funs
theorem Inv.stack (I:Inv X f B H s):s.heap.FunFrames X.base X.stack:=by
 rcases I.ok.stk with e|⟨e,hf⟩
 ·rw[e];exact I.funs
 ·rw[e]
  obtain⟨m,hn,_⟩:=I.loc;refine .cons (by rw[I.ok.kind];decide) hf hn ?_ I.funs;exact qfo (qaU I.ok.bsz I.ok.above)
theorem Inv.stkSub (I:Inv X f B H s):∀ b∈frs X.stack,b∈X.env.locals::X.fs:=λb g=>by
 rcases I.ok.stk with e|⟨e,hf⟩
 ·rw[e]at g;exact qah _ g
 ·rw[e]at g
  unfold frs at g;rw[qcB,hf]at g;exact g
theorem Inv.stkFree (I:Inv X f B H s):∀ b∈frs X.stack,H b=none:=λb g=>by
 rcases qat.mp (I.stkSub b g) with e|g
 ·rw[e];exact I.free
 ·obtain⟨_,o,J,_⟩:=I.ok.funs.mem g
  exact I.base.free b o J (I.ok.frf b g) λz=>I.ok.exfs b z g
theorem Inv.step {g':Array qe6}{t':Nat}{d':Drawn}{ch:List Addr} (I:Inv X f B H s)
  (O:∀ b∈ch,(b∈X.ex\/X.s₀.heap.objs.size<=b)/\b≠X.env.locals/\(∀ x c,X.env.cells.lookup x=some c->c≠b)/\∀ p∈X.pn++f,p.1≠b)
  (keep:∀ b o,b≠X.env.locals->b∉X.fs->b∉ch->s.heap.get? b=some o->H b=none->F.get? b=some o)
  (slot:∀ b o,b≠X.env.locals->b∈X.fs->b∉ch->s.heap.get? b=some o->H b=none->∃ sl,F.get? b=some { o with slots:=sl }) (free:∀ b o,b∉ch->s.heap.get? b=some o->H b=none->H' b=none)
  (there:∀ b o,b∉ch->s.heap.get? b=some o->∃ T,F.get? b=some T)
  (tups:∀ b xs,H b=some (.tup xs)->H' b=some (.tup xs)) (frzs:∀ b o u,H b=some (.frz o u)->H' b=some (.frz o u)) (tbls:∀ b ps,H b=some (.tbl ps)->∃ more,H' b=some (.tbl (ps++more)))
  (ns:∀ m,s.heap.Ns X.env.locals m->F.Ns X.env.locals m) (hok:HOk X.prog X.w H' F) (hg:qeb g') :
  Inv X f B H' { s with heap:=F,gens:=g',drawn:=d',toks:=t' }:=by
 have neL:∀ b o,X.s₀.heap.get? b=some o->b≠X.env.locals:=λb o e=>qaO (qaD (qaB e) I.ok.above);have neC:∀ b o,X.s₀.heap.get? b=some o->b∉X.ex->b∉ch:=λb o e D g=>by
  rcases (O b g).1 with z|z
  ·exact D z
  ·exact absurd (qaD (qaB e) z) (qbD _)
 have cellK:∀ x c,X.env.cells.lookup x=some c->∀ v,s.heap.IsCell c v->F.IsCell c v:=λx c e v ⟨o,J,hd⟩=>by
  have nch:=λz=>(O c z).2.2.1 x c e U;by_cases C:c∈X.fs
  ·obtain⟨sl,q⟩:=slot c o (I.cne x c e) C nch J (I.freeC x c e)
   exact⟨_,q,hd⟩
  ·exact⟨o,keep c o (I.cne x c e) C nch J (I.freeC x c e),hd⟩
 refine⟨I.ok,I.os,hg,⟨λb o e n g D=>?_,λb o e n g D=>?_,λb o e n D=>?_,λb o e D=>?_,λb xs e=>tups b xs (I.base.tups b xs e),λb o xs e=>frzs b o xs (I.base.frzs b o xs e),λb ps e=>?_⟩,?_,λx c e=>?_,?_,λx c e=>?_,λp W=>?_,hok,I.len⟩
 ·exact keep b o (neL b o e) g (neC b o e D) (I.base.keep b o e n g D) (I.base.free b o e n D)
 ·obtain⟨sl,G⟩:=I.base.slot b o e n g D
  obtain⟨sl',P⟩:=slot b _ (neL b o e) g (neC b o e D) G (I.base.free b o e n D);exact⟨sl',P⟩
 ·obtain⟨T,G⟩:=I.base.there b o e D
  exact free b T (neC b o e D) G (I.base.free b o e n D)
 ·obtain⟨T,G⟩:=I.base.there b o e D
  exact there b T (neC b o e D) G
 ·obtain⟨m1,G⟩:=I.base.tbls b ps e
  obtain⟨m2,P⟩:=tbls b _ G;exact⟨_,by rw[P,Array.append_assoc]⟩
 ·obtain⟨m,hn,hl⟩:=I.loc
  refine⟨m,ns m hn,λi x v G P e3=>?_⟩;obtain⟨u,r,l⟩:=hl i x v G P e3;refine⟨u,r,?_⟩;rcases l with l|⟨k,c,e,z⟩
  ·exact .inl l
  ·exact .inr ⟨k,c,e,cellK x c e _ z⟩
 ·obtain⟨v,z⟩:=I.cell x c e
  exact⟨v,cellK x c e v z⟩
 ·obtain⟨m,⟨o,_,_,J,_⟩,_⟩:=I.loc
  exact free _ o (λz=>(O _ z).2.1 U) J I.free
 ·obtain⟨v,o,J,hd⟩:=I.cell x c e
  exact free c o (λz=>(O c z).2.2.1 x c e U) J (I.freeC x c e)
 ·obtain⟨e,n,ne,nf,d⟩:=I.pin p W
  have nch:=λz=>(O p.1 z).2.2.2 p W U;exact⟨keep p.1 p.2 ne nf nch e n,free p.1 p.2 nch e n,ne,nf,d⟩
theorem Inv.un {t':Nat} (I:Inv X f B H s) (u:Un X.fs [] H H' s.heap F) (hok:HOk X.prog X.w H' F):Inv X f B H' { s with heap:=F,toks:=t' }:=by
 obtain⟨m,⟨o,es,ep,J,r⟩,_⟩:=id I.loc;obtain⟨sl,Y⟩:=u.any J I.free (by simp)
 exact I.step (ch:=[]) (λ_ z=>nomatch z) (λb o _ g _ e n=>u.keep b o e n g (by simp)) (λb o _ g _ e n=>u.slot b o e n g (by simp)) (λb o _ e n=>u.free b o e n (by simp)) (λb o _ e=>u.there b o e (by simp)) u.tups u.frzs u.tbls (λm' hm=>by
  obtain⟨T,es',ep',S,r'⟩:=hm;rw[J]at S;cases S
  exact⟨_,es',ep',Y,r'⟩) hok I.bare
theorem Inv.call {g':Array qe6}{t':Nat}{d':Drawn}{ch:List Addr} (I:Inv X f B H s) (u:Un (frs X.stack) ch H H' s.heap F) (hok:HOk X.prog X.w H' F) (hg:qeb g')
  (O:∀ b∈ch,(b∈X.ex\/X.s₀.heap.objs.size<=b)/\b≠X.env.locals/\(∀ x c,X.env.cells.lookup x=some c->c≠b)/\∀ p∈X.pn++f,p.1≠b) :
  Inv X f B H' { s with heap:=F,gens:=g',drawn:=d',toks:=t' }:=by
 obtain⟨m,⟨o,es,ep,J,r⟩,_⟩:=id I.loc;obtain⟨sl,Y⟩:=u.any J I.free λz=>(O _ z).2.1 U
 exact I.step O (λb o Y g C e n=>u.keep b o e n (λz=>(qat.mp (I.stkSub b z)).elim Y g) C) (λb o _ _ C e n=>u.any e n C) (λb o C e n=>u.free b o e n C) (λb o C e=>u.there b o e C) u.tups u.frzs u.tbls (λm' hm=>by
  obtain⟨T,es',ep',S,r'⟩:=hm;rw[J]at S;cases S
  exact⟨_,es',ep',Y,r'⟩) hok hg
theorem Inv.turned {t':Nat}{it:Addr} (I:Inv X f B H s) (k:∀ b o,b≠it->s.heap.get? b=some o->F.get? b=some o) (hn:H it=none) (Y:it≠X.env.locals)
  (h1:it∈X.ex\/X.s₀.heap.objs.size<=it) (h2:∀ x c,X.env.cells.lookup x=some c->c≠it) (h3:∀ p∈X.pn++f,p.1≠it):Inv X f B H { s with heap:=F,toks:=t' }:=by
 have nit:∀ b u,H b=some u->b≠it:=λb u e z=>by rw[z,hn]at e;cases e
 refine I.step (ch:=[it]) (λb g=>?_) (λb o _ _ C e _=>k b o (λz=>C (by simp[z])) e) (λb o _ _ C e _=>⟨o.slots,k b o (λz=>C (by simp[z])) e⟩) (λ_ _ _ _ n=>n)
  (λb o C e=>⟨o,k b o (λz=>C (by simp[z])) e⟩) (λ_ _ e=>e) (λ_ _ _ e=>e) (λb ps e=>⟨#[],by rw[e];simp⟩) (λm hm=>?_) (λb u e=>?_) I.bare
 ·have e:=by simpa using g
  subst e;exact⟨h1,Y,h2,h3⟩
 ·obtain⟨o,es,ep,J,r⟩:=hm
  exact⟨o,es,ep,k _ o (qb5 Y) J,r⟩
 ·refine (I.hok b u e).stay (λc v C q=>k c v ?_ q) (λ_ q=>q) λ_ _ q=>q
  rcases C with z|z
  ·rw[z];exact nit b u e
  ·exact nit c _ z
theorem Inv.tok (I:Inv X f B H s) (t:Nat):Inv X f B H { s with toks:=t }:=I.un Un.refl I.hok
theorem Inv.kept {t':Nat} (I:Inv X f B H s) (k:∀ b u,s.heap.get? b=some u->F.get? b=some u):Inv X f B H { s with heap:=F,toks:=t' }:=I.un (Un.kept k) (I.hok.kept k)
theorem Inv.laid {a:Addr}{o:HO}{t':Nat} (I:Inv X f B H s) (k:∀ b u,s.heap.get? b=some u->F.get? b=some u) (W:s.heap.objs.size<=a) (new:gm X.prog X.w (upd H a o) F a o) :
  Inv X f B (upd H a o) { s with heap:=F,toks:=t' }:=I.un (Un.laid k W (I.hok.fresh W)) (I.hok.laid k W new)
theorem Inv.write {x e:Addr}{o:HO}{t':Nat} (I:Inv X f B H s) (mu:Mut (H x)) (he:e=x\/H e=some (.own x)) (k:∀ b u,b≠e->s.heap.get? b=some u->F.get? b=some u) (heo:∃ u,F.get? e=some u)
  (new:gm X.prog X.w (upd H x o) F x o):Inv X f B (upd H x o) { s with heap:=F,toks:=t' }:=I.un (Un.write mu he k heo) (I.hok.write mu he k heo new)
theorem Inv.weak {σ':List (Option V)} (I:Inv X f B H s) (hl:σ'.length=B.length) (w:∀ (i:Nat) v,σ'[i]?=some (some v)->B[i]?=some (some v)):Inv X f σ' H s:=
 ⟨I.ok,I.os,I.bare,I.base,let ⟨m,hn,hl'⟩:=I.loc;⟨m,hn,λi x v G P e3=>hl' i x v G (w i v P) e3⟩,I.cell,I.free,I.freeC,I.pin,I.hok,hl.trans I.len⟩
theorem Inv.pins_of {pins':List (Addr×Obj)} (I:Inv X f B H s) (h:∀ p∈pins',s.heap.get? p.1=some p.2/\H p.1=none/\p.1≠X.env.locals/\p.1∉X.fs/\∀ v,p.2.data≠.cell v):Inv X pins' B H s:=
 ⟨I.ok,I.os,I.bare,I.base,I.loc,I.cell,I.free,I.freeC,λp W=>(qba.mp W).elim (λz=>I.pin p (qaW _ z)) (h p),I.hok,I.len⟩
theorem uE {N:List Str} (hN:N.Nodup) {i j:Nat}{x:Str} (a:N[i]?=some x) (b:N[j]?=some x):i=j:=by
 obtain⟨h1,G⟩:=qaA.mp a;obtain⟨h2,P⟩:=qaA.mp b;exact (qeu hN).mp (G.trans P.symm)
theorem yb {M:Model}{A:qaS}{E:Value->qag->Prop}{i:Nat}{x:Str}{v:V}{u:Value}{Q:Unit->qag->Prop} (I:Inv X f B H s) (hN:X.N.Nodup) (hi:X.N[i]?=some x) (D:Loc X.env.scope x) (r:bI v u)
  (h:∀ s',Inv X f (B.set i (some v)) H s'->(∃ a,qeq a s.heap s'.heap/\(a=X.env.locals\/X.env.cells.lookup x=some a))->Q () s') (hf:X.fn x=true\/X.env.scope.names.lookup x=some .local:=by first|exact .inl U|exact .inr U|assumption):wpAny M A (storeName X.env x u) Q E s:=by
 obtain⟨m,hn,hl⟩:=id I.loc;have hcls:(X.env.scope.kind==.class||(X.env.scope.kind==.module&&X.env.locals != X.env.globals))=false:=by rw[I.ok.kind];rfl
 have hiσ:i<B.length:=by rw[I.len];exact (qaA.mp hi).1
 have cne:=I.cne;have R:∀ {a:Addr}{F:Heap},(∃ o,s.heap.get? a=some o/\H a=none)->qeq a s.heap F->HOk X.prog X.w H F:=λ{a F} ha K b ob e=>by
  obtain⟨_,_,hfree⟩:=ha;refine (I.hok b ob e).stay (λc w' C q=>(K.2 c ?_).trans q) (λ_ q=>q) λ_ _ q=>q
  rintro rfl
  rcases C with rfl|C
  ·rw[hfree]at e;cases e
  ·rw[hfree]at C;cases C
 rcases D with hk|hk
 ·refine wpAny_storeName_local hk hn (λF hn' K=>?_) hcls
  obtain⟨oL,_,_,hoL,_⟩:=id hn;refine h _ ⟨I.ok,I.os,I.bare,⟨λb o e n g D=>?_,λb o e n g D=>?_,I.base.free,λb o e D=>?_,I.base.tups,I.base.frzs,I.base.tbls⟩,⟨_,hn',λj y v' G P e3=>?_⟩,λy c e=>?_,I.free,I.freeC,λp W=>?_,R ⟨oL,hoL,I.free⟩ K,by simpa using I.len⟩ ⟨_,K,.inl U⟩
  ·exact (K.2 b (qaO (qaD (qaB e) I.ok.above))).trans (I.base.keep b o e n g D)
  ·obtain⟨sl,G⟩:=I.base.slot b o e n g D
   exact⟨sl,(K.2 b (qaO (qaD (qaB e) I.ok.above))).trans G⟩
  ·obtain⟨T,G⟩:=I.base.there b o e D
   exact⟨T,(K.2 b (qaO (qaD (qaB e) I.ok.above))).trans G⟩
  ·by_cases hj:j=i
   ·subst hj
    rw[hi]at G;cases G;rw[qbJ hiσ]at P;cases P;exact⟨u,r,.inl ⟨hk,by simp⟩⟩
   ·rw[qbw (qb5 hj)]at P
    obtain⟨u',r',q⟩:=hl j y v' G P e3;refine⟨u',r',?_⟩;rcases q with⟨k,e⟩|⟨k,c,e,z⟩
    ·refine .inl ⟨k,?_⟩
     have:y≠x:=λe=>hj (uE hN G (e ▸ hi))
     simp[this,e]
    ·exact .inr ⟨k,c,e,z.sameBut K (cne y c e)⟩
  ·obtain⟨w',z⟩:=I.cell y c e
   exact⟨w',z.sameBut K (cne y c e)⟩
  ·obtain⟨e,n,ne,nf,d⟩:=I.pin p W
   exact⟨(K.2 p.1 ne).trans e,n,ne,nf,d⟩
 ·have hfn:X.fn x=true:=by
   rcases hf with z|z
   ·exact z
   ·rw[z]at hk;cases hk
  obtain⟨c,C⟩:=I.ok.has x (.inl hk);obtain⟨w',z⟩:=I.cell x c C;refine wpAny_storeName_cell I.ok.kind hk C z (λF hc' K=>?_);obtain⟨oc,hoc,hocd⟩:=id z;refine h { s with heap:=F } ⟨I.ok,I.os,I.bare,⟨λb o e n g D=>?_,λb o e n g D=>?_,I.base.free,λb o e D=>?_,I.base.tups,I.base.frzs,I.base.tbls⟩,⟨m,hn.sameBut K (qb5 (cne x c C)),λj y v' G P e3=>?_⟩,λy c' e=>?_,I.free,I.freeC,λp W=>?_,R ⟨oc,hoc,I.freeC x c C⟩ K,by simpa using I.len⟩ ⟨c,K,.inr C⟩
  ·exact (K.2 b (qaO (qaD (qaB e) (I.ok.cab x c hfn C)))).trans (I.base.keep b o e n g D)
  ·obtain⟨sl,G⟩:=I.base.slot b o e n g D
   exact⟨sl,(K.2 b (qaO (qaD (qaB e) (I.ok.cab x c hfn C)))).trans G⟩
  ·obtain⟨T,G⟩:=I.base.there b o e D
   exact⟨T,(K.2 b (qaO (qaD (qaB e) (I.ok.cab x c hfn C)))).trans G⟩
  ·by_cases hj:j=i
   ·subst hj
    rw[hi]at G;cases G;rw[qbJ hiσ]at P;cases P;exact⟨u,r,.inr ⟨.inl hk,c,C,hc'⟩⟩
   ·rw[qbw (qb5 hj)]at P
    obtain⟨u',r',q⟩:=hl j y v' G P e3;refine⟨u',r',?_⟩;rcases q with q|⟨k,c',e,z'⟩
    ·exact .inl q
    ·refine .inr ⟨k,c',e,z'.sameBut K ?_⟩
     rintro rfl
     exact hj (uE hN G (I.ok.inj _ _ _ e C ▸ hi))
  ·by_cases hcc:c'=c
   ·subst hcc;exact⟨_,hc'⟩
   ·obtain⟨w2,z2⟩:=I.cell y c' e
    exact⟨w2,z2.sameBut K hcc⟩
  ·obtain⟨e,n,ne,nf,d⟩:=I.pin p W
   refine⟨(K.2 p.1 ?_).trans e,n,ne,nf,d⟩;intro q;rw[q,hoc]at e;exact d w' (by rw[<-(qa1 e)];exact hocd)
theorem qf {M:Model}{A:qaS}{E:Value->qag->Prop}{i:Nat}{x:Str}{v:V}{u:Value}{Q:Unit->qag->Prop} (I:Inv X f B H s) (hN:X.N.Nodup) (hi:X.N[i]?=some x) (D:Loc X.env.scope x) (r:bI v u)
  (h:∀ s',Inv X f (B.set i (some v)) H s'->Q () s') (hf:X.fn x=true\/X.env.scope.names.lookup x=some .local:=by first|exact .inl U|exact .inr U|assumption):wpAny M A (storeName X.env x u) Q E s:=
 yb I hN hi D r (λs' I' _=>h s' I') hf
theorem Inv.call' {s':qag}{ch:List Addr} (I:Inv X f B H s) (J:s'.os=s.os) (u:Un (frs X.stack) ch H H' s.heap s'.heap) (hok:HOk X.prog X.w H' s'.heap) (hg:qeb s'.gens)
  (O:∀ b∈ch,(b∈X.ex\/X.s₀.heap.objs.size<=b)/\b≠X.env.locals/\(∀ x c,X.env.cells.lookup x=some c->c≠b)/\∀ p∈X.pn++f,p.1≠b):Inv X f B H' s':=by
 obtain⟨F,g',d',t',T⟩:=s';subst J;exact I.call u hok hg O
end
abbrev XK:=Value->Option Addr->Hp->Prop
abbrev St:=List (Option V)
abbrev VK:=V->Hp->Prop
abbrev TE:=St->Hp->VK->Prop
abbrev TT:=St->Hp->(Bool->Hp->Prop)->Prop
abbrev TA:=St->Hp->(List V->Hp->Prop)->Prop
structure tZ where
 nx:St->Hp->Prop
 rt:VK
 bk:St->Hp->Prop:=λ_ _=>False
 ct:St->Hp->Prop:=λ_ _=>False
abbrev TS:=tZ->St->Hp->Prop
def EP (X:Cx) (a:List (Addr×Obj)) (b:St) (Q:VK) (u:Value) (s':qag):Prop:=∃ v H',Inv X a b H' s'/\bI v u/\Q v H'
def TP (X:Cx) (a:List (Addr×Obj)) (c:St) (Q:Bool->Hp->Prop) (b:Bool) (s':qag):Prop:=∃ H',Inv X a c H' s'/\Q b H'
def AP (X:Cx) (a:List (Addr×Obj)) (c:St) (Q:List V->Hp->Prop) (b:List Value) (s':qag):Prop:=∃ vs H',Inv X a c H' s'/\bn vs b/\Q vs H'
def SP (X:Cx) (b:List (Addr×Obj)) (D:tZ) (f:Flow) (s':qag):Prop:=
 match f with
 |.next=>∃ a H',Inv X b a H' s'/\D.nx a H'
 |.brk=>∃ a H',Inv X b a H' s'/\D.bk a H'
 |.cont=>∃ a H',Inv X b a H' s'/\D.ct a H'
 |.ret u=>∃ v a H',Inv X b a H' s'/\bI v u/\D.rt v H'
def PE (X:Cx) (e:Expr) (t:TE):Prop:=
 ∀ (a:List (Addr×Obj)) (s:qag) (b:St) (H:Hp) (Q:VK),Inv X a b H s->t b H Q->wpAny (model X.prog X.w) X.A (eval e X.env) (EP X a b Q) X.xe s
def PT (X:Cx) (e:Expr) (t:TT):Prop:=
 ∀ (a:List (Addr×Obj)) (s:qag) (b:St) (H:Hp) (Q:Bool->Hp->Prop),Inv X a b H s->t b H Q->wpAny (model X.prog X.w) X.A (qhL e X.env (eval e X.env)) (TP X a b Q) X.xe s
def PW (X:Cx) (e:Expr) (t:TT):Prop:=
 ∀ (b:Sem Value) (a:List (Addr×Obj)) (s:qag) (c:St) (H:Hp) (Q:Bool->Hp->Prop),Inv X a c H s->t c H Q->wpAny (model X.prog X.w) X.A (qhL e X.env b) (TP X a c Q) X.xe s
theorem PW.pt {X:Cx}{e:Expr}{t:TT} (h:PW X e t):PT X e t:=h _
def PA (X:Cx) (c:List Expr) (t:TA):Prop:=
 ∀ (pos:Pos) (a:List (Addr×Obj)) (s:qag) (b:St) (H:Hp) (Q:List V->Hp->Prop),Inv X a b H s->t b H Q->wpAny (model X.prog X.w) X.A (spliced (qd7 pos (qbE c X.env))) (AP X a b Q) X.xe s
def PS (X:Cx) (st:Stmt) (t:TS):Prop:=
 ∀ (a:List (Addr×Obj)) (s:qag) (b:St) (H:Hp) (D:tZ),Inv X a b H s->t D b H->wpAny (model X.prog X.w) X.A (exec st X.env) (SP X a D) X.xe s
def PSs (X:Cx) (st:List Stmt) (t:TS):Prop:=
 ∀ (a:List (Addr×Obj)) (s:qag) (b:St) (H:Hp) (D:tZ),Inv X a b H s->t D b H->wpAny (model X.prog X.w) X.A (execs st X.env) (SP X a D) X.xe s
theorem thn {α:Type}{t:Sem α}{Q Q':α->qag->Prop}{M:Model}{A:qaS}{E:Value->qag->Prop}{s:qag} (h:wpAny M A t Q E s) (b:∀ a s,Q a s->Q' a s):wpAny M A t Q' E s:=qbc h b λ_ _ x=>x
section
variable {X:Cx}
def Ed (i:Nat):TE:=λg H Q=>∃ v,g[i]?=some (some v)/\Q v H
def tC (v:V):TE:=λ_ H Q=>Q v H
theorem DL {i:Nat}{x:Str}{pos:Pos} (M:X.N[i]?=some x) (G:Vis X.env.scope x) (hd:(x==("__debug__" : Str))=false:=by decide) (K:(x==("__classdict__" : Str))=false:=by decide):PE X (.Name x pos) (Ed i):=by
 intro f s g H Q I h;obtain⟨v,e,h⟩:=h;obtain⟨m,hn,O⟩:=I.loc;obtain⟨u,r,l⟩:=O i x v M e G;have fin:EP X f g Q u s:=⟨v,H,I,r,h⟩;rcases l with⟨D,hm⟩|⟨D,c,J,z⟩
 ·exact qgD (wpAny_loadName_local I.ok.kind D hn hm fin) hd
 ·rcases D with D|D
  ·exact qgD (wpAny_loadName_cell I.ok.kind D J z fin) hd
  ·exact qgD (wpAny_loadName_free I.ok.kind D J z fin K) hd
theorem DF {i j pos}:PE X (.Constant (.int i) j pos) (tC (.int i)):=λ_ _ _ H _ I h=>wpAny_Constant_int ⟨.int i,H,I.tok _,⟨_,U⟩,h⟩
theorem Ff {b j pos}:PE X (.Constant (.bool b) j pos) (tC (.bl b)):=λ_ _ _ H _ I h=>Constant_bool ⟨.bl b,H,I,U,h⟩
theorem DH {j pos}:PE X (.Constant .none j pos) (tC .non):=λ_ _ _ H _ I h=>Constant_none ⟨.non,H,I,U,h⟩
theorem DK {x j pos}:PE X (.Constant (.str x) j pos) (tC (.str x)):=λ_ _ _ H _ I h=>Calls.Constant_str ⟨.str x,H,I.tok _,⟨_,U⟩,h⟩
def Gl (X:Cx) (x:Str):Prop:=X.env.kindOf x=some .globalImplicit
theorem oi {E:Value->qag->Prop}{f:List (Addr×Obj)}{s:qag}{g:St}{H:Hp}{x:Str}{u:Value}{pos:Pos}{Q:Value->qag->Prop} (I:Inv X f g H s) (C:Gl X x) (hm:X.mg x=some u) (h:Q u s)
  (hd:(x==("__debug__" : Str))=false:=by decide):wpAny (model X.prog X.w) X.A (eval (.Name x pos) X.env) Q E s:=
 qeD I.ok.kind C (Calls.loadGlobal_global (by rw[I.ok.glob];exact I.mod.glob.keeps I.bk) hm h) hd
theorem mS {E:Value->qag->Prop}{f:List (Addr×Obj)}{s:qag}{g:St}{H:Hp}{x:Str}{u:Value}{pos:Pos}{Q:Value->qag->Prop} (I:Inv X f g H s) (C:Gl X x) (hm:X.mg x=none) (G:qb6 x=some u) (h:Q u s)
  (hn:x≠"__name__":=by decide) (hd:(x==("__debug__" : Str))=false:=by decide):wpAny (model X.prog X.w) X.A (eval (.Name x pos) X.env) Q E s:=by
 obtain⟨P,N,L⟩:=I.mod.blt;exact qeD I.ok.kind C (Calls.loadGlobal_builtin (by rw[I.ok.glob];exact I.mod.glob.keeps I.bk) hm (by rw[I.ok.blt];exact N.keeps I.bk) ((L x hn).trans G) h) hd
theorem iU {x:Str}{v:V}{u:Value}{pos:Pos} (C:Gl X x) (hm:X.mg x=some u) (r:bI v u) (hd:(x==("__debug__" : Str))=false:=by decide):PE X (.Name x pos) (tC v):=
 λ_ _ _ H _ I h=>oi I C hm ⟨v,H,I,r,h⟩ hd
theorem Bp {x:Str}{v:V}{u:Value}{pos:Pos} (C:Gl X x) (hm:X.mg x=none) (G:qb6 x=some u) (r:bI v u) (hn:x≠"__name__":=by decide) (hd:(x==("__debug__" : Str))=false:=by decide):PE X (.Name x pos) (tC v):=
 λ_ _ _ H _ I h=>mS I C hm G ⟨v,H,I,r,h⟩ hn hd
variable {a b:Expr}{p y:TE}{pos:Pos}
variable {w A:TT}{k:List Expr}
def GE (t u:TT):TT:=λg H Q=>t g H λc H1=>if c=true then u g H1 Q else Q false H1
def tOr (t u:TT):TT:=λg H Q=>t g H λc H1=>if c=true then Q true H1 else u g H1 Q
def GK (t:TT):TT:=λg H Q=>t g H λc H1=>Q (!c) H1
theorem By (o:PT X a w):PW X (.BoolOp .And [a] pos) w:=by
 intro wh f s g H Q I h;refine isTrue_and (thn (o f s g H Q I h) λc q e=>?_);cases c with
 |true=>exact isTrue_and_nil e
 |false=>exact e
theorem DW (o:PT X a w):PW X (.BoolOp .Or [a] pos) w:=by
 intro wh f s g H Q I h;refine isTrue_or (thn (o f s g H Q I h) λc q e=>?_);cases c with
 |false=>exact isTrue_or_nil e
 |true=>exact e
theorem zH (o:PT X a w) (B:PW X (.BoolOp .And (b::k) pos) A):PW X (.BoolOp .And (a::b::k) pos) (GE w A):=by
 intro wh f s g H Q I h;refine isTrue_and (thn (o f s g H _ I h) λc q ⟨H1,I1,n⟩=>?_);cases c with
 |true=>exact B wh f q g H1 Q I1 n
 |false=>exact⟨H1,I1,n⟩
theorem Ce (o:PT X a w) (B:PW X (.BoolOp .Or (b::k) pos) A):PW X (.BoolOp .Or (a::b::k) pos) (tOr w A):=by
 intro wh f s g H Q I h;refine isTrue_or (thn (o f s g H _ I h) λc q ⟨H1,I1,n⟩=>?_);cases c with
 |true=>exact⟨H1,I1,n⟩
 |false=>exact B wh f q g H1 Q I1 n
theorem DV (o:PT X a w):PT X (.UnaryOp .Not a pos) (GK w):=by
 intro f s g H Q I h;exact isTrue_not (o f s g H _ I h)
def FF (p y:TE):TE:=λg H Q=>p g H λx H1=>∃ c,x=.bl c/\if c=true then y g H1 Q else Q (.bl false) H1
def GM (p y:TE):TE:=λg H Q=>p g H λx H1=>∃ c,x=.bl c/\if c=true then Q (.bl true) H1 else y g H1 Q
def FM (p:TE):TE:=λg H Q=>p g H λx H1=>∃ c,x=.bl c/\Q (.bl (!c)) H1
theorem DJ {op}{t:TE} (h:PE X a t):PE X (.BoolOp op [a] pos) t:=λf s g H Q I hw=>BoolOp_one (h f s g H Q I hw)
theorem zu (o:PE X a p) (B:PE X (.BoolOp .And (b::k) pos) y):PE X (.BoolOp .And (a::b::k) pos) (FF p y):=by
 intro f s g H Q I h;refine BoolOp_and (thn (o f s g H _ I h) λv q ⟨x,H1,I1,F,n⟩=>?_);obtain⟨c,rfl,n⟩:=n;cases F;refine qce ?_;cases c with
 |true=>exact B f q g H1 Q I1 n
 |false=>exact⟨.bl false,H1,I1,U,n⟩
theorem Cd (o:PE X a p) (B:PE X (.BoolOp .Or (b::k) pos) y):PE X (.BoolOp .Or (a::b::k) pos) (GM p y):=by
 intro f s g H Q I h;refine BoolOp_or (thn (o f s g H _ I h) λv q ⟨x,H1,I1,F,n⟩=>?_);obtain⟨c,rfl,n⟩:=n;cases F;refine qce ?_;cases c with
 |false=>exact B f q g H1 Q I1 n
 |true=>exact⟨.bl true,H1,I1,U,n⟩
theorem DI (o:PE X a p):PE X (.UnaryOp .Not a pos) (FM p):=by
 intro f s g H Q I h;refine UnaryOp_ (thn (o f s g H _ I h) λv q ⟨x,H1,I1,F,n⟩=>?_);obtain⟨c,rfl,n⟩:=n;cases F;exact not_of (qce ⟨.bl _,H1,I1,U,n⟩)
def tIf (t:TT) (p y:TE):TE:=λg H Q=>t g H λc H1=>if c=true then p g H1 Q else y g H1 Q
theorem mv {c:Expr} (J:PT X c w) (o:PE X a p) (B:PE X b y):PE X (.IfExp c a b pos) (tIf w p y):=by
 intro f s g H Q I h;refine wpAny_IfExp (thn (J f s g H _ I h) λd q ⟨H1,I1,n⟩=>?_);cases d with
 |true=>exact o f q g H1 Q I1 n
 |false=>exact B f q g H1 Q I1 n
end
def SqL (K:qad) (H:Hp) (a:Addr) (c:List V):Prop:=
 Rd H a (.lst c)\/
  ∃ (o:Obj) (b:Array Value) (n:Nat),K.lookup a=some o/\o.cls=.type "list"/\o.dict=none/\o.data=.seq b n/\b.size<=qaK/\bn c b.toList
def SqT (K:qad) (H:Hp) (a:Addr) (c:List V):Prop:=
 H a=some (.tup c)\/
  ∃ (o:Obj) (b:Array Value) (n:Nat),K.lookup a=some o/\o.cls=.type "tuple"/\o.data=.seq b n/\b.size<=qaK/\bn c b.toList/\o.dict=none
def ym:Value->Option V
 |.none=>some .non
 |.bool b=>some (.bl b)
 |.int i _=>some (.int i)
 |.str x _=>some (.str x)
 |.bytes b _=>some (.byt b)
 |.float b _=>some (.flt b)
 |.ref a=>some (.ref a)
 |.type n=>some (.ty n)
 |_=>none
theorem bI.abs {x:V}{u:Value} (r:bI x u):ym u=some x:=by
 cases x with
 |non=>cases r;rfl
 |bl _=>cases r;rfl
 |int _=>obtain⟨t,rfl⟩:=r;rfl
 |str _=>obtain⟨t,rfl⟩:=r;rfl
 |byt _=>obtain⟨t,rfl⟩:=r;rfl
 |flt _=>obtain⟨t,rfl⟩:=r;rfl
 |ref _=>cases r;rfl
 |ty _=>cases r;rfl
theorem bI.inj {x y:V}{u:Value} (r:bI x u) (q:bI y u):x=y:=qa1 (r.abs.symm.trans q.abs)
theorem bn.inj:∀ {c a:List V}{b:List Value},bn c b->bn a b->c=a
 |_,_,_,.nil,.nil=>rfl
 |_,_,_,.cons r t,.cons r' t'=>by rw[r.inj r',bn.inj t t']
section
variable {X:Cx}{f:List (Addr×Obj)}{q:St}{H:Hp}{s:qag}{a:Addr}{g t:List V}
theorem SqL.of {K:qad} (h:H a=some (.lst g)):SqL K H a g:=.inl (.inl h)
theorem SqT.of {K:qad} (h:H a=some (.tup g)):SqT K H a g:=.inl h
theorem Inv.list (I:Inv X f q H s) (h:SqL X.K H a g):∃ b:List Value,bn g b/\PlainL s.heap a b.toArray/\g.length<=qaK:=by
 rcases h with h|⟨o,b,n,l,m,hd,u,x,r⟩
 ·obtain⟨z,b,n,r,e⟩:=h.ok I.hok
  exact⟨b,r,⟨_,n,e,U,U,U⟩,z⟩
 ·refine⟨b.toList,r,⟨o,n,I.kIn a o l,m,hd,by simpa using u⟩,?_⟩
  have e:=r.length;simp only[qbS]at e;lia
theorem Inv.tuple (I:Inv X f q H s) (h:SqT X.K H a g):∃ b:List Value,bn g b/\IsTup s.heap a b.toArray/\g.length<=qaK:=by
 rcases h with h|⟨o,b,n,l,m,u,x,r,_⟩
 ·obtain⟨z,b,r,p⟩:=(Rd.of h).ok I.hok
  exact⟨b,r,p.tup,z⟩
 ·refine⟨b.toList,r,⟨o,I.kIn a o l,m,n,by simpa using u⟩,?_⟩
  have e:=r.length;simp only[qbS]at e;lia
theorem Inv.tuple1 (I:Inv X f q H s) (h:SqT X.K H a g):∃ o:Obj,s.heap.get? a=some o/\o.cls=.type "tuple"/\o.dict=none:=by
 rcases h with h|⟨o,b,n,l,m,u,x,r,hd⟩
 ·obtain⟨z,b,r,o,e,c,_,hd⟩:=(Rd.of h).ok I.hok
  exact⟨o,e,c,hd⟩
 ·exact⟨o,I.kIn a o l,m,hd⟩
theorem Inv.list_inj (I:Inv X f q H s) (h:SqL X.K H a g) (v:SqL X.K H a t):g=t:=by
 obtain⟨b,r,⟨o,n,e,_,_,d⟩,_⟩:=I.list h;obtain⟨j,r',⟨y,A,i,_,_,k⟩,_⟩:=I.list v;rw[e]at i;cases i;rw[d]at k;injection k with w _
 have:=by simpa using congrArg qgz w
 subst this;exact r.inj r'
theorem Inv.tuple_inj (I:Inv X f q H s) (h:SqT X.K H a g) (v:SqT X.K H a t):g=t:=by
 obtain⟨b,r,⟨o,e,_,n,d⟩,_⟩:=I.tuple h;obtain⟨j,r',⟨y,i,_,A,k⟩,_⟩:=I.tuple v;rw[e]at i;cases i;rw[d]at k;injection k with w _
 have:=by simpa using congrArg qgz w
 subst this;exact r.inj r'
end
abbrev Cx.wish (X:Cx) (E:Value->qag->Prop):Cx:={ X with xe:=E }
abbrev Cx.nox (X:Cx):Cx:=X.wish λ_ _=>False
theorem Cx.Ok.wish {X:Cx} (ok:X.Ok) (E:Value->qag->Prop):(X.wish E).Ok:=
 ⟨ok.mod,ok.kind,ok.glob,ok.blt,ok.above,ok.inj,ok.has,ok.cab,ok.hd,ok.frames,ok.stk,ok.exf,ok.bs,ok.bsz,ok.noex,ok.exfs,ok.funs,ok.frf⟩
theorem Cx.Ok.unwish {X:Cx}{E:Value->qag->Prop} (ok:(X.wish E).Ok):X.Ok:=
 ⟨ok.mod,ok.kind,ok.glob,ok.blt,ok.above,ok.inj,ok.has,ok.cab,ok.hd,ok.frames,ok.stk,ok.exf,ok.bs,ok.bsz,ok.noex,ok.exfs,ok.funs,ok.frf⟩
section
variable {X:Cx}{a:List (Addr×Obj)}{c:St}{H:Hp}{s:qag}{E:Value->qag->Prop}
theorem Inv.wish (I:Inv X a c H s) (E:Value->qag->Prop):Inv (X.wish E) a c H s:=⟨I.ok.wish E,I.os,I.bare,I.base,I.loc,I.cell,I.free,I.freeC,I.pin,I.hok,I.len⟩
theorem Inv.unwish (I:Inv (X.wish E) a c H s):Inv X a c H s:=⟨I.ok.unwish,I.os,I.bare,I.base,I.loc,I.cell,I.free,I.freeC,I.pin,I.hok,I.len⟩
theorem SP.unwish {D:tZ}{f:Flow}{s':qag} (h:SP (X.wish E) a D f s'):SP X a D f s':=by
 cases f with
 |next=>obtain⟨b,H',I,q⟩:=h;exact⟨b,H',I.unwish,q⟩
 |brk=>obtain⟨b,H',I,q⟩:=h;exact⟨b,H',I.unwish,q⟩
 |cont=>obtain⟨b,H',I,q⟩:=h;exact⟨b,H',I.unwish,q⟩
 |ret u=>obtain⟨v,b,H',I,r,q⟩:=h;exact⟨v,b,H',I.unwish,r,q⟩
theorem PE.nox {e:Expr}{t:TE} (h:PE X.nox e t):PE X e t:=λa s c H Q I hw=>
 qbc (h a s c H Q (I.wish _) hw) (λ_ _ ⟨v,H',I',r,q⟩=>⟨v,H',I'.unwish,r,q⟩) λ_ _ z=>qbp z
theorem PT.nox {e:Expr}{t:TT} (h:PT X.nox e t):PT X e t:=λa s c H Q I hw=>
 qbc (h a s c H Q (I.wish _) hw) (λ_ _ ⟨H',I',q⟩=>⟨H',I'.unwish,q⟩) λ_ _ z=>qbp z
theorem PSs.nox {st:List Stmt}{t:TS} (h:PSs X.nox st t):PSs X st t:=λa s c H D I hw=>
 qbc (h a s c H D (I.wish _) hw) (λ_ _ q=>q.unwish) λ_ _ z=>qbp z
end
section
variable {X:Cx}{st:Stmt}{j:List Stmt}{t u:TS}{e:Expr}{te:TE}{pos:Pos}
def FL:TS:=λD i H=>D.nx i H
def GO (t u:TS):TS:=λD i H=>t { D with nx:=u D } i H
theorem Bv:PSs X [] FL:=λ_ _ i H _ I h=>qdh ⟨i,H,I,h⟩
theorem jo (m:PS X st t) (A:PSs X j u):PSs X (st::j) (GO t u):=by
 intro g s i H D I h;refine qgT (thn (m g s i H { D with nx:=u D } I h) λf k q=>?_);cases f with
 |next=>
  obtain⟨p,H',I',q⟩:=q;exact A g k p H' D I' q
 |ret v=>exact q
 |brk=>exact q
 |cont=>exact q
theorem tq (m:PS X st t):PSs X [st] t:=by
 intro g s i H D I h;refine qgT (thn (m g s i H D I h) λf k q=>?_);cases f with
 |next=>exact qdh q
 |ret v=>exact q
 |brk=>exact q
 |cont=>exact q
theorem Inv.quiet {g:List (Addr×Obj)}{i:St}{H:Hp}{s:qag} (I:Inv X g i H s):interactive X.env=false:=by simp[interactive,I.ok.kind]
def FJ (te:TE):TS:=λD i H=>te i H λ_ H1=>D.nx i H1
theorem Bu (n:PE X e te) (C:qd3 e none pos.line X.env=pure false:=by rfl):PS X (.Expr e pos) (FJ te):=by
 intro g s i H D I h;exact wpAny_Expr_any (thn (n g s i H _ I h) λv k ⟨x,H1,I1,r,l⟩=>⟨i,H1,I1,l⟩) I.quiet C
def GN (te:TE):TS:=λD i H=>te i H D.rt
theorem vO (n:PE X e te):PS X (.Return (some e) pos) (GN te):=by
 intro g s i H D I h;exact wpAny_Return_some (thn (n g s i H _ I h) λv k ⟨x,H1,I1,r,l⟩=>⟨x,i,H1,I1,r,l⟩)
def GH (c:TT) (t u:TS):TS:=λD i H=>c i H λb H1=>if b=true then t D i H1 else u D i H1
theorem w6 {c:Expr}{a b:List Stmt}{w:TT} (B:PT X c w) (y:PSs X a t) (z:PSs X b u):PS X (.If c a b pos) (GH w t u):=by
 intro g s i H D I h;refine wpAny_If (thn (B g s i H _ I h) λd k ⟨H1,I1,l⟩=>?_);cases d with
 |true=>exact y g k i H1 D I1 l
 |false=>exact z g k i H1 D I1 l
def Ec:TS:=λ_ _ _=>False
theorem fM {o:List Stmt}:PSs X o Ec:=λ_ _ _ _ _ _ h=>h.elim
end
abbrev TG:=V->St->Hp->(St->Hp->Prop)->Prop
abbrev TGs:=List V->St->Hp->(St->Hp->Prop)->Prop
def PG (X:Cx) (a:Expr) (t:TG):Prop:=
 ∀ (b:List (Addr×Obj)) (s:qag) (d:St) (H:Hp) (v:V) (u:Value) (Q:St->Hp->Prop),Inv X b d H s->bI v u->t v d H Q->
  wpAny (model X.prog X.w) X.A (qew a X.env u) (λ_ s'=>∃ c H',Inv X b c H' s'/\Q c H') X.xe s
def PGs (X:Cx) (e:List Expr) (t:TGs):Prop:=
 ∀ (a:List (Addr×Obj)) (s:qag) (d:St) (H:Hp) (vs:List V) (c:List Value) (Q:St->Hp->Prop),Inv X a d H s->bn vs c->t vs d H Q->
  wpAny (model X.prog X.w) X.A (assignInOrder ((qbG e X.env).map (·.2)) c) (λ_ s'=>∃ b H',Inv X a b H' s'/\Q b H') X.xe s
abbrev Cw:=V->V->V->Hp->(Hp->Prop)->Prop
def Ep (X:Cx) (t:Cw):Prop:=
 ∀ (a:List (Addr×Obj)) (s:qag) (b:St) (H:Hp) (o i v:V) (c iv u:Value) (Q:Hp->Prop),Inv X a b H s->bI o c->bI i iv->bI v u->t o i v H Q->
  wpAny (model X.prog X.w) X.A (setItem c iv u) (λ_ s'=>∃ H',Inv X a b H' s'/\Q H') X.xe s
section
variable {X:Cx}{pos:Pos}
def um (i:Nat):TG:=λv d H Q=>Q (d.set i (some v)) H
theorem bp {i:Nat}{x:Str} (G:X.N.Nodup) (hi:X.N[i]?=some x) (A:Loc X.env.scope x) (L:X.fn x=true\/X.env.scope.names.lookup x=some .local:=by first|exact .inl U|exact .inr U|assumption):PG X (.Name x pos) (um i):=by
 intro c s d H v u Q I r h;exact qgC (qf I G hi A r (λs' I'=>⟨_,H,I',h⟩) L)
def Gi:TGs:=λvs d H Q=>vs=[]/\Q d H
def ED (t:TG) (u:TGs):TGs:=λvs d H Q=>∃ v r,vs=v::r/\t v d H λP H'=>u r P H' Q
theorem Bq:PGs X [] Gi:=by
 intro c s d H vs us Q I r h;obtain⟨e,h⟩:=h;exact assignInOrder_nil ⟨d,H,I,h⟩
theorem zz {e:Expr}{f:List Expr}{t:TG}{u:TGs} (N:PG X e t) (W:PGs X f u)
  (l:(qbG (e::f) X.env).map (·.2)=qew e X.env::(qbG f X.env).map (·.2):=by rfl):PGs X (e::f) (ED t u):=by
 intro c s d H vs us Q I r h;obtain⟨v,vr,R,h⟩:=h;subst R;cases r with
 |cons r T=>
  rw[l];refine assignInOrder_cons (thn (N c s d H _ _ _ I r h) λ_ z ⟨M,H1,I1,m⟩=>?_);exact W c z M H1 _ _ Q I1 T m
def Gk (K:qad) (n:Nat) (t:TGs):TG:=λv d H Q=>∃ a C,v=.ref a/\SqT K H a C/\C.length=n/\t C d H Q
theorem DP {f:List Expr}{k:Nat}{t:TGs}{n:Nat} (hc:X.calm=true) (h:PGs X f t)
  (hn:(qbG f X.env).length=n:=by rfl) (J:(qbG f X.env).findIdx? (·.1)=none:=by rfl):PG X (.Tuple f k pos) (Gk X.K n t):=by
 intro c s d H v u Q I r hw;obtain⟨a,C,R,Y,hl,hw⟩:=hw;subst R;cases r;obtain⟨its,S,V,hz⟩:=I.tuple Y;refine assign_Tuple_tuple (I.ok.hd hc) V (by simp[hn,<-hl,S.length]) J λh' A=>?_;exact h c _ d H C _ Q (I.kept λb o e=>A b o (qaO (qaB e)) e) (by simpa using S) hw
def Gj (E F:TE) (t:Cw):TG:=λv d H Q=>E d H λo H1=>F d H1 λi H2=>t o i v H2 λH3=>Q d H3
theorem DO {o i:Expr}{E F:TE}{t:Cw} (ho:PE X o E) (hi:PE X i F) (l:Ep X t)
  (ha:∀ v,qew (.Subscript o i pos) X.env v=(do
    let w <-qeG [v] (eval o X.env)
    let iv <-qeG [v,w] (eval i X.env)
    qhJ pos
    qeG [v,w,iv] (setItem w iv v)
    release [v,w,iv] []):=by intro _;rfl):PG X (.Subscript o i pos) (Gj E F t):=by
 intro c s d H v u Q I r h;rw[ha];refine qam (qc7 (thn (ho c s d H _ I h) λw z ⟨x,H1,I1,B,m⟩=>?_));refine qam (qc7 (thn (hi c z d H1 _ I1 m) λiv s2 ⟨y,H2,I2,r2,q2⟩=>?_));refine qam (qdJ (qam (qc7 (thn (l c s2 d H2 x y v w iv u _ I2 B r2 r q2) λ_ s3 ⟨H3,I3,q3⟩=>?_))));exact wpAny_release ⟨d,H3,I3,q3⟩
def Ea (te:TE) (g:TG):TS:=λD d H=>te d H λx H1=>g x d H1 D.nx
theorem DT {p e:Expr}{te:TE}{g:TG} (O:PE X e te) (hg:PG X p g) (l:swapsWithSole [p] e pos.line X.env=pure false:=by rfl) (hw:swappedStores [p] e X.env=pure none:=by rfl)
  (N:(qbG [p] X.env).map (·.2)=[qew p X.env]:=by rfl):PS X (.Assign [p] e pos) (Ea te g):=by
 intro c s d H D I h;refine wpAny_Assign_stores (thn (O c s d H _ I h) λv z ⟨x,H1,I1,B,m⟩=>?_) l hw;rw[N];exact thn (hg c z d H1 x v _ I1 B m) λ_ s2 q=>q
theorem zF {i:Nat}{x:Str}{e:Expr}{te:TE}{j:Pos} (G:X.N.Nodup) (hi:X.N[i]?=some x) (A:Loc X.env.scope x) (O:PE X e te) (l:qd3 e (some (.Name x j)) pos.line X.env=pure false:=by rfl) (L:X.fn x=true\/X.env.scope.names.lookup x=some .local:=by first|exact .inl U|exact .inr U|assumption) :
  PS X (.Assign [.Name x j] e pos) (Ea te (um i)):=by
 intro c s d H D I h;refine wpAny_Assign_Name (thn (O c s d H _ I h) λv z ⟨y,H1,I1,B,m⟩=>?_) l;exact qf I1 G hi A B (λs2 I2=>⟨_,H1,I2,m⟩) L
end
section
variable {X:Cx}{pos:Pos}
def Ee (c:TT) (l:TS):TS:=λD i H=>∃ W:Nat->St->Hp->Prop,(∃ m,W m i H)/\∀ m i H,W m i H->
 c i H λb H1=>if b=true then ∃ N:St->Hp->Prop,(∀ e H',N e H'->∃ j,j<m/\W j e H')/\l { D with nx:=N,ct:=N,bk:=D.nx } i H1 else D.nx i H1
theorem uP {c:Expr}{body:List Stmt}{u:TT}{l:TS} (t:qe9 (model X.prog X.w) X.A X.env X.xe) (x:PT X c u) (A:PSs X body l):PS X (.While c body [] pos) (Ee u l):=by
 intro a s i H D I h;obtain⟨W,⟨m0,w⟩,turn⟩:=h;refine wpAny_While (codeAny_whileLoop (λn s'=>∃ e H',Inv X a e H' s'/\W n e H') ?_ m0 ⟨i,H,I,w⟩)
 rintro n z ⟨g,H1,I1,y⟩
 refine qcs t (thn (x a z g H1 _ I1 (turn n g H1 y)) λb s2 ⟨H2,I2,o⟩=>?_);cases b with
 |true=>
  obtain⟨N,r,o⟩:=o;refine qcs t (thn (A a s2 g H2 _ I2 o) λf B k=>?_);cases f with
  |next=>
   obtain⟨d,H3,I3,q⟩:=k;obtain⟨j,hm,p⟩:=r d H3 q;exact⟨j,hm,d,H3,I3,p⟩
  |cont=>
   obtain⟨d,H3,I3,q⟩:=k;obtain⟨j,hm,p⟩:=r d H3 q;exact⟨j,hm,d,H3,I3,p⟩
  |brk=>exact k
  |ret v=>exact k
 |false=>
  exact qdh ⟨g,H2,I2,o⟩
end
structure It where
 go:Nat->Hp->Prop
 yld:Nat->Hp->V->Hp->Prop
 stop:Nat->Hp->Prop
def j7 (X:Cx) (a:List (Addr×Obj)) (H:Hp) (b:Addr):Prop:=
 H b=none/\b≠X.env.locals/\b∉X.fs/\(b∈X.ex\/X.s₀.heap.objs.size<=b)/\(∀ x c,X.env.cells.lookup x=some c->c≠b)/\∀ p∈X.pn++a,p.1≠b
theorem Inv.fpOk {X:Cx}{a:List (Addr×Obj)}{g:St}{H H':Hp}{s:qag}{b:Addr} (I:Inv X a g H s) (d:s.heap.objs.size<=b) (hn:H' b=none):j7 X a H' b:=by
 refine⟨hn,qcd (qaD I.lt d),I.nofs d,.inr (qaU I.sz d),λx c e z=>?_,λp f z=>?_⟩
 ·obtain⟨v,q⟩:=I.cell x c e
  exact absurd (qaD q.lt (by rw[z];exact d)) (qbD _)
 ·exact absurd (qaD (qaB (I.pin p f).1) (by rw[z];exact d)) (qbD _)
structure vc (P:qaH) (w:World) (K:qad) (tg:Expr) (J:It) (fp:List Addr) (it:Addr) (tn:Nat->Heap->Prop):Prop where
 mem:it∈fp
 obj:∀ i h,tn i h->∀ b∈fp,∃ o,h.get? b=some o/\∀ v,o.data≠.cell v
 keep:∀ i h h',tn i h->(∀ b∈fp,∀ o,h.get? b=some o->h'.get? b=some o)->tn i h'
 item:∀ (X:Cx),X.prog=P->X.w=w->X.K=K->X.calm=true->∀ (i:Nat) (pins:List (Addr×Obj)) (s:qag) (σ:St) (H:Hp) (E:Value->qag->Prop),Inv X pins σ H s->(∀ b∈fp,j7 X pins H b)->tn i s.heap->J.go i H->
  wpAny (model P w) X.A (pyNext (.ref it)) (λr s1=>∃ u,r=some u/\
   wpAny (model P w) X.A (qd4 tg (.ref it) u) (λ_ s2=>∃ x H',Inv X pins σ H' s2/\bI x u/\J.yld i H x H'/\tn (i+1) s2.heap/\∀ b∈fp,H' b=none) E s1) E s
 done:∀ (X:Cx),X.prog=P->X.w=w->X.K=K->X.calm=true->∀ (i:Nat) (pins:List (Addr×Obj)) (s:qag) (σ:St) (H:Hp) (E:Value->qag->Prop),Inv X pins σ H s->(∀ b∈fp,j7 X pins H b)->tn i s.heap->J.stop i H->
  wpAny (model P w) X.A (pyNext (.ref it)) (λr s1=>r=none/\Inv X pins σ H s1) E s
 self:∀ (A:qaS) (i:Nat) (s:qag) (Q:Value->qag->Prop) (E:Value->qag->Prop),tn i s.heap->Q (.ref it) s->wpAny (model P w) A (pyIter (.ref it)) Q E s
abbrev TI:=St->Hp->(It->Hp->Prop)->Prop
def PIE (X:Cx) (a:List (Addr×Obj)) (h:St) (g:Expr) (R:It->Hp->Prop) (c:Value) (s2:qag):Prop:=
 ∃ (e:Addr) (f:List Addr) (d:Nat->Heap->Prop) (J:It) (H':Hp),c=.ref e/\Inv X a h H' s2/\vc X.prog X.w X.K g J f e d/\d 0 s2.heap/\(∀ b∈f,j7 X a H' b)/\R J H'
def PI (X:Cx) (c iter:Expr) (wi:TI):Prop:=
 ∀ (a:List (Addr×Obj)) (s:qag) (b:St) (H:Hp) (R:It->Hp->Prop),Inv X a b H s->wi b H R->
  wpAny (model X.prog X.w) X.A (eval iter X.env) (λv d=>wpAny (model X.prog X.w) X.A (pyIter v) (PIE X a b c R) X.xe d) X.xe s
theorem wA {M:Model}{A:qaS}{E:Value->qag->Prop}{s:qag}{c:Expr}{b:Addr}{u:Value}{o:Obj}{n:String}{vs:Array Value}{Q:Unit->qag->Prop} (e:s.heap.get? b=some o) (d:o.cls=.type n) (hd:o.data=.fields vs)
  (hn:["enumerate","zip","dict_itemiterator","dict_reverseitemiterator","odict_iterator","itertools.zip_longest","itertools.pairwise"].contains n=false) (a:Q () s):wpAny M A (qd4 c (.ref b) u) Q E s:=by
 cases c<;>first
  |exact qa4 a
  | (cases u<;>first
      |exact qa4 a
      | (refine qam (wpAny_load e ?_)
         rw[d,hd];show wpAny M A (if _=true then _ else _) Q E s;rw[iFN (by intro h;rw[hn]at h;cases h)]
         exact qa4 a))
def Itl (K:qad) (a:Addr):It:=
 ⟨λi H=>∃ b x,SqL K H a b/\b[i]?=some x,λi H x H'=>H'=H/\∀ b,SqL K H a b->b[i]?=some x,λi H=>∃ b,SqL K H a b/\b.length<=i⟩
def Itt (K:qad) (a:Addr):It:=
 ⟨λi H=>∃ b x,SqT K H a b/\b[i]?=some x,λi H x H'=>H'=H/\∀ b,SqT K H a b->b[i]?=some x,λi H=>∃ b,SqT K H a b/\b.length<=i⟩
def Itr (lo:Int) (n:Nat):It:=⟨λi _=>i<n,λi H x H'=>H'=H/\x=.int (lo+i),λi _=>n<=i⟩
theorem ye {P:qaH}{w:World}{K:qad}{F:Expr} (a g:Addr):vc P w K F (Itl K a) [g] g (λi h=>h.IsListIter g a i) where
 mem:=by simp
 obj:=λi h st b f=>by
  have e:=by simpa using f
  subst e;obtain⟨o,e,c,d⟩:=st;exact⟨o,e,λv z=>by rw[d]at z;cases z⟩
 keep:=λi h D st k=>st.at λo e=>k g (by simp) o e
 item:=by
  intro X B hw y C i j s M H E I n st r;subst B hw y;obtain⟨L,x,m,q⟩:=r;obtain⟨t,A,p,J⟩:=I.list m;obtain⟨u,O,R⟩:=A.get q;obtain⟨f0,f1,f2,f3,f4,f5⟩:=n g (by simp);refine wpAny_pyNext_list_item st p.isList (by simpa using O) λD l N=>?_;obtain⟨o,e,c,d⟩:=id l;exact⟨u,U,wA e c d (by decide) ⟨x,H,(I.turned (λb o f e=>(N.2 b f).trans e) f0 f1 f3 f4 f5),R,⟨U,λS Q=>by rw[I.list_inj Q m];exact q⟩,l,λb f=>(n b f).1⟩⟩
 done:=by
  intro X B hw y C i j s M H E I n st r;subst B hw y;obtain⟨L,m,q⟩:=r;obtain⟨t,A,p,J⟩:=I.list m;obtain⟨f0,f1,f2,f3,f4,f5⟩:=n g (by simp);have T:=A.length;exact wpAny_pyNext_list_end (I.ok.hd C) st p.isList (by simp;lia) λD G=>⟨U,I.turned (λb o f e=>G b o f e) f0 f1 f3 f4 f5⟩
 self:=λ_ _ _ _ _ st h=>wpAny_pyIter_listiter st h
theorem v7 {P:qaH}{w:World}{K:qad}{F:Expr} (a g:Addr):vc P w K F (Itt K a) [g] g (λi h=>h.IsTupleIter g a i) where
 mem:=by simp
 obj:=λi h st b f=>by
  have e:=by simpa using f
  subst e;obtain⟨o,e,c,d⟩:=st;exact⟨o,e,λv z=>by rw[d]at z;cases z⟩
 keep:=λi h D st k=>st.at λo e=>k g (by simp) o e
 item:=by
  intro X B hw y C i j s M H E I n st r;subst B hw y;obtain⟨L,x,m,q⟩:=r;obtain⟨t,A,p,J⟩:=I.tuple m;obtain⟨u,O,R⟩:=A.get q;obtain⟨f0,f1,f2,f3,f4,f5⟩:=n g (by simp);refine wpAny_pyNext_tuple_item st (p) (by simpa using O) λD l N=>?_;obtain⟨o,e,c,d⟩:=id l;exact⟨u,U,wA e c d (by decide) ⟨x,H,(I.turned (λb o f e=>(N.2 b f).trans e) f0 f1 f3 f4 f5),R,⟨U,λS Q=>by rw[I.tuple_inj Q m];exact q⟩,l,λb f=>(n b f).1⟩⟩
 done:=by
  intro X B hw y C i j s M H E I n st r;subst B hw y;obtain⟨L,m,q⟩:=r;obtain⟨t,A,p,J⟩:=I.tuple m;obtain⟨f0,f1,f2,f3,f4,f5⟩:=n g (by simp);have T:=A.length;exact wpAny_pyNext_tuple_end (I.ok.hd C) st (p) (by simp;lia) λD G=>⟨U,I.turned (λb o f e=>G b o f e) f0 f1 f3 f4 f5⟩
 self:=λ_ _ _ _ _ st h=>wpAny_pyIter_tupleiter st h
theorem v0 {P:qaH}{w:World}{K:qad}{r:Expr} (a:Addr) (lo:Int) (n:Nat):vc P w K r (Itr lo n) [a] a (λi h=>IsRangeIter h a (lo+(i:Nat)*1) ((n:Int) - (i:Nat)) 1) where
 mem:=by simp
 obj:=λi h st b c=>by
  have e:=by simpa using c
  subst e
  exact⟨_,st,λv z=>by
   cases z⟩
 keep:=λi h m st k=>k a (by simp) _ st
 item:=by
  intro X y hw p j i f s A H E I g st l;obtain⟨f0,f1,f2,f3,f4,f5⟩:=g a (by simp);refine (Walks.range (I.ok.hd j) a lo 1 n).item i s _ _ l st λv m B u d q=>?_;obtain⟨t,rfl⟩:=u;refine⟨_,U,wA d U U (by decide) ⟨.int _,H,(I.turned (λb o c e=>q b o (by simpa using c) e) f0 f1 f3 f4 f5),⟨t,?_⟩,⟨U,U⟩,d,λb c=>(g b c).1⟩⟩;rw[Int.mul_one]
 done:=by
  intro X y hw p j i f s A H E I g st l;obtain⟨f0,f1,f2,f3,f4,f5⟩:=g a (by simp);exact wpAny_pyNext_range_end (I.ok.hd j) st (by have:n<=i:=l;lia) λm x=>⟨U,I.turned (λb o c e=>x b o c e) f0 f1 f3 f4 f5⟩
 self:=λ_ _ _ _ _ st h=>wpAny_pyIter_rangeiter st h
section
variable {X:Cx}{M:Expr}
def EH (K:qad) (tl:TE):TI:=λk H R=>tl k H λx H1=>∃ a,x=.ref a/\(∃ V,SqL K H1 a V)/\R (Itl K a) H1
def Gm (K:qad) (tl:TE):TI:=λk H R=>tl k H λx H1=>∃ a,x=.ref a/\(∃ V,SqT K H1 a V)/\R (Itt K a) H1
theorem wX {l:Expr}{tl:TE} (hl:PE X l tl):PI X M l (EH X.K tl):=by
 intro c s k H R I h;refine thn (hl c s k H _ I h) λv s1 ⟨x,H1,I1,S,P⟩=>?_;obtain⟨a,e,⟨V,hq⟩,q⟩:=P;subst e;cases S;obtain⟨its,rv,p,hz⟩:=I1.list hq;refine qgB p.isList ?_;refine⟨s1.heap.objs.size,_,_,_,H1,U,I1.kept λb o e=>qaj _ e,ye a _,⟨_,qaV _ U,U,U⟩,λb w=>?_,q⟩;have e:=by simpa using w
 subst e;exact I1.fpOk (qaw _) (I1.hok.fresh (qaw _))
theorem DR {l:Expr}{tl:TE} (hl:PE X l tl):PI X M l (Gm X.K tl):=by
 intro c s k H R I h;refine thn (hl c s k H _ I h) λv s1 ⟨x,H1,I1,S,P⟩=>?_;obtain⟨a,e,⟨V,hq⟩,q⟩:=P;subst e;cases S;obtain⟨its,rv,p,hz⟩:=I1.tuple hq;refine qdr (p) ?_;refine⟨s1.heap.objs.size,_,_,_,H1,U,I1.kept λb o e=>qaj _ e,v7 a _,⟨_,qaV _ U,U,U⟩,λb w=>?_,q⟩;have e:=by simpa using w
 subst e;exact I1.fpOk (qaw _) (I1.hok.fresh (qaw _))
theorem zL {c:List (Addr×Obj)}{k:St}{H:Hp}{s:qag}{R:It->Hp->Prop}{E:Value->qag->Prop}{lo hi:Int}{t u v:Tok}{tk:Nat} (I:Inv X c k H s) (h1:-(2^62)<=lo) (h2:lo<2^62) (h3:-(2^62)<=hi) (h4:hi<2^62)
  (q:R (Itr lo (hi - lo).toNat) H):wpAny (model X.prog X.w) X.A (pyIter (.ref s.heap.objs.size)) (PIE X c k M R) E { s with heap:=s.heap.push { cls:=.type "range",data:=.fields #[.int lo t,.int hi u,.int 1 v] },toks:=tk }:=by
 refine wpAny_pyIter_range (IsRange.new ..) (small_one h1 h2 h3 h4) ?_;have I1:Inv X c k H { s with heap:=s.heap.push { cls:=.type "range",data:=.fields #[.int lo t,.int hi u,.int 1 v] },toks:=tk }:=I.kept λb o e=>qaj _ e
 refine⟨_,_,_,_,H,U,
  I1.kept λb o e=>qaj _ e,v0 _ lo (hi - lo).toNat,?_,λb w=>?_,q⟩
 ·have e1:lo+((0:Nat))*1=lo:=by simp
  have e2:(((hi - lo).toNat)) - ((0:Nat))=qgS lo hi 1:=by rw[rangeSize_one];split<;>lia
  rw[e1,e2];exact qaV _ U
 ·have e:b=(s.heap.push { cls:=.type "range",data:=.fields #[.int lo t,.int hi u,.int 1 v] }).objs.size:=by simpa using w
  subst e;exact I1.fpOk (qaw _) (I1.hok.fresh (qaw _))
def EI (ta:TA):TI:=λk H R=>ta k H λvs H1=>∃ j:Int,vs=[.int j]/\-(2^62)<=j/\j<2^62/\R (Itr 0 j.toNat) H1
theorem xV {a:Expr}{ta:TA}{p pos:Pos} (hg:Gl X "range") (hm:X.mg "range" = none) (ha:PA X [a] ta) (hs:qbE [a] X.env=[(false,eval a X.env)]:=by rfl):PI X M (.Call (.Name "range" p) [a] [] pos) (EI ta):=by
 intro c s k H R I h;refine Call_ (mS I hg hm boot_range (qcb (thn (ha pos c s k H _ I h) λus s1 ⟨vs,H1,I1,S,P⟩=>?_) hs U));obtain⟨j,e,P,q2,q⟩:=P;subst e;cases S with
 |cons r rr=>
  cases rr;obtain⟨t,rfl⟩:=r;exact call_range_1 (zL I1 (by lia) (by lia) P q2 (by simpa using q))
def GF (wi:TI) (g:TG) (tb:TS):TS:=λD k H=>wi k H λJ H1=>∃ W:Nat->Nat->St->Hp->Prop,(∃ m,W 0 m k H1)/\∀ i m k H,W i m k H->
 (J.stop i H/\D.nx k H)\/(J.go i H/\∃ N:St->Hp->Prop,(∀ A H',N A H'->∃ m',m'<m/\W (i+1) m' A H')/\∀ x H',J.yld i H x H'->g x k H' λσ2 H2=>tb { D with nx:=N,ct:=N,bk:=D.nx } σ2 H2)
def lJ (B:List Addr) (h:Heap):List (Addr×Obj):=B.filterMap λb=>(h.get? b).map λo=>(b,o)
theorem dR {B:List Addr}{h:Heap}{b:Addr}{o:Obj} (w:b∈B) (e:h.get? b=some o):(b,o)∈lJ B h:=qfG.mpr ⟨b,w,by rw[e];rfl⟩
theorem xT {B:List Addr}{h:Heap}{p:Addr×Obj} (F:p∈lJ B h):p.1∈B/\h.get? p.1=some p.2:=by
 obtain⟨b,w,e⟩:=qfG.mp F;cases q:h.get? b with
 |none=>rw[q]at e;cases e
 |some o=>
  rw[q]at e;have e':=qa1 e;subst e';exact⟨w,q⟩
theorem Inv.pinned {c:List (Addr×Obj)}{k:St}{H:Hp}{s:qag}{B:List Addr} (I:Inv X c k H s) (hf:∀ b∈B,j7 X c H b) (ho:∀ b∈B,∃ o,s.heap.get? b=some o/\∀ v,o.data≠.cell v):Inv X (c++lJ B s.heap) k H s:=
 I.pins_of λp F=>(qba.mp F).elim (λz=>I.pin p (qap _ z)) λz=>by
  obtain⟨w,e⟩:=xT z;obtain⟨f0,f1,f2,_⟩:=hf p.1 w;obtain⟨o,e',d⟩:=ho p.1 w;rw[e]at e';cases e';exact⟨e,f0,f1,f2,d⟩
theorem Inv.unpinned {c pl:List (Addr×Obj)}{k:St}{H:Hp}{s:qag} (I:Inv X (c++pl) k H s):Inv X c k H s:=I.pins_of λp F=>I.pin p (qap _ (qaW _ F))
theorem DU {iter:Expr}{body:List Stmt}{wi:TI}{g:TG}{tb:TS}{pos:Pos} (F:qe9 (model X.prog X.w) X.A X.env X.xe) (hc:X.calm=true) (hi:PI X M iter wi) (hg:PG X M g) (w:PSs X body tb)
  (hs:∀ x,qbO iter X.env x=pure x:=by intro _;rfl):PS X (.For M iter body [] pos) (GF wi g tb):=by
 intro c s k H D I h;refine wpAny_For (thn (hi c s k H _ I h) λv s1 h1=>thn h1 λitv s2 h2=>?_) hs;obtain⟨it,B,tn,J,H2,e,I2,T,st2,f2,W,⟨m0,w0⟩,turn⟩:=h2;subst e
 -- what stays true of the iterator's objects through the loop
 have G:∀ {H':Hp},(∀ b∈B,H' b=none)->∀ b∈B,j7 X c H' b:=λhn b w=>⟨hn b w,(f2 b w).2⟩;refine codeAny_forLoop_any (λn s'=>∃ i A H',Inv X c A H' s'/\tn i s'.heap/\(∀ b∈B,H' b=none)/\W i n A H') ?_ m0 ⟨0,k,H2,I2,st2,λb w=>(f2 b w).1,w0⟩
 rintro n s3 ⟨i,C,H3,I3,st3,Q,w3⟩
 rcases turn i n C H3 w3 with⟨stop,qn⟩|⟨go,N,hN,step⟩
 ·refine qcs F (thn (T.done X U U U hc i c s3 C H3 X.xe I3 (G Q) st3 stop) λr s4 ⟨hr,I4⟩=>?_)
  subst hr;exact qdh ⟨C,H3,I4,qn⟩
 ·refine qcs F (thn (T.item X U U U hc i c s3 C H3 X.xe I3 (G Q) st3 go) λr s4 ⟨u,hr,h4⟩=>?_)
  subst hr;refine qcs F (thn h4 λ_ s5 ⟨x,H5,I5,r5,y5,O,fr5⟩=>?_);refine qcs F (thn (hg _ s5 C H5 x u _ (I5.pinned (G fr5) (T.obj _ _ O)) r5 (step x H5 y5)) λ_ s6 ⟨σ6,H6,I6,q6⟩=>?_);refine qcs F (thn (w _ s6 σ6 H6 _ I6 q6) λf s7 L=>?_);have again:∀ {y:St}{H7:Hp},Inv X _ y H7 s7->N y H7->∃ m,m<n/\∃ i A H',Inv X c A H' s7/\tn i s7.heap/\(∀ b∈B,H' b=none)/\W i m A H':=λ{y H7} I7 Y=>by
   obtain⟨m',hm,w7⟩:=hN y H7 Y;refine⟨m',hm,_,y,H7,I7.unpinned,T.keep _ _ _ O λb w o e=>(I7.pin (b,o) (qap _ (qap _ (dR w e)))).1,λb w=>?_,w7⟩;obtain⟨o,e,d⟩:=T.obj _ _ O b w;exact (I7.pin (b,o) (qap _ (qap _ (dR w e)))).2.1
  cases f with
  |next=>obtain⟨y,H7,I7,Y⟩:=L;exact again I7 Y
  |cont=>obtain⟨y,H7,I7,Y⟩:=L;exact again I7 Y
  |brk=>obtain⟨y,H7,I7,L⟩:=L;exact⟨y,H7,I7.unpinned,L⟩
  |ret v=>obtain⟨x7,y,H7,I7,r7,L⟩:=L;exact⟨x7,y,H7,I7.unpinned,r7,L⟩
end
abbrev R2:=V->V->Hp->VK->Prop
def OpR (X:Cx) (f:Value->Value->Sem Value) (r:R2):Prop:=
 ∀ (a:List (Addr×Obj)) (s:qag) (b:St) (H:Hp) (x y:V) (v u:Value) (Q:VK),Inv X a b H s->bI x v->bI y u->r x y H Q->
  wpAny (model X.prog X.w) X.A (f v u) (EP X a b Q) X.xe s
def UnR (X:Cx) (f:Value->Sem Value) (r:V->Hp->VK->Prop):Prop:=
 ∀ (a:List (Addr×Obj)) (s:qag) (b:St) (H:Hp) (x:V) (v:Value) (Q:VK),Inv X a b H s->bI x v->r x H Q->
  wpAny (model X.prog X.w) X.A (f v) (EP X a b Q) X.xe s
def gK (X:Cx) (f:Value) (r:List V->Hp->VK->Prop):Prop:=
 ∀ (a:List (Addr×Obj)) (s:qag) (d:St) (H:Hp) (c:List V) (b:List Value) (Q:VK),Inv X a d H s->bn c b->r c H Q->
  wpAny (model X.prog X.w) X.A (call f b) (EP X a d Q) X.xe s
def Ge (X:Cx) (r:V->Hp->(Bool->Hp->Prop)->Prop):Prop:=
 ∀ (a:List (Addr×Obj)) (s:qag) (b:St) (H:Hp) (x:V) (v:Value) (Q:Bool->Hp->Prop),Inv X a b H s->bI x v->r x H Q->
  wpAny (model X.prog X.w) X.A (truthy v) (TP X a b Q) X.xe s
def tOp (r:R2) (c b:TE):TE:=λa H Q=>c a H λx H1=>b a H1 λy H2=>r x y H2 Q
def tUn (r:V->Hp->VK->Prop) (b:TE):TE:=λa H Q=>b a H λx H1=>r x H1 Q
def rI (C:Int->Int->Prop) (g:Int->Int->V):R2:=λx y H Q=>∃ i j,x=.int i/\y=.int j/\C i j/\Q (g i j) H
def rI0 (g:Int->Int->V):R2:=λx y H Q=>∃ i j,x=.int i/\y=.int j/\Q (g i j) H
def rU (g:Int->V):V->Hp->VK->Prop:=λx H Q=>∃ i,x=.int i/\Q (g i) H
section
variable {X:Cx}{a b c:Expr}{n A O:TE}{pos:Pos}
theorem CB (w:PE X a n) (J:PE X b A) {d:List (Addr×Obj)}{s:qag}{e:St}{H:Hp}{R:V->V->Hp->Prop} (I:Inv X d e H s)
  (h:n e H λx H1=>A e H1 λy H2=>R x y H2) {Q:Value->qag->Prop}{f:Value->Value->Sem Value}
  (M:∀ v u s2 x y H2,Inv X d e H2 s2->bI x v->bI y u->R x y H2->wpAny (model X.prog X.w) X.A (f v u) Q X.xe s2) :
  wpAny (model X.prog X.w) X.A (eval a X.env) (λv o=>wpAny (model X.prog X.w) X.A (eval b X.env) (λu p=>wpAny (model X.prog X.w) X.A (f v u) Q X.xe p) X.xe o) X.xe s:=by
 refine thn (w d s e H _ I h) λv G ⟨x,H1,I1,D,K⟩=>?_;refine thn (J d G e H1 _ I1 K) λu s2 ⟨y,H2,I2,L,N⟩=>?_;exact M v u s2 x y H2 I2 D L N
theorem Cc {op:Operator}{r:R2} (F:OpR X (qbF op) r) (w:PE X a n) (J:PE X b A):PE X (.BinOp a op b pos) (tOp r n A):=by
 intro d s e H Q I h;exact wpAny_BinOp (CB w J I h λv u s2 x y H2 I2 l m q=>F d s2 e H2 x y v u Q I2 l m q)
theorem Fg {op:UnaryOp}{r:V->Hp->VK->Prop} (F:UnR X (unaryOp op) r) (w:PE X a n):PE X (.UnaryOp op a pos) (tUn r n):=by
 intro d s e H Q I h;exact UnaryOp_ (thn (w d s e H _ I h) λv G ⟨x,H1,I1,D,K⟩=>F d G e H1 x v Q I1 D K)
theorem opI {f:Value->Value->Sem Value}{C:Int->Int->Prop}{g:Int->Int->Int}
  (rule:∀ (i j:Int) (t u:Tok) (s:qag) (Q:Value->qag->Prop) (E:Value->qag->Prop),C i j->Q (.int (g i j) s.toks) { s with toks:=s.toks+1 }->wpAny (model X.prog X.w) X.A (f (.int i t) (.int j u)) Q E s) :
  OpR X f (rI C λi j=>.int (g i j)):=by
 intro d s e H x y v u Q I l m h;obtain⟨i,j,rfl,rfl,k,q⟩:=h;obtain⟨t,rfl⟩:=l;obtain⟨t',rfl⟩:=m;exact rule i j t t' s _ _ k ⟨.int _,H,I.tok _,⟨_,U⟩,q⟩
theorem E7 {f:Value->Value->Sem Value}{g:Int->Int->Int}
  (rule:∀ (i j:Int) (t u:Tok) (s:qag) (Q:Value->qag->Prop) (E:Value->qag->Prop),Q (.int (g i j) s.toks) { s with toks:=s.toks+1 }->wpAny (model X.prog X.w) X.A (f (.int i t) (.int j u)) Q E s) :
  OpR X f (rI0 λi j=>.int (g i j)):=by
 intro d s e H x y v u Q I l m h;obtain⟨i,j,rfl,rfl,q⟩:=h;obtain⟨t,rfl⟩:=l;obtain⟨t',rfl⟩:=m;exact rule i j t t' s _ _ ⟨.int _,H,I.tok _,⟨_,U⟩,q⟩
theorem Bh {f:Value->Value->Sem Value}{g:Int->Int->Bool}
  (rule:∀ (i j:Int) (t u:Tok) (s:qag) (Q:Value->qag->Prop) (E:Value->qag->Prop),Q (.bool (g i j)) s->wpAny (model X.prog X.w) X.A (f (.int i t) (.int j u)) Q E s) :
  OpR X f (rI0 λi j=>.bl (g i j)):=by
 intro d s e H x y v u Q I l m h;obtain⟨i,j,rfl,rfl,q⟩:=h;obtain⟨t,rfl⟩:=l;obtain⟨t',rfl⟩:=m;exact rule i j t t' s _ _ ⟨.bl _,H,I,U,q⟩
def Ga (i j:Int):Prop:=0<j/\j<1073741824
def ql (i j:Int):Prop:=0<=j/\j<=1000000/\i.natAbs<2^64
def Ar (i j:Int):Prop:=(-(2^64)<i/\i<2^64)\/(-(2^64)<j/\j<2^64)
theorem Ar.ok {i j:Int} (h:Ar i j):qdc i j:=by
 rcases h with⟨B,z⟩|⟨B,z⟩
 ·exact .of_left (intBits_le_64 B z)
 ·exact .of_right (intBits_le_64 B z)
theorem Dq:OpR X (qbF .Add) (rI0 λi j=>.int (i+j)):=E7 λ_ _ _ _ _ _ _ q=>add_int q
theorem Dx:OpR X (qbF .Sub) (rI0 λi j=>.int (i - j)):=E7 λ_ _ _ _ _ _ _ q=>sub_int q
theorem Bj:OpR X (qbF .FloorDiv) (rI Ga λi j=>.int (i / j)):=opI λi j _ _ _ _ _ k q=>by
 have B:=k.1;have z:=k.2;exact floordiv_int (by lia) (by rw[qeR i (by lia)];exact q) (.inl (PyProof.noPylong_small (by lia)))
theorem Du:OpR X (qbF .Mod) (rI (λ_ j=>0<j) λi j=>.int (i%j)):=opI λi j _ _ _ _ _ k q=>by
 exact mod_int' (by lia) (by rw[Int.fmod_eq_emod_of_nonneg i (by lia)];exact q)
theorem Dv:OpR X (qbF .Pow) (rI ql λi j=>.int (i^j.toNat)):=opI λ_ _ _ _ _ _ _ k q=>pow_int_small k.1 k.2.1 k.2.2 q
theorem Dw:OpR X (qbF .LShift) (rI ql λi j=>.int (i*2^j.toNat)):=opI λ_ _ _ _ _ _ _ k q=>lshift_int_small k.1 k.2.1 k.2.2 q
theorem unI {f:Value->Sem Value}{g:Int->Int}
  (rule:∀ (i:Int) (t:Tok) (s:qag) (Q:Value->qag->Prop) (E:Value->qag->Prop),Q (.int (g i) s.toks) { s with toks:=s.toks+1 }->wpAny (model X.prog X.w) X.A (f (.int i t)) Q E s) :
  UnR X f (rU λi=>.int (g i)):=by
 intro d s e H x v Q I l h;obtain⟨i,rfl,q⟩:=h;obtain⟨t,rfl⟩:=l;exact rule i t s _ _ ⟨.int _,H,I.tok _,⟨_,U⟩,q⟩
theorem Eh:UnR X (unaryOp .USub) (rU λi=>.int (-i)):=unI λ_ _ _ _ _ q=>neg_int q
end
section
variable {X:Cx}{a b c:Expr}{B G tc:TE}{pos:Pos}
theorem vi {f:List (Addr×Obj)}{g:St}{H:Hp}{s:qag}{Q:VK}{k k':Bool} (I:Inv X f g H s) (q:Q (.bl k) H) (e:k=k'):EP X f g Q (.bool k') s:=by
 subst e;exact⟨.bl k,H,I,U,q⟩
theorem Fb:OpR X (qa2 .Lt) (rI0 λi j=>.bl (decide (i<j))):=Bh λ_ _ _ _ _ _ _ q=>lt_int q
theorem Fa:OpR X (qa2 .LtE) (rI0 λi j=>.bl (decide (i<=j))):=Bh λ_ _ _ _ _ _ _ q=>le_int q
theorem E9:OpR X (qa2 .Gt) (rI0 λi j=>.bl (decide (j<i))):=Bh λ_ _ _ _ _ _ _ q=>gt_int q
theorem E8:OpR X (qa2 .GtE) (rI0 λi j=>.bl (decide (j<=i))):=Bh λ_ _ _ _ _ _ _ q=>ge_int q
theorem Ds:OpR X (qa2 .Is) (λx y H Q=>y=.non/\Q (.bl (decide (x=.non))) H):=by
 intro f s g H x y v u Q I n J h;obtain⟨rfl,q⟩:=h;cases J;refine is_none_gen (vi I q ?_);cases x<;>first
  |(rfl)
  |(obtain⟨t,rfl⟩:=n;rfl)
theorem Bl:OpR X (qa2 .IsNot) (λx y H Q=>y=.non/\Q (.bl (!decide (x=.non))) H):=by
 intro f s g H x y v u Q I n J h;obtain⟨rfl,q⟩:=h;cases J;refine isnot_none_gen (vi I q ?_);cases x<;>first
  |(rfl)
  |(obtain⟨t,rfl⟩:=n;rfl)
theorem aJ (b:Expr) {op:CmpOp} (h:op≠.In:=by decide) (h2:op≠.NotIn:=by decide):qch op b=false:=by
 have e1:(op==CmpOp.In)=false:=by cases op<;>first|rfl|exact absurd U h
 have e2:(op==CmpOp.NotIn)=false:=by cases op<;>first|rfl|exact absurd U h2
 cases b<;>simp[qch,e1,e2]
theorem wV {op:CmpOp}{r:R2} (S:OpR X (qa2 op) r) (N:PE X a B) (W:PE X b G) (hm:qch op b=false):PE X (.Compare a [op] [b] pos) (tOp r B G):=by
 intro f s g H Q I h;exact wpAny_Compare1 (CB N W I h λv u s2 x y H2 I2 n J q=>S f s2 g H2 x y v u Q I2 n J q) hm
def FO (t:TE):TT:=λg H Q=>t g H λx H'=>∃ k,x=.bl k/\Q k H'
theorem tu {op:CmpOp}{r:R2} (S:OpR X (qa2 op) r) (N:PE X a B) (W:PE X b G) (hm:qch op b=false):PT X (.Compare a [op] [b] pos) (FO (tOp r B G)):=by
 intro f s g H Q I h
 refine wpAny_isTrue_Compare1 (thn (N f s g H _ I h) λv T ⟨x,H1,I1,w,Y⟩=>thn (W f T g H1 _ I1 Y) λu s2 ⟨y,H2,I2,F,q2⟩=>
  thn (S f s2 g H2 x y v u _ I2 w F q2) λc s3 ⟨z,H3,I3,P,k,e,q3⟩=>?_) hm
 subst e;cases P;exact qce ⟨H3,I3,q3⟩
def Eb (r r':R2) (B G tc:TE):TE:=λg H Q=>B g H λx H1=>G g H1 λy H2=>r x y H2 λz H3=>∃ k,z=.bl k/\
 (if k=true then tc g H3 λM H4=>r' y M H4 Q else Q (.bl false) H3)
theorem uM {op L:CmpOp}{r r':R2} (S:OpR X (qa2 op) r) (ho':OpR X (qa2 L) r') (N:PE X a B) (W:PE X b G) (hc:PE X c tc)
  (hm:lastMarks [op,L] [b,c]=false:=by with_unfolding_all rfl):PE X (.Compare a [op,L] [b,c] pos) (Eb r r' B G tc):=by
 intro f s g H Q I h
 refine Compare_chain (thn (N f s g H _ I h) λv T ⟨x,H1,I1,w,Y⟩=>chain_link (thn (W f T g H1 _ I1 Y) λu s2 ⟨y,H2,I2,F,q2⟩=>
  thn (S f s2 g H2 x y v u _ I2 w F q2) λd s3 ⟨z,H3,I3,P,k,e,q3⟩=>?_)) hm
 subst e;cases P;refine qce ?_;cases k with
 |false=>exact ite_ff ⟨.bl false,H3,I3,U,q3⟩
 |true=>exact ite_tt (chain_last (thn (hc f s3 g H3 _ I3 q3) λM s4 ⟨z',H4,I4,r4,q4⟩=>ho' f s4 g H4 y z' u M Q I4 F r4 q4))
def yk (K:qad) (x:V) (H:Hp) (k:Bool):Prop:=
 match x with
 |.non=>k=false
 |.bl b=>k=b
 |.int i=>k=(i != 0)
 |.str y=>y.length<=qaK/\k=((y.length:Int) != 0)
 |.byt y=>y.size<=qaK/\k=((y.size:Int) != 0)
 |.ref p=>(∃ l,SqL K H p l/\k=!l.isEmpty)\/(∃ l,SqT K H p l/\k=!l.isEmpty)\/∃ kvs,H p=some (.dK kvs)/\k=!kvs.isEmpty
 |_=>False
theorem vn {κ:Type}{kvs:List (κ×V)}{vs:List (κ×Value)} (r:KV kvs vs):(!vs.isEmpty)=!kvs.isEmpty:=by
 cases r<;>rfl
theorem pk {l:List V}{D:List Value} (r:bn l D):(!D.toArray.isEmpty)=!l.isEmpty:=by
 cases r<;>simp
theorem mT:(qaK:Nat)<2^63:=by decide
theorem Al:Ge X (λx H Q=>∃ k,yk X.K x H k/\Q k H):=by
 intro f s g H x v Q I n h;obtain⟨k,e,q⟩:=h;have hs:=qca;cases x with
 |non=>
  cases n;subst e;exact truthy_none ⟨H,I,q⟩
 |bl b=>
  cases n;subst e;exact qce ⟨H,I,q⟩
 |int i=>
  obtain⟨t,rfl⟩:=n;subst e;exact PySem.P.truthy_int ⟨H,I,q⟩
 |str y=>
  obtain⟨t,rfl⟩:=n;obtain⟨hy,A⟩:y.length<=qaK/\k=_:=e;subst A;exact PySem.P.truthy_str (by lia) ⟨H,I.tok _,q⟩
 |byt y=>
  obtain⟨t,rfl⟩:=n;obtain⟨hy,A⟩:y.size<=qaK/\k=_:=e;subst A;exact PySem.W.truthy_bytes (by lia) ⟨H,I.tok _,q⟩
 |ref p=>
  cases n;have A:=e;rcases A with⟨l,R,A⟩|⟨l,R,A⟩|⟨kvs,R,A⟩
  ·subst A
   obtain⟨D,r,pl,O⟩:=I.list R;have E:=r.length;exact wpAny_truthy_list pl.isList (by simp only[qaG];lia) ⟨H,I.tok _,by rw[pk r];exact q⟩
  ·subst A
   obtain⟨D,r,pl,O⟩:=I.tuple R;have E:=r.length;exact truthy_tuple pl (by simp only[qaG];lia) ⟨H,I.tok _,by rw[pk r];exact q⟩
  ·subst A
   obtain⟨O,hS,vs,r,m⟩:kvs.length<=qaK/\(p==qdD)=false/\∃ vs,KV kvs vs/\s.heap.DictOf _ p vs:=I.hok p _ R;have E:=qf9 r;exact wpAny_truthy_dict hS m (by lia) ⟨H,I.tok _,by rw[vn r];exact q⟩
 |_=>exact (show False from e).elim
theorem zG (N:PE X a B) (he:∀ o,qhL a X.env o=(do let v <-o;qhJ a.pos;qeG [v] (truthy v))) :
  PT X a (λg H Q=>B g H λx H'=>∃ k,yk X.K x H' k/\Q k H'):=by
 intro f s g H Q I h;exact isTrue_plain (thn (N f s g H _ I h) λv T ⟨x,H1,I1,w,Y⟩=>Al f T g H1 x v Q I1 w Y) (he _)
theorem vJ:OpR X (qbF .Add) (λx y H Q=>∃ i j,x=.str i/\y=.str j/\i.length+j.length<=qaK/\Q (.str (i++j)) H):=by
 intro f s g H x y v u Q I n J h;obtain⟨i,j,rfl,rfl,O,q⟩:=h;obtain⟨t,rfl⟩:=n;obtain⟨t',rfl⟩:=J;exact add_str (λt' tk=>⟨.str _,H,I.tok _,⟨_,U⟩,q⟩) O
theorem mG {x:V}{C:List Value} (r:bn [x] C):∃ u,C=[u]/\bI x u:=by
 cases r with
 |cons w F=>cases F;exact⟨_,U,w⟩
theorem FS {x y:V}{C:List Value} (r:bn [x,y] C):∃ u M,C=[u,M]/\bI x u/\bI y M:=by
 cases r with
 |cons w F=>
  cases F with
  |cons P r4=>cases r4;exact⟨_,_,U,w,P⟩
theorem yu:gK X (.builtin "abs") (λl H Q=>∃ i,l=[.int i]/\Q (.int (if i<0 then -i else i)) H):=by
 intro f s g H l C Q I r h;obtain⟨i,rfl,q⟩:=h;obtain⟨u,rfl,t,rfl⟩:=mG r;exact call_abs_int λu tk=>⟨.int _,H,I.tok _,⟨_,U⟩,q⟩
theorem xz (hc:X.calm=true):gK X (.builtin "min") (λl H Q=>∃ i j,l=[.int i,.int j]/\Q (.int (if j<i then j else i)) H):=by
 intro f s g H l C Q I r h;obtain⟨i,j,rfl,q⟩:=h;obtain⟨u,M,rfl,⟨t,rfl⟩,⟨t',rfl⟩⟩:=FS r;refine min_two_ints (I.ok.hd hc) λh' tk k=>⟨_,H,I.kept k,?_,q⟩;by_cases hj:j<i
 ·rw[iFP hj,iFP hj];exact⟨_,U⟩
 ·rw[iFN hj,iFN hj];exact⟨_,U⟩
theorem qP:gK X (.type "int") (λl H Q=>(∃ i,l=[.int i]/\Q (.int i) H)\/∃ k,l=[.bl k]/\Q (.int (if k then 1 else 0)) H):=by
 intro f s g H l C Q I r h;rcases h with⟨i,rfl,q⟩|⟨k,rfl,q⟩
 ·obtain⟨u,rfl,t,rfl⟩:=mG r
  exact call_int_int ⟨.int i,H,I,⟨_,U⟩,q⟩
 ·obtain⟨u,rfl,w⟩:=mG r
  cases w;exact call_int_bool ⟨.int _,H,I.tok _,⟨_,U⟩,q⟩
theorem rS:gK X (.type "str") (λl H Q=>∃ i,l=[.int i]/\i.natAbs.log2<1920/\Q (.str (toString i)) H):=by
 intro f s g H l C Q I r h;obtain⟨i,rfl,O,q⟩:=h;obtain⟨u,rfl,t,rfl⟩:=mG r;exact PySem.P.str_of_int O ⟨.str _,H,I.tok _,⟨_,U⟩,q⟩
end
structure Cs (h:Heap) (x dx C:Addr) (mA:Str->Option Value):Prop where
 obj:h.get? x=some (qeo C dx)
 ns:h.Ns1 dx mA
 ne:dx≠x
theorem xP {h:Heap}{i:Addr}{f:Str->Option Value} (n:h.Ns1 i f):∃ d,h.get? i=some d/\∀ b,qey b d=some (f b):=by
 obtain⟨o,g,p,m,hd,l,_,hm⟩:=n;refine⟨o,m,λb=>?_⟩;have e:=hm b;unfold nsFind findBy at e;rw[<-Array.find?_toList]at e;unfold qey;rw[hd];dsimp only;split
 ·rename_i y q
  rw[q]at e;exact congrArg some e
 ·rename_i q
  rw[q]at e;have a:g.toList.any (·.refKey)=false:=by
   rw[qfQ];intro y k;obtain⟨z,t,c⟩:=l y (Array.mem_toList_iff.mp k);simp[DictEntry.refKey,c]
  have j:¬ g.toList.any (·.refKey)=true:=by rw[a];exact qaR
  rw[iFN j];exact congrArg some e
theorem Cs.look {h:Heap}{x d C:Addr}{c:Str->Option Value} (I:Cs h x d C c):∃ b,PySem.W.InstAt h x (qeo C d) C (some b)/\∀ a,qey a b=some (c a):=
 let ⟨b,ho,hl⟩:=xP I.ns
 ⟨b,⟨I.obj,U,U,ho⟩,hl⟩
section
variable {prog:qaH}{w:World}{A:qaS}{E:Value->qag->Prop}{s:qag}{K:qad}{x c C f:Addr}{b:Str->Option Value}{a:Str}{v:Value}
end
section
variable {P:qaH}{w:World}{H H':Hp}{h i:Heap}{a C c:Addr}{fs g:List (Str×V)}
theorem AT (hok:HOk P w H h) (e:H a=some (.ins C c fs)):∃ b,Cs h a c C b/\(∀ f,Cu (fs.lookup f) (b f))/\qgt b (fs.map (·.1))/\fs.length<=1000/\H c=some (.own a):=by
 obtain⟨d,z,ne,ob,b,n,r,q⟩:=(hok a _ e);exact⟨b,⟨ob,n,ne⟩,r,q,z,d⟩
end
structure Cls (K:qad) (C:Addr):Prop where
 pg:qfr K C Str.empty=true
 hd:PySem.W.hasDictIn K C=true
 po:PySem.W.plainOver K C=true
 sa:qfM K (.ref C) "__setattr__" = some (some (.builtin "object.__setattr__"))
theorem Cls.get {K:qad}{C:Addr} (c:Cls K C) (f:Str):qfr K C f=true:=c.pg
section
variable {X:Cx}{b:List (Addr×Obj)}{d:St}{H:Hp}{s:qag}{a C c:Addr}{fs:List (Str×V)}{f:Str}{v:V}{A:qaS}{E:Value->qag->Prop}
end
section
variable {X:Cx}{o e a:Expr}{f:Str}{pos b c:Pos}{g d:TE}
end
section
variable {X:Cx}{j:List (Addr×Obj)}{v:St}{H:Hp}{s:qag}{A:qaS}{E:Value->qag->Prop}{Q:Value->qag->Prop}{c:Value}{b:Bool}
inductive nM (K:qad) (H:Hp):V->Value->Prop where
 |non:nM K H .non (.type "NoneType")
 |bl (x:Bool):nM K H (.bl x) (.type "bool")
 |int (i:Int):nM K H (.int i) (.type "int")
 |str (x:Str):nM K H (.str x) (.type "str")
 |flt (x:UInt64):nM K H (.flt x) (.type "float")
 |lst {a:Addr}{xs:List V} (e:H a=some (.lst xs)):nM K H (.ref a) (.type "list")
 |frz {a:Addr}{o:Obj}{xs:List V} (e:H a=some (.frz o (.lst xs))):nM K H (.ref a) (.type "list")
 |tup {a:Addr}{xs:List V} (e:H a=some (.tup xs)):nM K H (.ref a) (.type "tuple")
 |dK {a:Addr}{kvs:List (Key×V)} (e:H a=some (.dK kvs)):nM K H (.ref a) (.type "dict")
 |dT {a:Addr}{kvs:List (List Key×V)} (e:H a=some (.dT kvs)):nM K H (.ref a) (.type "dict")
 |ins {a C dx:Addr}{fs:List (Str×V)} (e:H a=some (.ins C dx fs)) (cl:Cls K C) (ha:qfM K (.ref C) "__class__" = some (some (.builtin "object.__class__")))
   (hn:PySem.W.specialIn K (.builtin "object.__class__") "__get__" = some (some (.builtin "getset_descriptor.__get__"))) (htk:PySem.W.takesIn K (.builtin "object.__class__")=some true)
   (hm:PySem.W.mroIn K C (.type "object")=some true):nM K H (.ref a) (.ref C)
theorem eU {x:V}{u t:Value} (I:Inv X j v H s) (f:bI x u) (ty:nM X.K H x t) (e:qfL X.K t c=some b) (h:∀ r,Q (.bool b) { s with toks:=r }) :
  wpAny (model X.prog X.w) A (call (.builtin "isinstance") [u,c]) Q E s:=by
 cases ty with
 |non=>cases (f);exact qbx PySem.W.kitx_none I.kIn True.intro e (λz=>nomatch z) h
 |bl y=>cases (f);exact qbx PySem.W.kitx_bool I.kIn True.intro e (λz=>nomatch z) h
 |int i=>obtain⟨t,q⟩:=(f);cases q;exact qbx PySem.W.kitx_int I.kIn True.intro e (λz=>nomatch z) h
 |str y=>obtain⟨t,q⟩:=(f);cases q;exact qbx PySem.W.kitx_str I.kIn True.intro e (λz=>nomatch z) h
 |flt y=>obtain⟨t,q⟩:=(f);cases q;exact qbx PySem.W.kitx_float I.kIn True.intro e (λz=>nomatch z) h
 |@lst a xs d=>
  cases (show u=Value.ref a from f);obtain⟨_,_,n,_,g⟩:=(I.hok a _ d);exact qbx qfi I.kIn ⟨_,g,U⟩ e (λz=>nomatch z) h
 |@frz a ob xs d=>
  cases (f);obtain⟨_,_,_,n,_,g⟩:=(I.hok a _ d);exact qbx qfi I.kIn ⟨_,g,U⟩ e (λz=>nomatch z) h
 |@tup a xs d=>
  cases (show u=Value.ref a from f);obtain⟨_,_,_,p⟩:=(I.hok a _ d);obtain⟨o,g,k,_⟩:=p;exact qbx qfd I.kIn ⟨o,g,k⟩ e (λz=>nomatch z) h
 |@dK a kvs d=>
  cases (show u=Value.ref a from f);obtain⟨_,_,vs,_,p⟩:=(I.hok a _ d);obtain⟨o,l,m,g,k,_⟩:=p;exact qbx qfj I.kIn ⟨o,g,k.1⟩ e (λz=>nomatch z) h
 |@dT a kvs d=>
  cases (show u=Value.ref a from f);obtain⟨_,_,xs,_,o,l,m,g,k,_⟩:=(I.hok a _ d);exact qbx qfj I.kIn ⟨o,g,k.1⟩ e (λz=>nomatch z) h
 |@ins a C dx fs d cl ha hn htk hm=>
  cases (f);obtain⟨B,O,_⟩:=AT I.hok d;obtain⟨w,J,_⟩:=O.look;exact qbx (PySem.W.kitx_own (cl.get _) cl.hd ha hn htk hm) I.kIn J e (λz=>nomatch z) h
end
structure ez (k:Nat) (A:qaS):Prop where
 hd:A.handled=none
 dp:A.depth+3*k+5<qhX
 un:A.units+16*k+200<cLine
 gd:A.guards=some []
theorem ez.mono {j k:Nat}{A:qaS} (r:ez k A) (h:j<=k):ez j A:=⟨r.hd,by have:=r.dp;lia,by have:=r.un;lia,r.gd⟩
theorem ez.deeper {k:Nat}{A:qaS} (r:ez (k+1) A) (env:Env):ez k (A.deeper env):=
 ⟨r.hd,by have:=r.dp;show A.depth+1+3*k+5<_;lia,by have:=r.un;show A.units+3+16*k+200<_;lia,r.gd⟩
theorem ez.depth {k:Nat}{A:qaS} (r:ez k A):A.depth<qhX:=by have:=r.dp;lia
theorem ez.units0 {k:Nat}{A:qaS} (r:ez k A):A.units<cLine:=by have:=r.un;lia
def GJ:TA:=λ_ H Q=>Q [] H
def FI (d:TE) (c:TA):TA:=λa H Q=>d a H λx H1=>c a H1 λb H2=>Q (x::b) H2
section
variable {X:Cx}{e:Expr}{d:List Expr}{te:TE}{t:TA}{pos:Pos}
theorem vK:PA X [] GJ:=λ_ _ _ _ H Q I h=>Calls.spliced_nil ⟨_,H,I,.nil,h⟩
theorem kW (n:PE X e te) (l:PA X d t) (v:qbE (e::d) X.env=(false,eval e X.env)::qbE d X.env:=by rfl):PA X (e::d) (FI te t):=by
 intro pos a s c H Q I h;rw[v];refine Calls.spliced_cons (thn (n a s c H _ I h) λu g ⟨x,H1,I1,m,o⟩=>?_);exact thn (l pos a g c H1 _ I1 o) λi s2 ⟨f,H2,I2,k,w⟩=>⟨_,H2,I2,.cons m k,w⟩
def GP (t:TA):TE:=λc H Q=>t c H λf H1=>f.length<=qaK/\∀ p,H1 p=none->Q (.ref p) (upd H1 p (.tup f))
def GI (t:TA):TE:=λc H Q=>t c H λf H1=>f.length<=qaK/\∀ p,H1 p=none->Q (.ref p) (upd H1 p (.lst f))
theorem zy {x1} (h:PA X d t):PE X (.Tuple d x1 pos) (GP t):=by
 intro a s c H Q I j;refine wpAny_Tuple_spliced (thn (h pos a s c H _ I j) λi g ⟨f,H1,I1,r,z,q⟩=>⟨by rw[<-r.length];exact z,?_⟩);refine⟨.ref g.heap.objs.size,_,I1.laid (λb u e=>qaj _ e) (qaw _) ?_,U,q _ (I1.hok.fresh (qaw _))⟩;exact⟨z,i,r,iY.new _ _⟩
theorem tj (h:PA X d t):PE X (.List d pos) (GI t):=by
 intro a s c H Q I j;refine wpAny_List_spliced (thn (h pos a s c H _ I j) λi g ⟨f,H1,I1,r,z,q⟩=>⟨by rw[<-r.length];exact z,?_⟩);refine⟨.ref g.heap.objs.size,_,I1.laid (λb u e=>qaj _ e) (qaw _) ?_,U,q _ (I1.hok.fresh (qaw _))⟩;exact⟨z,i,0,r,qaV _ U⟩
end
abbrev Sp:=List V->Hp->VK->XK->Prop
abbrev CXT:=List Env->Hp->qag->XK->Value->qag->Prop
structure Cq (P:qaH) (w:World) (K:qad) (mg:Str->Option Value) (base:Heap) (A:qaS) (outer:List Env) (s:qag) (H:Hp):Prop where
 frames:A.frames=some outer
 mod:Mod K mg base
 bs:∀ b o,base.get? b=some o->s.heap.get? b=some o/\H b=none
 bsz:base.objs.size<=s.heap.objs.size
 funs:s.heap.FunFrames base outer
 frf:∀ b∈frs outer,H b=none
 hok:HOk P w H s.heap
 bare:qeb s.gens
def CE (outer:List Env) (P:qaH) (w:World) (H:Hp) (s:qag) (Q:VK) (u:Value) (s':qag):Prop:=
 ∃ v H',s'.os=s.os/\qeb s'.gens/\Un (frs outer) [] H H' s.heap s'.heap/\HOk P w H' s'.heap/\bI v u/\Q v H'
def CR (CX:CXT) (outer:List Env) (P:qaH) (w:World) (H:Hp) (s:qag) (Q:VK) (E:XK) (r:qhM) (s':qag):Prop:=
 match r with
 |.ok (.ret u)=>CE outer P w H s Q u s'
 |.ok _=>False
 |.error e=>CX outer H s E e s'
structure bv (P:qaH) (w:World) (K:qad) (mg:Str->Option Value) (base:Heap) (CX:CXT) (k:Nat) (f:Addr) (fd:qaZ) (ps:List Str) (sp:Sp):Prop where
 len:∀ vs H Q E,sp vs H Q E->vs.length=ps.length
 run:∀ (A:qaS) (outer:List Env) (s:qag) (H:Hp) (args:Args) (us:List Value) (vs:List V) (Q:VK) (E:XK),ez k A->Cq P w K mg base A outer s H->qfI s fd args (ps.zip us)->bn vs us->sp vs H Q E->
  qd6 (model P w) A (.call (.ref f) args) (CR CX outer P w H s Q E) s
theorem bv.mono {P:qaH}{w:World}{K:qad}{mg:Str->Option Value}{base:Heap}{CX:CXT}{j k:Nat}{f:Addr}{fd:qaZ}{ps:List Str}{sp:Sp} (F:bv P w K mg base CX j f fd ps sp) (h:j<=k) :
  bv P w K mg base CX k f fd ps sp:=⟨F.len,λA outer s H args a vs Q E b=>F.run A outer s H args a vs Q E (b.mono h)⟩
section
variable {X:Cx}{a:List (Addr×Obj)}{c:St}{H:Hp}{s s':qag}
theorem Inv.env0 (I:Inv X a c H s):Cq X.prog X.w X.K X.mg X.base X.A X.stack s H:=
 ⟨I.ok.frames,I.ok.mod,I.bs,qaU I.ok.bsz I.sz,I.stack,I.stkFree,I.hok,I.bare⟩
theorem Inv.after {Q:VK}{u:Value} (I:Inv X a c H s) (h:CE X.stack X.prog X.w H s Q u s'):EP X a c Q u s':=by
 obtain⟨v,H',os,bare,un,hok,r,q⟩:=h;obtain⟨f,g,d,t,e⟩:=s';obtain rfl:e=s.os:=os;exact⟨v,H',I.call un hok bare (λb z=>absurd z (by simp)),r,q⟩
end
def FH (sp:Sp) (a:List V) (E:XK) (t:TA):TE:=λb H Q=>t b H λvs H1=>sp (vs++a) H1 Q E
def bP (K:qad) (fd:qaZ) (ps:List Str) (ds:List Value):Prop:=
 ∀ (s:qag) (a:List Value),K.In s.heap->(a++ds).length=ps.length->qfI s fd ⟨a,[]⟩ (ps.zip (a++ds))
theorem bP.all {K:qad}{fd:qaZ}{ps:List Str} (h:∀ a:List Value,a.length=ps.length->bindArgs fd ⟨a,[]⟩=pure (ps.zip a)):bP K fd ps []:=λs a _ b=>by
 rw[qa5]at b ⊢;exact .of_eq (h a b)
def ot (CX:CXT) (X:Cx) (E:XK):Prop:=∀ (a:List (Addr×Obj)) (b:St) (H:Hp) (s:qag) (e:Value) (s':qag),Inv X a b H s->CX X.stack H s E e s'->X.xe e s'
section
variable {X:Cx}{CX:CXT}{k:Nat}{f C:Addr}{fd:qaZ}{ps:List Str}{sp:Sp}{b:List V}{ds:List Value}{E:XK}{x m:Str}{p pos z:Pos}{e o:Expr}{i:List Expr}{K:TE}{t:TA}
theorem tF {a:List (Addr×Obj)}{g:St}{H:Hp}{s:qag}{Q:VK}{d:List Value}{vs:List V} (F:bv X.prog X.w X.K X.mg X.base CX k f fd ps sp) (v:ez k X.A) (w:bP X.K fd ps ds) (hd:bn b ds) (j:ot CX X E)
  (I:Inv X a g H s) (r:bn vs d) (h:sp (vs++b) H Q E):wpAny (model X.prog X.w) X.A (call (.ref f) d) (EP X a g Q) X.xe s:=by
 have y:=r.append hd;have B:(d++ds).length=ps.length:=by rw[<-y.length];exact F.len _ _ _ _ h
 refine wpAny_call (qfW (F.run X.A X.stack s H _ _ _ Q E v I.env0 (w s d I.kIn B) y h) λr s' c=>?_);cases r with
 |error e=>exact j a g H s e s' I c
 |ok fl=>
  cases fl with
  |ret u=>exact I.after c
  |next=>exact qbp c
  |brk=>exact qbp c
  |cont=>exact qbp c
theorem wU (F:bv X.prog X.w X.K X.mg X.base CX k f fd ps sp) (v:ez k X.A) (A:Gl X x) (hm:X.mg x=some (.ref f)) (J:qay X.K (.ref f)=true) (w:bP X.K fd ps ds) (hd:bn b ds) (j:ot CX X E)
  (G:PA X (e::i) t) (l:(x==("__debug__" : Str))=false:=by decide) (D:qbE (e::i) X.env=(false,eval e X.env)::qbE i X.env:=by rfl) (n:(qd7 pos (qbE i X.env)).any (·.1)=false:=by rfl) :
  PE X (.Call (.Name x p) (e::i) [] pos) (FH sp b E t):=by
 intro a s g H Q I h;refine qev (oi I A hm ?_ l);refine PySem.W.callWith_K I.ok.mod.kin J (thn (G pos a s g H _ I h) λd L ⟨vs,H1,I1,r,q⟩=>⟨I1.kIn,?_⟩) D n;exact tF F v w hd j I1 r q
end
section
variable {X:Cx}{CX:CXT}{k:Nat}{f C:Addr}{fd:qaZ}{ps i:List Str}{sp:Sp}{E:XK}{x m:Str}{p pos b a:Pos}{e o:Expr}{h:List Expr}{c:List qfH}{te l:TE}{t j:TA}{nm:Option Str}
variable {g:List Value->List Value->List Value}{d:List V->List V->List V}
end
structure aZ (N P:List Str) (sc:Scope):Prop where
 kind:sc.kind=.function
 co:sc.isCoroutine=false
 gen:sc.isGenerator=false
 nd:N.Nodup
 pre:N.take P.length=P
 par:∀ x∈P,sc.names.lookup x=some .local\/sc.names.lookup x=some .cell
 nofree:∀ y∈sc.names,y.2≠.free
theorem qM {kindOf:Str->Option qb7}{x:Str}:∀ {binds:List (Str×Value)}{m:Str->Option Value},(∀ v,(x,v)∉binds)->bindL kindOf binds m x=m x
 |[],_,_=>rfl
 |(n,v)::r,m,h=>by
  unfold bindL;rw[qM λw hw=>h w (qah _ hw)];split
  ·have:x≠n:=by rintro rfl;exact h v qae
   simp[this]
  ·rfl
theorem qK {kindOf:Str->Option qb7}{x:Str}:∀ {binds:List (Str×Value)}{m:Str->Option Value},(∀ v,(x,v)∉binds)->bindC kindOf binds m x=m x
 |[],_,_=>rfl
 |(n,v)::r,m,h=>by
  unfold bindC;rw[qK λw hw=>h w (qah _ hw)];split
  ·rfl
  ·have:x≠n:=by rintro rfl;exact h v qae
   simp[this]
theorem qL {kindOf:Str->Option qb7}{x:Str}{v:Value}:∀ {P:List Str}{vs:List Value}{i:Nat}{m:Str->Option Value},P.Nodup->P[i]?=some x->vs[i]?=some v->kindOf x=some .local->
  bindL kindOf (P.zip vs) m x=some v
 |[],_,_,_,_,h,_,_=>by simp at h
 |_::_,[],_,_,_,_,h,_=>by simp at h
 |p::P,w::vs,0,m,nd,b,a,c=>by
  simp at b a;subst b;subst a
  show bindL kindOf ((p,w)::P.zip vs) m p=_;unfold bindL;rw[qM λv d=>(qcZ.mp nd).1 (qeA d).1,iFP c]
  simp
 |p::P,w::vs,i+1,m,nd,b,a,c=>by
  unfold bindL;exact qL (qcZ.mp nd).2 (by simpa using b) (by simpa using a) c
theorem qJ {kindOf:Str->Option qb7}{x:Str}{v:Value}:∀ {P:List Str}{vs:List Value}{i:Nat}{m:Str->Option Value},P.Nodup->P[i]?=some x->vs[i]?=some v->kindOf x≠some .local->
  bindC kindOf (P.zip vs) m x=some v
 |[],_,_,_,_,h,_,_=>by simp at h
 |_::_,[],_,_,_,_,h,_=>by simp at h
 |p::P,w::vs,0,m,nd,b,a,c=>by
  simp at b a;subst b;subst a
  show bindC kindOf ((p,w)::P.zip vs) m p=_;unfold bindC;rw[qK λv d=>(qcZ.mp nd).1 (qeA d).1,iFN c]
  simp
 |p::P,w::vs,i+1,m,nd,b,a,c=>by
  unfold bindC;exact qJ (qcZ.mp nd).2 (by simpa using b) (by simpa using a) c
def mF (N:List Str) (vs:List V):St:=vs.map some++qax (N.length - vs.length) none
def lU (CX:CXT) (P:qaH) (w:World) (K:qad) (mg:Str->Option Value) (base:Heap) (N:List Str) (b:Str) (a:Scope) (f:Addr) (d:Value) (A:qaS) (outer:List Env) (s:qag) (H:Hp) (E:XK):Cx where
 prog:=P
 w:=w
 K:=K
 mg:=mg
 base:=base
 A:=A.deeper (qds b a s.heap.objs.size f d)
 N:=N
 s₀:=s
 H₀:=H
 env:=qds b a s.heap.objs.size f d
 outer:=outer
 stack:=qds b a s.heap.objs.size f d::outer
 ex:=[]
 calm:=true
 fn:=λ_=>true
 pn:=[]
 xe:=λe s'=>wpAny (model P w) (A.deeper (qds b a s.heap.objs.size f d)) (qhK (qds b a s.heap.objs.size f d) e) (λ_ c=>CX outer H s E e c) (λg c=>CX outer H s E g c) s'
theorem uc {a:Scope}{n:Nat}{x:Str} (h:a.names.lookup x=some .cell):∃ c,(qbX n a.names []).lookup x=some c:=by
 exact qcz.mp (qcF a.names n [] (.inl h))
theorem xK {CX:CXT}{P:qaH}{w:World}{K:qad}{mg:Str->Option Value}{base:Heap}{N ps:List Str}{g:Str}{d:Scope}{f:Addr}{B:Value}{A:qaS}{outer:List Env}{s G:qag}{H:Hp}{E:XK}{D:List Value}{vs:List V}
  (S:aZ N ps d) (hd:A.handled=none) (l:Cq P w K mg base A outer s H) (R:vs.length=ps.length) (r:bn vs D)
  (x:InCallC s s.heap.objs.size (bindL (qds g d s.heap.objs.size f B).kindOf (ps.zip D) λ_=>none) (qbX (s.heap.objs.size+1) d.names []) (bindC (qds g d s.heap.objs.size f B).kindOf (ps.zip D) λ_=>none) G) :
  Inv (lU CX P w K mg base N g d f B A outer s H E) [] (mF N vs) H G:=by
 have L:ps.length<=N.length:=by have:=congrArg qb3 S.pre;rw[qcg]at this;lia
 obtain⟨C,Q,rfl,I⟩:=x.done;have m:∀ b ,b∉(lU CX P w K mg base N g d f B A outer s H E).ex:=λb z=>absurd (show b∈([]) from z) (by simp)
 refine⟨⟨l.mod,S.kind,U,U,qaw _,λy z c C j=>?_,λy t=>?_,λy c _ h=>?_,λ_=>hd,Around.frames_deeper l.frames,.inr ⟨U,U⟩,λb z=>absurd z (m b),l.bs,l.bsz,λb _ _=>m b,λb z=>absurd z (m b),l.funs,l.frf⟩,
  rfl,l.bare,Un.kept I,⟨_,x.toInCall.ns,λi y v C j O=>?_⟩,λy c h=>⟨_,x.cell y c h⟩,l.hok.fresh (qaw _),λy c h=>?_,λp o=>absurd (show p∈([]) from o) (by simp),l.hok.kept I,?_⟩
 ·exact name_of_addr x.apart (qbm C) (qbm j)
 ·rcases t with t|t
  ·exact uc t
  ·exact absurd U (S.nofree _ (qbm t))
 ·exact qdO (x.above y c (qbm h))
 ·have hi:i<vs.length:=by
   unfold mF at j;by_cases hi:i<vs.length
   ·exact hi
   ·rw[qbn (by simpa using hi)]at j
    rw[qcI]at j;split at j<;>cases j
  have M:vs[i]?=some v:=by
   unfold mF at j;rw[qaP (by simpa using hi),qbu]at j;cases e:vs[i]? with
   |none=>rw[e]at j;cases j
   |some a=>rw[e]at j;cases j;rfl
  obtain⟨u,F,J⟩:=r.get M;have o:ps[i]?=some y:=by
   rw[<-S.pre,qe1 (by lia)];exact C
  have n:ps.Nodup:=by rw[<-S.pre];exact S.nd.sublist (List.take_sublist _ _)
  refine⟨u,J,?_⟩;rcases S.par y (qcr o) with k|k
  ·exact .inl ⟨k,qL n o F k⟩
  ·obtain⟨c,e⟩:=uc k
   refine .inr ⟨.inl k,c,e,?_⟩;have q:=x.cell y c e;rw[qJ n o F (by show d.names.lookup y≠_;rw[k];decide)]at q;exact q
 ·exact l.hok.fresh (qdO (x.above y c (qbm h)))
 ·unfold mF
  show _=N.length;rw[qai,qan,qcn];lia
theorem BX {CX:CXT}{P:qaH}{w:World}{K:qad}{mg:Str->Option Value}{base:Heap}{k:Nat}{f:Addr}{i c:Str}{d:Arguments}{body:List Stmt}{a:Scope}{I kV m G g ct M:Value}{F T:Option Addr}
  {C:Array (Option Value)}{N ps:List Str}{sp:Sp} (R:K.lookup f=some ⟨M,T,.func (qaF i c d body a I kV m G F g ct),C⟩) (D:qaC K g c=true) (S:aZ N ps a)
  (len:∀ vs H Q E,sp vs H Q E->vs.length=ps.length)
  (j:∀ (A:qaS) (outer:List Env) (s:qag) (H:Hp) (vs:List V) (Q:VK) (E:XK),ez k (A.deeper (qds c a s.heap.objs.size f g))->sp vs H Q E->
    ∃ t,PSs (lU CX P w K mg base N c a f g A outer s H E) body t/\t { nx:=λ_ H'=>Q .non H',rt:=Q } (mF N vs) H) :
  bv P w K mg base CX (k+1) f (qaF i c d body a I kV m G F g ct) ps sp:=by
 refine⟨len,λA outer s H args us vs Q E B y hb r p=>?_⟩;have KX:=y.mod.kin.keeps λb o e=>(y.bs b o e).1;refine codeAny_call_function B.depth (KX _ _ R) U S.co S.gen U (PySem.W.codeRec_of KX D) (hb _ _ _ _ ?_)
 refine wpAny_newFunctionEnv_cells S.kind (λ⟨n,v⟩ W=>by
  rcases S.par n (qeA W).1 with q|q
  ·exact .inl q
  ·exact .inr ⟨q,qcF _ _ _ (.inl q)⟩) λenv Y X x=>?_
 subst Y;refine⟨(y.mod.nolimit.keeps λb o e=>(y.bs b o e).1).keeps x.toInCall.keep,codeAny_func ?_⟩;obtain⟨t,L,O⟩:=j A outer s H vs Q E (B.deeper _) p;refine qbc (L [] X _ H _ (xK S B.hd y (len _ _ _ _ p) r x) O) (λfl s' l=>?_) λe s' l=>l;have fin:∀ {h:St}{H':Hp}{v:V}{u:Value},Inv (lU CX P w K mg base N c a f g A outer s H E) [] h H' s'->bI v u->Q v H'->CE outer P w H s Q u s':=
  λ{h H' v u} J z q=>⟨v,H',J.os,J.bare,J.base,J.hok,z,q⟩
 cases fl with
 |ret u=>
  obtain⟨v,h,H',J,z,q⟩:=l;exact fin J z q
 |next=>
  obtain⟨h,H',J,q⟩:=l;exact fin (v:=V.non) J U q
 |brk=>
  obtain⟨_,_,_,q⟩:=l;exact qbp q
 |cont=>
  obtain⟨_,_,_,q⟩:=l;exact qbp q
section
variable {X:Cx}{x:Str}{p pos:Pos}{e:Expr}{b:List Expr}{t:TA}{id T:String}{r:List V->Hp->VK->Prop}
def tCB (r:List V->Hp->VK->Prop) (t:TA):TE:=λd H Q=>t d H λvs H1=>r vs H1 Q
theorem zv (n:gK X (.builtin id) r) (q:Gl X x) (hm:X.mg x=none) (l:qb6 x=some (.builtin id)) (m:PA X (e::b) t) (hn:x≠"__name__":=by decide) (f:(x==("__debug__" : Str))=false:=by decide)
  (k:qbE (e::b) X.env=(false,eval e X.env)::qbE b X.env:=by rfl) (c:(qd7 pos (qbE b X.env)).any (·.1)=false:=by rfl):PE X (.Call (.Name x p) (e::b) [] pos) (tCB r t):=by
 intro a s d H Q I h;refine qev (mS I q hm l ?_ hn f);exact qhz (thn (m pos a s d H _ I h) λi g ⟨vs,H1,I1,j,o⟩=>n a g d H1 vs i Q I1 j o) k c
theorem ng (n:gK X (.type T) r) (q:Gl X x) (hm:X.mg x=none) (l:qb6 x=some (.type T)) (m:PA X (e::b) t) (hn:x≠"__name__":=by decide) (f:(x==("__debug__" : Str))=false:=by decide)
  (k:qbE (e::b) X.env=(false,eval e X.env)::qbE b X.env:=by rfl) (c:(qd7 pos (qbE b X.env)).any (·.1)=false:=by rfl):PE X (.Call (.Name x p) (e::b) [] pos) (tCB r t):=by
 intro a s d H Q I h;refine qev (mS I q hm l ?_ hn f);exact qcb (thn (m pos a s d H _ I h) λi g ⟨vs,H1,I1,j,o⟩=>n a g d H1 vs i Q I1 j o) k c
end
end L2
namespace HT
open PySem PyProof.Rows
theorem yz (A:qaS) (s:qag) (a:Int) (t:Tok) (c:Int) (u:Tok):∃ e,qcV A s (.int a t) (.int c u) e/\(e=true↔a=c):=
 ⟨_,qeZ a t c u,by simp⟩
section
open PySem.SeqAt
open PySem.AutoSeq1 (wpAny_loadPart')
open PySem.MeetsSeq PySem.MeetsSeq2 PySem.MeetsSeq3
end
section
variable {prog:qaH}{w:World}{A:qaS}{E:Value->qag->Prop}{s:qag}
theorem cat_tup {t b:Addr}{vs ws:List Value}{Q:Value->qag->Prop} (u:IsTup s.heap t vs.toArray) (X:IsTup s.heap b ws.toArray) (D:vs≠[])
  (W:ws=[]->Q (.ref t) s) (S:ws≠[]->Q (.ref s.heap.objs.size) { s with heap:=s.heap.push { cls:=.type "tuple",data:=.seq (vs++ws).toArray } })
  (F:vs.length+ws.length<=qaK):wpAny (model prog w) A (qbF .Add (.ref t) (.ref b)) Q E s:=by
 obtain⟨⟨cls,dd,data,l⟩,J,T,n,hd⟩:=id u;obtain⟨⟨P,C,data2,H⟩,f,K,R,N⟩:=id X;subst T hd K N;have e:vs.toArray++ws.toArray=(vs++ws).toArray:=by simp
 by_cases hw:ws=[]
 ·exact qfV ⟨_,J,U⟩ ⟨_,f,U⟩ qeW qfy qdp qdl (qc9 _ _)
   (tuple_addW1 t b vs.toArray ws.toArray n R dd C l H (by simpa using D) (by simp[hw])) ⟨J,f,W hw⟩
 ·refine qfV ⟨_,J,U⟩ ⟨_,f,U⟩ qeW qfy qdp qdl (qc9 _ _)
   (tuple_addW2 t b vs.toArray ws.toArray n R dd C l H (by simpa using D) (by simpa using hw) (by exact F)) ⟨J,f,?_⟩
  rw[e];exact S hw
def sIx (n d:Nat):Option Int->Nat
 |none=>d
 |some v=>if v<0 then (v+(n:Int)).toNat else min v.toNat n
theorem sIx_none (n d:Nat):sIx n d none=d:=rfl
theorem sIx_nat (n d k:Nat):sIx n d (some (k:Int))=min k n:=by
 show (if (k)<0 then ((k)+(n:Int)).toNat else min (k:Int).toNat n)=min k n;rw[iFN (by lia),qdq]
theorem vS (n d:Nat) (hd:d<=n) (o:Option Int):sIx n d o<=n:=by
 cases o with
 |none=>exact hd
 |some v=>
  show (if v<0 then (v+_).toNat else min v.toNat n)<=n;by_cases D:v<0
  ·lia
  ·rw[iFN D];exact Nat.min_le_right _ _
theorem wq (v:Int) (n d:Nat):(if v<0 then max (v+(n:Int)) 0 else min v (n:Int))=((sIx n d (some v):Nat):Int):=by
 show _=(((if v<0 then (v+_).toNat else min v.toNat n):Nat):Int);by_cases D:v<0
 ·lia
 ·lia
theorem vd (lo hi:Option Int) (n:Nat):qea lo hi 1 (n:Int)=(((sIx n 0 lo:Nat):Int),((sIx n n hi:Nat):Int)):=by
 refine Prod.ext ?_ ?_
 ·cases lo with
  |none=>rfl
  |some v=>exact wq v n 0
 ·cases hi with
  |none=>rfl
  |some v=>exact wq v n n
theorem vM (i j:Nat):qcj (i:Int) (j:Int) 1=j - i:=by
 unfold qcj;split<;>lia
theorem qc {v:Value}{o:Option Int}{Q:Option Int->qag->Prop} (p:qeQ v o) (h:Q o s):wpAny (model prog w) A (qgQ v) Q E s:=by
 cases p with
 |none=>exact qhW h
 |int i t=>exact slicePart_int h
theorem jq {l:Addr}{B z:Value}{lo hi:Option Int}{n:Nat}{Q:Int×Int×Nat->qag->Prop} (I:s.heap.IsSliceOf l B z .none) (L:qeQ B lo) (M:qeQ z hi)
  (h:Q (((sIx n 0 lo:Nat):Int),1,sIx n n hi - sIx n 0 lo) s):wpAny (model prog w) A (qgR (.ref l) (pure (n:Int))) Q E s:=by
 obtain⟨os,c,G,g⟩:=id I;refine qam (qam (qb9 c g (x:=B) U (qam (qb9 c g (x:=z) U (qam (qb9 c g U (qa4 ?_)))))));refine qam (qhW ?_);refine qam (qc L (qam (qc M (qam (qa4 ?_)))));show wpAny _ _ (match qea lo hi 1 _ with|(lo,hi)=>pure (lo,_,qcj lo hi 1)) _ _ s
 rw[vd lo hi n];show wpAny _ _ (pure (_,_,qcj _ _ 1)) _ _ s;rw[vM];exact qa4 h
theorem zC (y:Array Value) (i k:Nat):((qcC k).filterMap λ(m:Nat)=>y[((i:Int)+(m:Int)*1).toNat]?).toArray=((y.toList.drop i).take k).toArray:=by
 have e:(λ(m:Nat)=>y[((i)+(m:Int)*1).toNat]?)=λm=>y[i+m]?:=by
  funext m
  have:((i)+(m:Int)*1).toNat=i+m:=by lia
  rw[this]
 rw[e]
 have:=pick_run y i k
 rw[List.filterMap_map]at this;have V:(_ ∘ λx=>i+x)=λm=>y[i+m]?:=rfl;rw[V]at this;rw[this]
theorem getItem_tuple_cut {t l:Addr}{a:Array Value}{B z:Value}{lo hi:Option Int}{Q:Value->qag->Prop} (u:IsTup s.heap t a) (I:s.heap.IsSliceOf l B z .none) (L:qeQ B lo) (M:qeQ z hi)
  (hw:¬ (sIx a.size 0 lo=0/\sIx a.size a.size hi=a.size))
  (h:Q (.ref s.heap.objs.size) { s with heap:=s.heap.push { cls:=.type "tuple",data:=.seq ((a.toList.drop (sIx a.size 0 lo)).take (sIx a.size a.size hi - sIx a.size 0 lo)).toArray } })
  (F:a.size<=qaK):wpAny (model prog w) A (qd5 (.ref t) (.ref l)) Q E s:=by
 have r:=by
  show ((a.toList.drop (sIx a.size 0 lo)).take (sIx a.size a.size hi - sIx a.size 0 lo)).toArray.size<=qaK;rw[qaG,qcg,qbC,qbS];lia
 obtain⟨os,c,G,g⟩:=id I;unfold qd5
 try with_reducible refine qc7 ?_
 refine qam (qgA u.typeIs (by decide) ?_)
 refine qam (qcP u.typeIs qbr
  (qdP qbr u.typeIs qgi ?_ (qgr _ _)))
 show wpAny _ _ (qd1 _ >>= _) _ _ s;refine qam (tupleItemsOf_ u ?_);refine qam (qfR ⟨os,c,G⟩ ?_);refine qam (jq I L M ?_);have O:¬ ((((sIx a.size 0 lo):Int)==0&&(1:Int)==1&&(sIx a.size a.size hi - sIx a.size 0 lo)==a.size)=true):=by
  intro q;exact hw ⟨by lia,by lia⟩
 show wpAny _ _ (if _=true then _ else _) _ _ s;rw[iFN O,zC]
 first
  |exact qam (qcv (qa4 ⟨_,rfl,qa4 h⟩) r)
  |exact qam _
  |exact qam _
  |exact qam _
end
end HT
namespace L2
open PySem PySem.Spec PyProof.Rows
abbrev TO:=St->Hp->(Option Int->Hp->Prop)->Prop
def PO (X:Cx) (e:Option Expr) (t:TO):Prop:=
 ∀ (a:List (Addr×Obj)) (s:qag) (b:St) (H:Hp) (Q:Option Int->Hp->Prop),Inv X a b H s->t b H Q->
  wpAny (model X.prog X.w) X.A (evalPart e X.env) (λu s'=>∃ o H',Inv X a b H' s'/\qeQ u o/\Q o H') X.xe s
def BN:TO:=λ_ H Q=>Q none H
def FN (t:TE):TO:=λa H Q=>t a H λx H1=>∃ i,x=.int i/\Q (some i) H1
theorem pj {ns:List Int}:∀ {a:List Value},bn (ns.map V.int) a->qc5 a ns:=by
 induction ns with
 |nil=>intro a r;cases r;exact .nil
 |cons n ns c=>
  intro a r;cases r with
  |cons d b=>
   obtain⟨t,e⟩:=d;subst e;exact .cons n t (c b)
section
variable {X:Cx}{e:Expr}{te:TE}{lo hi:Option Expr}{tl E:TO}{pos M:Pos}
theorem Bs:PO X none BN:=by
 intro c s f H Q I h;exact qa4 ⟨none,H,I,.none,h⟩
theorem Bt (h:PE X e te):PO X (some e) (FN te):=by
 intro c s f H Q I hw;refine thn (h c s f H _ I hw) λu W ⟨x,H1,I1,j,B⟩=>?_;obtain⟨i,rfl,q⟩:=B;obtain⟨t,rfl⟩:=j;exact⟨_,H1,I1,.int i t,q⟩
def SlR (X:Cx) (r:V->Option Int->Option Int->Hp->VK->Prop):Prop:=
 ∀ (c:List (Addr×Obj)) (s:qag) (f:St) (H:Hp) (x:V) (v n k:Value) (lo hi:Option Int) (F:Addr) (Q:VK),Inv X c f H s->bI x v->s.heap.IsSliceOf F n k .none->qeQ n lo->qeQ k hi->r x lo hi H Q->
  ∃ T id,typeLookup (.type T) "__getitem__" = pure (some (.builtin id))/\s.TypeIs v T/\wpAny (model X.prog X.w) X.A (qd5 v (.ref F)) (EP X c f Q) X.xe s
def tSl (r:V->Option Int->Option Int->Hp->VK->Prop) (te:TE) (tl E:TO):TE:=λf H Q=>te f H λx H1=>tl f H1 λl H2=>E f H2 λu H3=>r x l u H3 Q
theorem pS {r:V->Option Int->Option Int->Hp->VK->Prop} (hr:SlR X r) (he:PE X e te) (hl:PO X lo tl) (hu:PO X hi E):PE X (.Subscript e (.Slice lo hi none M) pos) (tSl r te tl E):=by
 intro c s f H Q I h;refine qgH (thn (he c s f H _ I h) λv W ⟨x,H1,I1,j,B⟩=>?_);refine wpAny_Slice (thn (hl c W f H1 _ I1 B) λn s2 ⟨l,H2,I2,J,P⟩=>thn (hu c s2 f H2 _ I2 P) λk N ⟨u,H3,I3,L,q3⟩=>?_);refine qa4 ?_;obtain⟨T,id,hT,C,hg⟩:=hr c { N with heap:=N.heap.push { cls:=.type "slice",data:=.fields #[n,k,.none] } } f H3 x v n k l u N.heap.objs.size Q (I3.kept λb ob q=>qaj _ q) j (qgv ..) J L q3
 exact tail_any C hT hg (by with_unfolding_all rfl)
def vf (d:List V) (lo hi:Option Int):List V:=(d.drop (HT.sIx d.length 0 lo)).take (HT.sIx d.length d.length hi - HT.sIx d.length 0 lo)
theorem nu (d:List V) (lo hi:Option Int):(vf d lo hi).length<=d.length:=by
 unfold vf;rw[qcg,qbC];lia
def GC (K:qad):V->Option Int->Option Int->Hp->VK->Prop:=λx lo hi H Q=>∃ a d,x=.ref a/\SqT K H a d/\
 ¬ (HT.sIx d.length 0 lo=0/\HT.sIx d.length d.length hi=d.length)/\∀ p,H p=none->Q (.ref p) (upd H p (.tup (vf d lo hi)))
theorem D8:SlR X (GC X.K):=by
 intro c s f H x v n k lo hi F Q I O Y J L h;obtain⟨a,d,rfl,G,hw,q⟩:=h;cases O;obtain⟨A,r,C,o⟩:=I.tuple G;have g:A.toArray.size=d.length:=by exact r.length.symm
 refine⟨"tuple",_,qbr.lookup,C.typeIs,?_⟩
 refine HT.getItem_tuple_cut C Y J L (by rw[g];exact hw) ?_ (by rw[g];exact o);rw[g];refine⟨.ref s.heap.objs.size,_,I.laid (λb ob q=>qaj _ q) (qaw _) ?_,U,q _ (I.hok.fresh (qaw _))⟩;exact⟨qaU (nu d lo hi) o,_,(r.drop _).take _,iY.new _ _⟩
def Fm (K:qad):R2:=λx y H Q=>∃ a b d m,x=.ref a/\y=.ref b/\SqT K H a d/\SqT K H b m/\d≠[]/\d.length+m.length<=qaK/\
 (m=[]->Q (.ref a) H)/\(m≠[]->∀ p,H p=none->Q (.ref p) (upd H p (.tup (d++m))))
theorem bn.nil_iff {d:List V}{R:List Value} (r:bn d R):R=[]↔d=[]:=by
 cases r with
 |nil=>simp
 |cons _ _=>simp
theorem Bi:OpR X (qbF .Add) (Fm X.K):=by
 intro c s f H x y v u Q I O ry h;obtain⟨a,b,d,m,rfl,rfl,ha,hb,G,o,B,P⟩:=h;cases O;cases ry;obtain⟨A,j,p1,_⟩:=I.tuple ha;obtain⟨S,D,M,_⟩:=I.tuple hb;refine HT.cat_tup p1 M (λz=>G (j.nil_iff.mp z)) (λz=>⟨.ref a,H,I,U,B (D.nil_iff.mp z)⟩) (λz=>?_) (by rw[<-j.length,<-D.length];exact o);refine⟨.ref s.heap.objs.size,_,I.laid (λb ob q=>qaj _ q) (qaw _) ?_,U,P (λw=>z (D.nil_iff.mpr w)) _ (I.hok.fresh (qaw _))⟩;exact⟨by rw[qai];exact o,_,j.append D,iY.new _ _⟩
end
def ixN (n:Nat) (i:Int):Option Nat:=if 0<=i then (if i<n then some i.toNat else none) else if -(n:Int)<=i then some (i+n).toNat else none
def atI {α:Type} (a:List α) (i:Int):Option α:=(ixN a.length i).bind λj=>a[j]?
theorem wH {n:Nat}{i:Int}{j:Nat} (h:ixN n i=some j):seqIndex? i n=some j/\j<n/\-(n:Int)<=i/\i<n:=by
 unfold ixN at h;by_cases b:0<=i
 ·rw[iFP b]at h
  by_cases a:i<n
  ·rw[iFP a]at h
   exact⟨by rw[qgh b a,(qa1 h)],by lia,by lia,a⟩
  ·rw[iFN a]at h;cases h
 ·rw[iFN b]at h
  by_cases a:-(n)<=i
  ·rw[iFP a]at h
   exact⟨by rw[qfU (by lia) a,(qa1 h)],by lia,a,by lia⟩
  ·rw[iFN a]at h;cases h
theorem rG {α:Type}{a:List α}{i:Int}{v:α} (h:atI a i=some v):∃ j,seqIndex? i a.length=some j/\a[j]?=some v/\j<a.length/\-(a.length:Int)<=i/\i<a.length:=by
 unfold atI at h;cases e:ixN a.length i with
 |none=>rw[e]at h;cases h
 |some j=>
  rw[e]at h;obtain⟨b,c,f,d⟩:=wH e;exact⟨j,b,h,c,f,d⟩
theorem lR {α:Type}{a:List α}{j:Nat}{v:α} (h:a[j]?=some v):atI a (j:Int)=some v:=by
 have b:=(qaA.mp h).1;have e:ixN a.length (j)=some j:=by
  unfold ixN;rw[iFP (by lia),iFP (by lia)];simp
 unfold atI;rw[e];exact h
theorem ub {α:Type} (a:List α) (v:α):atI (a++[v]) (-1)=some v:=by
 have b:(a++[v]).length=a.length+1:=by simp
 have e:ixN (a++[v]).length (-1)=some a.length:=by
  unfold ixN;rw[iFN (by decide),iFP (by lia)]
  congr 1
  lia
 unfold atI;rw[e]
 simp
def we (b:Expr):Prop:=∀ o i,qe7 b false o i=operate [o,i] (qd5 o i)
def IxR (X:Cx) (r:R2):Prop:=
 ∀ (c a:Expr) (b:List (Addr×Obj)) (s:qag) (d:St) (H:Hp) (x y:V) (v u:Value) (Q:VK),Inv X b d H s->bI x v->bI y u->r x y H Q->
  qe7 a false v u=operate [v,u] (qd5 v u)->wpAny (model X.prog X.w) X.A (subscriptTail c a v u) (EP X b d Q) X.xe s
def MtR (X:Cx) (id:String) (r:V->List V->Hp->VK->Prop):Prop:=
 ∀ (a:List (Addr×Obj)) (s:qag) (d:St) (H:Hp) (x:V) (c:List V) (v:Value) (b:List Value) (Q:VK),Inv X a d H s->bI x v->bn c b->r x c H Q->
  wpAny (model X.prog X.w) X.A (call (.builtin id) (v::b)) (EP X a d Q) X.xe s
section
variable {X:Cx}{a b:Expr}{ta tb:TE}{pos:Pos}
theorem IxR.or {r r':R2} (h:IxR X r) (h':IxR X r'):IxR X (λx y H Q=>r x y H Q\/r' x y H Q):=by
 intro G J g s D H x y v u Q I B M q R;rcases q with q|q
 ·exact h G J g s D H x y v u Q I B M q R
 ·exact h' G J g s D H x y v u Q I B M q R
theorem B9 {r:R2} (hr:IxR X r) (ha:PE X a ta) (hb:PE X b tb) (R:we b):PE X (.Subscript a b pos) (tOp r ta tb):=by
 intro g s D H Q I h;exact qgH (CB ha hb I h λv u s2 x y H2 I2 B M q=>hr a b g s2 D H2 x y v u Q I2 B M q (R _ _))
def Fo (K:qad):R2:=λx y H Q=>∃ p m i v,x=.ref p/\y=.int i/\SqL K H p m/\atI m i=some v/\Q v H
def Fq (K:qad):R2:=λx y H Q=>∃ p m i v,x=.ref p/\y=.int i/\SqT K H p m/\atI m i=some v/\Q v H
def Fp:R2:=λx y H Q=>∃ z i c,x=.str z/\y=.int i/\z.length<=qaK/\atI z.cps.toList i=some c/\Q (.str ⟨#[c]⟩) H
theorem wI:IxR X (Fo X.K):=by
 intro G J g s D H x y v u Q I B M h R;obtain⟨p,m,i,z,rfl,rfl,C,he,q⟩:=h;cases B;obtain⟨t,rfl⟩:=M;obtain⟨d,r,E,N⟩:=I.list C;obtain⟨j,O,h2,h3,h4,h5⟩:=rG he;obtain⟨w,ew,rw'⟩:=r.get h2;have hl:=r.length;have hn:=mT;have fin:EP X g D Q w s:=⟨z,H,I,rw',q⟩;by_cases h0:0<=i
 ·have hj:=by
   rw[qgh h0 h5]at O;exact qa1 O
  exact item_listR E.isList h0 (by lia) (by rw[hj];simpa using ew) fin R
 ·have hj:(i+(d.toArray.size)).toNat=j:=by
   rw[qfU (by lia) h4]at O;rw[qaG,<-hl];exact qa1 O
  exact qfJ E.isList.typeIs qgE.lookup
   (wpAny_getItem_list_neg E.isList (by lia) (by rw[qaG]<;>lia) (by lia) (by rw[hj];simpa using ew) ⟨U,fin⟩) R
theorem C7:IxR X (Fq X.K):=by
 intro G J g s D H x y v u Q I B M h R;obtain⟨p,m,i,z,rfl,rfl,C,he,q⟩:=h;cases B;obtain⟨t,rfl⟩:=M;obtain⟨d,r,E,N⟩:=I.tuple C;obtain⟨j,O,h2,h3,h4,h5⟩:=rG he;obtain⟨w,ew,rw'⟩:=r.get h2;have hn:=mT;exact qfJ E.typeIs slot_tuple_getitem.lookup
  (getItem_tuple E (by lia) (by lia) (by rw[qaG,<-r.length];exact O) (by simpa using ew) ⟨U,⟨z,H,I,rw',q⟩⟩) R
theorem C6:IxR X Fp:=by
 intro G J g s D H x y v u Q I B M h R;obtain⟨z,i,c,rfl,rfl,N,he,q⟩:=h;obtain⟨t,rfl⟩:=B;obtain⟨t',rfl⟩:=M;obtain⟨j,O,h2,h3,h4,h5⟩:=rG he;have hl:z.cps.toList.length=z.length:=by simp[qhZ]
 rw[hl]at O h4 h5;have hn:=mT
 exact tail_any (qdC s z t) slot_str_getitem.lookup (getItem_str (by
  rw[(decide_eq_false (by lia)),(decide_eq_false (by lia)),qb0]) (by rw[O];simpa using h2) ⟨.str _,H,I.tok _,⟨_,U⟩,q⟩) R
def rIx (K:qad):R2:=λx y H Q=>Fo K x y H Q\/Fq K x y H Q\/Fp x y H Q
theorem yV:IxR X (rIx X.K):=wI.or (C7.or C6)
theorem vB (d:List Value) (n j:Nat) (u:Value):qcR (·.setIfInBounds j u) { cls:=.type "list",data:=.seq d.toArray n }={ cls:=.type "list",data:=.seq (d.set j u).toArray n }:=by
 simp[qcR]
theorem Inv.lst {g:List (Addr×Obj)}{D:St}{H:Hp}{s:qag}{p:Addr}{m:List V} (I:Inv X g D H s) (h:H p=some (.lst m)) :
  ∃ (d:List Value) (n:Nat),bn m d/\s.heap.get? p=some { cls:=.type "list",data:=.seq d.toArray n }/\m.length<=qaK:=by
 obtain⟨z,d,n,r,e⟩:=I.hok p _ h;exact⟨d,n,r,e,z⟩
theorem Inv.lstUpd {g:List (Addr×Obj)}{D:St}{H:Hp}{s:qag}{p:Addr}{m P:List V}{d W:List Value}{n n':Nat}{f:Obj->Obj} (I:Inv X g D H s) (h:H p=some (.lst m))
  (ho:s.heap.get? p=some { cls:=.type "list",data:=.seq d.toArray n }) (hf:f { cls:=.type "list",data:=.seq d.toArray n }={ cls:=.type "list",data:=.seq W.toArray n' }) (r:bn P W) (N:P.length<=qaK) (t:Nat) :
  Inv X g D (upd H p (.lst P)) { s with heap:=s.heap.update p f,toks:=t }:=by
 have e:(s.heap.update p f).get? p=some { cls:=.type "list",data:=.seq W.toArray n' }:=by
  rw[qbY f ho (by rw[hf]<;>rfl),hf]
 refine I.write (by rw[h];trivial) (.inl U) (λb u hb q=>(qa7 _ _ (qb5 hb)).trans q) ⟨_,e⟩ ?_;exact⟨N,W,n',r,e⟩
def Fu:V->V->V->Hp->(Hp->Prop)->Prop:=λo i v H Q=>∃ p m k j,o=.ref p/\i=.int k/\H p=some (.lst m)/\ixN m.length k=some j/\Q (upd H p (.lst (m.set j v)))
theorem z7:Ep X Fu:=by
 intro g s D H o i v ov iv u Q I ro ri rv h;obtain⟨p,m,k,j,rfl,rfl,hp,hj,q⟩:=h;cases ro;obtain⟨t,rfl⟩:=ri;obtain⟨d,n,r,ho,N⟩:=I.lst hp;obtain⟨O,h2,h3,h4⟩:=wH hj;have hl:=r.length;have hn:=mT;have I':=
  I.lstUpd hp ho (vB d n j u) (r.set rv j) (by rw[qcm];exact N) s.toks
 by_cases h0:0<=k
 ·have hk:=by
   rw[qgh h0 h4]at O;exact qa1 O
  exact PySem.W.ki_setAt ho h0 (by lia) (by rw[qaG,<-hl];exact h4) (by rw[hk];exact⟨_,I',q⟩)
 ·have hk:(k+(d.toArray.size)).toNat=j:=by
   rw[qfU (by lia) h3]at O;rw[qaG,<-hl];exact qa1 O
  exact PySem.W.ki_setBack ho (by lia) (by rw[qaG,<-hl];exact h3) (by lia) (by rw[hk];exact⟨_,I',q⟩)
theorem tO (lo hi:Option Int) (n:Nat):(qdi lo hi none n).1=((HT.sIx n 0 lo:Nat):Int)/\(qdi lo hi none n).2.1=((HT.sIx n n hi:Nat):Int)/\(qdi lo hi none n).2.2=1:=by
 refine⟨?_,?_,U⟩
 ·cases lo with
  |none=>simp[qdi,HT.sIx]
  |some i=>
   simp only[qdi,HT.sIx,qfD,show (1:Int) > 0 by decide,if_true];by_cases h:i<0
   ·simp only[h,if_true]<;>lia
   ·simp only[h,if_false]<;>lia
 ·cases hi with
  |none=>simp[qdi,HT.sIx]
  |some i=>
   simp only[qdi,HT.sIx,qfD,show (1:Int) > 0 by decide,if_true];by_cases h:i<0
   ·simp only[h,if_true]<;>lia
   ·simp only[h,if_false]<;>lia
theorem qG (d:List Value) (lo hi:Option Int):slicePick d.toArray lo hi none=((d.drop (HT.sIx d.length 0 lo)).take (HT.sIx d.length d.length hi - HT.sIx d.length 0 lo)).toArray:=by
 obtain⟨O,h2,h3⟩:=tO lo hi d.toArray.size;unfold slicePick;rw[O,h2,h3];simp only[qhV,pick_run,qaG]<;>rfl
def GA (K:qad):V->Option Int->Option Int->Hp->VK->Prop:=λx lo hi H Q=>∃ a m,x=.ref a/\SqL K H a m/\∀ p,H p=none->Q (.ref p) (upd H p (.lst (vf m lo hi)))
theorem BI:SlR X (GA X.K):=by
 intro g s D H x v vl vu lo hi sl Q I B R E pu h;obtain⟨a,m,rfl,hx,q⟩:=h;cases B;obtain⟨d,r,ht,N⟩:=I.list hx;have L:=r.length;refine⟨"list",_,qgE.lookup,ht.isList.typeIs,?_⟩
 refine wpAny_getItem_list_slice ht.isList R E pu .none (by simp) ?_ (by rw[qaG]<;>lia);rw[qG,<-L];refine⟨.ref s.heap.objs.size,_,I.laid (λb ob q=>qaj _ q) (qaw _) ?_,U,q _ (I.hok.fresh (qaw _))⟩;exact⟨qaU (nu m lo hi) N,_,0,(r.drop _).take _,qaV _ U⟩
def h9:V->Bool
 |.non=>true
 |.bl _=>true
 |.int _=>true
 |.str _=>true
 |_=>false
def eqV:V->V->Bool
 |.non,.non=>true
 |.bl a,.bl b=>a==b
 |.bl a,.int b=>(if a then 1 else 0)==b
 |.int a,.bl b=>a==(if b then 1 else 0)
 |.int a,.int b=>a==b
 |.str a,.str b=>a==b
 |_,_=>false
theorem yy {A:qaS}{s:qag}{y x:V}{u v:Value} (M:bI y u) (B:bI x v) (fy:h9 y=true) (Y:h9 x=true):qcV A s u v (eqV y x):=by
 cases y with
 |non=>
  cases M;cases x with
  |non=>cases B;exact qed _
  |bl b=>cases B;exact qiN b
  |int b=>obtain⟨t,rfl⟩:=B;exact qiM b t
  |str b=>obtain⟨t,rfl⟩:=B;exact qiK b t
  |_=>exact absurd (Y) qaR
 |bl a=>
  cases M;cases x with
  |non=>cases B;exact qiZ a
  |bl b=>cases B;exact qi2 a b
  |int b=>obtain⟨t,rfl⟩:=B;exact qi1 a b t
  |str b=>obtain⟨t,rfl⟩:=B;exact qiY a b t
  |_=>exact absurd (Y) qaR
 |int a=>
  obtain⟨t',rfl⟩:=M;cases x with
  |non=>cases B;exact qiU a t'
  |bl b=>cases B;exact qiW a t' b
  |int b=>obtain⟨t,rfl⟩:=B;exact qeZ a t' b t
  |str b=>obtain⟨t,rfl⟩:=B;exact qeY a t' b t
  |_=>exact absurd (Y) qaR
 |str a=>
  obtain⟨t',rfl⟩:=M;cases x with
  |non=>cases B;exact qiG a t'
  |bl b=>cases B;exact qiI a t' b
  |int b=>obtain⟨t,rfl⟩:=B;exact qeX a t' b t
  |str b=>obtain⟨t,rfl⟩:=B;exact qiF a t' b t
  |_=>exact absurd (Y) qaR
 |_=>exact absurd (fy) qaR
def eqU (x:V) (u:Value):Bool:=match u with
 |.none=>eqV .non x
 |.bool b=>eqV (.bl b) x
 |.int i _=>eqV (.int i) x
 |.str z _=>eqV (.str z) x
 |_=>false
theorem yB {x y:V}{u:Value} (r:bI y u) (f:h9 y=true):eqU x u=eqV y x:=by
 cases y with
 |non=>cases r;rfl
 |bl b=>cases r;rfl
 |int i=>obtain⟨t,rfl⟩:=r;rfl
 |str z=>obtain⟨t,rfl⟩:=r;rfl
 |_=>exact absurd (f) qaR
theorem lQ {x:V}:∀ {m:List V}{us:List Value},bn m us->m.all h9=true->us.any (eqU x)=m.any λy=>eqV y x
 |_,_,.nil,_=>rfl
 |y::m,u::us,.cons r t,f=>by
  rw[qaQ,qao]at f;rw[qcp,qcp,yB r f.1,lQ t f.2]
theorem ky {A:qaS}{s:qag}{x:V}{v:Value} (B:bI x v) (Y:h9 x=true):∀ {m:List V}{us:List Value},bn m us->m.all h9=true->∀ u∈us,qcV A s u v (eqU x u)
 |_,_,.nil,_=>λu hu=>by cases hu
 |y::m,u::us,.cons r t,f=>λu' hu=>by
  rw[qaQ,qao]at f;rcases qat.mp hu with rfl|hu
  ·rw[yB r f.1];exact yy r B f.1 Y
  ·exact ky B Y t f.2 u' hu
def inV (x:V) (m:List V):Bool:=m.any λy=>eqV y x
def rIn (K:qad) (neg:Bool):R2:=λx y H Q=>∃ p m,y=.ref p/\(SqL K H p m\/SqT K H p m)/\h9 x=true/\m.all h9=true/\Q (.bl (if neg then !inV x m else inV x m)) H
theorem qZ:OpR X (qa2 .In) (rIn X.K false):=by
 intro g s D H x y v u Q I B M h;obtain⟨p,m,rfl,C,Y,fs,q⟩:=h;cases M;rcases C with C|C
 ·obtain⟨d,r,E,N⟩:=I.list C
  refine SeqAt.in_listAt _ E.isList (λw hw=>ky B Y r fs w (by simpa using hw)) ⟨.bl _,H,I,U,?_⟩;rw[show d.toArray.any _=d.any (eqU x) by simp,lQ r fs];exact q
 ·obtain⟨d,r,E,N⟩:=I.tuple C
  refine SeqAt.in_tupleAt _ E (λw hw=>ky B Y r fs w (by simpa using hw)) ⟨.bl _,H,I,U,?_⟩;rw[show d.toArray.any _=d.any (eqU x) by simp,lQ r fs];exact q
theorem mq:OpR X (qa2 .NotIn) (rIn X.K true):=by
 intro g s D H x y v u Q I B M h;obtain⟨p,m,rfl,C,Y,fs,q⟩:=h;cases M;rcases C with C|C
 ·obtain⟨d,r,E,N⟩:=I.list C
  refine SeqAt.notIn_listAt _ E.isList (λw hw=>ky B Y r fs w (by simpa using hw)) ⟨.bl _,H,I,U,?_⟩;rw[show d.toArray.any _=d.any (eqU x) by simp,lQ r fs];exact q
 ·obtain⟨d,r,E,N⟩:=I.tuple C
  refine SeqAt.notIn_tupleAt _ E (λw hw=>ky B Y r fs w (by simpa using hw)) ⟨.bl _,H,I,U,?_⟩;rw[show d.toArray.any _=d.any (eqU x) by simp,lQ r fs];exact q
theorem rQ:gK X (.builtin "len") (λm H Q=>∃ p P,m=[.ref p]/\(SqL X.K H p P\/SqT X.K H p P)/\Q (.int P.length) H):=by
 intro g s D H m us Q I r h;obtain⟨p,P,rfl,C,q⟩:=h;obtain⟨u,rfl,B⟩:=mG r;cases B;have hn:=mT;rcases C with C|C
 ·obtain⟨d,r',E,N⟩:=I.list C
  have L:=r'.length;exact Calls.call_len_list E.isList (by simp only[qaG]<;>lia) ⟨.int P.length,H,I.tok _,⟨_,by rw[qaG,L]⟩,q⟩
 ·obtain⟨d,r',E,N⟩:=I.tuple C
  have L:=r'.length;exact len_tuple E (by simp only[qaG]<;>lia) ⟨.int P.length,H,I.tok _,⟨_,by rw[qaG,L]⟩,q⟩
theorem rR:gK X (.builtin "len") (λm H Q=>∃ z,m=[.str z]/\z.length<=qaK/\Q (.int z.length) H):=by
 intro g s D H m us Q I r h;obtain⟨z,rfl,N,q⟩:=h;obtain⟨u,rfl,t,rfl⟩:=mG r;have hn:=mT;exact len_str (by lia) ⟨.int z.length,H,I.tok _,⟨_,U⟩,q⟩
theorem qv:gK X (.type "tuple") (λm H Q=>∃ p P,m=[.ref p]/\((SqL X.K H p P/\∀ l,H l=none->Q (.ref l) (upd H l (.tup P)))\/(SqT X.K H p P/\Q (.ref p) H))):=by
 intro g s D H m us Q I r h;obtain⟨p,P,rfl,h⟩:=h;obtain⟨u,rfl,B⟩:=mG r;cases B;rcases h with⟨C,q⟩|⟨C,q⟩
 ·obtain⟨d,r',E,N⟩:=I.list C
  have L:=r'.length;refine call_tuple_list E.isList (λh' kp=>?_) (by simp only[qaG]<;>lia);have I1:=I.kept (t':=s.toks) kp;exact⟨.ref h'.objs.size,_,(I1.laid (λb o e=>qaj _ e) (qaw _) (show gm X.prog X.w _ _ _ (.tup P) from ⟨N,d,r',iY.new _ _⟩)),U,q _ (I1.hok.fresh (qaw _))⟩
 ·obtain⟨d,r',E,N⟩:=I.tuple C
  exact call_tuple_same E ⟨.ref p,H,I,U,q⟩
def tyV (K:qad) (T:String) (x:V) (H:Hp):Prop:=match x with
 |.str _=>T = "str"
 |.int _=>T = "int"
 |.ref p=>(T = "list"/\∃ m,SqL K H p m)\/(T = "tuple"/\((∃ o,K.lookup p=some o/\o.cls=.type "tuple"/\o.dict=none)\/∃ m,SqT K H p m))\/
   (T = "dict"/\((∃ kvs,H p=some (.dK kvs))\/∃ kvs,H p=some (.dT kvs)))\/(T = "set"/\∃ S n,H p=some (.set S n))
 |_=>False
theorem Eg {g:List (Addr×Obj)}{D:St}{H:Hp}{s:qag}{T:String}{x:V}{v:Value} (I:Inv X g D H s) (r:bI x v) (ty:tyV X.K T x H) :
  s.TypeIs v T/\∀ a,v=.ref a->∃ ob,s.heap.get? a=some ob/\ob.dict=none:=by
 cases x with
 |str z=>
  obtain⟨t,rfl⟩:=r;cases (ty);exact⟨qdC s z t,λ_ e=>nomatch e⟩
 |int i=>
  obtain⟨t,rfl⟩:=r;cases (ty);exact⟨qeF s i t,λ_ e=>nomatch e⟩
 |ref p=>
  cases r;rcases ty with⟨rfl,m,C⟩|⟨rfl,ht⟩|⟨rfl,hk⟩|⟨rfl,S,n,hk⟩
  ·obtain⟨d,_,E,_⟩:=I.list C
   refine⟨E.isList.typeIs,λa e=>?_⟩;cases e;obtain⟨o,n,e,c,hd,_⟩:=E;exact⟨o,e,hd⟩
  ·have z:∃ o:Obj,s.heap.get? p=some o/\o.cls=.type "tuple"/\o.dict=none:=by
    rcases ht with⟨o,hk,hc,hd⟩|⟨m,C⟩
    ·exact⟨o,I.kIn p o hk,hc,hd⟩
    ·exact I.tuple1 C
   obtain⟨o,e1,hc,hd⟩:=z;refine⟨⟨o,e1,hc⟩,λa e=>?_⟩;cases e;exact⟨o,e1,hd⟩
  ·have z:∃ o,s.heap.get? p=some o/\o.ExactDict:=by
    rcases hk with⟨kvs,hk⟩|⟨kvs,hk⟩
    ·obtain⟨_,_,_,_,o,_,_,e,ex,_⟩:=I.hok p _ hk
     exact⟨o,e,ex⟩
    ·obtain⟨_,_,_,_,o,_,_,e,ex,_⟩:=I.hok p _ hk
     exact⟨o,e,ex⟩
   obtain⟨o,e,ex⟩:=z;refine⟨⟨o,e,ex.1⟩,λa e2=>?_⟩;cases e2;exact⟨o,e,ex.2.1⟩
  ·obtain⟨o,_,_,_,e,ex,_⟩:=I.hok p _ hk
   refine⟨⟨o,e,ex.1⟩,λa e2=>?_⟩;cases e2;exact⟨o,e,ex.2.1⟩
 |_=>exact qbp ty
def tBM (K:qad) (T:String) (r:V->List V->Hp->VK->Prop) (to:TE) (t:TA):TE:=λD H Q=>to D H λx H1=>tyV K T x H1/\t D H1 λm H2=>r x m H2 Q
variable {o e:Expr}{es:List Expr}{to:TE}{t:TA}{name:Str}{apos F:Pos}{T id:String}{r:V->List V->Hp->VK->Prop}
theorem uL (pa:PlainAttrs T) (slot:Slot T name id) (hty:typeOf (.builtin id)=pure (.type "method_descriptor")) (hm:MtR X id r) (ho:PE X o to) (ha:PA X (e::es) t)
  (hbase:qcQ o name X.env (eval o X.env)=eval o X.env:=by rfl)
  (hfew:((qd7 F (qbE (e::es) X.env)).all (λx=>!x.1) && (qfA F (qel [] X.env)).all (λx=>x.1.isSome)
    && decide ((e::es).length+([]:List qfH).length+(if ([]:List qfH).isEmpty then 0 else 1)<30))=true:=by rfl)
  (hline:(apos.endLine==F.line)=true:=by rfl) (R:qbE (e::es) X.env=(false,eval e X.env)::qbE es X.env:=by rfl) (hplain:(qd7 F (qbE es X.env)).any (·.1)=false:=by rfl) :
  PE X (.Call (.Attribute o name apos) (e::es) [] F) (tBM X.K T r to t):=by
 intro g s D H Q I h;refine wpAny_Call_method_late hbase hfew hline U (thn (ho g s D H _ I h) λv s1 ⟨x,H1,I1,r1,ty,q1⟩=>?_);obtain⟨O,h2⟩:=Eg I1 r1 ty;refine⟨T,id,pa,slot,hty,O,h2,?_⟩;have hA:=ha F g s1 D H1 _ I1 q1;rw[R]at hA ⊢;refine Calls.callWith_builtin (by show (false||(qd7 F _).any _)=false;rw[hplain]<;>rfl) (qfg ?_);exact thn hA λus s2 ⟨vs,H2,I2,r2,q2⟩=>hm g s2 D H2 x vs v us Q I2 r1 r2 q2
end
def MtM (X:Cx) (id:String) (r:V->List V->Hp->VK->Prop):Prop:=
 ∀ (a:List (Addr×Obj)) (s:qag) (d:St) (H:Hp) (x:V) (c:List V) (v:Value) (b:List Value) (Q:VK),Inv X a d H s->bI x v->bn c b->r x c H Q->
  wpAny (model X.prog X.w) X.A (call (.builtin id) (v::b)) (EP X a d Q) X.xe s
theorem bn.one {x:V}{a:List Value} (h:bn [x] a):∃ u,a=[u]/\bI x u:=by
 cases h with
 |cons r t=>cases t;exact⟨_,U,r⟩
theorem bn.two {x y:V}{a:List Value} (h:bn [x,y] a):∃ u v,a=[u,v]/\bI x u/\bI y v:=by
 cases h with
 |cons r t=>cases t with
  |cons q b=>cases b;exact⟨_,_,U,r,q⟩
theorem bn.rep {b:List V}{a:List Value} (h:bn b a):∀ k:Nat,bn (qax k b).flatten (qax k a).flatten
 |0=>.nil
 |k+1=>by
  exact bn.append h (bn.rep h k)
theorem mM (b:List Value):∀ (k:Nat) (a:List Value),
  qfP (λc f=>c++f) a.toArray (qax k b.toArray)=(a++(qax k b).flatten).toArray
 |0,a=>by simp
 |k+1,a=>by
  have e:a.toArray++b.toArray=(a++b).toArray:=by simp
  have d:(a++b)++(qax k b).flatten=a++(qax (k+1) b).flatten:=by
   rw[qa9,qdn,qbK]
  rw[<-d,<-mM b k _,<-e,qa9,qge]
section
variable {X:Cx}{c:List (Addr×Obj)}{i:St}{H:Hp}{s:qag}{l b:Addr}{j g x:List V}
theorem Inv.lset {a d:List Value}{n:Nat}{f:Array Value->Array Value}{t':Nat} (I:Inv X c i H s) (m:H l=some (.lst j))
  (e:s.heap.get? l=some { cls:=.type "list",data:=.seq a.toArray n }) (v:f a.toArray=d.toArray) (k:bn g d) (o:g.length<=qaK) :
  Inv X c i (upd H l (.lst g)) { s with heap:=s.heap.update l (qcR f),toks:=t' }:=by
 have q:=qde e f;rw[v]at q;refine I.write (by rw[m];exact trivial) (.inl U) (λw u t p=>(qa7 s.heap _ (qb5 t)).trans p) ⟨_,q⟩ ?_;exact⟨o,d,_,k,q⟩
theorem Inv.lnew {a:List Value}{t':Nat} (I:Inv X c i H s) (k:bn g a) (o:g.length<=qaK) :
  Inv X c i (upd H s.heap.objs.size (.lst g)) { s with heap:=s.heap.push { cls:=.type "list",data:=.seq a.toArray },toks:=t' }:=
 I.laid (λ_ _ q=>qaj _ q) (qaw _) ⟨o,a,0,k,qaV _ U⟩
theorem Inv.fresh (I:Inv X c i H s):H s.heap.objs.size=none:=I.hok.fresh (qaw _)
theorem Inv.lstM (I:Inv X c i H s) (m:H l=some (.lst j)):j.length<=qaK/\∃ (a:List Value) (n:Nat),bn j a/\j.length=a.length/\s.heap.get? l=some { cls:=.type "list",data:=.seq a.toArray n }:=by
 obtain⟨z,a,n,r,e⟩:=I.hok l _ m;exact⟨z,a,n,r,r.length,e⟩
theorem zd {n:Nat} (h:n<=qaK):qei n=false:=by
 exact decide_eq_false (by lia)
end
section
variable {X:Cx}
def BC:V->List V->Hp->VK->Prop:=λx vs H Q=>∃ l a y,x=.ref l/\vs=[y]/\H l=some (.lst a)/\a.length<qaK/\Q .non (upd H l (.lst (a++[y])))
theorem xQ:MtM X "list.append" BC:=by
 intro c s p H x vs v o Q I j f h;obtain⟨l,a,y,rfl,rfl,d,t,q⟩:=h;cases j;obtain⟨u,rfl,g⟩:=f.one;obtain⟨z,b,n,r,m,e⟩:=I.lstM d;refine qcl qdo ⟨_,e,U⟩ qdd (qc2 _ _) (qdk l b.toArray n u (by rw[qaG];lia)) ⟨e,?_⟩;refine⟨.non,_,I.lset d e (by simp) (r.append (.cons g .nil)) ?_,U,q⟩;rw[qai,qaY];lia
theorem sH {α:Type} (a:List α) (k:Nat):(qax k a).flatten.length=k*a.length:=by
 induction k with
 |zero=>simp
 |succ k i=>rw[qa9,qdn,qai,i,qer,qhE]
end
section
variable {prog:qaH}{w:World}{A:qaS}{E:Value->qag->Prop}{s:qag}
end
section
variable {X:Cx}
end
end L2
namespace Att
open PySem PySem.W PySem.Calls PyProof.Rows
theorem nX {P:Params}{h:Heap}:∀ (ns:List Int) (vs:List Value),WellAll P h vs (ns.map WData.int)->qc5 vs ns:=by
 intro ns
 induction ns with
 |nil=>
  intro vs w;cases w;exact .nil
 |cons n ns c=>
  intro vs w;cases w with
  |cons a b=>
   cases a;exact .cons _ _ (c _ b)
theorem x8 {l:OpenLaw}{n:Nat} (hn:l.most=some n) {P:Params}{h:Heap}{args:List WData}{c:List Value}
  (b:l.row.toRowW.claim.pre args=true) (i:WellAll P h c args) :
  ∃ a vs ns,c=[Value.ref a]/\args=[WData.list (ns.map WData.int)]/\h.get? a=some { cls:=.type "list",data:=.seq vs.toArray }/\qc5 vs ns/\ns.length<=n:=by
 obtain⟨d,r,rfl,k,m⟩:=hasAllW_cons ((pre_splitW b).1);obtain rfl:=hasAllW_nil m;obtain⟨s,rfl,p⟩:=hasW_list k;obtain⟨ns,rfl⟩:=items_int p;have e:ns.length<=n:=by
  have g:=by
   have g:=(holds_andW ((pre_splitW b).2)).1;rw[hn]at g;exact g
  have j:=condW_of g (w_not (w_lt w_lit (w_len_list (w_arg U))))
  first
   |(exact absurd j _)
   |(simp at j;lia)
 cases i with
 |cons o w2=>
  cases w2;cases o with
  |list q f=>exact⟨_,_,ns,U,U,q,nX ns _ f,e⟩
theorem xX (l:OpenLaw) (args:List WData):l.row.toRowW.claim.post args (.bool true) args=true:=
 postW_of
  (show qgG [] _ .bool=true by first|rfl|decide|simp[qgG,WShape.arms,WShape.armsAll])
  (w_eq_bool (w_res U) w_lit) U
theorem attach_call {l:OpenLaw}{n:Nat}{q:qaH}{c:List Str}{XP:(Str->Option Value)->Heap->Prop}{YP:World->Heap->Prop}{d:DefRec}
  (hn:l.most=some n) (s:d.params.defaults=[])
  (call:∀ (w:World) (s₀ b:qag) (mg p:Str->Option Value) (j:Addr) (o:Obj) (v m e:Value) (a:Addr) (vs:List Value) (ns:List Int),
    Ground q c [] XP w s₀ mg p b.heap->YP w b.heap->
    b.heap.get? j=some o->o.data=.func (docDef d.name d.params d.body d.scope v m e)->b.heap.CodeRec m d.name->mg d.name=some (.ref j)->
    b.heap.get? a=some { cls:=.type "list",data:=.seq vs.toArray }->qc5 vs ns->ns.length<=n->b.gens=#[]->
    qd6 (model l.prog w) qfz (.call (.ref j) ⟨[.ref a],[]⟩) (λr s'=>r=.ok (.ret (.bool true))/\OldK b.heap s'.heap/\s'.os=b.os/\qeb s'.gens) b) :
  WalkO q c XP YP l.row.toRowW d [] (λf vs=>qfC f vs):=by
 intro w s₀ b mg p G Y j o v m e K kV J hd x A u I args z as i y E t F;obtain rfl:K=.none:=Dflts.none A s;obtain rfl:kV=.none:=Dflts.noKw A;obtain⟨a,vs,ns,rfl,rfl,k,g,h⟩:=x8 hn i t;refine enter_call (qfW (call w s₀ b mg p j o v m e a vs ns G Y J (fd_plain hd) x u k g h I) λr s' D=>?_);obtain⟨rfl,B,C,H⟩:=D;exact⟨.inl ⟨_,_,_,U,λ_=>rfl,.bool true,xX l _,λ_=>⟨List.Pairwise.nil,λ_ hm=>(nomatch hm)⟩⟩,B,C,H⟩
section
variable {prog:qaH}{w:World}{A:qaS}{E:Value->qag->Prop}{s:qag}{K:Frag}
end
end Att
namespace L2
open PySem PySem.Spec PyProof.Rows
theorem rn:∀ {vs:List Value}{ns:List Int},qc5 vs ns->bn (ns.map V.int) vs
 |_,_,.nil=>.nil
 |_,_,.cons n t h=>.cons ⟨t,U⟩ (rn h)
def As (H:Hp):Prop:=∀ b,H b=none\/∃ o a,H b=some (.frz o (.lst a))
theorem yY {P:qaH}{w:World}{K:qad}{mg E:Str->Option Value}{CX:CXT}{k:Nat}{G a:Addr}{fd:qaZ}{x:Str}{sp:Sp}{c:qag}{vs:List Value}{ns:List Int}
  (KX:K.In c.heap) (y:c.heap.Ns qaq mg) (g:c.heap.Ns qfq E) (I:∀ x:Str,x≠"__name__"->E x=qb6 x) (t:c.heap.NoLimit) (X:c.gens=#[])
  (C:c.heap.get? a=some { cls:=.type "list",data:=.seq vs.toArray }) (hi:qc5 vs ns) (R:ns.length<=qaK) (hr:ez k qfz)
  (F:∀ base:Heap,K.In base->base.Ns qaq mg->bv P w K mg base CX k G fd [x] sp) (j:∀ (s:qag) (u:Value),qfI s fd ⟨[u],[]⟩ [(x,u)])
  (D:∀ H:Hp,As H->SqL K H a (ns.map V.int)->sp [.ref a] H (λv _=>v=.bl true) λ_ _ _=>False)
  (M:∀ H e s',CX [] H c (λ_ _ _=>False) e s'->False) :
  qd6 (model P w) qfz (.call (.ref G) ⟨[.ref a],[]⟩) (λr s'=>r=.ok (.ret (.bool true))/\OldK c.heap s'.heap/\s'.os=c.os/\qeb s'.gens) c:=by
 have O:=rn hi;have core:∀ H ,As H->SqL K H a (ns.map V.int)->HOk P w H c.heap->(∀ b,H b≠none->b=a)->(H a≠none->K.lookup a=none)->
   qd6 (model P w) qfz (.call (.ref G) ⟨[.ref a],[]⟩) (λr s'=>r=.ok (.ret (.bool true))/\OldK c.heap s'.heap/\s'.os=c.os/\qeb s'.gens) c:=by
  intro H S W hok Q Y;have f:∀ {b:Addr}{o:Obj},c.heap.get? b=some o->H b=none->(xD c.heap H).get? b=some o:=λe n=>yK e n;have L:∀ {b:Addr}{o:Obj}{B:Array qdF}{A:Nat},c.heap.get? b=some o->o.data=.dict B A->H b=none:=λ{b o B A} e d=>by
   cases q:H b with
   |none=>rfl
   |some u=>
    have J:=Q b (by rw[q];simp);subst J;rw[C]at e;cases e;cases d
  have i:∀ {b:Addr}{m:Str->Option Value},c.heap.Ns b m->(xD c.heap H).Ns b m:=λ{b m} ⟨o,B,A,e,d,r⟩=>⟨o,B,A,f e (L e d),d,r⟩
  have l:=λb o e=>f (KX b o e) (by
   cases q:H b with
   |none=>rfl
   |some u=>
    have J:=Q b (by rw[q];simp);subst J
    rw[Y (by rw[q];simp)]at e;cases e)
  refine qfW ((F _ l (i y)).run qfz [] c H ⟨[.ref a],[]⟩ [.ref a] [.ref a] _ _ hr ⟨U,⟨l,i y,⟨E,i g,I⟩,let ⟨mc,h1,h2⟩:=t;⟨mc,i h1,h2⟩⟩,λb o e=>Bf e,qcE (xE _ _),trivial,λb g=>absurd (show b∈([]) from g) (by simp),hok,.of_eq X⟩ (j c _) (.cons U .nil) (D H S W)) λr s' h=>?_;cases r with
  |error e=>exact (M H e s' h).elim
  |ok fl=>
   cases fl with
   |next=>exact qbp h
   |brk=>exact qbp h
   |cont=>exact qbp h
   |ret u=>
    obtain⟨v,H',os,bare,un,p,r',q⟩:=h;subst q;obtain rfl:u=Value.bool true:=r';refine⟨U,OldK.of_keep λb o e=>?_,os,bare⟩;cases q:H b with
    |none=>exact un.keep b o e q (by intro z;exact absurd (show b∈([]) from z) (by simp)) (by simp)
    |some u=>
     rcases S b with z|⟨ob,xs,z⟩
     ·rw[q]at z;cases z
     ·obtain⟨T,_⟩:=hok b _ z
      obtain⟨e2,_⟩:=p b _ (un.frzs b ob _ z);rw[e]at T;cases T;exact e2
 cases hk:K.lookup a with
 |some o=>
  -- the script is one of the module's own objects
  have e:=KX a o hk;rw[C]at e;cases e;refine core _ (λ_=>.inl U) (.inr ⟨_,vs.toArray,_,hk,U,U,U,by rw[qaG,hi.length];exact R,by simpa using O⟩) (λb u z=>by cases z) (λb z=>absurd U z) λz=>absurd U z
 |none=>
  refine core (λb=>if b=a then some _ else none) (λb=>?_) (.inl (.inr ⟨{ cls:=.type "list",data:=.seq vs.toArray },iFP U⟩)) (λb u z=>?_) (λb z=>?_) λ_=>hk
  ·by_cases g:b=a
   ·exact .inr ⟨_,_,iFP g⟩
   ·exact .inl (iFN g)
  ·by_cases g:b=a
   ·have N:=(iFP g).symm.trans z
    cases N;subst g;exact⟨C,by rw[qan];exact R,vs,_,O,C⟩
   ·have N:=(iFN g).symm.trans z
    cases N
  ·by_cases g:b=a
   ·exact g
   ·exact absurd (iFN g) z
theorem walk_of {l:qep}{n k:Nat}{q:qaH}{c:List Str}{XP:(Str->Option Value)->Heap->Prop}{YP:World->Heap->Prop}{d:DefRec}{K:Params->qad}{CX:World->CXT}{sp:World->Sp}{x:Str}
  (hn:l.most=some n) (p:n<=qaK) (t:d.params.defaults=[]) (I:ez k qfz)
  (D:∀ (w:World) (h:Heap),YP w h->(K w.params).In h)
  (F:∀ (w:World) (mg:Str->Option Value) (m:Addr) (h:Heap),(K w.params).In h->h.Ns qaq mg->mg d.name=some (.ref m)->
    ∃ fd:qaZ,(∀ (s:qag) (u:Value),qfI s fd ⟨[u],[]⟩ [(x,u)])/\
     ∀ base:Heap,(K w.params).In base->base.Ns qaq mg->bv l.prog w (K w.params) mg base (CX w) k m fd [x] (sp w))
  (r:∀ (w:World) (H:Hp) (a:Addr) (ns:List Int),ns.length<=n->As H->SqL (K w.params) H a (ns.map V.int)->sp w [.ref a] H (λv _=>v=.bl true) λ_ _ _=>False)
  (z:∀ (w:World) (H:Hp) (s:qag) (e:Value) (s':qag),CX w [] H s (λ_ _ _=>False) e s'->False) :
  qf0 q c XP YP l.row.toRowW d [] (λf vs=>qfC f vs):=by
 refine Att.attach_call hn t λw s₀ j mg O m o P N A a vs ns G Y Q hd L y i g b E=>?_;have KX:=D w _ Y;obtain⟨fd,J,C⟩:=F w mg m _ KX G.T.g y;exact yY KX G.T.g G.T.b G.T.builtins G.T.nolimit E i g (qaU b p) I C J (λH M B=>r w H a ns b M B) λH e s'=>z w H j e s'
def bb (s:Stmt):Arguments:=match s with
 |.FunctionDef _ a _ _ _ _ _ _ _ _=>a
 |_=>{ posonlyargs:=[],args:=[],vararg:=none,kwonlyargs:=[],kw_defaults:=[],kwarg:=none,defaults:=[] }
def aP (s:Stmt):List Stmt:=match s with
 |.FunctionDef _ _ b _ _ _ _ _ _ _=>b
 |_=>[]
def ak (s:Stmt):Scope:=match s with
 |.FunctionDef _ _ _ _ _ _ a _ _ _=>a
 |_=>{ kind:=.function,names:=[],isGenerator:=false,isCoroutine:=false }
abbrev CX0:CXT:=λ_ _ _ _ _ _=>False
abbrev E0:XK:=λ_ _ _=>False
theorem B7 {X:Cx}:ot CX0 X E0:=λ_ _ _ _ _ _ _ h=>h.elim
structure Fun (K:qad) (x qual:Str) (st:Stmt) (f:Addr) (fd:qaZ):Prop where
 ex:∃ (oc:Value) (od:Option Addr) (kV doc pm:Value) (an:Option Addr) (cdv ct:Value) (osl:Array (Option Value)),
  fd=qaF x qual (bb st) (aP st) (ak st) .none kV doc pm an cdv ct/\K.lookup f=some ⟨oc,od,.func fd,osl⟩/\qaC K cdv qual=true
 kp:qay K (.ref f)=true
section
variable {P:qaH}{w:World}{K:qad}{mg:Str->Option Value}{base:Heap}
theorem Fun.ok {x a:Str}{st:Stmt}{f:Addr}{fd:qaZ}{N ps:List Str}{k:Nat}{sp:Sp} (F:Fun K x a st f fd) (S:aZ N ps (ak st)) (len:∀ vs H Q E,sp vs H Q E->vs.length=ps.length)
  (j:∀ (b:Value) (A:qaS) (outer:List Env) (s:qag) (H:Hp) (vs:List V) (Q:VK) (E:XK),ez k (A.deeper (qds a (ak st) s.heap.objs.size f b))->sp vs H Q E->
    ∃ t,PSs (lU CX0 P w K mg base N a (ak st) f b A outer s H E).nox (aP st) t/\t { nx:=λ_ H'=>Q .non H',rt:=Q } (mF N vs) H):bv P w K mg base CX0 (k+1) f fd ps sp:=by
 obtain⟨o,n,kV,d,g,i,b,ct,e,rfl,u,m⟩:=F.ex;refine BX u m S len λA outer s H vs Q E v r=>?_;obtain⟨t,h,q⟩:=j b A outer s H vs Q E v r;exact⟨t,h.nox,q⟩
theorem Fun.binds {x a:Str}{st:Stmt}{f:Addr}{fd:qaZ}{ps:List Str} (F:Fun K x a st f fd)
  (h:∀ (kV d g:Value) (i:Option Addr) (b ct:Value) (p:List Value),p.length=ps.length->bindArgs (qaF x a (bb st) (aP st) (ak st) .none kV d g i b ct) ⟨p,[]⟩=pure (ps.zip p)):bP K fd ps []:=by
 obtain⟨o,n,kV,d,g,i,b,ct,e,rfl,u,m⟩:=F.ex;exact .all (h kV d g i b ct)
theorem bD {x a:Str}{st:Stmt}{f:Addr}{o:Value}{n i:Option Addr}{e:Array (Option Value)}{kV d g b ct:Value} (l:K.lookup f=some ⟨o,n,.func (qaF x a (bb st) (aP st) (ak st) .none kV d g i b ct),e⟩)
  (c:qaC K b a=true) (k:qay K (.ref f)=true):Fun K x a st f (qaF x a (bb st) (aP st) (ak st) .none kV d g i b ct):=⟨⟨o,n,kV,d,g,i,b,ct,e,U,l,c⟩,k⟩
end
theorem rf {n:Nat} (h:n<=1000):n<qaK:=Nat.lt_of_le_of_lt h (by decide)
section
variable {X:Cx}
end
theorem xM {A B:Prop} (h:B):if false=true then A else B:=by
 exact h
theorem vq {A B:Prop} (h:A):if true=true then A else B:=by
 exact h
def bU (H H':Hp):Prop:=∀ b o,H b=some o->H' b=some o
theorem bU.refl (H:Hp):bU H H:=λ_ _ h=>h
def eY (a:List (Str×Addr)):List (Str×qb7)->List (Str×Addr)->List (Str×Addr)
 |[],b=>b
 |(n,k)::r,b=>if k==.free then eY a r ((n,(a.lookup n).getD 0)::b) else eY a r b
theorem lC {env:Env} (f:Str×qb7->List (Str×Addr)->Sem (ForInStep (List (Str×Addr))))
  (g:∀ n k cs,f (n,k) cs=if k==.free then (do let c <-cellOf env n;pure (.yield ((n,c)::cs))) else pure (.yield cs)) :
  ∀ (names:List (Str×qb7)) (a:List (Str×Addr)),(∀ x∈names,x.2=.free->∃ c,env.cells.lookup x.1=some c)->
   forIn names a f=pure (eY env.cells names a)
 |[],a,_=>by rfl
 |(n,k)::r,a,h=>by
  rw[List.forIn_cons,g];unfold eY;by_cases d:(k==.free)=true
  ·obtain⟨c,i⟩:=h (n,k) qae (beq_iff_eq.mp d)
   have b:=i;rw[iFP d,iFP d]
   have:cellOf env n=pure c:=by unfold cellOf;rw[b]
   rw[this,b];exact lC f g r _ λx e=>h x (qah _ e)
  ·rw[iFN d,iFN d]
   exact lC f g r _ λx e=>h x (qah _ e)
theorem i5 {a:Scope}{env:Env} (h:∀ x∈a.names,x.2=.free->∃ c,env.cells.lookup x.1=some c) :
  closureFor a env=pure (eY env.cells a.names []):=by
 simp only[closureFor];rw[lC _ (λn k cs=>by cases hk:k==NameKind.free<;>simp[hk]) a.names [] h]
 simp
theorem iZ {a:List (Str×Addr)}:∀ (names:List (Str×qb7)) (b:List (Str×Addr)) {x:Str}{c:Addr},(eY a names b).lookup x=some c->
  b.lookup x=some c\/((x,NameKind.free)∈names/\c=(a.lookup x).getD 0)
 |[],_,_,_,h=>.inl h
 |(n,k)::r,b,x,c,h=>by
  unfold eY at h;by_cases d:(k==.free)=true
  ·rw[iFP d]at h
   rcases iZ r _ h with q|⟨f,g⟩
   ·rw[qbB]at q
    cases hx:x==n with
    |true=>
     rw[hx]at q;have e:=beq_iff_eq.mp hx;subst e;exact .inr ⟨by rw[<-beq_iff_eq.mp d];exact qae,(qa1 q).symm⟩
    |false=>rw[hx]at q;exact .inl q
   ·exact .inr ⟨qah _ f,g⟩
  ·rw[iFN d]at h
   rcases iZ r _ h with q|⟨f,g⟩
   ·exact .inl q
   ·exact .inr ⟨qah _ f,g⟩
theorem iR {b:List (Str×Addr)}{x:Str}:∀ (names:List (Str×qb7)) (a:List (Str×Addr)),((x,NameKind.free)∈names\/(a.lookup x).isSome=true)->((eY b names a).lookup x).isSome=true
 |[],_,h=>h.elim (λz=>nomatch z) id
 |(n,k)::r,a,h=>by
  unfold eY;by_cases c:(k==.free)=true
  ·rw[iFP c]
   refine iR r _ ?_;rcases h with h|h
   ·rcases qat.mp h with e|h
    ·cases e
     exact .inr (by rw[qbB,beq_self_eq_true];rfl)
    ·exact .inl h
   ·refine .inr ?_
    rw[qbB];cases x==n
    ·exact h
    ·rfl
  ·rw[iFN c]
   refine iR r _ ?_;rcases h with h|h
   ·rcases qat.mp h with e|h
    ·cases e;exact absurd U c
    ·exact .inl h
   ·exact .inr h
theorem gw:∀ (names:List (Str×qb7)) (n:Nat) (a:List (Str×Addr)) {x:Str}{c:Addr},(qbX n names a).lookup x=some c->a.lookup x=some c\/((x,NameKind.cell)∈names/\n<=c)
 |[],_,_,_,_,h=>.inl h
 |(m,k)::r,n,a,x,c,h=>by
  unfold qbX at h;by_cases b:(k==.cell)=true
  ·rw[iFP b]at h
   rcases gw r _ _ h with q|⟨d,f⟩
   ·rw[qbB]at q
    cases hx:x==m with
    |true=>
     rw[hx]at q;have e:=beq_iff_eq.mp hx;subst e;exact .inr ⟨by rw[<-beq_iff_eq.mp b];exact qae,by rw[qa1 q];exact qaw _⟩
    |false=>rw[hx]at q;exact .inl q
   ·exact .inr ⟨qah _ d,Nat.le_of_succ_le f⟩
  ·rw[iFN b]at h
   rcases gw r _ _ h with q|⟨d,f⟩
   ·exact .inl q
   ·exact .inr ⟨qah _ d,f⟩
theorem qw:∀ (names:List (Str×qb7)) (n:Nat) (a:List (Str×Addr)),(∀ p∈a,p.2<n)->∀ {x y:Str}{c:Addr},(qbX n names a).lookup x=some c->(qbX n names a).lookup y=some c->n<=c->x=y:=by
 have i:∀ (names:List _) (n:Nat) (a:List _) (lo:Nat),lo<=n->(∀ p∈a,p.2<n)->(∀ p∈a,∀ q∈a,lo<=p.2->p.2=q.2->p.1=q.1)->
   ∀ p∈qbX n names a,∀ q∈qbX n names a,lo<=p.2->p.2=q.2->p.1=q.1:=by
  intro names
  induction names with
  |nil=>intro n a lo _ _ h;exact h
  |cons z r j=>
   intro n a lo f b h;obtain⟨m,k⟩:=z;unfold qbX;by_cases s:(k==.cell)=true
   ·rw[iFP s]
    refine j _ _ lo (Nat.le_succ_of_le f) (λp d=>?_) (λp d q g l e=>?_)
    ·rcases qat.mp d with e|d
     ·rw[e];exact qbI _
     ·exact qbl (b p d)
    ·rcases qat.mp d with t|d<;>rcases qat.mp g with o|g
     ·rw[t,o]
     ·rw[t]at e;exact absurd (b q g) (by rw[<-e];exact qbD _)
     ·rw[o]at e;exact absurd (b p d) (by rw[e];exact qbD _)
     ·exact h p d q g l e
   ·rw[iFN s]
    exact j _ _ lo f b h
 intro names n a b x y c u v w;exact i names n a n (qaw _) b (λp d q g l _=>absurd (b p d) (Nat.not_lt.mpr l)) _ (qbm u) _ (qbm v) w U
theorem hV:∀ (names:List (Str×qb7)) (h:Heap) (a:List (Str×Addr)),(∀ p∈a,∃ v,h.IsCell p.2 v)->∀ p∈qbX h.objs.size names a,∃ v,(qdE h names).IsCell p.2 v
 |[],_,_,h=>h
 |(m,k)::r,h,a,f=>by
  unfold qbX qdE;by_cases c:(k==.cell)=true
  ·rw[iFP c,iFP c]
   have:=hV r (h.push { cls:=.type "cell",data:=.cell none }) ((m,h.objs.size)::a) (λp d=>by
    rcases qat.mp d with e|d
    ·rw[e];exact⟨none,_,qaV _ U,U⟩
    ·obtain⟨v,z⟩:=f p d
     exact⟨v,z.keeps λb o e=>qaj _ e⟩)
   rwa [qbR]at this
  ·rw[iFN c,iFN c]
   exact hV r h a f
theorem fT {names:List (Str×qb7)} (nd:(names.map (·.1)).Nodup):∀ {x:Str}{k:qb7},(x,k)∈names->names.lookup x=some k:=by
 induction names with
 |nil=>intro x k h;cases h
 |cons z r a=>
  intro x k h;obtain⟨m,b⟩:=z;rw[qal,qcZ]at nd;rw[qbB];rcases qat.mp h with e|h
  ·cases e;rw[beq_self_eq_true]
  ·have:(x==m)=false:=beq_eq_false_iff_ne.mpr λe=>nd.1 (e ▸ qbe.mpr ⟨(x,k),by assumption,U⟩)
   rw[this];exact a nd.2 h
theorem fX {env:Env}:∀ {names:List (Str×qb7)}{x:Str}{k:qb7},
  (names.map λ(n,k)=>if (k==NameKind.free&&env.scope.kind==.function&&env.kindOf n==some .cell) then (n,NameKind.cell) else (n,k)).lookup x=some k->
  ∃ k0,names.lookup x=some k0/\(k=k0\/(k0=.free/\k=.cell))
 |[],_,_,h=>by cases h
 |(n,k0)::r,x,k,h=>by
  rw[qal]at h;dsimp only at h;rw[qbB];by_cases a:(k0==NameKind.free&&env.scope.kind==.function&&env.kindOf n==some .cell)=true
  ·rw[iFP a,qbB]at h
   cases hx:x==n with
   |true=>
    rw[hx]at h;refine⟨k0,U,.inr ⟨?_,(qa1 h).symm⟩⟩;simp only[qao]at a;exact beq_iff_eq.mp a.1.1
   |false=>rw[hx]at h;exact fX h
  ·rw[iFN a,qbB]at h
   cases hx:x==n with
   |true=>rw[hx]at h;exact⟨k0,U,.inl (qa1 h).symm⟩
   |false=>rw[hx]at h;exact fX h
theorem jH {env:Env}:∀ {names:List (Str×qb7)}{x:Str},names.lookup x=some .free->
  (names.map λ(n,k)=>if (k==NameKind.free&&env.scope.kind==.function&&env.kindOf n==some .cell) then (n,NameKind.cell) else (n,k)).lookup x=some .free\/
  (names.map λ(n,k)=>if (k==NameKind.free&&env.scope.kind==.function&&env.kindOf n==some .cell) then (n,NameKind.cell) else (n,k)).lookup x=some .cell
 |[],_,h=>by cases h
 |(n,k0)::r,x,h=>by
  rw[qal];dsimp only;rw[qbB]at h;by_cases a:(k0==NameKind.free&&env.scope.kind==.function&&env.kindOf n==some .cell)=true
  ·rw[iFP a,qbB]
   cases hx:x==n with
   |true=>exact .inr U
   |false=>rw[hx]at h;exact jH h
  ·rw[iFN a,qbB]
   cases hx:x==n with
   |true=>rw[hx]at h;exact .inl h
   |false=>rw[hx]at h;exact jH h
theorem jB {M:Model}{A:qaS}{E:Value->qag->Prop}{s:qag}{a:Scope}{env:Env}{c:List (Str×Addr)}{Q:Env->qag->Prop}
  (e:Q (newEnv a s.heap.objs.size env.globals (qbX (s.heap.objs.size+1) a.names c) env.qual none .none (some env) qfq)
    { s with heap:=qdE (s.heap.push { cls:=.type "dict",data:=.dict #[] }) a.names }) :
  wpAny M A (newFunctionEnv a env.globals c [] env.qual none .none (some env)) Q E s:=by
 refine qam (wpAny_alloc ?_);refine qam (wpAny_layCells _ (λd kind b=>by cases hkc:kind==NameKind.cell<;>simp[hkc]) _ _ _ _ ?_);rw[qbR ..];refine qam ?_;exact qa4 (qa4 e)
theorem gS {prog:qaH}{w:World}{A:qaS}{R:qhM->qag->Prop}{s:qag}{q a iter:Expr}{u:List Expr}{p:Scope}{pos:Pos}{C y:Value}{env:Env} (I:Nat->qag->Prop)
  (turn:∀ n s,I n s->wpAny (model prog w) A (pyNext C) (λr d=>match r with
    |none=>R (.ok .next) d
    | some v=>wpAny (model prog w) A (qd4 a C v) (λ_ f=>wpAny (model prog w) A (qew a env v) (λ_ l=>
      wpAny (model prog w) A (forIn u true λc r=>if r=true then do let ok <-qhL c env (eval c env);pure (ForInStep.yield ok) else pure (ForInStep.yield r)) (λok e=>
       if ok=true then wpAny (model prog w) A (eval q env) (λx k=>
        wpAny (model prog w) A (call (.builtin "list.append") [y,x]) (λ_ j=>∃ m,m<n/\I m j) (λ_ _=>False) k) (λ_ _=>False) e
       else ∃ m,m<n/\I m e) (λ_ _=>False) l) (λ_ _=>False) f) (λ_ _=>False) d) (λ_ _=>False) s)
  (n:Nat) (h:I n s) :
  qd6 (model prog w) A (.compLoop (.ListComp q [⟨a,iter,u,0⟩] p pos) 0 C y env) R s:=by
 refine codeAny_loop U I (λn s D=>?_) n h;refine wpAny_noted ?_;rw[compTurn_list];refine qam (qdJ (qam (qbc (turn n s D) (λr d g=>?_) λ_ _ b=>b.elim)));cases r with
 |none=>exact qa4 g
 |some v=>
  refine qam (qbc g (λ_ f o=>?_) λ_ _ b=>b.elim);refine qam (qbc o (λ_ l t=>qam (qbc t (λok e i=>?_) λ_ _ b=>b.elim)) λ_ _ b=>b.elim);cases ok with
  |false=>exact qa4 ⟨U,i⟩
  |true=>
   exact qam (qam (qbc i (λx k z=>qam (qbc z (λ_ j B=>qa4 (qa4 ⟨U,B⟩)) λ_ _ b=>b.elim)) λ_ _ b=>b.elim))
def lcX (X:Cx) (a:Scope) (b:List (Str×Addr)) (Nc:List Str) (s:qag) (H:Hp) (C:Addr) (c:List Addr):Cx where
 prog:=X.prog
 w:=X.w
 K:=X.K
 mg:=X.mg
 base:=X.base
 A:=X.A
 N:=Nc
 s₀:=s
 H₀:=H
 env:=qc8 a b C X.env
 outer:=X.stack
 stack:=X.stack
 ex:=c
 fn:=λx=>a.names.lookup x==some .cell
 calm:=X.calm
 pn:=[]
 xe:=λ_ _=>False
structure fP (X:Cx) (scope:Scope) (Nc:List Str) (emb:St->St):Prop where
 kind:scope.kind=.function
 nd:(scope.names.map (·.1)).Nodup
 nN:Nc.Nodup
 free:∀ x∈scope.names,x.2=.free->X.env.kindOf x.1=some .cell\/X.env.kindOf x.1=some .free
 len:∀ σ:St,σ.length=X.N.length->(emb σ).length=Nc.length
 emb:∀ σ:St,σ.length=X.N.length->∀ (i:Nat) (x:Str) (v:V),Nc[i]?=some x->(emb σ)[i]?=some (some v)->∃ j:Nat,X.N[j]?=some x/\σ[j]?=some (some v)/\scope.names.lookup x=some .free
section
variable {X:Cx}{E:List (Addr×Obj)}{T:St}{H:Hp}{s:qag}{a:Scope}{Nc:List Str}{emb:St->St}
theorem fP.clos (S:fP X a Nc emb) (ok:X.Ok):∀ x∈a.names,x.2=.free->∃ c,X.env.cells.lookup x.1=some c:=λx B h=>ok.has x.1 (S.free x B h)
theorem pz (S:fP X a Nc emb) (I:Inv X E T H s) {W:List Addr} (V:∀ b∈W,j7 X E H b) (hfo:∀ b∈W,∃ o,s.heap.get? b=some o) {lo:Obj} (hlo:∀ v,lo.data≠.cell v) (hfr:lo.isFreed=false) :
  Inv (lcX X a (qbX (s.heap.objs.size+2) a.names (eY X.env.cells a.names [])) Nc s H (s.heap.objs.size+1) W) [(s.heap.objs.size,lo)] (emb T) H
   { s with heap:=qdE ((s.heap.push lo).push { cls:=.type "dict",data:=.dict #[] }) a.names }:=by
 have R:((s.heap.push lo).push { cls:=.type "dict",data:=.dict #[] }).objs.size=s.heap.objs.size+2:=by rw[qbR,qbR]
 have P:(s.heap.push lo).objs.size=s.heap.objs.size+1:=by rw[qbR]
 have K:∀ b o,s.heap.get? b=some o->(qdE ((s.heap.push lo).push { cls:=.type "dict",data:=.dict #[] }) a.names).get? b=some o:=λb o e=>
  qbW _ _ b o (qaj _ (qaj _ e))
 have has:=S.clos I.ok;have C:∀ {x:Str}{c:Addr},(eY X.env.cells a.names []).lookup x=some c->X.env.cells.lookup x=some c/\(x,NameKind.free)∈a.names:=λ{x c} h=>by
  rcases iZ _ _ h with q|⟨L,M⟩
  ·cases q
  ·obtain⟨c',D⟩:=has _ L U
   have F:=D;rw[F]at M;exact⟨by rw[F,M];rfl,L⟩
 have d:∀ {x:Str}{c:Addr},(qbX (s.heap.objs.size+2) a.names _).lookup x=some c->
   _\/_:=λ{x c} h=>by
  rcases gw _ _ _ h with q|q
  ·exact .inl (C q)
  ·exact .inr q
 have l:∀ {x:Str}{c:Addr},X.env.cells.lookup x=some c->c<s.heap.objs.size:=λ{x c} h=>by
  obtain⟨v,z⟩:=I.cell x c h;exact z.lt
 have G:∀ b∈W,b<s.heap.objs.size:=λb g=>by obtain⟨o,e⟩:=hfo b g;exact qaB e
 have f:∀ p∈eY X.env.cells a.names [],∃ x,X.env.cells.lookup x=some p.2:=by
  have key:∀ (names:List _) (A:List _),(∀ x∈names,x.2=.free->∃ c,X.env.cells.lookup x.1=some c)->(∀ p∈A,∃ x,X.env.cells.lookup x=some p.2)->∀ p∈eY X.env.cells names A,∃ x,X.env.cells.lookup x=some p.2:=by
   intro names
   induction names with
   |nil=>intro A _ h;exact h
   |cons z r ih=>
    intro A hn h;obtain⟨m,k⟩:=z;unfold eY;by_cases K:(k==.free)=true
    ·rw[iFP K]
     refine ih _ (λx B=>hn x (qah _ B)) λp n=>?_;rcases qat.mp n with e|n
     ·obtain⟨c,hc⟩:=hn _ qae (beq_iff_eq.mp K)
      exact⟨m,by rw[e,hc];rfl⟩
     ·exact h p n
    ·rw[iFN K]
     exact ih _ (λx B=>hn x (qah _ B)) h
  exact key _ _ has λp n=>nomatch n
 refine⟨⟨I.ok.mod,S.kind,I.ok.glob,I.ok.blt,qd8 _,λx y c t w=>?_,λx B=>?_,λx c B h=>?_,I.ok.hd,I.ok.frames,.inl U,λb g=>?_,I.bs,qaU I.ok.bsz I.sz,λb o e g=>?_,λb g=>?_,I.stack,I.stkFree⟩,
  rfl,I.bare,Un.kept K,⟨_,(Heap.Ns.new _ _).keeps (qbW _ _) |> λq=>by rw[P]at q;exact q,λi x v t w _=>?_⟩,λx c h=>?_,I.hok.fresh (qd8 _),λx c h=>?_,λp n=>?_,I.hok.kept K,S.len T I.len⟩
 ·-- inj
  have O:=t;have Q:=w;rcases d O with⟨L,_⟩|⟨_,L⟩
  ·rcases d Q with⟨M,_⟩|⟨_,M⟩
   ·exact I.ok.inj x y c L M
   ·exact absurd (qaD (qbl (qbl (l L))) M) (qbD _)
  ·refine qw a.names _ _ (λp n=>?_) O Q L
   obtain⟨z,hz⟩:=f p n;exact qbl (qbl (l hz))
 ·-- has
  have:∃ k0,a.names.lookup x=some k0/\(k0=.cell\/k0=.free):=by
   rcases B with q|q
   ·obtain⟨k0,t,w⟩:=fX q
    exact⟨k0,t,w.elim (λe=>.inl e.symm) λe=>.inr e.1⟩
   ·obtain⟨k0,t,w⟩:=fX q
    exact⟨k0,t,w.elim (λe=>.inr e.symm) λe=>by cases e.2⟩
  obtain⟨k0,t,w⟩:=this;refine qcz.mp (qcF a.names _ _ ?_);rcases w with rfl|rfl
  ·exact .inl t
  ·exact .inr (iR _ _ (.inl (qbm t)))
 ·-- cab
  rcases d h with⟨_,q⟩|⟨_,q⟩
  ·have:=fT S.nd q
   rw[(beq_iff_eq.mp B)]at this;cases this
  ·exact qaU (qgc _ 2) q
 ·-- exf
  refine⟨qaO (qbl (G b g)),λx c h=>?_⟩;rcases d h with⟨q,_⟩|⟨_,q⟩
  ·exact (V b g).2.2.2.2.1 x c q
  ·intro e
   exact absurd (qaD (qbl (qbl (G b g))) (e ▸ q)) (qbD _)
 ·-- noex
  rcases (V b g).2.2.2.1 with q|q
  ·exact I.ok.noex b o e q
  ·exact absurd (qaD (qaB (I.ok.bs b o e).1) q) (qbD _)
 ·-- exfs
  intro hb2;rcases qat.mp (I.stkSub b hb2) with q|q
  ·exact (V b g).2.1 q
  ·exact (V b g).2.2.1 q
 ·-- loc
  obtain⟨j,e1,e2,Y⟩:=S.emb T I.len i x v t w;have N:=(S.free (x,.free) (qbm Y) U);obtain⟨m,hn,hl⟩:=I.loc;obtain⟨u,ru,lk⟩:=hl j x v e1 e2 (.inr N);refine⟨u,ru,.inr ⟨?_,?_⟩⟩
  ·rcases jH Y with q|q
   ·exact .inr q
   ·exact .inl q
  ·rcases lk with⟨z,_⟩|⟨_,c,hc,J⟩
   ·rcases N with q|q<;>(rw[z]at q;cases q)
   ·obtain⟨c',D⟩:=qcz.mp (qcF a.names _ _ (.inr (iR _ _ (.inl (qbm Y)))))
    rcases d D with⟨q,_⟩|⟨q,_⟩
    ·rw[hc]at q
     cases q;exact⟨c,D,J.keeps K⟩
    ·have:=fT S.nd q
     rw[Y]at this;cases this
 ·-- cell
  exact (hV a.names _ (eY X.env.cells a.names []) (λp n=>by
   obtain⟨z,hz⟩:=f p n;obtain⟨v,q⟩:=I.cell z p.2 hz
   exact⟨v,q.keeps λb o e=>qaj _ (qaj _ e)⟩) (x,c) (by rw[R];exact qbm h))
 ·-- freeC
  rcases d h with⟨q,_⟩|⟨_,q⟩
  ·exact I.freeC x c q
  ·exact I.hok.fresh (qaU (qgc _ 2) q)
 ·-- pin
  have hp':=by
   have:p∈([])++[(s.heap.objs.size,lo)]:=n
   simpa using this
  subst hp';refine⟨qbW _ _ _ _ (qaj _ (qaV _ hfr)),I.hok.fresh (qaw _),qaO (qbI _),λg=>?_,hlo⟩;rcases qat.mp (I.stkSub _ g) with q|q
  ·exact absurd I.lt (by rw[<-q];exact qbD _)
  ·exact I.nofs (qaw _) q
end
def PTs (X:Cx) (b:List Expr) (t:TT):Prop:=
 ∀ (a:List (Addr×Obj)) (s:qag) (d:St) (H:Hp) (Q:Bool->Hp->Prop),Inv X a d H s->t d H Q->
  wpAny (model X.prog X.w) X.A (forIn b true λc r=>if r=true then do let ok <-qhL c X.env (eval c X.env);pure (ForInStep.yield ok) else pure (ForInStep.yield r)) (TP X a d Q) X.xe s
def GQ:TT:=λ_ H Q=>Q true H
theorem Bw {X:Cx}:PTs X [] GQ:=λ_ _ _ H _ I h=>qhI ⟨H,I,h⟩
theorem Bx {X:Cx}{c:Expr}{t:TT} (b:PT X c t):PTs X [c] t:=λa s d H Q I h=>wpAny_tests_one (b a s d H Q I h)
def Sub (b a:St):Prop:=b.length=a.length/\∀ (i:Nat) (v:V),b[i]?=some (some v)->a[i]?=some (some v)
def En (J:It) (d:St) (g:TG) (tt:TT) (te:TE) (H1:Hp) (Q:VK):Prop:=∃ W:Nat->Nat->List V->Hp->Prop,(∃ m,W 0 m [] H1)/\∀ i m c H,W i m c H->
 (J.stop i H/\∀ D,H D=none->Q (.ref D) (upd H D (.lst c)))\/
 (J.go i H/\c.length<qaK/\∃ N:List V->Hp->Prop,(∀ e H',N e H'->∃ f,f<m/\W (i+1) f e H')/\∀ x H',J.yld i H x H'->g x d H' λa H2=>Sub d a/\tt a H2 λb H3=>if b=true then te a H3 λv H4=>N (c++[v]) H4 else N c H3)
def tLc (emb:St->St) (wi:TI) (g:TG) (tt:TT) (te:TE):TE:=λa H Q=>wi a H λJ H1=>En J (emb a) g tt te H1 Q
section
variable {X:Cx}{j:Scope}{Nc:List Str}{emb:St->St}{elt iter tg:Expr}{ifs:List Expr}{pos:Pos}{wi:TI}{g:TG}{tt:TT}{te:TE}
theorem Cb (S:fP X j Nc emb) (hc:X.calm=true) (hi:PI X tg iter wi)
  (hg:∀ f s H C B,PG (lcX X j f Nc s H C B) tg g) (ht:∀ f s H C B,PTs (lcX X j f Nc s H C B) ifs tt) (he:∀ f s H C B,PE (lcX X j f Nc s H C B) elt te)
  (hs:∀ x,qbO iter X.env x=pure x:=by intro _;rfl):PE X (.ListComp elt [⟨tg,iter,ifs,0⟩] j pos) (tLc emb wi g tt te):=by
 intro pins s σ H Q I h;refine qdB U hs (i5 (S.clos I.ok)) S.kind (λx hx hl=>fT S.nd (by rw[<-hl];exact hx)) ?_;refine thn (hi pins s σ H _ I h) λv s1 h1=>thn h1 λitv s2 h2=>?_;obtain⟨it,B,tn,J,H2,e,I2,T,st2,f2,W,⟨m0,w0⟩,turn⟩:=h2;subst e;refine qcv (jB ?_);rw[qbR ..];generalize hD:s2.heap.objs.size=D;generalize hlo:({ cls:=.type "list",dict:=none,data:=.seq ([]:List Value).toArray }:Obj)=lo
 have fplt:∀ b∈B,b<s2.heap.objs.size:=λb l=>by obtain⟨o,e,_⟩:=T.obj _ _ st2 b l;exact qaB e
 have I3:=pz (lo:=lo) S I2 f2 (λb l=>by obtain⟨o,e,_⟩:=T.obj _ _ st2 b l;exact⟨o,e⟩) (by rw[<-hlo];intro v z;cases z) (by rw[<-hlo];rfl);rw[hD]at I3;generalize hcells:qbX (D+2) j.names _=f at I3;generalize d:lcX X j f Nc s2 H2 (D+1) B=X' at I3;have O:∀ {H':Hp}{ps:List (Addr×Obj)},(∀ b∈B,H' b=none)->(∀ p∈ps,p.1=D)->∀ b∈B,j7 X' ps H' b:=λ{H' ps} hn P b l=>by
  have ok:=I3.ok;refine⟨hn b l,?_,?_,.inl (by rw[<-d];exact l),?_,λp K=>?_⟩
  ·exact (ok.exf b (by rw[<-d];exact l)).1
  ·exact ok.exfs b (by rw[<-d];exact l)
  ·exact (ok.exf b (by rw[<-d];exact l)).2
  ·have hp':p∈([])++ps:=by rw[<-d]at K;exact K
   rw[(P p (by simpa using hp')),<-hD];exact qcd (fplt b l)
 have Dex:D∈X'.ex\/X'.s₀.heap.objs.size<=D:=.inr (by rw[<-d,<-hD];exact qaw _);have Dloc:D≠X'.env.locals:=by rw[<-d];exact qaO (qbI _)
 have pD:=I3.pin (D,lo) (by rw[<-d];exact qap _ qae);have Dcell:∀ x c,X'.env.cells.lookup x=some c->c≠D:=λx c hc' e=>by
  obtain⟨v,o,ho,hd⟩:=I3.cell x c hc';rw[e,pD.1]at ho;cases ho;exact pD.2.2.2.2 v hd
 -- the M
 have M:∀ s3:qag,s3={ s2 with heap:=qdE ((s2.heap.push lo).push { cls:=.type "dict",data:=.dict #[] }) j.names }->
   qd6 (model X.prog X.w) X.A (.compLoop (.ListComp elt [⟨tg,iter,ifs,0⟩] j pos) 0 (.ref it) (.ref D) (qc8 j f (D+1) X.env))
    (qgq (model X.prog X.w) X.A X.xe none (EP X pins σ Q) (.ref D) (D+1)) s3:=by
  rintro s3 rfl
  refine gS (λn s'=>∃ i Y t k H',Inv X' [(D,{ cls:=.type "list",data:=.seq t.toArray k })] (emb σ) H' s'/\bn Y t/\tn i s'.heap/\(∀ b∈B,H' b=none)/\Y.length<=qaK/\W i n Y H') ?_ m0
   ⟨0,[],[],0,H2,?_,.nil,?_,λb l=>(f2 b l).1,qbs _,w0⟩
  ·rintro n s4 ⟨i,Y,t,k,H4,I4,rv,st4,fr4,hlen,w4⟩
   have P:∀ p∈[(D,({ cls:=.type "list",data:=.seq t.toArray k }:Obj))],p.1=D:=λp K=>by
    have:=qaz.mp K
    rw[this]
   rcases turn i n Y H4 w4 with⟨stop,qn⟩|⟨go,hlt,N,hN,step⟩
   ·-- the end
    have TD:=T.done X' (by rw[<-d];rfl) (by rw[<-d];rfl) (by rw[<-d];rfl) (by rw[<-d];exact hc) i _ s4 (emb σ) H4 (λ_ _=>False) I4 (O fr4 P) st4 stop;rw[show X'.A=X.A by rw[<-d];rfl]at TD;refine thn TD λr s5 ⟨hr,I5⟩=>?_;subst hr;obtain⟨m5,hn5,_⟩:=id I5.loc;have eC:X'.env.locals=D+1:=by rw[<-d];rfl
    rw[eC]at hn5;refine⟨m5,hn5,λh' F=>?_⟩;have pD5:=I5.pin (D,{ cls:=.type "list",data:=.seq t.toArray k }) (by rw[<-d];exact qap _ qae)
    have neC:∀ b u,H4 b=some u->b≠D+1:=λb u e z=>by
     have:=I5.free
     rw[eC,<-z,e]at this;cases this
    have hD4:H4 D=none:=pD5.2.1;have un:=I5.base;have E:Un (frs X.stack) B H2 H4 s2.heap s5.heap:=by rw[<-d]at un;exact un
    have w:∀ b o,s2.heap.get? b=some o->b≠D/\b≠D+1:=λb o e=>by
     have q:=qaB e;rw[hD]at q;exact⟨qaO q,qaO (qbl q)⟩
    have h2D:H2 D=none:=by rw[<-hD];exact I2.fresh
    have hok':HOk X.prog X.w H4 h':=λb u e=>by
     have ob:gm X.prog X.w H4 s5.heap b u:=by have:=I5.hok b u e;rw[<-d]at this;exact this
     refine ob.stay (λc v hcv q=>(F.2 c ?_).trans q) (λ_ q=>q) λ_ _ q=>q;rcases hcv with z|z
     ·rw[z];exact neC b u e
     ·exact neC c _ z
    have hokD:HOk X.prog X.w (upd H4 D (.lst Y)) h':=λb u e=>by
     by_cases l:b=D
     ·subst l
      rw[bH]at e;cases e;exact⟨hlen,t,k,rv,(F.2 b (qaO (qbI _))).trans pD5.1⟩
     ·rw[bj l]at e
      refine (hok' b u e).stay (λ_ _ _ q=>q) (λc q=>?_) λc z q=>?_
      all_goals first
       |(rw[bj (bi q hD4)];exact q)
       |(rw[bj (bi z hD4)];exact z)
    refine⟨.ref D,upd H4 D (.lst Y),?_,U,qn D hD4⟩;refine I2.call' (s':={ s5 with heap:=h' }) (ch:=B) ?_ ⟨λb o e nb l hx=>?_,λb o e nb l hx=>?_,λb o e nb hx=>?_,λb o e hx=>?_,λb xs e=>?_,λb o u e=>?_,λb ps e=>?_⟩ hokD I5.bare (λb l=>?_)
    ·have:=I5.os
     rw[<-d]at this;exact this
    ·exact (F.2 b (w b o e).2).trans (E.keep b o e nb l hx)
    ·obtain⟨sl,q⟩:=E.slot b o e nb l hx
     exact⟨sl,(F.2 b (w b o e).2).trans q⟩
    ·rw[bj (w b o e).1]
     exact E.free b o e nb hx
    ·obtain⟨o',q⟩:=E.there b o e hx
     exact⟨o',(F.2 b (w b o e).2).trans q⟩
    ·rw[bj (bi e h2D)]
     exact E.tups b xs e
    ·rw[bj (bi e h2D)]
     exact E.frzs b o u e
    ·obtain⟨m,q⟩:=E.tbls b ps e
     exact⟨m,by rw[bj (bi e h2D)];exact q⟩
    ·obtain⟨q0,q1,q2,q3,q4,q5⟩:=f2 b l
     exact⟨q3,q1,q4,q5⟩
   ·-- a turn
    have hA:X'.A=X.A:=by rw[<-d];rfl
    have hP:X'.prog=X.prog:=by rw[<-d];rfl
    have hw:X'.w=X.w:=by rw[<-d];rfl
    have hE:X'.env=qc8 j f (D+1) X.env:=by rw[<-d];rfl
    have hxe:X'.xe=λ_ _=>False:=by rw[<-d];rfl
    have TI':=T.item X' hP hw (by rw[<-d];rfl) (by rw[<-d];exact hc) i _ s4 (emb σ) H4 (λ_ _=>False) I4 (O fr4 P) st4 go;rw[hA]at TI';refine thn TI' λr s5 ⟨u,hr,h5⟩=>?_;subst hr;refine thn h5 λ_ s6 ⟨x,H6,I6,r6,y6,st6,fr6⟩=>?_;have I6':=I6.pinned (O fr6 P) (T.obj _ _ st6);have G:=hg f s2 H2 (D+1) B;have TT':=ht f s2 H2 (D+1) B;have EE:=he f s2 H2 (D+1) B;rw[d]at G TT' EE;have G':=G _ s6 (emb σ) H6 x u _ I6' r6 (step x H6 y6);rw[hA,hP,hw,hE,hxe]at G';refine thn G' λ_ s7 ⟨σ7,H7,I7,V,q7⟩=>?_;have T':=TT' _ s7 σ7 H7 _ I7 q7;rw[hA,hP,hw,hE,hxe]at T';refine thn T' λok s8 ⟨H8,I8,q8⟩=>?_
    -- what is pinned
    have A:∀ {σ9:St}{H9:Hp}{R:qag},Inv X' ([(D,({ cls:=.type "list",data:=.seq t.toArray k }:Obj))]++lJ B s6.heap) σ9 H9 R->tn (i+1) R.heap/\∀ b∈B,H9 b=none:=λ{σ9 H9 R} I9=>
     ⟨T.keep _ _ _ st6 λb l o e=>(I9.pin (b,o) (qap _ (qap _ (dR l e)))).1,λb l=>by
      obtain⟨o,e,_⟩:=T.obj _ _ st6 b l
      exact (I9.pin (b,o) (qap _ (qap _ (dR l e)))).2.1⟩
    cases ok with
    |false=>
     rw[iFN (by decide)]at q8;rw[iFN (by decide)];obtain⟨m',hm,w8⟩:=hN _ _ q8;exact⟨m',hm,i+1,Y,t,k,H8,I8.unpinned.weak V.1 V.2,rv,(A I8).1,(A I8).2,hlen,w8⟩
    |true=>
     rw[iFP U]at q8;rw[iFP U];have E':=EE _ s8 σ7 H8 _ I8 q8;rw[hA,hP,hw,hE,hxe]at E';refine thn E' λy R ⟨v9,H9,I9,r9,n9⟩=>?_;obtain⟨m',hm,w9⟩:=hN _ _ n9;have L:=I9.pin (D,{ cls:=.type "list",data:=.seq t.toArray k }) (qap _ (qaW _ qae))
     have hl:=rv.length;have I9n:Inv X' [] σ7 H9 R:=I9.pins_of λp K=>nomatch K
     refine qcl qdo ⟨_,L.1,U⟩ qdd (qc2 _ _) (qdk D t.toArray k y (by rw[qaG];lia)) ⟨L.1,?_⟩;have up:∃ k':Nat,(R.heap.update D (qcR λxs=>xs.push y)).get? D=some { cls:=.type "list",data:=.seq (t++[y]).toArray k' }:=by
      have q:=qde L.1 (λxs:Array Value=>xs.push y);simp only[qek]at q;exact⟨_,q⟩
     obtain⟨k',up⟩:=up;have hoth:∀ b o,b≠D->R.heap.get? b=some o->(R.heap.update D (qcR λxs=>xs.push y)).get? b=some o:=λb o l e=>(qa7 R.heap _ (qb5 l)).trans e;have I10:=I9n.turned (t':=R.toks) hoth L.2.1 Dloc Dex Dcell (λp K=>absurd (show p∈([]:List (Addr×Obj)) by rw[<-d]at K;exact K) (by simp));refine⟨m',hm,i+1,Y++[v9],t++[y],k',H9,(I10.weak V.1 V.2).pins_of (λp K=>?_),rv.append (.cons r9 .nil),T.keep _ _ _ (A I9).1 (λb l o e=>hoth b o (by rw[<-hD];exact qaO (fplt b l)) e),(A I9).2,?_,w9⟩
     ·have:=qaz.mp K
      subst this;exact⟨up,L.2.1,Dloc,(pD.2.2.2.1),λv z=>by cases z⟩
     ·rw[qai,qaY]
      lia
  ·rw[<-hlo.symm]
   exact I3
  ·exact T.keep _ _ _ st2 λb l o e=>qbW _ _ b o (qaj _ (qaj _ e))
 refine qdU ?_ ?_
 ·exact M _ U
 ·refine T.self X.A 0 _ _ _ (T.keep _ _ _ st2 λb l o e=>qbW _ _ b o (qaj _ (qaj _ e))) ?_
  exact M _ U
end
end L2
namespace L2
open PySem PySem.Spec PyProof.Rows
open PySem.AutoSeq1 (wpAny_loadPart')
section
variable {prog:qaH}{w:World}{A:qaS}{E:Value->qag->Prop}{s:qag}
theorem ml {d l:Addr}{i:Nat}{b}{x:Value}{Q:Value->qag->Prop} (c:s.heap.IsTupleIter d l i)
  (t:s.heap.IsTuple l b) (q:b[i]?=some x)
  (y:∀ g,g.IsTupleIter d l (i+1)->qeq d s.heap g->Q x { s with heap:=g }) :
  wpAny (model prog w) A (qdI (.ref d)) Q E s:=by
 obtain⟨o,f,B,hd⟩:=id c;obtain⟨D,j,_,F,hdl⟩:=t
 refine qam (qcP c.typeIs qcu
  (qdP qcu c.typeIs qe2 ?_ (qeS _)))
 show wpAny _ _ (field _ 0 >>= _) _ _ s;refine qam (qb9 f hd (x:=.ref l) U ?_);refine qam (qb9 f hd U ?_);refine qam (qhU j hdl ?_);simp only[qdq,q];refine qam (qdv f hd (by simp) (qa4 ⟨x,U,qa4 (y _ ?_ (qeC ..))⟩))
 exact⟨_,qbY _ f (qco (qb1 hd _)),(qf4 ..).trans B,by
  rw[qb1 hd];simp[qfp]⟩
theorem mX {d l:Addr}{i:Nat}{b}{Q:Value->qag->Prop} (p:A.handled=none)
  (c:s.heap.IsTupleIter d l i) (t:s.heap.IsTuple l b) (q:b[i]?=none)
  (u:∀ g e,Heap.ExtBut d s.heap g->(∃ o,g.get? e=some o/\o.cls=.type "StopIteration")->E (.ref e) { s with heap:=g }) :
  wpAny (model prog w) A (qdI (.ref d)) Q E s:=by
 obtain⟨o,f,B,hd⟩:=id c;obtain⟨D,j,_,F,hdl⟩:=t
 refine qam (qcP c.typeIs qcu
  (qdP qcu c.typeIs qe2 ?_ (qeS _)))
 show wpAny _ _ (field _ 0 >>= _) _ _ s;refine qam (qb9 f hd (x:=.ref l) U ?_);refine qam (qb9 f hd U ?_);refine qam (qhU j hdl ?_);simp only[qdq,q];refine qam (wpAny_rule (qam (qdv f hd (by simp) ?_)));refine qam ?_;refine qam (m:=firstArgMember _ _) (wpAny_of_eq (a:=Value.none) (by first|rfl|(rfl)) ?_)
 refine qcv ?_ (by size_fits);refine qam (wpAny_handled ?_)
 first|rw[p]|rw[p]
 refine qam (qa4 (wpAny_throw ?_));exact u _ _ (((qeC ..).extBut.push _).push _) ⟨_,qaV _ U,U⟩
theorem kg (p:A.handled=none) (d l:Addr) (z:l≠d) (b:Array Value) :
  Draws prog w A d [d,l] b.size (λi v=>b[i]?=some v) (λi h=>h.IsTupleIter d l i/\h.IsTuple l b) where
 live:=λ_ _ st=>let ⟨o,f,_⟩:=st.1;⟨o,f⟩
 frame:=λ_ _ _ st C=>⟨st.1.at λo e=>C d (by simp) o e,by
  obtain⟨o,e,r⟩:=st.2
  exact⟨o,C l (by simp) o e,r⟩⟩
 item:=λi s Q E hi st y=>by
  refine ml st.1 st.2 (x:=b[i]) (by simp[hi]) λg n k=>?_;refine y _ g s.toks (by simp[hi]) ⟨n,?_⟩ k;obtain⟨o,e,r⟩:=st.2;exact⟨o,(k.2 l z).trans e,r⟩
 done:=λs Q E st u=>mX p st.1 st.2 (by simp) u
end
theorem kx (l:Addr) (a:Array Value) (n:Nat) (dct:Option Addr) (i:Array (Option Value)) :
  Meets (qeP.«enumerate.__new__» ⟨[.type "enumerate",.ref l],[]⟩) (λ_ R s=>s.heap.get? l=some { cls:=.type "tuple",dict:=dct,data:=.seq a n,slots:=i }/\
   R (.ok (.ret (.ref (s.heap.push { cls:=.type "tuple_iterator",data:=.fields #[.ref l,.int 0 0] }).objs.size)))
    { s with heap:=(s.heap.push { cls:=.type "tuple_iterator",data:=.fields #[.ref l,.int 0 0] }).push { cls:=.type "enumerate",data:=.fields #[.none,.bool false,.ref s.heap.objs.size,qfp 0,.none,.none] } }):=
 .of_wp λprog w A R s h=>by
  obtain⟨j,g,d,k,os⟩:=s;obtain⟨b,h⟩:=h;have f:=sub_enumerate;have e:Heap.IsTuple _ l a:=⟨_,b,U,n,U⟩
  wp_walk using wpAny_loadPart' b
  refine wpAny_stack_any λst=>qa4 ?_;split
  ·rename_i c _ _ _ _ _
   cases (c==Value.type "enumerate")
   ·wp_walk using wpAny_loadPart' b,qdr e
    exact⟨_,U,h⟩
   ·wp_walk using wpAny_loadPart' b,qdr e
    exact⟨_,U,h⟩
  ·wp_walk using wpAny_loadPart' b,qdr e
   exact⟨_,U,h⟩
theorem ke {prog:qaH}{w:World}{A:qaS}{E:Value->qag->Prop}{s:qag}{l:Addr}{a:Array Value}{Q:Value->qag->Prop} (j:s.heap.IsTuple l a)
  (h:∀ d,IsEnum d (s.heap.objs.size+1) s.heap.objs.size 0 .none->d.IsTupleIter s.heap.objs.size l 0->d.objs.size=s.heap.objs.size+2->
    (∀ b o,s.heap.get? b=some o->d.get? b=some o)->Q (.ref (s.heap.objs.size+1)) { s with heap:=d }) :
  wpAny (model prog w) A (call (.type "enumerate") [.ref l]) Q E s:=by
 obtain⟨⟨c,dct,m,i⟩,g,k,n,hd⟩:=j;subst k hd;refine callType_new F.called_enumerate (by decide) (F.typeCall_enumerate_1 _) (F.newCall_enumerate_1 _) (λobj=>F.args_object_init_2 obj _) F.entry_enumerate_new
  (kx l a n dct i) ⟨g,?_⟩
 have e:(s.heap.push { cls:=.type "tuple_iterator",data:=.fields #[.ref l,.int 0 0] }).objs.size=s.heap.objs.size+1:=qbR ..
 rw[e];have f:=by
  have:=qaV (s.heap.push { cls:=.type "tuple_iterator",data:=.fields #[.ref l,.int 0 0] })
   (o:={ cls:=.type "enumerate",data:=.fields #[.none,.bool false,.ref s.heap.objs.size,qfp 0,.none,.none] }) U
  rw[e]at this;exact this
 refine⟨⟨_,f,U⟩,h _ f ⟨_,qaj _ (qaV _ U),U,U⟩ (by rw[qbR,e]) λb o x=>qaj _ (qaj _ x)⟩
section
variable {X:Cx}{a:List (Addr×Obj)}{w:St}{H:Hp}{s:qag}{l:Heap}{i:List Addr}
theorem j7.ch (h:∀ b∈i,j7 X a H b):∀ b∈i,(b∈X.ex\/X.s₀.heap.objs.size<=b)/\b≠X.env.locals/\(∀ x c,X.env.cells.lookup x=some c->c≠b)/\∀ p∈X.pn++a,p.1≠b:=λb t=>
 let ⟨_,f1,_,f3,f4,f5⟩:=h b t
 ⟨f3,f1,f4,f5⟩
theorem Inv.turns {t':Nat} (I:Inv X a w H s) (h:∀ b∈i,j7 X a H b) (k:∀ b o,b∉i->s.heap.get? b=some o->l.get? b=some o):Inv X a w H { s with heap:=l,toks:=t' }:=by
 have f:∀ b u,H b=some u->b∉i:=λb u e z=>by have:=(h b z).1;rw[e]at this;cases this
 refine I.step (j7.ch h) (λb o _ _ d e _=>k b o d e) (λb o _ _ d e _=>⟨o.slots,k b o d e⟩) (λ_ _ _ _ n=>n)
  (λb o d e=>⟨o,k b o d e⟩) (λ_ _ e=>e) (λ_ _ _ e=>e) (λb ps e=>⟨#[],by rw[e];simp⟩) (λm hm=>?_) (λb u e=>?_) I.bare
 ·obtain⟨o,A,C,y,r⟩:=hm
  exact⟨o,A,C,k _ o (λz=>(h _ z).2.1 U) y,r⟩
 ·refine (I.hok b u e).stay (λc v d q=>k c v ?_ q) (λ_ q=>q) λ_ _ q=>q
  rcases d with z|z
  ·rw[z];exact f b u e
  ·exact f c _ z
theorem Inv.turnsT {t':Nat}{T:Addr}{B:List V}{j:Array Value} (I:Inv X a w H s) (h:∀ b∈i,j7 X a H b) (k:∀ b o,b∉i->s.heap.get? b=some o->l.get? b=some o)
  (D:s.heap.objs.size<=T) (E:iY l T j) (F:bn B j.toList) (G:B.length<=qaK):Inv X a w (upd H T (.tup B)) { s with heap:=l,toks:=t' }:=by
 have f:∀ b u,H b=some u->b∉i:=λb u e z=>by have:=(h b z).1;rw[e]at this;cases this
 have g:=I.hok.fresh D;refine I.step (j7.ch h) (λb o _ _ d e _=>k b o d e) (λb o _ _ d e _=>⟨o.slots,k b o d e⟩) (λb o _ e n=>by rw[bj ((λb o e=>qaO (qaD (qaB e) D)) b o e)];exact n)
  (λb o d e=>⟨o,k b o d e⟩) (λb _ e=>by rw[bj (bi e g)];exact e) (λb _ _ e=>by rw[bj (bi e g)];exact e) (λb ps e=>⟨#[],by rw[bj (bi e g),e];simp⟩) (λm hm=>?_) (λb u e=>?_) I.bare
 ·obtain⟨o,A,C,y,r⟩:=hm
  exact⟨o,A,C,k _ o (λz=>(h _ z).2.1 U) y,r⟩
 ·by_cases t:b=T
  ·subst t
   rw[bH]at e;cases e;refine⟨G,j.toList,F,?_⟩;simpa using E
  ·rw[bj t]at e
   refine (I.hok b u e).stay (λc v d q=>k c v ?_ q) (λc q=>?_) λc z q=>?_
   ·rcases d with z|z
    ·rw[z];exact f b u e
    ·exact f c _ z
   all_goals first
    |(rw[bj (bi q g)];exact q)
    |(exact z)
end
def Ite (S:Hp->List V->Prop):It:=
 ⟨λi H=>∃ a x,S H a/\a[i]?=some x,λi H x H'=>∃ T v,(∀ a,S H a->a[i]?=some v)/\H T=none/\x=.ref T/\H'=upd H T (.tup [.int i,v]),λi H=>∃ a,S H a/\a.length=i⟩
theorem vY {P:qaH}{w:World}{K:qad}{r:List Expr}{k:Nat}{pos:Pos} (a j e:Addr) (m:e≠j) (L:a≠e) (M:a≠j) :
  vc P w K (.Tuple r k pos) (Ite λH Y=>SqL K H a Y) [e,j] e (λi h=>(∃ g,IsEnum h e j i g)/\h.IsListIter j a i) where
 mem:=by simp
 obj:=λi h st b f=>by
  rcases qat.mp f with rfl|f
  ·obtain⟨⟨g,q⟩,_⟩:=st
   exact⟨_,q,λv z=>by cases z⟩
  ·rw[qaz.mp f]
   obtain⟨_,o,e,c,d⟩:=st;exact⟨o,e,λv z=>by rw[d]at z;cases z⟩
 keep:=λi h h' st O=>⟨let ⟨g,q⟩:=st.1;⟨g,O e (by simp) _ q⟩,st.2.at λo q=>O j (by simp) o q⟩
 item:=by
  intro X hP hw hK Q i C s σ H E I R st hg;subst hP hw hK;obtain⟨Y,x,N,V⟩:=hg;obtain⟨l,rv,p,hz⟩:=I.list N;obtain⟨u,hu,ru⟩:=rv.get V;have W:=qec (qhH (prog:=X.prog) (w:=X.w) (A:=X.A.in1) (I.ok.hd Q) j a M l.toArray) e m (by simp[m,qb5 L]) (by simp);have hi:=by
   simpa using ((qaA.mp hu).1)
  obtain⟨⟨ol,F⟩,n⟩:=st;refine qfw (qhH (A:=X.A.in1) (I.ok.hd Q) j a M l.toArray) F ⟨n,p.isList⟩ hi m (by simp[m,qb5 L]) λy h1 t hy ho S ht hsz hk=>⟨_,U,?_⟩;have hm:(λ_ (T) (h)=>(∃ x,IsEnumOut h e j _ x T)/\_/\T≠e/\T≠j) i s.heap.objs.size h1:=⟨⟨_,ho⟩,S,qcd (qaB F),qcd (let ⟨_,q,_⟩:=n;qaB q)⟩;have O:∀ b o,b∉[e,j]->s.heap.get? b=some o->h1.get? b=some o:=λb o f q=>hk b o (λz=>f (by simp[z])) (λz=>f (by simp[z])) q;generalize eT:s.heap.objs.size=T at ht ho hm ⊢;have hT:=qcE eT;have B:∃ tk,tk=t+1:=⟨_,U⟩;obtain⟨tk,B⟩:=B;rw[<-B];have ey:=by
   have D:=by simpa using hy
   rw[hu]at D;exact (qa1 D).symm
  subst ey;refine W.go r k pos i T _ _ _ hm λh2 J G=>?_;have nT:=W.apart i T _ hm;refine⟨.ref T,_,?_,U,⟨T,x,λys hy=>by rw[I.list_inj hy N];exact V,I.hok.fresh hT,U,U⟩,⟨J.1,J.2.1⟩,λb f=>?_⟩
  ·exact (I.turnsT R (λb o f q=>G b o f (O b o f q)) hT ⟨_,G T _ nT ht,U,⟨_,U⟩,U⟩ (.cons ⟨t,U⟩ (.cons ru .nil)) (by show 2<=qaK;decide))
  ·rw[bj (show b≠T from λz=>nT (z ▸ f))]
   exact (R b f).1
 done:=by
  intro X hP hw hK Q i C s σ H E I R st hg;subst hP hw hK;obtain⟨Y,N,V⟩:=hg;obtain⟨l,rv,p,hz⟩:=I.list N;have hl:=rv.length;have hx':l.toArray[i]?=none:=by simp;lia
  obtain⟨⟨g,he⟩,hit⟩:=st
  -- the end at place i
  refine wpAny_pyNext_enum_end (I.ok.hd Q) he hit p.isList hx' λh' eb=>⟨U,?_⟩;exact I.turns R λb o f q=>eb b o (by simp at f;exact f.2) q
 self:=λ_ _ _ _ _ st h=>let ⟨⟨_,he⟩,_⟩:=st;qdA he h
theorem vZ {P:qaH}{w:World}{K:qad}{r:List Expr}{k:Nat}{pos:Pos} (a g e:Addr) (f:e≠g) (B:a≠e) (C:a≠g) :
  vc P w K (.Tuple r k pos) (Ite λH Y=>SqT K H a Y) [e,g] e (λi h=>(∃ m,IsEnum h e g i m)/\h.IsTupleIter g a i) where
 mem:=by simp
 obj:=λi h st b j=>by
  rcases qat.mp j with rfl|j
  ·obtain⟨⟨m,q⟩,_⟩:=st
   exact⟨_,q,λv z=>by cases z⟩
  ·rw[qaz.mp j]
   obtain⟨_,o,e,c,d⟩:=st;exact⟨o,e,λv z=>by rw[d]at z;cases z⟩
 keep:=λi h h' st D=>⟨let ⟨m,q⟩:=st.1;⟨m,D e (by simp) _ q⟩,st.2.at λo q=>D g (by simp) o q⟩
 item:=by
  intro X hP hw hK Q i F s σ H E I R st hg;subst hP hw hK;obtain⟨Y,x,O,V⟩:=hg;obtain⟨l,rv,p,hz⟩:=I.tuple O;obtain⟨u,hu,ru⟩:=rv.get V;have W:=qec (kg (prog:=X.prog) (w:=X.w) (A:=X.A.in1) (I.ok.hd Q) g a C l.toArray) e f (by simp[f,qb5 B]) (by simp);have hi:=by
   simpa using ((qaA.mp hu).1)
  obtain⟨⟨ol,J⟩,n⟩:=st;refine qfw (kg (A:=X.A.in1) (I.ok.hd Q) g a C l.toArray) J ⟨n,p⟩ hi f (by simp[f,qb5 B]) λy h1 t hy ho S ht hsz hk=>⟨_,U,?_⟩;have hm:(λ_ (T) (h)=>(∃ x,IsEnumOut h e g _ x T)/\_/\T≠e/\T≠g) i s.heap.objs.size h1:=⟨⟨_,ho⟩,S,qcd (qaB J),qcd (let ⟨_,q,_⟩:=n;qaB q)⟩;have D:∀ b o,b∉[e,g]->s.heap.get? b=some o->h1.get? b=some o:=λb o j q=>hk b o (λz=>j (by simp[z])) (λz=>j (by simp[z])) q;generalize eT:s.heap.objs.size=T at ht ho hm ⊢;have hT:=qcE eT;have N:∃ tk,tk=t+1:=⟨_,U⟩;obtain⟨tk,N⟩:=N;have ey:=by
   have G:=by simpa using hy
   rw[hu]at G;exact (qa1 G).symm
  subst ey;refine W.go r k pos i T _ _ _ hm λh2 M L=>?_;have nT:=W.apart i T _ hm;refine⟨.ref T,_,?_,U,⟨T,x,λys hy=>by rw[I.tuple_inj hy O];exact V,I.hok.fresh hT,U,U⟩,⟨M.1,M.2.1⟩,λb j=>?_⟩
  ·exact (I.turnsT R (λb o j q=>L b o j (D b o j q)) hT ⟨_,L T _ nT ht,U,⟨_,U⟩,U⟩ (.cons ⟨t,U⟩ (.cons ru .nil)) (by show 2<=qaK;decide))
  ·rw[bj (show b≠T from λz=>nT (z ▸ j))]
   exact (R b j).1
 done:=by
  intro X hP hw hK Q i F s σ H E I R st hg;subst hP hw hK;obtain⟨Y,O,V⟩:=hg;obtain⟨l,rv,p,hz⟩:=I.tuple O;have hl:=rv.length;have hi:i=l.toArray.size:=by simp;lia
  subst hi;refine (qec (kg (A:=X.A.in1) (I.ok.hd Q) g a C l.toArray) e f (by simp[f,qb5 B]) (by simp)).done s _ _ ⟨st.1,st.2,p⟩ λh' tk D=>⟨U,I.turns R D⟩
 self:=λ_ _ _ _ _ st h=>let ⟨⟨_,he⟩,_⟩:=st;qdA he h
section
variable {X:Cx}
def CQ (K:qad) (w:TA):TI:=λx H R=>w x H λvs H1=>∃ a,vs=[.ref a]/\(∃ f,SqL K H1 a f)/\R (Ite λH f=>SqL K H a f) H1
theorem zA {m:List Expr}{k:Nat}{j:Pos}{a:Expr}{w:TA}{p pos:Pos} (W:Gl X "enumerate") (hm:X.mg "enumerate" = none) (ha:PA X [a] w) (S:qbE [a] X.env=[(false,eval a X.env)]:=by rfl) :
  PI X (.Tuple m k j) (.Call (.Name "enumerate" p) [a] [] pos) (CQ X.K w):=by
 intro d s x H R I h;refine Call_ (mS I W hm qhY (qcb (thn (ha pos d s x H _ I h) λus C ⟨vs,H1,I1,T,q1⟩=>?_) S U));obtain⟨l,e,⟨f,J⟩,q⟩:=q1;subst e;cases T with
 |cons r F=>
  cases F;cases r;obtain⟨B,D,N,hz⟩:=I1.list J;refine call_enumerate_list N.isList λh' M y Y O=>qdA M ?_;have c:l<C.heap.objs.size:=by obtain⟨_,_,e,_⟩:=N;exact qaB e
  refine⟨_,_,_,_,H1,U,I1.kept O,vY l C.heap.objs.size _ (qdz _) (qaO (qbl c)) (qaO c),⟨⟨_,M⟩,y⟩,λb g=>?_,q⟩;have t:C.heap.objs.size<=b:=by
   rcases qat.mp g with e|g
   ·rw[e];exact qd8 _
   ·rw[qaz.mp g];exact qaw _
  exact I1.fpOk t (I1.hok.fresh t)
def CS (K:qad) (w:TA):TI:=λx H R=>w x H λvs H1=>∃ a,vs=[.ref a]/\(∃ f,SqT K H1 a f)/\R (Ite λH f=>SqT K H a f) H1
theorem zB {m:List Expr}{k:Nat}{j:Pos}{a:Expr}{w:TA}{p pos:Pos} (W:Gl X "enumerate") (hm:X.mg "enumerate" = none) (ha:PA X [a] w) (S:qbE [a] X.env=[(false,eval a X.env)]:=by rfl) :
  PI X (.Tuple m k j) (.Call (.Name "enumerate" p) [a] [] pos) (CS X.K w):=by
 intro d s x H R I h;refine Call_ (mS I W hm qhY (qcb (thn (ha pos d s x H _ I h) λus C ⟨vs,H1,I1,T,q1⟩=>?_) S U));obtain⟨l,e,⟨f,J⟩,q⟩:=q1;subst e;cases T with
 |cons r F=>
  cases F;cases r;obtain⟨B,D,N,hz⟩:=I1.tuple J;refine ke N λh' M y Y O=>qdA M ?_;have c:l<C.heap.objs.size:=by obtain⟨_,e,_⟩:=N;exact qaB e
  refine⟨_,_,_,_,H1,U,I1.kept O,vZ l C.heap.objs.size _ (qdz _) (qaO (qbl c)) (qaO c),⟨⟨_,M⟩,y⟩,λb g=>?_,q⟩;have t:C.heap.objs.size<=b:=by
   rcases qat.mp g with e|g
   ·rw[e];exact qd8 _
   ·rw[qaz.mp g];exact qaw _
  exact I1.fpOk t (I1.hok.fresh t)
theorem yv:gK X (.builtin "all") (λf H Q=>X.calm=true/\∃ (a:Addr) (bs:List Bool),f=[.ref a]/\SqL X.K H a (bs.map V.bl)/\Q (.bl (bs.all id)) H):=by
 intro d s x H f us Q I D h;obtain⟨hc,a,bs,rfl,J,q⟩:=h;cases D with
 |cons r F=>
  cases F;cases r;obtain⟨B,D,p,hz⟩:=I.list J;have c:a<s.heap.objs.size:=by obtain⟨_,_,e,_⟩:=p;exact qaB e
  have E:=by have:=D.length;simpa using this.symm
  refine call_all_walk (qgB p.isList ?_);refine⟨s.heap.objs.size,_,_,_,_,_,λi=>(bs[i]?).getD true,U,Walks.list (A:=X.A.in1) (I.ok.hd hc) s.heap.objs.size a (qaO c) B.toArray,⟨⟨_,qaV _ U,U,U⟩,p.isList.push _⟩,?_,λh' tk O=>?_⟩
  ·intro i v s' Q' E' hv hQ'
   have L:=by simpa using hv
   have hi:=(qaA.mp L).1;obtain⟨b,g⟩:∃ b,bs[i]?=some b:=⟨bs[i]'(by lia),by simp[show i<bs.length by lia]⟩
   have:(bs.map V.bl)[i]?=some (.bl b):=by rw[qbu,g];rfl
   obtain⟨u,hu,ru⟩:=D.get this;rw[L]at hu;cases hu;cases ru;have G:Q' ((bs[i]?).getD true) s':=hQ';rw[g]at G;exact qce G
  ·refine⟨_,H,I.kept (λb o e=>O b o (λz=>absurd (qaB e) (by rw[qaz.mp z];exact qbD _)) (qaj _ e)),?_,q⟩
   congr 1
   have:∀ n,n=bs.length->((qcC n).all λi=>(bs[i]?).getD true)=bs.all id:=by
    intro n hn;rw[qbH,qas,qas];constructor
    ·intro h b g
     obtain⟨i,hi,e⟩:=qdT.mp g
     have:=h i (qdV.mpr (by lia))
     simp[hi,e]at this;exact this
    ·intro h i hi
     have hi':=qdV.mp hi;have P:i<bs.length:=by lia
     simp[P];exact h _ (qet _)
   exact this _ (by simpa using E)
end
def iD (k:Nat) (js:List Nat) (a:St):St:=qax k none++js.map λj=>(a[j]?).getD none
def ET (a:Scope) (ns:List (Str×qb7)) (N Nc:List Str) (k:Nat) (js:List Nat):Bool:=
 decide ((a.names.map (·.1)).Nodup)&&decide Nc.Nodup&&decide (Nc.length=k+js.length) &&
 (a.names.all λx=>x.2 != .free||ns.lookup x.1==some .cell||ns.lookup x.1==some .free) &&
 ((qcC js.length).all λi=>match Nc[k+i]?,js[i]? with|some x,some j=>N[j]?==some x&&a.names.lookup x==some .free|_,_=>false)
theorem eH {X:Cx}{a:Scope} (ns:List (Str×qb7)) (N Nc:List Str) (k:Nat) (js:List Nat) (e:X.env.scope.names=ns) (t:X.N=N) (q:a.kind=.function) (h:ET a ns N Nc k js=true):fP X a Nc (iD k js):=by
 unfold ET at h;simp only[qao,decide_eq_true_eq]at h;obtain⟨⟨⟨⟨l,n⟩,u⟩,r⟩,m⟩:=h;refine⟨q,l,n,λx g p=>?_,λf _=>?_,λf _ i x v s b=>?_⟩
 ·have:=qas.mp r x g
  rw[p]at this;simp only[qeE,beq_iff_eq,bne_self_eq_false,qaE,false_or]at this;unfold Env.kindOf;rw[e];exact this
 ·unfold iD
  rw[qai,qcn,qan,u]
 ·unfold iD at b
  by_cases hi:i<k
  ·rw[qaP (by simpa using hi),qcI,iFP hi]at b
   cases b
  ·rw[qbn (by simpa using hi),qcn,qbu]at b
   cases ej:js[i - k]? with
   |none=>rw[ej]at b;cases b
   |some j=>
    rw[ej]at b;have d:=(qaA.mp ej).1
    have:=qas.mp m _ (qdV.mpr d)
    rw[show k+_=i by lia,s,ej]at this;simp only[qao,beq_iff_eq]at this;refine⟨j,by rw[t];exact this.1,?_,this.2⟩;have c:(f[j]?).getD none=some v:=qa1 b;cases eq:f[j]? with
    |none=>rw[eq]at c;cases c
    |some o=>rw[eq]at c;rw[show o=some v from c]
section
variable {a tl:St}{tt:TT}{te:TE}{H:Hp}{Q:VK}
end
section
variable {X:Cx}
theorem Bk:OpR X (qbF .Mult) (rI qdc λi j=>.int (i*j)):=opI λ_ _ _ _ _ _ _ a q=>mul_int q a
end
theorem bU.new {H:Hp}{p:Addr} (h:H p=none) (o:HO):bU H (upd H p o):=λb u q=>by rw[bj (bi q h)];exact q
theorem tP {n:Nat} (h:n<=1000):n<=qaK:=qdO (rf h)
theorem EW:qdc (10^qbA 60) (10^qbA 60):=by unfold qdc;decide +kernel
theorem EY:qdc (10^qbA 60*10^qbA 60) (10^qbA 60):=by unfold qdc;decide +kernel
theorem EZ:qdc (10^qbA 60*10^qbA 60*10^qbA 60) (10^qbA 60):=by unfold qdc;decide +kernel
theorem so:(0:Int)<10^qbA 60*10^qbA 60*10^qbA 60*10^qbA 60:=by decide +kernel
theorem Ew (b:Bool):-(2^64)<(if b=true then (1:Int) else 0):=by cases b<;>decide
theorem Eu (b:Bool):(if b=true then (1:Int) else 0)<2^64:=by cases b<;>decide
theorem BV (b:Bool):0<=(if b=true then (1:Int) else 0):=by cases b<;>decide
theorem p60:ql 10 60:=⟨by decide,by decide,by decide⟩
theorem p18:ql 10 18:=⟨by decide,by decide,by decide⟩
theorem Ak (l:Addr) (a:Array Value) (n:Nat) (dct:Option Addr) (b:Array (Option Value)) (u:Tok) :
  Meets (qeP.«tuple.__mul__» ⟨[.ref l,.int 1 u],[]⟩) (λ_ R s=>s.heap.get? l=some { cls:=.type "tuple",dict:=dct,data:=.seq a n,slots:=b }/\R (.ok (.ret (.ref l))) s):=
 .of_wp λprog w A R s h=>by
  obtain⟨c,h⟩:=h
  wp_walk using wpAny_loadPart' c
  exact⟨_,U,h⟩
theorem yc (l:Addr) (a:Array Value) (n:Nat) (dct:Option Addr) (f:Array (Option Value)) (x:Int) (u:Tok) (j:2<=x) (k:x<1000) (e:a.isEmpty=false) (m:a.size<=1000)
  (g:((qax x.toNat a).foldl (λb c=>b++c) #[]).size<=qaK) :
  Meets (qeP.«tuple.__mul__» ⟨[.ref l,.int x u],[]⟩) (λ_ R s=>s.heap.get? l=some { cls:=.type "tuple",dict:=dct,data:=.seq a n,slots:=f }/\
   R (.ok (.ret (.ref s.heap.objs.size))) { s with heap:=s.heap.push { cls:=.type "tuple",data:=.seq ((qax x.toNat a).foldl (λb c=>b++c) #[]) } }):=
 .of_wp λprog w A R s h=>by
  obtain⟨d,h⟩:=h;have c1:(x < -(2^63)||x>=2^63)=false:=by simp;lia
  have c2:(a.isEmpty||x==1)=false:=by rw[e];simp;lia
  have c3:(x<=0||a.isEmpty)=false:=by rw[e];simp;lia
  have i:(a.size:Int)*x<=1000000:=by
   have a1:(a.size:Int)*x<=1000*x:=Int.mul_le_mul_of_nonneg_right (by lia) (by lia);lia
  have c4:¬ ((a.size:Int)*x > (2^63 - 1) / 8):=by lia
  have c5:qgO ((a.size:Int)*x)=false:=by
   exact decide_eq_false (by have:(qaK:Nat)=16777216:=rfl
                             lia)
  refine qd2 (decide_eq_false (by rw[c1];exact qaR)) ?_
  wp_walk using wpAny_loadPart' d
  refine qd2 (decide_eq_false (by rw[c2];exact qaR)) ?_;refine qd2 (decide_eq_false (by rw[c3];exact qaR)) ?_;refine qd2 (decide_eq_false c4) ?_
  wp_walk using wpAny_loadPart' d
  exact⟨_,U,h⟩
theorem mY:fillsNumberSlot (.type "tuple") "mul" = pure false:=
 PySem.fillsNumberSlot_seq qeN.lookup (by decide +kernel) F.slot_tuple_rmul.lookup (by decide +kernel)
theorem tD:seqRepeat? (.type "tuple")=pure (some (.builtin "tuple.__mul__")):=by
 rfl
theorem pi (a:Int) (t:Tok) (l:Addr) (b:Array Value) (n:Nat) (dct:Option Addr) (c:Array (Option Value)) :
  Meets (qeP.«int.__rmul__» ⟨[.int a t,.ref l],[]⟩) (λ_ R s=>s.heap.get? l=some { cls:=.type "tuple",dict:=dct,data:=.seq b n,slots:=c }/\R (.ok (.ret Value.notImplemented)) s):=
 .of_wp λprog w A R s h=>by obtain⟨d,h⟩:=h;wp_walk using wpAny_loadPart' d;exact⟨_,U,h⟩
section
variable {X:Cx}
def Ft (K:qad):R2:=λx y H Q=>∃ l k b,x=.ref l/\y=.int k/\SqT K H l b/\b≠[]/\b.length<=1000/\1<=k/\k<1000/\(k=1->Q (.ref l) H)/\
 (k≠1->∀ p,H p=none->Q (.ref p) (upd H p (.tup (qax k.toNat b).flatten)))
theorem Bn:OpR X (qbF .Mult) (Ft X.K):=by
 intro w s P H x y v u Q I J D h;obtain⟨l,k,b,rfl,rfl,C,j,m,R,B,L,M⟩:=h;cases J;obtain⟨t,rfl⟩:=D;obtain⟨a,z,p,O⟩:=I.tuple C;obtain⟨⟨c,dct,E,i⟩,e,r,n,hd⟩:=p;replace r:c=.type "tuple":=r
 replace hd:E=.seq a.toArray n:=hd;subst r hd;have d:=z.length;refine qfh (T:="tuple") (U:="int") (by decide) ⟨_,e,U⟩ (λs'=>qeF s' k t) mY qgN qdY tD qgw.lookup
  (qcl qdY (qeF s k t) qgx (qgo _ _) (pi k t l a.toArray n dct i) ⟨e,U,⟨_,e,U⟩,?_⟩)
 by_cases A:k=1
 ·subst A
  exact qcl qeN ⟨_,e,U⟩ qgn (qgg _ _) (Ak l a.toArray n dct i t) ⟨e,.ref l,H,I,U,L U⟩
 ·have f0:qfP (λG F=>G++F) #[] (qax k.toNat a.toArray)=(qax k.toNat a).flatten.toArray:=by
   have:=mM a k.toNat []
   rw[qaI]at this;exact this
  have f:(qax k.toNat b).flatten.length<=qaK:=by
   rw[sH]
   have:k.toNat*b.length<=1000*1000:=qe0 (by lia) m
   have N:qaK=16777216:=rfl;lia
  have g:(qax k.toNat a).flatten.length<=qaK:=by
   rw[sH]at f ⊢;rw[<-d];exact f
  refine qcl qeN ⟨_,e,U⟩ qgn (qgg _ _) (yc l a.toArray n dct i k t (by lia) B ?_ (by rw[qaG];lia) (by rw[f0,qaG];exact g)) ⟨e,?_⟩
  ·cases a with
   |nil=>cases b with
    |nil=>exact absurd U j
    |cons _ _=>cases d
   |cons _ _=>rfl
  ·rw[f0]
   refine⟨.ref _,_,I.laid (t':=s.toks) (o:=.tup (qax k.toNat b).flatten) (λ_ _ q=>qaj _ q) (qaw _) ⟨f,(qax k.toNat a).flatten,z.rep k.toNat,⟨_,qaV _ U,U,⟨0,U⟩,U⟩⟩,U,M A _ I.fresh⟩
end
section
variable {X:Cx}{K:qad}
theorem ES (g:X.calm=true:=by rfl) (d:X.K=K:=by rfl):gK X (.builtin "all") (λc H Q=>∃ (a:Addr) (bs:List Bool),c=[.ref a]/\SqL K H a (bs.map V.bl)/\Q (.bl (bs.all id)) H):=by
 subst d;intro b s i H c f Q I e h;exact yv b s i H c f Q I e ⟨g,h⟩
end
section
variable {X:Cx}
end
theorem sC {n j:Nat} (h:j<n):ixN n (j:Int)=some j:=by
 unfold ixN;rw[iFP (by lia),iFP (by lia),qdq]
section
variable {X:Cx}{e:Expr}{ty:TE}{j i d k b c a:Pos}{g f l h:Nat}
end
section
variable {prog:qaH}{w:World}{A:qaS}{E:Value->qag->Prop}{s:qag}
end
section
variable {X:Cx}
end
section
variable {prog:qaH}{w:World}{A:qaS}{E:Value->qag->Prop}{s:qag}
end
section
variable {X:Cx}{e:Expr}{te:TE}{c b a pos:Pos}{j:Nat}
end
theorem bn.at {c:List V}{b:List Value} (r:bn c b):∀ (j:Nat) (h:j<b.length) ,∃ g:j<c.length,bI c[j] b[j]:=by
 induction r with
 |nil=>intro j h;exact absurd h (qeL j)
 |cons a t e=>
  intro j h;cases j with
  |zero=>exact⟨Nat.zero_lt_succ _,a⟩
  |succ j=>
   obtain⟨d,f⟩:=e j _;exact⟨Nat.succ_lt_succ d,f⟩
theorem ou (e:Nat->Bool) (n:Nat):(qcC (n+1)).all e=(e 0&&(qcC n).all λj=>e (j+1)):=by
 rw[List.range_succ_eq_map,qaQ,qdb];rfl
section
variable {X:Cx}{K:qad}{c:List (Addr×Obj)}{f:St}{H:Hp}{s:qag}{A:qaS}{a b:Addr}{e d:List V}
end
section
variable {X:Cx}{pos d c:Pos}{b a:Nat}
end
section
variable {K:qad}{H:Hp}
end
section
variable {X:Cx}{K:qad}
end
end L2
namespace HT
open PySem PySem.Spec PyProof.Rows L2
section
variable {prog:qaH}{w:World}{A:qaS}{E:Value->qag->Prop}{s:qag}
theorem getItem_tuple_all {t f:Addr}{a:Array Value}{g j:Value}{lo hi:Option Int}{Q:Value->qag->Prop} (b:IsTup s.heap t a) (i:s.heap.IsSliceOf f g j .none) (k:qeQ g lo) (m:qeQ j hi)
  (hw:sIx a.size 0 lo=0/\sIx a.size a.size hi=a.size) (h:Q (.ref t) s):wpAny (model prog w) A (qd5 (.ref t) (.ref f)) Q E s:=by
 obtain⟨os,d,e,l⟩:=id i;unfold qd5
 try with_reducible refine qc7 ?_
 refine qam (qgA b.typeIs (by decide) ?_)
 refine qam (qcP b.typeIs qbr
  (qdP qbr b.typeIs qgi ?_ (qgr _ _)))
 show wpAny _ _ (qd1 _ >>= _) _ _ s;refine qam (tupleItemsOf_ b ?_);refine qam (qfR ⟨os,d,e⟩ ?_);refine qam (jq i k m ?_);have c:(((sIx a.size 0 lo):Int)==0&&(1:Int)==1&&(sIx a.size a.size hi - sIx a.size 0 lo)==a.size)=true:=by
  rw[hw.1,hw.2]
  simp
 show wpAny _ _ (if _=true then _ else _) _ _ s;rw[iFP c];refine qam (qam (qfR b.typeIs (qa4 ?_)))
 first
  |exact qam (wpAny_rule (qa4 ⟨_,rfl,qa4 h⟩))
  |exact qam _
  |exact qam _
  |exact qam _
end
end HT
namespace L2
open PySem PySem.Spec PyProof.Rows
def Fv (K:qad):V->Option Int->Option Int->Hp->VK->Prop:=λx lo hi H Q=>∃ a b,x=.ref a/\SqT K H a b/\
 ((¬ (HT.sIx b.length 0 lo=0/\HT.sIx b.length b.length hi=b.length)/\∀ p,H p=none->Q (.ref p) (upd H p (.tup (vf b lo hi))))\/
   ((HT.sIx b.length 0 lo=0/\HT.sIx b.length b.length hi=b.length)/\Q (.ref a) H))
theorem C8 {X:Cx}{K:qad} (m:X.K=K:=by rfl):SlR X (Fv K):=by
 subst m;intro c s p H x v o t lo hi n Q I k l f j h;obtain⟨a,i,rfl,e,h⟩:=h;rcases h with⟨hw,q⟩|⟨hw,q⟩
 ·exact D8 c s p H _ v o t lo hi n Q I k l f j ⟨a,i,U,e,hw,q⟩
 ·cases k
  obtain⟨d,r,g,u⟩:=I.tuple e;have b:d.toArray.size=i.length:=by exact r.length.symm
  refine⟨"tuple",_,qbr.lookup,g.typeIs,?_⟩
  exact HT.getItem_tuple_all g l f j (by rw[b];exact hw) ⟨.ref a,H,I,U,q⟩
section
variable {X:Cx}{j:Scope}{Nc:List Str}{emb:St->St}{elt iter tg:Expr}{ifs:List Expr}{pos:Pos}{wi:TI}{g:TG}{tt:TT}{te:TE}
theorem Fh {i0:Nat}{x0:Str}{py spos:Pos} (hN0:X.N.Nodup) (hi0:X.N[i0]?=some x0) (hx0:Loc X.env.scope x0) (S:fP X j Nc emb) (hc:X.calm=true) (hi:PI X tg iter wi)
  (hg:∀ f s H C B,PG (lcX X j f Nc s H C B) tg g) (ht:∀ f s H C B,PTs (lcX X j f Nc s H C B) ifs tt) (he:∀ f s H C B,PE (lcX X j f Nc s H C B) elt te)
  (hsw:qd3 (.ListComp elt [⟨tg,iter,ifs,0⟩] j pos) (some (.Name x0 py)) spos.line X.env=pure true:=by rfl)
  (hf0:X.fn x0=true\/X.env.scope.names.lookup x0=some .local:=by first|exact .inl U|exact .inr U|assumption)
  (hs:∀ x,qbO iter X.env x=pure x:=by intro _;rfl):PS X (.Assign [.Name x0 py] (.ListComp elt [⟨tg,iter,ifs,0⟩] j pos) spos) (Ea (tLc emb wi g tt te) (um i0)):=by
 intro E s σ H DD I h;rw[exec_Assign_Name_used _ _ _ _ hsw];refine qam (qdJ (qam ?_));refine qam (qbc (qdB U hs (i5 (S.clos I.ok)) S.kind (λx hx hl=>fT S.nd (by rw[<-hl];exact hx)) ?_) (λ_ s' hq=>qa4 (qa4 hq)) λ_ _ e=>e);refine thn (hi E s σ H _ I h) λv s1 h1=>thn h1 λitv s2 h2=>?_;obtain⟨it,B,tn,J,H2,e,I2,T,st2,f2,W,⟨m0,w0⟩,turn⟩:=h2;subst e;refine qcv (jB ?_);rw[qbR ..];generalize hD:s2.heap.objs.size=D;generalize hlo:({ cls:=.type "list",dict:=none,data:=.seq ([]:List Value).toArray }:Obj)=lo
 have fplt:∀ b∈B,b<s2.heap.objs.size:=λb l=>by obtain⟨o,e,_⟩:=T.obj _ _ st2 b l;exact qaB e
 have I3:=pz (lo:=lo) S I2 f2 (λb l=>by obtain⟨o,e,_⟩:=T.obj _ _ st2 b l;exact⟨o,e⟩) (by rw[<-hlo];intro v z;cases z) (by rw[<-hlo];rfl);rw[hD]at I3;generalize hcells:qbX (D+2) j.names _=f at I3;generalize d:lcX X j f Nc s2 H2 (D+1) B=X' at I3;have Q:∀ {H':Hp}{ps:List (Addr×Obj)},(∀ b∈B,H' b=none)->(∀ p∈ps,p.1=D)->∀ b∈B,j7 X' ps H' b:=λ{H' ps} hn R b l=>by
  have ok:=I3.ok;refine⟨hn b l,?_,?_,.inl (by rw[<-d];exact l),?_,λp M=>?_⟩
  ·exact (ok.exf b (by rw[<-d];exact l)).1
  ·exact ok.exfs b (by rw[<-d];exact l)
  ·exact (ok.exf b (by rw[<-d];exact l)).2
  ·have hp':p∈([])++ps:=by rw[<-d]at M;exact M
   rw[(R p (by simpa using hp')),<-hD];exact qcd (fplt b l)
 have Dex:D∈X'.ex\/X'.s₀.heap.objs.size<=D:=.inr (by rw[<-d,<-hD];exact qaw _);have Dloc:D≠X'.env.locals:=by rw[<-d];exact qaO (qbI _)
 have pD:=I3.pin (D,lo) (by rw[<-d];exact qap _ qae);have Dcell:∀ x c,X'.env.cells.lookup x=some c->c≠D:=λx c hc' e=>by
  obtain⟨v,o,ho,hd⟩:=I3.cell x c hc';rw[e,pD.1]at ho;cases ho;exact pD.2.2.2.2 v hd
 -- the P
 have P:∀ s3:qag,s3={ s2 with heap:=qdE ((s2.heap.push lo).push { cls:=.type "dict",data:=.dict #[] }) j.names }->
   qd6 (model X.prog X.w) X.A (.compLoop (.ListComp elt [⟨tg,iter,ifs,0⟩] j pos) 0 (.ref it) (.ref D) (qc8 j f (D+1) X.env))
    (qgq (model X.prog X.w) X.A X.xe (some (qew (.Name x0 py) X.env)) (λ_ s'=>SP X E DD .next s') (.ref D) (D+1)) s3:=by
  rintro s3 rfl
  refine gS (λn s'=>∃ i L t k H',Inv X' [(D,{ cls:=.type "list",data:=.seq t.toArray k })] (emb σ) H' s'/\bn L t/\tn i s'.heap/\(∀ b∈B,H' b=none)/\L.length<=qaK/\W i n L H') ?_ m0
   ⟨0,[],[],0,H2,?_,.nil,?_,λb l=>(f2 b l).1,qbs _,w0⟩
  ·rintro n s4 ⟨i,L,t,k,H4,I4,rv,st4,fr4,hlen,w4⟩
   have R:∀ p∈[(D,({ cls:=.type "list",data:=.seq t.toArray k }:Obj))],p.1=D:=λp M=>by
    have:=qaz.mp M
    rw[this]
   rcases turn i n L H4 w4 with⟨stop,qn⟩|⟨go,hlt,N,hN,step⟩
   ·-- the end
    have TD:=T.done X' (by rw[<-d];rfl) (by rw[<-d];rfl) (by rw[<-d];rfl) (by rw[<-d];exact hc) i _ s4 (emb σ) H4 (λ_ _=>False) I4 (Q fr4 R) st4 stop;rw[show X'.A=X.A by rw[<-d];rfl]at TD;refine thn TD λr s5 ⟨hr,I5⟩=>?_;subst hr;obtain⟨m5,hn5,_⟩:=id I5.loc;have eC:X'.env.locals=D+1:=by rw[<-d];rfl
    rw[eC]at hn5
    suffices inv5:∀ h',qeq (D+1) s5.heap h'->Inv X E σ (upd H4 D (.lst L)) { s5 with heap:=h' } by
     have I5X:Inv X E σ (upd H4 D (.lst L)) s5:=inv5 s5.heap ⟨U,λ_ _=>rfl⟩;have hD4':H4 D=none:=(I5.pin (D,{ cls:=.type "list",data:=.seq t.toArray k }) (by rw[<-d];exact qap _ qae)).2.1
     have hC4:upd H4 D (.lst L) (D+1)=none:=by
      have:=I5.free
      rw[eC]at this;rw[bj (qcd (qbI D))];exact this
     have fpC:∀ b∈[D+1],j7 X E (upd H4 D (.lst L)) b:=λb l=>by
      have e:=qaz.mp l;subst e;exact I2.fpOk (by rw[hD];exact qd8 D) hC4
     obtain⟨oC,esC,epC,getC,datC,relC⟩:=id hn5;have I5p:=I5X.pinned fpC λb l=>by
      have e:=qaz.mp l;subst e;exact⟨oC,getC,λv z=>by rw[datC]at z;cases z⟩
     refine qgC (qf I5p hN0 hi0 hx0 (v:=.ref D) U (λs6 I6=>?_) hf0);have pC:=(I6.pin (D+1,oC) (qap _ (qap _ (dR qae getC)))).1;refine⟨m5,⟨oC,esC,epC,pC,datC,relC⟩,λh' F=>?_⟩;have I6u:=I6.unpinned;exact⟨_,_,I6u.turns (t':=s6.toks) fpC (λb o l e=>(F.2 b (λz=>l (by rw[z];exact qae))).trans e),qn D hD4'⟩
    intro h' F;have pD5:=I5.pin (D,{ cls:=.type "list",data:=.seq t.toArray k }) (by rw[<-d];exact qap _ qae)
    have neC:∀ b u,H4 b=some u->b≠D+1:=λb u e z=>by
     have:=I5.free
     rw[eC,<-z,e]at this;cases this
    have hD4:H4 D=none:=pD5.2.1;have un:=I5.base;have K:Un (frs X.stack) B H2 H4 s2.heap s5.heap:=by rw[<-d]at un;exact un
    have w:∀ b o,s2.heap.get? b=some o->b≠D/\b≠D+1:=λb o e=>by
     have q:=qaB e;rw[hD]at q;exact⟨qaO q,qaO (qbl q)⟩
    have h2D:H2 D=none:=by rw[<-hD];exact I2.fresh
    have hok':HOk X.prog X.w H4 h':=λb u e=>by
     have ob:gm X.prog X.w H4 s5.heap b u:=by have:=I5.hok b u e;rw[<-d]at this;exact this
     refine ob.stay (λc v hcv q=>(F.2 c ?_).trans q) (λ_ q=>q) λ_ _ q=>q;rcases hcv with z|z
     ·rw[z];exact neC b u e
     ·exact neC c _ z
    have hokD:HOk X.prog X.w (upd H4 D (.lst L)) h':=λb u e=>by
     by_cases l:b=D
     ·subst l
      rw[bH]at e;cases e;exact⟨hlen,t,k,rv,(F.2 b (qaO (qbI _))).trans pD5.1⟩
     ·rw[bj l]at e
      refine (hok' b u e).stay (λ_ _ _ q=>q) (λc q=>?_) λc z q=>?_
      all_goals first
       |(rw[bj (bi q hD4)];exact q)
       |(rw[bj (bi z hD4)];exact z)
    refine I2.call' (s':={ s5 with heap:=h' }) (ch:=B) ?_ ⟨λb o e nb l hx=>?_,λb o e nb l hx=>?_,λb o e nb hx=>?_,λb o e hx=>?_,λb xs e=>?_,λb o u e=>?_,λb ps e=>?_⟩ hokD I5.bare (λb l=>?_)
    ·have:=I5.os
     rw[<-d]at this;exact this
    ·exact (F.2 b (w b o e).2).trans (K.keep b o e nb l hx)
    ·obtain⟨sl,q⟩:=K.slot b o e nb l hx
     exact⟨sl,(F.2 b (w b o e).2).trans q⟩
    ·rw[bj (w b o e).1]
     exact K.free b o e nb hx
    ·obtain⟨o',q⟩:=K.there b o e hx
     exact⟨o',(F.2 b (w b o e).2).trans q⟩
    ·rw[bj (bi e h2D)]
     exact K.tups b xs e
    ·rw[bj (bi e h2D)]
     exact K.frzs b o u e
    ·obtain⟨m,q⟩:=K.tbls b ps e
     exact⟨m,by rw[bj (bi e h2D)];exact q⟩
    ·obtain⟨q0,q1,q2,q3,q4,q5⟩:=f2 b l
     exact⟨q3,q1,q4,q5⟩
   ·-- a turn
    have hA:X'.A=X.A:=by rw[<-d];rfl
    have hP:X'.prog=X.prog:=by rw[<-d];rfl
    have hw:X'.w=X.w:=by rw[<-d];rfl
    have hE:X'.env=qc8 j f (D+1) X.env:=by rw[<-d];rfl
    have hxe:X'.xe=λ_ _=>False:=by rw[<-d];rfl
    have TI':=T.item X' hP hw (by rw[<-d];rfl) (by rw[<-d];exact hc) i _ s4 (emb σ) H4 (λ_ _=>False) I4 (Q fr4 R) st4 go;rw[hA]at TI';refine thn TI' λr s5 ⟨u,hr,h5⟩=>?_;subst hr;refine thn h5 λ_ s6 ⟨x,H6,I6,r6,y6,st6,fr6⟩=>?_;have I6':=I6.pinned (Q fr6 R) (T.obj _ _ st6);have G:=hg f s2 H2 (D+1) B;have TT':=ht f s2 H2 (D+1) B;have EE:=he f s2 H2 (D+1) B;rw[d]at G TT' EE;have G':=G _ s6 (emb σ) H6 x u _ I6' r6 (step x H6 y6);rw[hA,hP,hw,hE,hxe]at G';refine thn G' λ_ s7 ⟨σ7,H7,I7,Y,q7⟩=>?_;have T':=TT' _ s7 σ7 H7 _ I7 q7;rw[hA,hP,hw,hE,hxe]at T';refine thn T' λok s8 ⟨H8,I8,q8⟩=>?_
    -- what is pinned
    have A:∀ {σ9:St}{H9:Hp}{V:qag},Inv X' ([(D,({ cls:=.type "list",data:=.seq t.toArray k }:Obj))]++lJ B s6.heap) σ9 H9 V->tn (i+1) V.heap/\∀ b∈B,H9 b=none:=λ{σ9 H9 V} I9=>
     ⟨T.keep _ _ _ st6 λb l o e=>(I9.pin (b,o) (qap _ (qap _ (dR l e)))).1,λb l=>by
      obtain⟨o,e,_⟩:=T.obj _ _ st6 b l
      exact (I9.pin (b,o) (qap _ (qap _ (dR l e)))).2.1⟩
    cases ok with
    |false=>
     rw[iFN (by decide)]at q8;rw[iFN (by decide)];obtain⟨m',hm,w8⟩:=hN _ _ q8;exact⟨m',hm,i+1,L,t,k,H8,I8.unpinned.weak Y.1 Y.2,rv,(A I8).1,(A I8).2,hlen,w8⟩
    |true=>
     rw[iFP U]at q8;rw[iFP U];have E':=EE _ s8 σ7 H8 _ I8 q8;rw[hA,hP,hw,hE,hxe]at E';refine thn E' λy V ⟨v9,H9,I9,r9,n9⟩=>?_;obtain⟨m',hm,w9⟩:=hN _ _ n9;have O:=I9.pin (D,{ cls:=.type "list",data:=.seq t.toArray k }) (qap _ (qaW _ qae))
     have hl:=rv.length;have I9n:Inv X' [] σ7 H9 V:=I9.pins_of λp M=>nomatch M
     refine qcl qdo ⟨_,O.1,U⟩ qdd (qc2 _ _) (qdk D t.toArray k y (by rw[qaG];lia)) ⟨O.1,?_⟩;have up:∃ k':Nat,(V.heap.update D (qcR λxs=>xs.push y)).get? D=some { cls:=.type "list",data:=.seq (t++[y]).toArray k' }:=by
      have q:=qde O.1 (λxs:Array Value=>xs.push y);simp only[qek]at q;exact⟨_,q⟩
     obtain⟨k',up⟩:=up;have hoth:∀ b o,b≠D->V.heap.get? b=some o->(V.heap.update D (qcR λxs=>xs.push y)).get? b=some o:=λb o l e=>(qa7 V.heap _ (qb5 l)).trans e;have I10:=I9n.turned (t':=V.toks) hoth O.2.1 Dloc Dex Dcell (λp M=>absurd (show p∈([]:List (Addr×Obj)) by rw[<-d]at M;exact M) (by simp));refine⟨m',hm,i+1,L++[v9],t++[y],k',H9,(I10.weak Y.1 Y.2).pins_of (λp M=>?_),rv.append (.cons r9 .nil),T.keep _ _ _ (A I9).1 (λb l o e=>hoth b o (by rw[<-hD];exact qaO (fplt b l)) e),(A I9).2,?_,w9⟩
     ·have:=qaz.mp M
      subst this;exact⟨up,O.2.1,Dloc,(pD.2.2.2.1),λv z=>by cases z⟩
     ·rw[qai,qaY]
      lia
  ·rw[<-hlo.symm]
   exact I3
  ·exact T.keep _ _ _ st2 λb l o e=>qbW _ _ b o (qaj _ (qaj _ e))
 refine qdU ?_ ?_
 ·exact P _ U
 ·refine T.self X.A 0 _ _ _ (T.keep _ _ _ st2 λb l o e=>qbW _ _ b o (qaj _ (qaj _ e))) ?_
  exact P _ U
end
def aN:Expr->Bool
 |.Starred _ _=>false
 |_=>true
theorem bB {e:Expr}{a:List Expr}{env:Env} (h:aN e=true):qbE (e::a) env=(false,eval e env)::qbE a env:=by
 cases e<;>first|(cases h;done)|rfl
theorem cu {pos:Pos}{env:Env}:∀ {a:List Expr},a.all aN=true->(qd7 pos (qbE a env)).any (·.1)=false
 |[],_=>by simp[qbE,qd7]
 |e::a,h=>by
  rw[qaQ,qao]at h;rw[bB h.1]
  have:=cu (pos:=pos) (env:=env) h.2
  unfold qd7 at this ⊢;rw[qal,qcp,this];rfl
theorem kG {pos:Pos}{env:Env}{a:List Expr} (h:a.all aN=true) (d:a.length < 30):((qd7 pos (qbE a env)).all (λx=>!x.1) && (qfA pos (qel [] env)).all (λx=>x.1.isSome)
   && decide (a.length+([]:List qfH).length+(if ([]:List qfH).isEmpty then 0 else 1)<30))=true:=by
 have c:(qd7 pos (qbE a env)).all (λx=>!x.1)=true:=by
  have:=cu (pos:=pos) (env:=env) h
  rw[qas];intro x b;rw[qfQ]at this;simpa using this x b
 have e:(qfA pos (qel [] env)).all (λx=>x.1.isSome)=true:=by simp[qel,qfA]
 rw[c,e];simpa using d
theorem qe {e:Expr}{env:Env} (h:aN e=true):qbE [e] env=[(false,eval e env)]:=by rw[bB h];rfl
def zD:Expr->Bool
 |.UnaryOp .Not _ _=>false
 |.BoolOp _ _ _=>false
 |.IfExp _ _ _ _=>false
 |.Compare _ _ _ _=>false
 |_=>true
theorem yd {a:Expr}{env:Env} (h:zD a=true):∀ b,PySem.isTrue a env b=(do let v <-b;qhJ a.pos;qeG [v] (truthy v)):=by
 intro b;cases a with
 |UnaryOp op x p=>cases op<;>first|(cases h;done)|rfl
 |BoolOp _ _ _=>cases h
 |IfExp _ _ _ _=>cases h
 |Compare _ _ _ _=>cases h
 |_=>rfl
theorem ow {t:Expr}{a:List Expr}{env:Env} (h:aN t=true):qbG (t::a) env=(false,qew t env)::qbG a env:=by
 cases t<;>first|(cases h;done)|rfl
theorem rF {env:Env}:∀ {a:List Expr},a.all aN=true->(qbG a env).length=a.length
 |[],_=>by simp[qbG]
 |t::a,h=>by
  rw[qaQ,qao]at h;rw[ow h.1,qaf,rF h.2,qaf]
theorem ox {env:Env}:∀ {a:List Expr},a.all aN=true->(qbG a env).findIdx? (·.1)=none
 |[],_=>by simp[qbG]
 |t::a,h=>by
  rw[qaQ,qao]at h;rw[ow h.1,List.findIdx?_cons,ox h.2];rfl
theorem wf {t:Expr}{a:List Expr}{env:Env} (h:aN t=true):(qbG (t::a) env).map (·.2)=qew t env::(qbG a env).map (·.2):=by rw[ow h];rfl
theorem Av {t:Expr}{env:Env} (h:aN t=true):(qbG [t] env).map (·.2)=[qew t env]:=by rw[wf h];simp[qbG]
def kC:Expr->Bool
 |.Slice _ _ _ _=>false
 |_=>true
theorem Aw {o i:Expr}{pos:Pos}{env:Env} (h:kC i=true) (v:Value):qew (.Subscript o i pos) env v=(do
   let ov <-qeG [v] (eval o env)
   let iv <-qeG [v,ov] (eval i env)
   qhJ pos
   qeG [v,ov,iv] (setItem ov iv v)
   release [v,ov,iv] []):=by
 cases i<;>first|(cases h;done)|rfl
theorem px {i:Expr} (h:kC i=true):we i:=by
 intro o j;cases i<;>first|(cases h;done)|rfl
inductive D where
 |non|bl (b:Bool)|int (i:Int)|str (x:Str)|ty (n:String)|dct|scr (ns:List Int)|tup (ds:List D)|lst (ds:List D)
 deriving Inhabited
inductive W where
 |d (x:D)|h (n:Nat)
 deriving Inhabited
inductive C where
 |l (ds:List D)|n (ws:List W)|m (kvs:List (List Int×D))|k (kvs:List (Int×D))
 deriving Inhabited
abbrev Sto:=List C
def lg (st:Sto) (n:Nat):Option (List D):=match st[n]? with
 |some (.l ds)=>some ds
 |_=>none
def Gu (l:List Int):List Key:=l.map Sum.inl
abbrev Ev:=List (Option W)
def KLs (K:qad) (a:Addr) (c:List V):Prop:=
 ∃ (o:Obj) (b:Array Value) (n:Nat),K.lookup a=some o/\o.cls=.type "list"/\o.dict=none/\o.data=.seq b n/\b.size<=qaK/\bn c b.toList
section
variable (K:qad) (H:Hp) (φ:List Addr)
mutual
def Rl:D->V->Prop
 |.non,v=>v=.non
 |.bl b,v=>v=.bl b
 |.int i,v=>v=.int i
 |.str x,v=>v=.str x
 |.ty n,v=>v=.ty n
 |.dct,v=>∃ a,v=.ref a/\a∉φ/\((∃ d,H a=some (.dK d))\/∃ d,H a=some (.dT d))
 |.scr ns,v=>∃ a,v=.ref a/\((∃ o,H a=some (.frz o (.lst (ns.map V.int))))\/KLs K a (ns.map V.int))
 |.tup ds,v=>∃ a vs,v=.ref a/\H a=some (.tup vs)/\Rls ds vs
 |.lst ds,v=>∃ a vs,v=.ref a/\a∉φ/\Rd H a (.lst vs)/\Rls ds vs
def Rls:List D->List V->Prop
 |[],vs=>vs=[]
 |d::ds,vs=>∃ v r,vs=v::r/\Rl d v/\Rls ds r
end
def Rw:W->V->Prop
 |.d x,v=>Rl K H φ x v
 |.h n,v=>∃ a,φ[n]?=some a/\v=.ref a
def Rws:List W->List V->Prop
 |[],vs=>vs=[]
 |d::ds,vs=>∃ v r,vs=v::r/\Rw K H φ d v/\Rws ds r
def Rkv:List (List Int×D)->List (List Key×V)->Prop
 |[],vs=>vs=[]
 |(k,d)::ds,vs=>∃ v r,vs=(Gu k,v)::r/\Rl K H φ d v/\Rkv ds r
def Rkk:List (Int×D)->List (Key×V)->Prop
 |[],vs=>vs=[]
 |(k,d)::ds,vs=>∃ v r,vs=(Sum.inl k,v)::r/\Rl K H φ d v/\Rkk ds r
def Rc (k:Nat) (a:Addr):C->Prop
 |.l ds=>∃ vs,H a=some (.lst vs)/\Rls K H φ ds vs
 |.n ws=>∃ vs,H a=some (.lst vs)/\Rws K H φ ws vs/\∀ m,W.h m∈ws->m<k
 |.m kvs=>∃ vs,H a=some (.dT vs)/\Rkv K H φ kvs vs
 |.k kvs=>∃ vs,H a=some (.dK vs)/\Rkk K H φ kvs vs
structure Sr (st:Sto):Prop where
 nd:φ.Nodup
 len:φ.length=st.length
 at_:∀ (n:Nat) a c,φ[n]?=some a->st[n]?=some c->Rc K H φ n a c
structure Er (env:Ev) (σ:St):Prop where
 len:env.length=σ.length
 at_:∀ (i:Nat) w,env[i]?=some (some w)->∃ v,σ[i]?=some (some v)/\Rw K H φ w v
end
structure Fw (φ φ':List Addr) (H H':Hp):Prop where
 ext:∃ ψ,φ'=φ++ψ/\∀ a∈ψ,H a=none
 keep:∀ b o,b∉φ->H b=some o->H' b=some o
 there:∀ b o,H b=some o->∃ o',H' b=some o'
section
variable {K:qad}{H H1 H2 H':Hp}{φ A y φ':List Addr}{st R:Sto}
theorem Fw.refl (φ:List Addr) (H:Hp):Fw φ φ H H:=⟨⟨[],by simp,by simp⟩,λ_ _ _ h=>h,λ_ o h=>⟨o,h⟩⟩
theorem Fw.trans (a:Fw φ A H H1) (b:Fw A y H1 H2):Fw φ y H H2:=by
 obtain⟨g,rfl,j⟩:=a.ext;obtain⟨X,rfl,t⟩:=b.ext;refine⟨⟨_,by rw[qbK],λc B=>?_⟩,λc o B h=>?_,λc o h=>?_⟩
 ·rcases qba.mp B with z|z
  ·exact j c z
  ·cases q:H c with
   |none=>rfl
   |some o=>
    obtain⟨N,L⟩:=a.there c o q;rw[t c z]at L;cases L
 ·refine b.keep c o (λz=>?_) (a.keep c o B h)
  rcases qba.mp z with z|z
  ·exact B z
  ·rw[j c z]at h;cases h
 ·obtain⟨N,q⟩:=a.there c o h
  exact b.there c N q
theorem Fw.same (s:bU H H'):Fw φ φ H H':=⟨⟨[],by simp,by simp⟩,λb o _ h=>s b o h,λb o h=>⟨o,s b o h⟩⟩
theorem Fw.new {p:Addr}{o:HO} (F:H p=none):Fw φ φ H (upd H p o):=.same (bU.new F o)
theorem Fw.get (f:Fw φ φ' H H') {n:Nat}{a:Addr} (h:φ[n]?=some a):φ'[n]?=some a:=by
 obtain⟨g,rfl,_⟩:=f.ext;rw[qaP (qaA.mp h).1];exact h
theorem Fw.nin (f:Fw φ φ' H H') {a:Addr}{o:HO} (h:a∉φ) (q:H a=some o):a∉φ':=by
 obtain⟨g,rfl,e⟩:=f.ext;intro z;rcases qba.mp z with z|z
 ·exact h z
 ·rw[e a z]at q;cases q
def E5:HO->Bool
 |.lst _=>true
 |.dT _=>true
 |.dK _=>true
 |_=>false
theorem Rc.ob {k:Nat}{a:Addr}{c:C} (h:Rc K H φ k a c):∃ o,H a=some o/\E5 o=true:=by
 cases c with
 |l ds=>obtain⟨vs,q,_⟩:=h;exact⟨_,q,U⟩
 |n ds=>obtain⟨vs,q,_⟩:=h;exact⟨_,q,U⟩
 |m ds=>obtain⟨vs,q,_⟩:=h;exact⟨_,q,U⟩
 |k ds=>obtain⟨vs,q,_⟩:=h;exact⟨_,q,U⟩
theorem Sr.lst (S:Sr K H φ st) {a:Addr} (h:a∈φ):∃ o,H a=some o/\E5 o=true:=by
 obtain⟨n,hn,e⟩:=qdT.mp h;have Q:n<st.length:=by rw[<-S.len];exact hn
 exact (S.at_ n a st[n] (by rw[qa6 hn,e]) (by rw[qa6 Q])).ob
theorem A5 {st:Sto}{n:Nat}{ds:List D} (h:lg st n=some ds):st[n]?=some (.l ds):=by
 unfold lg at h;split at h
 ·rename_i q;cases h;exact q
 ·cases h
theorem Sr.atl (S:Sr K H φ st) (n:Nat) (a:Addr) (ds:List D) (j:φ[n]?=some a) (t:lg st n=some ds):∃ vs,H a=some (.lst vs)/\Rls K H φ ds vs:=S.at_ n a _ j (A5 t)
theorem Sr.nin (S:Sr K H φ st) {a:Addr} (h:H a=none):a∉φ:=λz=>by
 obtain⟨vs,q,_⟩:=S.lst z;rw[q]at h;cases h
theorem Rd.nin (S:Sr K H φ st) {a:Addr}{vs:List V} (h:Rd H a (.tup vs)):a∉φ:=λz=>by
 obtain⟨ws,q,qm⟩:=S.lst z;rcases h with h|⟨o,h⟩<;>(rw[q]at h;cases h;cases qm)
theorem Rd.fw (f:Fw φ φ' H H') {a:Addr}{u:HO} (hn:a∉φ) (h:Rd H a u):Rd H' a u:=by
 rcases h with h|⟨o,h⟩
 ·exact .inl (f.keep _ _ hn h)
 ·exact .inr ⟨o,f.keep _ _ hn h⟩
theorem SqT.fw (S:Sr K H φ st) (f:Fw φ φ' H H') {a:Addr}{vs:List V} (h:SqT K H a vs):SqT K H' a vs:=by
 rcases h with h|h
 ·exact .inl (f.keep _ _ (Rd.nin S (.inl h)) h)
 ·exact .inr h
theorem Rd.some {a:Addr}{u:HO} (h:Rd H a u):∃ o,H a=some o:=by
 rcases h with h|⟨o,h⟩
 ·exact⟨_,h⟩
 ·exact⟨_,h⟩
mutual
theorem Rl.fw (S:Sr K H φ st) (f:Fw φ φ' H H'):∀ {d:D}{v:V},Rl K H φ d v->Rl K H' φ' d v
 |.non,_,h=>h
 |.bl _,_,h=>h
 |.int _,_,h=>h
 |.str _,_,h=>h
 |.ty _,_,h=>h
 |.dct,_,h=>by
  obtain⟨a,rfl,hn,h⟩:=h;rcases h with⟨d,h⟩|⟨d,h⟩
  ·exact⟨a,U,f.nin hn h,.inl ⟨d,f.keep _ _ hn h⟩⟩
  ·exact⟨a,U,f.nin hn h,.inr ⟨d,f.keep _ _ hn h⟩⟩
 |.scr ns,_,h=>by
  obtain⟨a,rfl,h⟩:=h;refine⟨a,U,?_⟩;rcases h with⟨o,h⟩|h
  ·refine .inl ⟨o,f.keep _ _ (λz=>?_) h⟩
   obtain⟨ws,q,qm⟩:=S.lst z;rw[q]at h;cases h;cases qm
  ·exact .inr h
 |.tup ds,_,h=>by
  obtain⟨a,vs,rfl,h1,h2⟩:=h;exact⟨a,vs,U,f.keep _ _ (Rd.nin S (.inl h1)) h1,Rls.fw S f h2⟩
 |.lst ds,_,h=>by
  obtain⟨a,vs,rfl,h0,h1,h2⟩:=h;obtain⟨o,e⟩:=h1.some;exact⟨a,vs,U,f.nin h0 e,h1.fw f h0,Rls.fw S f h2⟩
theorem Rls.fw (S:Sr K H φ st) (f:Fw φ φ' H H'):∀ {ds:List D}{vs:List V},Rls K H φ ds vs->Rls K H' φ' ds vs
 |[],_,h=>h
 |d::ds,_,h=>by
  obtain⟨v,r,rfl,h1,h2⟩:=h;exact⟨v,r,U,Rl.fw S f h1,Rls.fw S f h2⟩
end
theorem Rw.fw (S:Sr K H φ st) (f:Fw φ φ' H H') {w:W}{v:V} (h:Rw K H φ w v):Rw K H' φ' w v:=by
 cases w with
 |d x=>exact Rl.fw S f h
 |h n=>obtain⟨a,e,rfl⟩:=h;exact⟨a,f.get e,U⟩
theorem Rws.fw (S:Sr K H φ st) (f:Fw φ φ' H H'):∀ {ws:List W}{vs:List V},Rws K H φ ws vs->Rws K H' φ' ws vs
 |[],_,h=>h
 |d::ds,_,h=>by
  obtain⟨v,r,rfl,h1,h2⟩:=h;exact⟨v,r,U,h1.fw S f,Rws.fw S f h2⟩
theorem Er.fw (S:Sr K H φ st) (f:Fw φ φ' H H') {env:Ev}{O:St} (h:Er K H φ env O):Er K H' φ' env O:=
 ⟨h.len,λi w e=>let ⟨v,j,r⟩:=h.at_ i w e;⟨v,j,r.fw S f⟩⟩
theorem Rkv.fw (S:Sr K H φ st) (f:Fw φ φ' H H'):∀ {ds:List (List Int×D)}{vs:List (List Key×V)},Rkv K H φ ds vs->Rkv K H' φ' ds vs
 |[],_,h=>h
 |(k,d)::ds,_,h=>by
  obtain⟨v,r,rfl,h1,h2⟩:=h;exact⟨v,r,U,Rl.fw S f h1,Rkv.fw S f h2⟩
theorem Rkk.fw (S:Sr K H φ st) (f:Fw φ φ' H H'):∀ {ds:List (Int×D)}{vs:List (Key×V)},Rkk K H φ ds vs->Rkk K H' φ' ds vs
 |[],_,h=>h
 |(k,d)::ds,_,h=>by
  obtain⟨v,r,rfl,h1,h2⟩:=h;exact⟨v,r,U,Rl.fw S f h1,Rkk.fw S f h2⟩
theorem Rc.fw (S:Sr K H φ st) (f:Fw φ φ' H H') {k:Nat}{a:Addr}{c:C} (e:∀ o,H a=some o->H' a=some o) (h:Rc K H φ k a c):Rc K H' φ' k a c:=by
 cases c with
 |l ds=>obtain⟨vs,q,r⟩:=h;exact⟨vs,e _ q,r.fw S f⟩
 |n ds=>obtain⟨vs,q,r,b⟩:=h;exact⟨vs,e _ q,r.fw S f,b⟩
 |m ds=>obtain⟨vs,q,r⟩:=h;exact⟨vs,e _ q,r.fw S f⟩
 |k ds=>obtain⟨vs,q,r⟩:=h;exact⟨vs,e _ q,r.fw S f⟩
theorem Sr.same (S:Sr K H φ st) (s:bU H H'):Sr K H' φ st:=
 ⟨S.nd,S.len,λn a c j t=>(S.at_ n a c j t).fw S (Fw.same s) λo h=>s _ _ h⟩
theorem Sr.new (S:Sr K H φ st) {p:Addr}{o:HO} (F:H p=none):Sr K (upd H p o) φ st:=S.same (bU.new F o)
theorem Rls.length:∀ {ds:List D}{vs:List V},Rls K H φ ds vs->ds.length=vs.length
 |[],_,h=>by cases h;rfl
 |d::ds,_,h=>by
  obtain⟨v,r,rfl,h1,h2⟩:=h;rw[qaf,qaf,Rls.length h2]
theorem Rws.length:∀ {ds:List W}{vs:List V},Rws K H φ ds vs->ds.length=vs.length
 |[],_,h=>by cases h;rfl
 |d::ds,_,h=>by
  obtain⟨v,r,rfl,h1,h2⟩:=h;rw[qaf,qaf,Rws.length h2]
theorem Rls.append:∀ {ds P:List D}{vs M:List V},Rls K H φ ds vs->Rls K H φ P M->Rls K H φ (ds++P) (vs++M)
 |[],_,_,_,h,E=>by cases h;exact E
 |d::ds,_,_,_,h,E=>by
  obtain⟨v,r,rfl,h1,h2⟩:=h;exact⟨v,_,U,h1,Rls.append h2 E⟩
theorem Rls.get:∀ {ds:List D}{vs:List V},Rls K H φ ds vs->∀ {i:Nat}{d:D},ds[i]?=some d->∃ v,vs[i]?=some v/\Rl K H φ d v
 |[],_,h,i,d,e=>by simp at e
 |d::ds,_,h,i,e,q=>by
  obtain⟨v,r,rfl,h1,h2⟩:=h;cases i with
  |zero=>simp at q;subst q;exact⟨v,U,h1⟩
  |succ i=>simpa using Rls.get h2 (by simpa using q)
theorem Rls.take:∀ {ds:List D}{vs:List V} (n:Nat),Rls K H φ ds vs->Rls K H φ (ds.take n) (vs.take n)
 |_,_,0,_=>by exact U
 |[],_,n+1,h=>by cases h;exact U
 |d::ds,_,n+1,h=>by
  obtain⟨v,r,rfl,h1,h2⟩:=h;exact⟨v,_,U,h1,Rls.take n h2⟩
theorem Rls.drop:∀ {ds:List D}{vs:List V} (n:Nat),Rls K H φ ds vs->Rls K H φ (ds.drop n) (vs.drop n)
 |_,_,0,h=>h
 |[],_,n+1,h=>by cases h;exact U
 |d::ds,_,n+1,h=>by
  obtain⟨v,r,rfl,h1,h2⟩:=h;exact Rls.drop n h2
theorem Rls.set:∀ {ds:List D}{vs:List V} (n:Nat) {d:D}{v:V},Rls K H φ ds vs->Rl K H φ d v->Rls K H φ (ds.set n d) (vs.set n v)
 |[],_,_,_,_,h,_=>by cases h;exact U
 |e::ds,_,0,d,v,h,hd=>by
  obtain⟨u,r,rfl,h1,h2⟩:=h;exact⟨v,r,U,hd,h2⟩
 |e::ds,_,n+1,d,v,h,hd=>by
  obtain⟨u,r,rfl,h1,h2⟩:=h;exact⟨u,_,U,h1,Rls.set n h2 hd⟩
theorem Rls.rep {ds:List D}{vs:List V} (h:Rls K H φ ds vs):∀ k:Nat,Rls K H φ (qax k ds).flatten (qax k vs).flatten
 |0=>rfl
 |k+1=>by exact h.append (Rls.rep h k)
theorem Rls.ints:∀ {ns:List Int}{vs:List V},Rls K H φ (ns.map D.int) vs->vs=ns.map V.int
 |[],_,h=>h
 |n::ns,_,h=>by
  obtain⟨v,r,rfl,h1,h2⟩:=h;rw[h1,Rls.ints h2];rfl
theorem Rls.bools:∀ {ns:List Bool}{vs:List V},Rls K H φ (ns.map D.bl) vs->vs=ns.map V.bl
 |[],_,h=>h
 |n::ns,_,h=>by
  obtain⟨v,r,rfl,h1,h2⟩:=h;rw[h1,Rls.bools h2];rfl
theorem Rls.of_ints:∀ (ns:List Int),Rls K H φ (ns.map D.int) (ns.map V.int)
 |[]=>rfl
 |n::ns=>⟨_,_,U,U,Rls.of_ints ns⟩
theorem Rl.less {g:List Addr}:∀ {d:D}{v:V},Rl K H (φ++g) d v->Rl K H φ d v:=by
 intro d v;refine (?_:∀ v,Rl K H (φ++g) d v->Rl K H φ d v) v;refine D.rec (motive_1:=λd=>∀ v,Rl K H (φ++g) d v->Rl K H φ d v) (motive_2:=λds=>∀ vs,Rls K H (φ++g) ds vs->Rls K H φ ds vs) ?_ ?_ ?_ ?_ ?_ ?_ ?_ ?_ ?_ ?_ ?_ d
 ·exact λv h=>h
 ·exact λb v h=>h
 ·exact λb v h=>h
 ·exact λb v h=>h
 ·exact λb v h=>h
 ·rintro v ⟨a,e,hn,h⟩;exact⟨a,e,λz=>hn (qaW _ z),h⟩
 ·exact λns v h=>h
 ·rintro ds I v ⟨a,vs,rfl,h1,h2⟩;exact⟨a,vs,U,h1,I vs h2⟩
 ·rintro ds I v ⟨a,vs,rfl,h0,h1,h2⟩;exact⟨a,vs,U,λz=>h0 (qaW _ z),h1,I vs h2⟩
 ·exact λvs h=>h
 ·rintro d ds J G vs ⟨v,r,rfl,h1,h2⟩;exact⟨v,r,U,J v h1,G r h2⟩
theorem Rls.less {g:List Addr}:∀ {ds:List D}{vs:List V},Rls K H (φ++g) ds vs->Rls K H φ ds vs
 |[],_,h=>h
 |d::ds,_,h=>by
  obtain⟨v,r,rfl,h1,h2⟩:=h;exact⟨v,r,U,Rl.less h1,Rls.less h2⟩
theorem Rkv.less {g:List Addr}:∀ {ds:List (List Int×D)}{vs:List (List Key×V)},Rkv K H (φ++g) ds vs->Rkv K H φ ds vs
 |[],_,h=>h
 |(k,d)::ds,_,h=>by
  obtain⟨v,r,rfl,h1,h2⟩:=h;exact⟨v,r,U,Rl.less h1,Rkv.less h2⟩
theorem Rkk.less {g:List Addr}:∀ {ds:List (Int×D)}{vs:List (Key×V)},Rkk K H (φ++g) ds vs->Rkk K H φ ds vs
 |[],_,h=>h
 |(k,d)::ds,_,h=>by
  obtain⟨v,r,rfl,h1,h2⟩:=h;exact⟨v,r,U,Rl.less h1,Rkk.less h2⟩
theorem Rws.less {g:List Addr}:∀ {ds:List W}{vs:List V},(∀ m,W.h m∈ds->m<φ.length)->Rws K H (φ++g) ds vs->Rws K H φ ds vs
 |[],_,_,h=>h
 |d::ds,_,hm,h=>by
  obtain⟨v,r,rfl,h1,h2⟩:=h;refine⟨v,r,U,?_,Rws.less (λm z=>hm m (qah _ z)) h2⟩;cases d with
  |d x=>exact Rl.less h1
  |h m=>
   obtain⟨a,e,rfl⟩:=h1;rw[qaP (hm m qae)]at e;exact⟨a,e,U⟩
theorem Rc.less {g:List Addr}{k:Nat}{a:Addr}{c:C} (Y:k<φ.length) (h:Rc K H (φ++g) k a c):Rc K H φ k a c:=by
 cases c with
 |l ds=>obtain⟨vs,q,r⟩:=h;exact⟨vs,q,r.less⟩
 |n ds=>obtain⟨vs,q,r,b⟩:=h;exact⟨vs,q,r.less λm z=>Nat.lt_trans (b m z) Y,b⟩
 |m ds=>obtain⟨vs,q,r⟩:=h;exact⟨vs,q,r.less⟩
 |k ds=>obtain⟨vs,q,r⟩:=h;exact⟨vs,q,r.less⟩
theorem Sr.less {g:List Addr} (S:Sr K H (φ++g) st):Sr K H φ (st.take φ.length):=by
 have T:=S.len;rw[qai]at T;refine⟨(qfO.mp S.nd).1,by rw[qcg];lia,λn a ds j t=>?_⟩;have hn:=(qaA.mp j).1;rw[qe1 hn]at t;exact (S.at_ n a ds (by rw[qaP hn];exact j) t).less hn
end
abbrev Ef:=Ev->Sto->Option (W×Sto)
abbrev Af:=Ev->Sto->Option (List W×Sto)
abbrev Tf:=Ev->Sto->Option (Bool×Sto)
abbrev Lf:=Ev->Sto->Option (List D×Sto)
abbrev Fn:=List W->Sto->Option (W×Sto)
section
variable (K:qad)
def tI (env:Ev) (st:Sto) (r:W×Sto):TE:=λc H Q=>∃ φ,Er K H φ env c/\Sr K H φ st/\∀ v H' b,Fw φ b H H'->Sr K H' b r.2->Rw K H' b r.1 v->Q v H'
def tIA (env:Ev) (st:Sto) (r:List W×Sto):TA:=λc H Q=>∃ φ,Er K H φ env c/\Sr K H φ st/\∀ vs H' b,Fw φ b H H'->Sr K H' b r.2->Rws K H' b r.1 vs->Q vs H'
def tIT (env:Ev) (st:Sto) (r:Bool×Sto):TT:=λc H Q=>∃ φ,Er K H φ env c/\Sr K H φ st/\∀ H' b,Fw φ b H H'->Sr K H' b r.2->Q r.1 H'
def tIL (env:Ev) (st:Sto) (r:List D×Sto):TE:=λc H Q=>∃ φ,Er K H φ env c/\Sr K H φ st/\∀ a vs H1 b,Fw φ b H H1->Sr K H1 b r.2->H1 a=none->Rls K H1 b r.1 vs->Q (.ref a) (upd H1 a (.lst vs))
structure IE (X:Cx) (e:Expr) (f:Ef):Prop where
 run:∀ env st r,f env st=some r->PE X e (tI K env st r)
structure IA (X:Cx) (es:List Expr) (f:Af):Prop where
 run:∀ env st r,f env st=some r->PA X es (tIA K env st r)
structure IT (X:Cx) (e:Expr) (f:Tf):Prop where
 run:∀ env st r,f env st=some r->PT X e (tIT K env st r)
structure ITW (X:Cx) (e:Expr) (f:Tf):Prop where
 run:∀ env st r,f env st=some r->PW X e (tIT K env st r)
structure IL (X:Cx) (e:Expr) (f:Lf):Prop where
 run:∀ env st r,f env st=some r->PE X e (tIL K env st r)
def rD (st:Sto) (x y:W) (d:D):R2:=λi j H Q=>∃ φ,Sr K H φ st/\Rw K H φ x i/\Rw K H φ y j/\∀ v H',bU H H'->Rl K H' φ d v->Q v H'
structure OpD (X:Cx) (f:Value->Value->Sem Value) (g:Sto->W->W->Option D):Prop where
 run:∀ st x y d,g st x y=some d->OpR X f (rD K st x y d)
def rCD (st:Sto) (ws:List W) (d:D):List V->Hp->VK->Prop:=λvs H Q=>∃ φ,Sr K H φ st/\Rws K H φ ws vs/\∀ v H',bU H H'->Rl K H' φ d v->Q v H'
structure j6 (X:Cx) (f:Value) (g:Sto->List W->Option D):Prop where
 run:∀ st ws d,g st ws=some d->gK X f (rCD K st ws d)
def rCL (st:Sto) (ws:List W) (ds:List D):List V->Hp->VK->Prop:=λvs H Q=>∃ φ,Sr K H φ st/\Rws K H φ ws vs/\∀ a h H1,bU H H1->H1 a=none->Rls K H1 φ ds h->Q (.ref a) (upd H1 a (.lst h))
structure BR (X:Cx) (f:Value) (g:Sto->List W->Option (List D)):Prop where
 run:∀ st ws d,g st ws=some d->gK X f (rCL K st ws d)
end
def iV (i:Nat):Ef
 |env,st=>(env.getD i none).map λw=>(w,st)
def iC (d:D):Ef
 |_,st=>some (.d d,st)
def iOp (g:Sto->W->W->Option D) (a b:Ef):Ef
 |env,st=>(a env st).bind λx=>(b env x.2).bind λy=>(g y.2 x.1 y.1).map λd=>(.d d,y.2)
def iM:D->Option Bool
 |.bl b=>some b
 |_=>none
def blW:W->Option Bool
 |.d (.bl b)=>some b
 |_=>none
def aC (g:Sto->W->W->Option D) (a b:Ef):Tf
 |env,st=>(a env st).bind λx=>(b env x.2).bind λy=>(g y.2 x.1 y.1).bind λd=>(iM d).map λk=>(k,y.2)
def mO (g e:Sto->W->W->Option D) (a b c:Ef):Ef
 |env,st=>(a env st).bind λx=>(b env x.2).bind λy=>(g y.2 x.1 y.1).bind λd=>(iM d).bind λk=>
 if k=true then (c env y.2).bind λz=>(e z.2 y.1 z.1).map λd=>(.d d,z.2) else some (.d (.bl false),y.2)
def iUn (g:W->Option D) (a:Ef):Ef
 |env,st=>(a env st).bind λx=>(g x.1).map λd=>(.d d,x.2)
def wC (a:Ef):Ef
 |env,st=>(a env st).bind λx=>(blW x.1).map λk=>(.d (.bl (!k)),x.2)
def du (a b:Ef):Ef
 |env,st=>(a env st).bind λx=>(blW x.1).bind λk=>if k=true then b env x.2 else some (.d (.bl false),x.2)
def CT (a b:Ef):Ef
 |env,st=>(a env st).bind λx=>(blW x.1).bind λk=>if k=true then some (.d (.bl true),x.2) else b env x.2
def gj (c:Tf) (a b:Ef):Ef
 |env,st=>(c env st).bind λr=>if r.1=true then a env r.2 else b env r.2
def ba (c:Tf):Tf
 |env,st=>(c env st).map λr=>(!r.1,r.2)
def kh (a b:Tf):Tf
 |env,st=>(a env st).bind λr=>if r.1=true then b env r.2 else some (false,r.2)
def dv (a b:Tf):Tf
 |env,st=>(a env st).bind λr=>if r.1=true then some (true,r.2) else b env r.2
def bJ (g:Sto->W->Option Bool) (a:Ef):Tf
 |env,st=>(a env st).bind λx=>(g x.2 x.1).map λk=>(k,x.2)
def ah:Af
 |_,st=>some ([],st)
def ae (a:Ef) (r:Af):Af
 |env,st=>(a env st).bind λx=>(r env x.2).map λy=>(x.1::y.1,y.2)
def iCB (g:Sto->List W->Option D) (a:Af):Ef
 |env,st=>(a env st).bind λr=>(g r.2 r.1).map λd=>(.d d,r.2)
def iCL (g:Sto->List W->Option (List D)) (a:Af):Lf
 |env,st=>(a env st).bind λr=>(g r.2 r.1).map λd=>(d,r.2)
def au (m:Fn) (a:Af):Ef
 |env,st=>(a env st).bind λr=>m r.1 r.2
def fz:List W->Option (List D)
 |[]=>some []
 |.d x::ws=>(fz ws).map λr=>x::r
 |.h _::_=>none
def aQ (a:Af):Ef
 |env,st=>(a env st).bind λr=>(fz r.1).bind λds=>if ds.length<=1000 then some (.d (.tup ds),r.2) else none
def cL (a:Af):Lf
 |env,st=>(a env st).bind λr=>(fz r.1).bind λds=>if ds.length<=1000 then some (ds,r.2) else none
def ay (a:Lf):Ef
 |env,st=>(a env st).map λr=>(.d (.lst r.1),r.2)
def mP (a:Lf):Ef
 |env,st=>(a env st).map λr=>(.h r.2.length,r.2++[.l r.1])
section
variable {K:qad}{X:Cx}{e a b c:Expr}{es:List Expr}{pos:Pos}{f fa fb fc:Ef}
theorem PE.imp {t t':TE} (h:PE X e t) (m:∀ L H Q,t' L H Q->t L H Q):PE X e t':=λR s L H Q I q=>h R s L H Q I (m L H Q q)
theorem PT.imp {t t':TT} (h:PT X e t) (m:∀ L H Q,t' L H Q->t L H Q):PT X e t':=λR s L H Q I q=>h R s L H Q I (m L H Q q)
theorem PW.imp {t t':TT} (h:PW X e t) (m:∀ L H Q,t' L H Q->t L H Q):PW X e t':=λwh R s L H Q I q=>h wh R s L H Q I (m L H Q q)
theorem PA.imp {t t':TA} (h:PA X es t) (m:∀ L H Q,t' L H Q->t L H Q):PA X es t':=λpos R s L H Q I q=>h pos R s L H Q I (m L H Q q)
theorem OpR.imp {g:Value->Value->Sem Value}{r r':R2} (h:OpR X g r) (m:∀ x y H Q,r' x y H Q->r x y H Q):OpR X g r':=λR s L H x y v u Q I rx ry q=>h R s L H x y v u Q I rx ry (m _ _ _ _ q)
theorem gK.imp {g:Value}{r r':List V->Hp->VK->Prop} (h:gK X g r) (m:∀ xs H Q,r' xs H Q->r xs H Q):gK X g r':=λR s L H xs us Q I rx q=>h R s L H xs us Q I rx (m _ _ _ q)
theorem gX:PE X e (λ_ _ _=>False):=λ_ _ _ _ _ _ q=>q.elim
theorem uQ:PW X e (λ_ _ _=>False):=λ_ _ _ _ _ _ _ q=>q.elim
theorem CY {i:Nat}{x:Str}{t:TE} (h:PE X (.Name x pos) (Ed i)):IE K X (.Name x pos) (iV i):=by
 refine⟨λenv st r B=>?_⟩;obtain⟨w,hw,rfl⟩:=qac.mp B;refine h.imp ?_
 rintro L H Q ⟨φ,J,E,q⟩
 have hi:env[i]?=some (some w):=by
  rw[qfe]at hw;cases q:env[i]? with
  |none=>rw[q]at hw;cases hw
  |some o=>rw[q]at hw;rw[show o=some w from hw]
 obtain⟨v,e1,r⟩:=J.at_ i w hi;exact⟨v,e1,q v H φ (Fw.refl φ H) E r⟩
theorem iv (i:Nat) {x:Str} (hN:X.N[i]?=some x:=by rfl) (hv:Vis X.env.scope x:=by first|exact Or.inl U|exact Or.inr (Or.inl U)|exact Or.inr (Or.inr U)) (hd:(x==("__debug__" : Str))=false:=by decide)
  (hcd:(x==("__classdict__" : Str))=false:=by decide):IE K X (.Name x pos) (iV i):=CY (t:=Ed i) (DL hN hv hd hcd)
theorem xH {d:D}{v:V} (h:PE X e (tC v)) (r:∀ H φ,Rl K H φ d v):IE K X e (iC d):=by
 refine⟨λenv st r B=>?_⟩;cases B;refine h.imp ?_
 rintro L H Q ⟨φ,J,E,q⟩
 exact q v H φ (Fw.refl φ H) E (r H φ)
theorem aj {i j}:IE K X (.Constant (.int i) j pos) (iC (.int i)):=xH DF λ_ _=>rfl
theorem gp {i j}:IE K X (.Constant (.bool i) j pos) (iC (.bl i)):=xH Ff λ_ _=>rfl
theorem km {j}:IE K X (.Constant .none j pos) (iC .non):=xH DH λ_ _=>rfl
theorem aq {x j}:IE K X (.Constant (.str x) j pos) (iC (.str x)):=xH DK λ_ _=>rfl
theorem tQ {env:Ev}{st:Sto}{x y:W×Sto}{d:D}{L:St}{H:Hp}{Q:VK} (h:tI K env st (.d d,y.2) L H Q):tOp (rD K y.2 x.1 y.1 d) (tI K env st x) (tI K env x.2 y) L H Q:=by
 obtain⟨φ,J,E,q⟩:=h;refine⟨φ,J,E,λv H1 A f1 G N=>⟨A,J.fw E f1,G,λu H2 M f2 s2 w2=>⟨M,s2,N.fw G f2,w2,λv3 H3 f3 w3=>?_⟩⟩⟩;exact q v3 H3 M ((f1.trans f2).trans (Fw.same f3)) (s2.same f3) w3
theorem aD {op:Operator}{g:Sto->W->W->Option D} (ho:OpD K X (qbF op) g) (O:IE K X a fa) (hb:IE K X b fb):IE K X (.BinOp a op b pos) (iOp g fa fb):=by
 refine⟨λenv st r B=>?_⟩;simp only[iOp,qab,qac]at B;obtain⟨x,P,y,hy,d,hd,rfl⟩:=B;exact (Cc (ho.run _ _ _ _ hd) (O.run _ _ _ P) (hb.run _ _ _ hy)).imp λL H Q h=>tQ h
theorem hM {op:CmpOp}{g:Sto->W->W->Option D} (ho:OpD K X (qa2 op) g) (O:IE K X a fa) (hb:IE K X b fb) (hm:qch op b=false):IE K X (.Compare a [op] [b] pos) (iOp g fa fb):=by
 refine⟨λenv st r B=>?_⟩;simp only[iOp,qab,qac]at B;obtain⟨x,P,y,hy,d,hd,rfl⟩:=B;exact (wV (ho.run _ _ _ _ hd) (O.run _ _ _ P) (hb.run _ _ _ hy) hm).imp λL H Q h=>tQ h
theorem qN {d:D}{k:Bool} (h:iM d=some k):d=.bl k:=by
 cases d<;>first|(cases h;done)|(injection h with h;subst h;rfl)
theorem oy {d:W}{k:Bool} (h:blW d=some k):d=.d (.bl k):=by
 cases d with
 |h n=>cases h
 |d x=>cases x<;>first|(cases h;done)|(injection h with h;subst h;rfl)
theorem aF {op:CmpOp}{g:Sto->W->W->Option D} (ho:OpD K X (qa2 op) g) (O:IE K X a fa) (hb:IE K X b fb) (hm:qch op b=false):IT K X (.Compare a [op] [b] pos) (aC g fa fb):=by
 refine⟨λenv st r B=>?_⟩;simp only[aC,qab,qac]at B;obtain⟨x,P,y,hy,d,hd,k,hk,rfl⟩:=B;cases qN hk;refine (tu (ho.run _ _ _ _ hd) (O.run _ _ _ P) (hb.run _ _ _ hy) hm).imp λL H Q h=>?_;obtain⟨φ,J,E,q⟩:=h;refine tQ ⟨φ,J,E,λv H1 A f1 G N=>⟨k,N,q H1 A f1 G⟩⟩
theorem yN {op op':CmpOp}{g g':Sto->W->W->Option D} (ho:OpD K X (qa2 op) g) (ho':OpD K X (qa2 op') g') (O:IE K X a fa) (hb:IE K X b fb) (hc:IE K X c fc)
  (hm:lastMarks [op,op'] [b,c]=false:=by with_unfolding_all rfl):IE K X (.Compare a [op,op'] [b,c] pos) (mO g g' fa fb fc):=by
 refine⟨λenv st r B=>?_⟩;simp only[mO,qab]at B;obtain⟨x,P,y,hy,d,hd,k,hk,B⟩:=B;cases qN hk;cases k with
 |false=>
  cases B;refine (uM (r':=λ_ _ _ _=>False) (ho.run _ _ _ _ hd) (λ_ _ _ _ _ _ _ _ _ _ _ _ q=>q.elim) (O.run _ _ _ P) (hb.run _ _ _ hy) gX hm).imp ?_
  rintro L H Q ⟨φ,J,E,q⟩
  refine⟨φ,J,E,λv H1 A f1 G N=>⟨A,J.fw E f1,G,λu H2 M f2 s2 w2=>⟨M,s2,N.fw G f2,w2,λv3 H3 f3 w3=>⟨false,w3,?_⟩⟩⟩⟩;exact q _ H3 M ((f1.trans f2).trans (Fw.same f3)) (s2.same f3) U
 |true=>
  simp only[if_true,qab,qac]at B;obtain⟨z,hz,d',hd',rfl⟩:=B;refine (uM (ho.run _ _ _ _ hd) (ho'.run _ _ _ _ hd') (O.run _ _ _ P) (hb.run _ _ _ hy) (hc.run _ _ _ hz) hm).imp ?_
  rintro L H Q ⟨φ,J,E,q⟩
  refine⟨φ,J,E,λv H1 A f1 G N=>⟨A,J.fw E f1,G,λu H2 M f2 s2 w2=>⟨M,s2,N.fw G f2,w2,λv3 H3 f3 w3=>⟨true,w3,?_⟩⟩⟩⟩;have f13:=(f1.trans f2).trans (Fw.same f3);refine⟨M,J.fw E f13,s2.same f3,λu4 H4 φ4 f4 s4 w4=>⟨φ4,s4,(w2.fw s2 (Fw.same f3)).fw (s2.same f3) f4,w4,λv5 H5 f5 w5=>?_⟩⟩;exact q v5 H5 φ4 (f13.trans (f4.trans (Fw.same f5))) (s4.same f5) w5
def jX:W->Option D
 |.d (.int i)=>some (.int (-i))
 |_=>none
theorem pe (O:IE K X a fa):IE K X (.UnaryOp .USub a pos) (iUn jX fa):=by
 refine⟨λenv st r B=>?_⟩;simp only[iUn,qab,qac]at B;obtain⟨⟨x,G⟩,P,d,hd,rfl⟩:=B;cases x with
 |h n=>cases hd
 |d x=>
  cases x with
  |int i=>
   cases hd;refine (Fg Eh (O.run _ _ _ P)).imp ?_
   rintro L H Q ⟨φ,J,E,q⟩
   exact⟨φ,J,E,λv H1 A f1 G N=>⟨i,N,q _ H1 A f1 G U⟩⟩
  |_=>cases hd
theorem CU (O:IE K X a fa):IE K X (.UnaryOp .Not a pos) (wC fa):=by
 refine⟨λenv st r B=>?_⟩;simp only[wC,qab,qac]at B;obtain⟨x,P,k,hk,rfl⟩:=B;refine (DI (O.run _ _ _ P)).imp ?_
 rintro L H Q ⟨φ,J,E,q⟩
 exact⟨φ,J,E,λv H1 A f1 G N=>⟨k,by rw[(oy hk)]at N;exact N,q _ H1 A f1 G U⟩⟩
theorem jd {op} (h:IE K X a fa):IE K X (.BoolOp op [a] pos) fa:=⟨λenv st r B=>DJ (h.run env st r B)⟩
theorem iF {Y:List Expr} (O:IE K X a fa) (hb:IE K X (.BoolOp .And (b::Y) pos) fb):IE K X (.BoolOp .And (a::b::Y) pos) (du fa fb):=by
 refine⟨λenv st r B=>?_⟩;simp only[du,qab]at B;obtain⟨x,P,k,hk,B⟩:=B;have e:=oy hk;cases k with
 |false=>
  cases B;refine (zu (O.run _ _ _ P) gX).imp ?_
  rintro L H Q ⟨φ,J,E,q⟩
  refine⟨φ,J,E,λv H1 A f1 G N=>⟨false,by rw[e]at N;exact N,?_⟩⟩;exact q _ H1 A f1 G U
 |true=>
  refine (zu (O.run _ _ _ P) (hb.run _ _ _ B)).imp ?_
  rintro L H Q ⟨φ,J,E,q⟩
  refine⟨φ,J,E,λv H1 A f1 G N=>⟨true,by rw[e]at N;exact N,?_⟩⟩;exact⟨A,J.fw E f1,G,λu H2 M f2 s2 w2=>q u H2 M (f1.trans f2) s2 w2⟩
theorem EJ {Y:List Expr} (O:IE K X a fa) (hb:IE K X (.BoolOp .Or (b::Y) pos) fb):IE K X (.BoolOp .Or (a::b::Y) pos) (CT fa fb):=by
 refine⟨λenv st r B=>?_⟩;simp only[CT,qab]at B;obtain⟨x,P,k,hk,B⟩:=B;have e:=oy hk;cases k with
 |true=>
  cases B;refine (Cd (O.run _ _ _ P) gX).imp ?_
  rintro L H Q ⟨φ,J,E,q⟩
  refine⟨φ,J,E,λv H1 A f1 G N=>⟨true,by rw[e]at N;exact N,?_⟩⟩;exact q _ H1 A f1 G U
 |false=>
  refine (Cd (O.run _ _ _ P) (hb.run _ _ _ B)).imp ?_
  rintro L H Q ⟨φ,J,E,q⟩
  refine⟨φ,J,E,λv H1 A f1 G N=>⟨false,by rw[e]at N;exact N,?_⟩⟩;exact⟨A,J.fw E f1,G,λu H2 M f2 s2 w2=>q u H2 M (f1.trans f2) s2 w2⟩
variable {ta tb:Tf}
theorem bL (O:IT K X a ta):IT K X (.UnaryOp .Not a pos) (ba ta):=by
 refine⟨λenv st r B=>?_⟩;simp only[ba,qac]at B;obtain⟨x,P,rfl⟩:=B;refine (DV (O.run _ _ _ P)).imp ?_
 rintro L H Q ⟨φ,J,E,q⟩
 exact⟨φ,J,E,λH1 A f1 G=>q H1 A f1 G⟩
theorem d9 (h:ITW K X a ta):IT K X a ta:=⟨λenv st r B=>(h.run env st r B).pt⟩
theorem uy (h:IT K X a ta):ITW K X (.BoolOp .And [a] pos) ta:=⟨λenv st r B=>By (h.run env st r B)⟩
theorem dm (h:IT K X a ta):ITW K X (.BoolOp .Or [a] pos) ta:=⟨λenv st r B=>DW (h.run env st r B)⟩
theorem wG {Y:List Expr} (O:IT K X a ta) (hb:ITW K X (.BoolOp .And (b::Y) pos) tb):ITW K X (.BoolOp .And (a::b::Y) pos) (kh ta tb):=by
 refine⟨λenv st r B=>?_⟩;simp only[kh,qab]at B;obtain⟨⟨k,G⟩,P,B⟩:=B;cases k with
 |false=>
  cases B;refine (zH (O.run _ _ _ P) uQ).imp ?_
  rintro L H Q ⟨φ,J,E,q⟩
  refine⟨φ,J,E,λH1 A f1 G=>?_⟩;exact q H1 A f1 G
 |true=>
  refine (zH (O.run _ _ _ P) (hb.run _ _ _ B)).imp ?_
  rintro L H Q ⟨φ,J,E,q⟩
  refine⟨φ,J,E,λH1 A f1 G=>?_⟩;exact⟨A,J.fw E f1,G,λH2 M f2 s2=>q H2 M (f1.trans f2) s2⟩
theorem eF {Y:List Expr} (O:IT K X a ta) (hb:ITW K X (.BoolOp .Or (b::Y) pos) tb):ITW K X (.BoolOp .Or (a::b::Y) pos) (dv ta tb):=by
 refine⟨λenv st r B=>?_⟩;simp only[dv,qab]at B;obtain⟨⟨k,G⟩,P,B⟩:=B;cases k with
 |true=>
  cases B;refine (Ce (O.run _ _ _ P) uQ).imp ?_
  rintro L H Q ⟨φ,J,E,q⟩
  refine⟨φ,J,E,λH1 A f1 G=>?_⟩;exact q H1 A f1 G
 |false=>
  refine (Ce (O.run _ _ _ P) (hb.run _ _ _ B)).imp ?_
  rintro L H Q ⟨φ,J,E,q⟩
  refine⟨φ,J,E,λH1 A f1 G=>?_⟩;exact⟨A,J.fw E f1,G,λH2 M f2 s2=>q H2 M (f1.trans f2) s2⟩
theorem lr {tc:Tf} (hc:IT K X c tc) (O:IE K X a fa) (hb:IE K X b fb):IE K X (.IfExp c a b pos) (gj tc fa fb):=by
 refine⟨λenv st r B=>?_⟩;simp only[gj,qab]at B;obtain⟨⟨k,G⟩,P,B⟩:=B;cases k with
 |true=>
  refine (mv (hc.run _ _ _ P) (O.run _ _ _ B) gX).imp ?_
  rintro L H Q ⟨φ,J,E,q⟩
  refine⟨φ,J,E,λH1 A f1 G=>?_⟩;exact⟨A,J.fw E f1,G,λu H2 M f2 s2 w2=>q u H2 M (f1.trans f2) s2 w2⟩
 |false=>
  refine (mv (hc.run _ _ _ P) gX (hb.run _ _ _ B)).imp ?_
  rintro L H Q ⟨φ,J,E,q⟩
  refine⟨φ,J,E,λH1 A f1 G=>?_⟩;exact⟨A,J.fw E f1,G,λu H2 M f2 s2 w2=>q u H2 M (f1.trans f2) s2 w2⟩
def e8 (st:Sto):W->Option (List D)
 |.d (.tup ds)=>some ds
 |.d (.lst ds)=>some ds
 |.d (.scr ns)=>some (ns.map D.int)
 |.h n=>lg st n
 |_=>none
theorem u0 {st:Sto}{H:Hp}{φ:List Addr}{w:W}{v:V}{ds:List D} (S:Sr K H φ st) (r:Rw K H φ w v) (e:e8 st w=some ds):∃ a vs,v=.ref a/\(SqL K H a vs\/H a=some (.tup vs))/\Rls K H φ ds vs:=by
 cases w with
 |h n=>
  obtain⟨a,ea,rfl⟩:=r;obtain⟨vs,q,rl⟩:=S.atl n a ds ea e;exact⟨a,vs,U,.inl (SqL.of q),rl⟩
 |d x=>
  cases x with
  |tup es=>cases e;obtain⟨a,vs,rfl,h1,h2⟩:=r;exact⟨a,vs,U,.inr h1,h2⟩
  |lst es=>cases e;obtain⟨a,vs,rfl,h0,h1,h2⟩:=r;exact⟨a,vs,U,.inl (.inl h1),h2⟩
  |scr ns=>
   cases e;obtain⟨a,rfl,h⟩:=r;refine⟨a,_,U,.inl ?_,Rls.of_ints ns⟩;rcases h with⟨o,h⟩|h
   ·exact .inl (.inr ⟨o,h⟩)
   ·exact .inr h
  |_=>cases e
theorem mE {st:Sto}{H:Hp}{φ:List Addr}{w:W}{v:V}{ds:List D} (S:Sr K H φ st) (r:Rw K H φ w v) (e:e8 st w=some ds):∃ a vs,v=.ref a/\(SqL K H a vs\/SqT K H a vs)/\Rls K H φ ds vs:=by
 obtain⟨a,vs,h0,h1,h2⟩:=u0 S r e;exact⟨a,vs,h0,h1.imp id SqT.of,h2⟩
def bG (st:Sto):W->Option Bool
 |.d .non=>some false
 |.d (.bl b)=>some b
 |.d (.int i)=>some (i != 0)
 |w=>(e8 st w).map λds=>!ds.isEmpty
theorem tV {st:Sto}{H:Hp}{φ:List Addr}{w:W}{v:V}{k:Bool} (S:Sr K H φ st) (r:Rw K H φ w v) (e:bG st w=some k):yk K v H k:=by
 have seq:∀ ds,e8 st w=some ds->k=!ds.isEmpty->yk K v H k:=λds h hk=>by
  obtain⟨a,vs,rfl,h1,h2⟩:=mE S r h;have e':k=!vs.isEmpty:=by
   rw[hk];cases ds<;>cases vs<;>first|rfl|cases h2.length
  rcases h1 with h1|h1
  ·exact .inl ⟨vs,h1,e'⟩
  ·exact .inr (.inl ⟨vs,h1,e'⟩)
 cases w with
 |h n=>
  obtain⟨ds,h1,h2⟩:=qac.mp e;exact seq ds h1 h2.symm
 |d x=>
  cases x with
  |non=>subst r;cases e;exact U
  |bl b=>subst r;cases e;exact U
  |int i=>subst r;cases e;exact U
  |tup ds=>exact seq ds U (qa1 e).symm
  |lst ds=>exact seq ds U (qa1 e).symm
  |scr ds=>exact seq _ U (qa1 e).symm
  |_=>cases e
theorem bM (O:IE K X a fa) (he:zD a=true:=by rfl) (hK:X.K=K:=by rfl):IT K X a (bJ bG fa):=by
 subst hK;refine⟨λenv st r B=>?_⟩;simp only[bJ,qab,qac]at B;obtain⟨x,P,k,hk,rfl⟩:=B;refine (zG (O.run _ _ _ P) (yd he)).imp ?_
 rintro L H Q ⟨φ,J,E,q⟩
 exact⟨φ,J,E,λv H1 A f1 G N=>⟨k,tV G N hk,q H1 A f1 G⟩⟩
variable {af:Af}
theorem ai:IA K X [] ah:=by
 refine⟨λenv st r B=>?_⟩;cases B;refine vK.imp ?_
 rintro L H Q ⟨φ,J,E,q⟩
 exact q [] H φ (Fw.refl φ H) E U
theorem ag (O:IE K X e fa) (B:IA K X es af) (hs:aN e=true:=by rfl):IA K X (e::es) (ae fa af):=by
 refine⟨λenv st r h=>?_⟩;simp only[ae,qab,qac]at h;obtain⟨x,P,y,hy,rfl⟩:=h;refine (kW (O.run _ _ _ P) (B.run _ _ _ hy) (bB hs)).imp ?_
 rintro L H Q ⟨φ,J,E,q⟩
 refine⟨φ,J,E,λv H1 A f1 G N=>⟨A,J.fw E f1,G,λu H2 M f2 s2 w2=>?_⟩⟩;exact q _ H2 M (f1.trans f2) s2 ⟨v,u,U,N.fw G f2,w2⟩
theorem br {x:Str}{id:String}{p:Pos}{g:Sto->List W->Option D} (hc:j6 K X (.builtin id) g) (hg:Gl X x) (hm:X.mg x=none) (hv:qb6 x=some (.builtin id)) (O:IA K X (e::es) af)
  (hn:x≠"__name__":=by decide) (hdb:(x==("__debug__" : Str))=false:=by decide) (hs:aN e=true:=by rfl) (hp:es.all aN=true:=by rfl) :
  IE K X (.Call (.Name x p) (e::es) [] pos) (iCB g af):=by
 refine⟨λenv st r B=>?_⟩;simp only[iCB,qab,qac]at B;obtain⟨y,hy,d,hd,rfl⟩:=B;refine (zv (hc.run _ _ _ hd) hg hm hv (O.run _ _ _ hy) hn hdb (bB hs) (cu hp)).imp ?_
 rintro L H Q ⟨φ,J,E,q⟩
 exact⟨φ,J,E,λv H1 A f1 G N=>⟨A,G,N,λu H2 f2 w2=>q u H2 A (f1.trans (Fw.same f2)) (G.same f2) w2⟩⟩
theorem jn {x:Str}{T:String}{p:Pos}{g:Sto->List W->Option D} (hc:j6 K X (.type T) g) (hg:Gl X x) (hm:X.mg x=none) (hv:qb6 x=some (.type T)) (O:IA K X (e::es) af)
  (hn:x≠"__name__":=by decide) (hdb:(x==("__debug__" : Str))=false:=by decide) (hs:aN e=true:=by rfl) (hp:es.all aN=true:=by rfl) :
  IE K X (.Call (.Name x p) (e::es) [] pos) (iCB g af):=by
 refine⟨λenv st r B=>?_⟩;simp only[iCB,qab,qac]at B;obtain⟨y,hy,d,hd,rfl⟩:=B;refine (ng (hc.run _ _ _ hd) hg hm hv (O.run _ _ _ hy) hn hdb (bB hs) (cu hp)).imp ?_
 rintro L H Q ⟨φ,J,E,q⟩
 exact⟨φ,J,E,λv H1 A f1 G N=>⟨A,G,N,λu H2 f2 w2=>q u H2 A (f1.trans (Fw.same f2)) (G.same f2) w2⟩⟩
theorem wE {x:Str}{T:String}{p:Pos}{g:Sto->List W->Option (List D)} (hc:BR K X (.type T) g) (hg:Gl X x) (hm:X.mg x=none) (hv:qb6 x=some (.type T)) (O:IA K X (e::es) af)
  (hn:x≠"__name__":=by decide) (hdb:(x==("__debug__" : Str))=false:=by decide) (hs:aN e=true:=by rfl) (hp:es.all aN=true:=by rfl) :
  IL K X (.Call (.Name x p) (e::es) [] pos) (iCL g af):=by
 refine⟨λenv st r B=>?_⟩;simp only[iCL,qab,qac]at B;obtain⟨y,hy,d,hd,rfl⟩:=B;refine (ng (hc.run _ _ _ hd) hg hm hv (O.run _ _ _ hy) hn hdb (bB hs) (cu hp)).imp ?_
 rintro L H Q ⟨φ,J,E,q⟩
 exact⟨φ,J,E,λv H1 A f1 G N=>⟨A,G,N,λa us H2 f2 n2 w2=>q a us H2 A (f1.trans (Fw.same f2)) (G.same f2) n2 w2⟩⟩
theorem oY {H:Hp}{φ:List Addr}:∀ {ws:List W}{vs:List V}{ds:List D},fz ws=some ds->Rws K H φ ws vs->Rls K H φ ds vs
 |[],_,_,e,h=>by cases e;exact h
 |.d x::ws,_,_,e,h=>by
  obtain⟨v,r,rfl,h1,h2⟩:=h;obtain⟨es,e1,rfl⟩:=qac.mp e;exact⟨v,r,U,h1,oY e1 h2⟩
 |.h n::ws,_,_,e,h=>by cases e
theorem bE {x1} (h:IA K X es af):IE K X (.Tuple es x1 pos) (aQ af):=by
 refine⟨λenv st r B=>?_⟩;simp only[aQ,qab]at B;obtain⟨y,hy,ds,hd,B⟩:=B;split at B
 ·cases B
  rename_i hl;refine (zy (h.run _ _ _ hy)).imp ?_
  rintro L H Q ⟨φ,J,E,q⟩
  refine⟨φ,J,E,λvs H1 A f1 G N=>?_⟩;have w:=oY hd N;refine⟨by rw[<-w.length];exact tP hl,λp hp=>?_⟩;exact q _ _ A (f1.trans (Fw.new hp)) (G.new hp) ⟨p,vs,U,bH,w.fw G (Fw.new hp)⟩
 ·cases B
theorem cP (h:IA K X es af):IL K X (.List es pos) (cL af):=by
 refine⟨λenv st r B=>?_⟩;simp only[cL,qab]at B;obtain⟨y,hy,ds,hd,B⟩:=B;split at B
 ·cases B
  rename_i hl;refine (tj (h.run _ _ _ hy)).imp ?_
  rintro L H Q ⟨φ,J,E,q⟩
  refine⟨φ,J,E,λvs H1 A f1 G N=>?_⟩;have w:=oY hd N;exact⟨by rw[<-w.length];exact tP hl,λp hp=>q p vs H1 A f1 G hp w⟩
 ·cases B
theorem aV {lf:Lf} (h:IL K X e lf):IE K X e (ay lf):=by
 refine⟨λenv st r B=>?_⟩;simp only[ay,qac]at B;obtain⟨y,hy,rfl⟩:=B;refine (h.run _ _ _ hy).imp ?_
 rintro L H Q ⟨φ,J,E,q⟩
 refine⟨φ,J,E,λa vs H1 A f1 G n1 N=>?_⟩;exact q _ _ A (f1.trans (Fw.new n1)) (G.new n1) ⟨a,vs,U,G.nin n1,.inl bH,N.fw G (Fw.new n1)⟩
theorem Sr.moreC {H:Hp}{φ:List Addr}{st:Sto}{a:Addr}{o:HO}{c:C} (S:Sr K H φ st) (n:H a=none) (w:Rc K (upd H a o) (φ++[a]) φ.length a c):Sr K (upd H a o) (φ++[a]) (st++[c]):=by
 refine⟨?_,by rw[qai,qai,S.len];rfl,λi b es e1 e2=>?_⟩
 ·rw[qfO]
  refine⟨S.nd,by simp,λx P y hy e=>?_⟩;rw[qaz.mp hy]at e;rw[e]at P;exact S.nin n P
 ·by_cases hi:i<φ.length
  ·rw[qaP hi]at e1
   rw[qaP (by rw[<-S.len];exact hi)]at e2;exact (S.at_ i b es e1 e2).fw S ⟨⟨_,U,λb hb=>by rw[qaz.mp hb];exact n⟩,λb o _ h=>bU.new n _ b o h,λb o h=>⟨o,bU.new n _ b o h⟩⟩ λo h=>bU.new n _ _ _ h
  ·have e:i=φ.length:=by
    have:=(qaA.mp e1).1
    simp at this
    lia
   subst e;rw[qbn (qaw _)]at e1;rw[S.len,qbn (qaw _)]at e2
   simp at e1 e2
   subst e1 e2;exact w
theorem Fw.moreO {H:Hp}{φ:List Addr}{a:Addr}{o:HO} (n:H a=none):Fw φ (φ++[a]) H (upd H a o):=
 ⟨⟨_,U,λb hb=>by rw[qaz.mp hb];exact n⟩,λb o _ h=>bU.new n _ b o h,λb o h=>⟨o,bU.new n _ b o h⟩⟩
theorem Fw.more {H:Hp}{φ:List Addr}{a:Addr}{vs:List V} (n:H a=none):Fw φ (φ++[a]) H (upd H a (.lst vs)):=Fw.moreO n
theorem Sr.more {H:Hp}{φ:List Addr}{st:Sto}{a:Addr}{vs:List V}{ds:List D} (S:Sr K H φ st) (n:H a=none) (w:Rls K H φ ds vs):Sr K (upd H a (.lst vs)) (φ++[a]) (st++[.l ds]):=
 S.moreC n ⟨vs,bH,w.fw S (Fw.moreO n)⟩
theorem sA {lf:Lf} (h:IL K X e lf):IE K X e (mP lf):=by
 refine⟨λenv st r B=>?_⟩;simp only[mP,qac]at B;obtain⟨y,hy,rfl⟩:=B;refine (h.run _ _ _ hy).imp ?_
 rintro L H Q ⟨φ,J,E,q⟩
 refine⟨φ,J,E,λa vs H1 A f1 G n1 N=>?_⟩;exact q _ _ _ (f1.trans (Fw.more n1)) (G.more n1 N) ⟨a,by rw[<-G.len];simp,U⟩
def spI (K:qad) (m:Fn):Sp:=λvs H Q _=>∃ φ st ws r,m ws st=some r/\Rws K H φ ws vs/\Sr K H φ st/\∀ v H' φ',Fw φ φ' H H'->Sr K H' φ' r.2->Rw K H' φ' r.1 v->Q v H'
theorem aw {x:Str}{k j:Nat}{ff:Addr}{fd:qaZ}{ps:List Str}{m:Fn}{p:Pos} (F:bv X.prog X.w X.K X.mg X.base CX0 j ff fd ps (spI K m)) (hjk:j<=k) (B:ez k X.A) (hg:Gl X x) (hm:X.mg x=some (.ref ff)) (hk:qay X.K (.ref ff)=true) (hb:bP X.K fd ps [])
  (O:IA K X (e::es) af) (hdb:(x==("__debug__" : Str))=false:=by decide) (hs:aN e=true:=by rfl) (hp:es.all aN=true:=by rfl) :
  IE K X (.Call (.Name x p) (e::es) [] pos) (au m af):=by
 refine⟨λenv st r h=>?_⟩;simp only[au,qab]at h;obtain⟨y,hy,h⟩:=h;refine (wU (F.mono hjk) B hg hm hk hb .nil B7 (O.run _ _ _ hy) hdb (bB hs) (cu hp)).imp ?_
 rintro L H Q ⟨φ,J,E,q⟩
 refine⟨φ,J,E,λvs H1 A f1 G N=>?_⟩;show spI K m _ H1 Q E0;rw[qa5];exact⟨A,_,_,r,h,N,G,λv H2 M f2 s2 w2=>q v H2 M (f1.trans f2) s2 w2⟩
end
inductive Fl where
 |nx (env:Ev) (st:Sto)|rt (w:W) (st:Sto)|bk (env:Ev) (st:Sto)|ct (env:Ev) (st:Sto)
abbrev Sf:=Ev->Sto->Option Fl
def yg (K:qad) (φ:List Addr) (H:Hp) (D:tZ):Fl->Prop
 |.nx e s=>∀ b H' a,Fw φ a H H'->Er K H' a e b->Sr K H' a s->D.nx b H'
 |.rt w s=>∀ v H' a,Fw φ a H H'->Sr K H' a s->Rw K H' a w v->D.rt v H'
 |.bk e s=>∀ b H' a,Fw φ a H H'->Er K H' a e b->Sr K H' a s->D.bk b H'
 |.ct e s=>∀ b H' a,Fw φ a H H'->Er K H' a e b->Sr K H' a s->D.ct b H'
theorem yg.fw {K:qad}{φ d:List Addr}{H H1:Hp}{D:tZ}{r:Fl} (h:yg K φ H D r) (f:Fw φ d H H1):yg K d H1 D r:=by
 cases r with
 |nx e s=>exact λb H' a c=>h b H' a (f.trans c)
 |rt w s=>exact λv H' a c=>h v H' a (f.trans c)
 |bk e s=>exact λb H' a c=>h b H' a (f.trans c)
 |ct e s=>exact λb H' a c=>h b H' a (f.trans c)
def tS (K:qad) (env:Ev) (st:Sto) (r:Fl):TS:=λD a H=>∃ φ,Er K H φ env a/\Sr K H φ st/\yg K φ H D r
structure IS (K:qad) (X:Cx) (s:Stmt) (g:Sf):Prop where
 run:∀ env st r,g env st=some r->PS X s (tS K env st r)
structure ISs (K:qad) (X:Cx) (s:List Stmt) (g:Sf):Prop where
 run:∀ env st r,g env st=some r->PSs X s (tS K env st r)
inductive Tg where
 |nm (i:Nat)|tp (is:List Nat)
def vm:Tg->List Nat
 |.nm i=>[i]
 |.tp is=>is
def xo:List Nat->List D->Ev->Ev
 |i::is,d::ds,env=>xo is ds (env.set i (some (.d d)))
 |_,_,env=>env
def dC:Tg->W->Ev->Option Ev
 |.nm i,w,env=>some (env.set i (some w))
 |.tp is,.d (.tup ds),env=>if is.length=ds.length then some (xo is ds env) else none
 |.tp is,.d (.lst ds),env=>if is.length=ds.length then some (xo is ds env) else none
 |_,_,_=>none
def At (is:List Nat) (b a:St):Prop:=a.length=b.length/\∀ j,j∉is->a[j]?=b[j]?
def tG (K:qad) (g:Tg):TG:=λv b H Q=>∃ φ st env w env',Er K H φ env b/\Sr K H φ st/\Rw K H φ w v/\dC g w env=some env'/\∀ a,Er K H φ env' a->At (vm g) b a->Q a H
def tGs (K:qad) (is:List Nat):TGs:=λvs b H Q=>∃ φ st env ds,Er K H φ env b/\Sr K H φ st/\Rls K H φ ds vs/\is.length=ds.length/\∀ a,Er K H φ (xo is ds env) a->At is b a->Q a H
def aL:Sf
 |env,st=>some (.nx env st)
def av (a b:Sf):Sf
 |env,st=>(a env st).bind λr=>match r with
 |.nx e s=>b e s
 |r=>some r
def aK (g:Tg) (f:Ef):Sf
 |env,st=>(f env st).bind λr=>(dC g r.1 env).map λe=>.nx e r.2
def u1 (st:Sto) (o i v:W):Option Sto:=match o,i,v with
 |.h n,.d (.int k),.d x=>(lg st n).bind λds=>(ixN ds.length k).map λj=>st.set n (.l (ds.set j x))
 |_,_,_=>none
def lE (o i v:Ef):Sf
 |env,st=>(v env st).bind λa=>(o env a.2).bind λb=>(i env b.2).bind λc=>(u1 c.2 b.1 c.1 a.1).map λs=>.nx env s
def aW (f:Ef):Sf
 |env,st=>(f env st).map λr=>.rt r.1 r.2
def lq (f:Ef):Sf
 |env,st=>(f env st).map λr=>.nx env r.2
def bd (c:Tf) (a b:Sf):Sf
 |env,st=>(c env st).bind λr=>if r.1=true then a env r.2 else b env r.2
def gx (g:Tg) (body:Sf):List D->Ev->Sto->Option Fl
 |[],env,st=>some (.nx env st)
 |d::ds,env,st=>(dC g (.d d) env).bind λe=>(body e st).bind λr=>match r with
  |.nx e s=>gx g body ds e s
  |.ct e s=>gx g body ds e s
  |.bk e s=>some (.nx e s)
  |.rt w s=>some (.rt w s)
def qy (a:Lf) (g:Tg) (body:Sf):Sf
 |env,st=>(a env st).bind λr=>gx g body r.1 env r.2
def fE (c:Tf) (body:Sf):Nat->Ev->Sto->Option Fl
 |0,_,_=>none
 |n+1,env,st=>(c env st).bind λk=>if k.1=true then (body env k.2).bind λr=>match r with
   |.nx e s=>fE c body n e s
   |.ct e s=>fE c body n e s
   |.bk e s=>some (.nx e s)
   |.rt w s=>some (.rt w s)
  else some (.nx env k.2)
def lcI (g:Tg) (tt:Tf) (te:Ef) (env:Ev):List D->Sto->Option (List D×Sto)
 |[],st=>some ([],st)
 |d::ds,st=>(dC g (.d d) env).bind λe=>(tt e st).bind λb=>if b.1=true then (te e b.2).bind λx=>(fz [x.1]).bind λa=>(lcI g tt te env ds x.2).map λr=>(a++r.1,r.2)
   else lcI g tt te env ds b.2
def jx (k:Nat) (js:List Nat) (env:Ev):Ev:=qax k none++js.map λj=>env.getD j none
def iLc (k:Nat) (js:List Nat) (a:Lf) (g:Tg) (tt:Tf) (te:Ef):Lf
 |env,st=>(a env st).bind λr=>if r.1.length<=1000000 then lcI g tt te (jx k js env) r.1 r.2 else none
def bg:Tf
 |_,st=>some (true,st)
def bh (f:Ef):Lf
 |env,st=>(f env st).bind λr=>match r.1 with
 |.d (.tup ds)=>some (ds,r.2)
 |.d (.lst ds)=>some (ds,r.2)
 |_=>none
def lM (lo:Int) (n:Nat):List D:=(qcC n).map λk:Nat=>D.int (lo+k)
def fA (a:Af):Lf
 |env,st=>(a env st).bind λr=>match r.1 with
 |[.d (.int j)]=>if -(2^62)<=j/\j<2^62 then some (lM 0 j.toNat,r.2) else none
 |_=>none
def jP:Nat->List D->List D
 |_,[]=>[]
 |k,d::ds=>.tup [.int k,d]::jP (k+1) ds
def sv (a:Af):Lf
 |env,st=>(a env st).bind λr=>match r.1 with
 |[.d (.tup ds)]=>some (jP 0 ds,r.2)
 |[.d (.lst ds)]=>some (jP 0 ds,r.2)
 |_=>none
section
variable {K:qad}{X:Cx}{pos:Pos}
theorem PS.imp {s:Stmt}{t t':TS} (h:PS X s t) (m:∀ D B H,t' D B H->t D B H):PS X s t':=λA s B H D I q=>h A s B H D I (m D B H q)
theorem PSs.imp {s:List Stmt}{t t':TS} (h:PSs X s t) (m:∀ D B H,t' D B H->t D B H):PSs X s t':=λA s B H D I q=>h A s B H D I (m D B H q)
theorem Er.set {H:Hp}{φ:List Addr}{env:Ev}{B:St} (h:Er K H φ env B) (i:Nat) {w:W}{v:V} (r:Rw K H φ w v):Er K H φ (env.set i (some w)) (B.set i (some v)):=by
 refine⟨by rw[qcm,qcm,h.len],λj w' e=>?_⟩;by_cases hj:i=j
 ·subst hj
  have hi:=by
   have:=(qaA.mp e).1
   rwa [qcm]at this
  rw[qbJ hi]at e;cases e;exact⟨v,by rw[qbJ (by rw[<-h.len];exact hi)],r⟩
 ·rw[qbw hj]at e
  obtain⟨v',O,r1⟩:=h.at_ j w' e;exact⟨v',by rw[qbw hj];exact O,r1⟩
theorem Ac (i:Nat) (B:St) (v:Option V):At [i] B (B.set i v):=⟨by rw[qcm],λj hj=>by rw[qbw (by rintro rfl;simp at hj)]⟩
theorem bF {i:Nat}{x:Str} (h:PG X (.Name x pos) (um i)):PG X (.Name x pos) (tG K (.nm i)):=by
 intro A s B H v u Q I T q;obtain⟨φ,st,env,w,env',E,F,r,e,q⟩:=q;cases e;exact h A s B H v u Q I T (q _ (E.set i r) (Ac i B _))
theorem wD:PGs X [] (tGs K []):=by
 intro A s B H vs us Q I T q;obtain⟨φ,st,env,ds,E,F,r,e,q⟩:=q;cases ds with
 |nil=>cases r;exact Bq A s B H [] us Q I T ⟨U,q B E ⟨U,λ_ _=>rfl⟩⟩
 |cons _ _=>cases e
theorem ma {i:Nat}{is:List Nat}{x:Str}{N:List Expr} (h1:PG X (.Name x pos) (um i)) (h2:PGs X N (tGs K is)):PGs X (.Name x pos::N) (tGs K (i::is)):=by
 intro A s B H vs us Q I T q;obtain⟨φ,st,env,ds,E,F,r,e,q⟩:=q;cases ds with
 |nil=>cases e
 |cons d ds=>
  obtain⟨v,vr,rfl,r1,r2⟩:=r;refine zz h1 h2 (wf U) A s B H _ us Q I T ⟨v,vr,U,φ,st,_,ds,E.set i (w:=.d d) r1,F,r2,by simpa using e,λσ' P s'=>q σ' P ?_⟩;refine⟨by rw[s'.1,qcm],λj hj=>?_⟩;rw[s'.2 j (λz=>hj (qah _ z)),qbw (by rintro rfl;exact hj qae)]
def Gh (K:qad) (n:Nat) (t:TGs):TG:=λv B H Q=>∃ a xs,v=.ref a/\SqL K H a xs/\xs.length=n/\t xs B H Q
theorem DN {N:List Expr}{k:Nat}{t:TGs}{n:Nat} (hc:X.calm=true) (h:PGs X N t) (hn:(qbG N X.env).length=n) (hst:(qbG N X.env).findIdx? (·.1)=none):PG X (.Tuple N k pos) (Gh X.K n t):=by
 intro A s B H v u Q I r hw;obtain⟨a,xs,O,hq,Y,hw⟩:=hw;subst O;cases r;obtain⟨its,T,p,hz⟩:=I.list hq;refine qam (qdJ ?_);unfold unpack;rw[show (qbG N X.env).length=its.toArray.size by simp[hn,<-Y,T.length],hst];refine qam (qc7 (PySem.W.kun_itemsOf (I.ok.hd hc) p.isList λh' hx=>?_));exact h A _ B H xs _ Q (I.kept λb o e=>hx b o (qaO (qaB e)) e) (by simpa using T) hw
theorem yP {N:List Expr}{k n:Nat}{is:List Nat} (h:PGs X N (tGs K is)) (hes:N.all aN=true:=by rfl) (hn:N.length=n:=by rfl) (hi:is.length=n:=by rfl) (hc:X.calm=true:=by rfl) (hK:X.K=K:=by rfl):PG X (.Tuple N k pos) (tG K (.tp is)):=by
 intro A s B H v u Q I T q;obtain⟨φ,st,env,w,env',E,F,r,e,q⟩:=q;cases w with
 |h n=>cases e
 |d x=>
  cases x with
  |tup ds=>
   have P:(if is.length=ds.length then some _ else none)=some env':=e;by_cases Y:is.length=ds.length
   ·rw[iFP Y]at P
    cases P;obtain⟨a,vs,rfl,hq,G⟩:=r;exact DP hc h ((rF hes).trans hn) (ox hes) A s B H _ u Q I T ⟨a,vs,U,(SqT.of hq),by rw[<-G.length,<-Y,hi],φ,st,env,ds,E,F,G,Y,q⟩
   ·rw[iFN Y]at P
    cases P
  |lst ds=>
   have P:(if is.length=ds.length then some _ else none)=some env':=e;by_cases Y:is.length=ds.length
   ·rw[iFP Y]at P
    cases P;obtain⟨a,vs,rfl,_,hq,G⟩:=r;exact DN hc h ((rF hes).trans hn) (ox hes) A s B H _ u Q I T ⟨a,vs,U,.inl hq,by rw[<-G.length,<-Y,hi],φ,st,env,ds,E,F,G,Y,q⟩
   ·rw[iFN Y]at P
    cases P
  |_=>cases e
variable {s:Stmt}{ss rest:List Stmt}{e a b c:Expr}{ga gb:Sf}{f fa fb fc:Ef}
theorem az:ISs K X [] aL:=by
 refine⟨λenv st r G=>?_⟩;cases G;exact Bv.imp λD B H ⟨φ,E,F,q⟩=>q B H φ (Fw.refl φ H) E F
theorem ar (h:IS K X s ga):ISs K X [s] ga:=⟨λenv st r G=>tq (h.run env st r G)⟩
theorem am (h1:IS K X s ga) (h2:ISs K X rest gb):ISs K X (s::rest) (av ga gb):=by
 refine⟨λenv st r G=>?_⟩;simp only[av,qab]at G;obtain⟨r1,O,G⟩:=G;cases r1 with
 |nx e M=>
  refine (jo (h1.run _ _ _ O) (h2.run _ _ _ G)).imp ?_
  rintro D B H ⟨φ,E,F,q⟩
  exact⟨φ,E,F,λσ' H' φ' f' P s'=>⟨φ',P,s',q.fw f'⟩⟩
 |rt w M=>
  cases G;exact (jo (h1.run _ _ _ O) fM).imp λD B H ⟨φ,E,F,q⟩=>⟨φ,E,F,q⟩
 |bk w M=>
  cases G;exact (jo (h1.run _ _ _ O) fM).imp λD B H ⟨φ,E,F,q⟩=>⟨φ,E,F,q⟩
 |ct w M=>
  cases G;exact (jo (h1.run _ _ _ O) fM).imp λD B H ⟨φ,E,F,q⟩=>⟨φ,E,F,q⟩
theorem aE {i:Nat}{x:Str}{pos':Pos} (hN:X.N.Nodup) (hi:X.N[i]?=some x) (hx:Loc X.env.scope x) (he:IE K X e f) (hs:qd3 e (some (.Name x pos')) pos.line X.env=pure false:=by rfl) (hf:X.fn x=true\/X.env.scope.names.lookup x=some .local:=by first|exact .inl U|exact .inr U|assumption) :
  IS K X (.Assign [.Name x pos'] e pos) (aK (.nm i) f):=by
 refine⟨λenv st r G=>?_⟩;simp only[aK,dC,qab,qac]at G;obtain⟨y,hy,P,ee,rfl⟩:=G;cases ee;refine (zF hN hi hx (he.run _ _ _ hy) hs hf).imp ?_
 rintro D B H ⟨φ,E,F,q⟩
 exact⟨φ,E,F,λv H1 L f1 M w1=>q _ H1 L f1 ((E.fw F f1).set i w1) M⟩
theorem Sr.putC {H:Hp}{φ:List Addr}{st:Sto}{n:Nat}{a:Addr}{o:HO}{c:C} (S:Sr K H φ st) (hn:φ[n]?=some a) (w:Fw φ φ H (upd H a o)->Rc K (upd H a o) φ n a c) :
  Fw φ φ H (upd H a o)/\Sr K (upd H a o) φ (st.set n c):=by
 have f:Fw φ φ H (upd H a o):=⟨⟨[],by simp,by simp⟩,λb o hb h=>by rw[bj (λz=>hb (by rw[z];exact (qcr hn)))];exact h,λb o h=>by
  by_cases z:b=a
  ·subst z;exact⟨_,bH⟩
  ·exact⟨o,by rw[bj z];exact h⟩⟩
 refine⟨f,S.nd,by rw[qcm];exact S.len,λm b N O e2=>?_⟩;by_cases hm:n=m
 ·subst hm
  rw[O]at hn;cases hn;have Y:n<st.length:=by rw[<-S.len];exact (qaA.mp O).1
  rw[qbJ Y]at e2;cases e2;exact w f
 ·rw[qbw hm]at e2
  have hne:b≠a:=by
   rintro rfl
   obtain⟨h1,h1'⟩:=qaA.mp hn;obtain⟨h2,h2'⟩:=qaA.mp O;exact hm ((qeu S.nd).mp (h1'.trans h2'.symm))
  exact (S.at_ m b N O e2).fw S f λo h=>by rw[bj hne];exact h
theorem Sr.put {H:Hp}{φ:List Addr}{st:Sto}{n:Nat}{a:Addr}{vs:List V}{ds:List D} (S:Sr K H φ st) (hn:φ[n]?=some a) (w:Rls K H φ ds vs) :
  Fw φ φ H (upd H a (.lst vs))/\Sr K (upd H a (.lst vs)) φ (st.set n (.l ds)):=S.putC hn λf=>⟨vs,bH,w.fw S f⟩
theorem vV {st s':Sto}{o i v:W} (h:u1 st o i v=some s'):∃ n k x ds j,o=.h n/\i=.d (.int k)/\v=.d x/\lg st n=some ds/\ixN ds.length k=some j/\s'=st.set n (.l (ds.set j x)):=by
 unfold u1 at h;split at h
 ·obtain⟨ds,O,h⟩:=qab.mp h
  obtain⟨j,e2,h⟩:=qac.mp h;exact⟨_,_,_,ds,j,U,U,U,O,e2,h.symm⟩
 ·cases h
theorem pp {tpos:Pos} (ho:IE K X a fa) (hi:IE K X b fb) (hv:IE K X e f) (hb:kC b=true:=by rfl) (hs:swapsWithSole [.Subscript a b tpos] e pos.line X.env=pure false:=by rfl) (hw:swappedStores [.Subscript a b tpos] e X.env=pure none:=by rfl) :
  IS K X (.Assign [.Subscript a b tpos] e pos) (lE fa fb f):=by
 refine⟨λenv st r G=>?_⟩;simp only[lE,qab,qac]at G;obtain⟨T,ev,ro,eo,ri,ei,s',N,rfl⟩:=G;refine (DT (hv.run _ _ _ ev) (DO (ho.run _ _ _ eo) (hi.run _ _ _ ei) z7 (Aw hb)) hs hw (Av U)).imp ?_
 rintro D B H ⟨φ,E,F,q⟩
 refine⟨φ,E,F,λv H1 L f1 M w1=>⟨L,E.fw F f1,M,λo H2 φ2 f2 s2 w2=>⟨φ2,(E.fw F f1).fw M f2,s2,λi H3 φ3 f3 s3 w3=>?_⟩⟩⟩;obtain⟨ro1,ro2⟩:=ro;obtain⟨rv1,rv2⟩:=T;obtain⟨ri1,ri2⟩:=ri;obtain⟨n,k,x,ds,j,rfl,rfl,rfl,eds,ej,rfl⟩:=vV N;obtain⟨p,ep,rfl⟩:=(w2.fw s2 f3);obtain⟨vs,hp,rl⟩:=s3.atl n p ds ep eds;subst w3;obtain⟨f4,s4⟩:=s3.put ep (Rls.set j rl ((w1.fw M f2).fw s2 f3));refine⟨p,vs,k,j,U,U,hp,by rw[<-rl.length];exact ej,?_⟩;exact q _ _ φ3 (((f1.trans f2).trans f3).trans f4) ((((E.fw F f1).fw M f2).fw s2 f3).fw s3 f4) s4
theorem aH (h:IE K X e f):IS K X (.Return (some e) pos) (aW f):=by
 refine⟨λenv st r G=>?_⟩;simp only[aW,qac]at G;obtain⟨y,hy,rfl⟩:=G;exact (vO (h.run _ _ _ hy)).imp λD B H ⟨φ,E,F,q⟩=>⟨φ,E,F,q⟩
theorem kS (h:IE K X e f) (hs:qd3 e none pos.line X.env=pure false:=by rfl):IS K X (.Expr e pos) (lq f):=by
 refine⟨λenv st r G=>?_⟩;simp only[lq,qac]at G;obtain⟨y,hy,rfl⟩:=G;exact (Bu (h.run _ _ _ hy) hs).imp λD B H ⟨φ,E,F,q⟩=>⟨φ,E,F,λv H1 L f1 M w1=>q B H1 L f1 (E.fw F f1) M⟩
theorem bf {tc:Tf}{sa sb:List Stmt} (hc:IT K X c tc) (ha:ISs K X sa ga) (hb:ISs K X sb gb):IS K X (.If c sa sb pos) (bd tc ga gb):=by
 refine⟨λenv st r G=>?_⟩;simp only[bd,qab]at G;obtain⟨⟨k,M⟩,hx,G⟩:=G;cases k with
 |true=>
  refine (w6 (hc.run _ _ _ hx) (ha.run _ _ _ G) fM).imp ?_
  rintro D B H ⟨φ,E,F,q⟩
  refine⟨φ,E,F,λH1 L f1 M=>vq ?_⟩;exact⟨L,E.fw F f1,M,q.fw f1⟩
 |false=>
  refine (w6 (hc.run _ _ _ hx) fM (hb.run _ _ _ G)).imp ?_
  rintro D B H ⟨φ,E,F,q⟩
  refine⟨φ,E,F,λH1 L f1 M=>xM ?_⟩;exact⟨L,E.fw F f1,M,q.fw f1⟩
def FG (K:qad) (g:Sf):TS:=λD B H=>∃ env st r,g env st=some r/\tS K env st r D B H
def u3 (K:qad) (f:Ef):TE:=λB H Q=>∃ env st r,f env st=some r/\tI K env st r B H Q
def xu (K:qad) (f:Tf):TT:=λB H Q=>∃ env st r,f env st=some r/\tIT K env st r B H Q
theorem ISs.any (h:ISs K X ss ga):PSs X ss (FG K ga):=λA s B H D I ⟨env,st,r,e,q⟩=>h.run env st r e A s B H D I q
theorem IE.any (h:IE K X e f):PE X e (u3 K f):=λA s B H D I ⟨env,st,r,e,q⟩=>h.run env st r e A s B H D I q
theorem IT.any {tf:Tf} (h:IT K X e tf):PT X e (xu K tf):=λA s B H D I ⟨env,st,r,e,q⟩=>h.run env st r e A s B H D I q
def Yl (K:qad) (φ0:List Addr) (H0:Hp) (J:It) (ds:List D):Prop:=∀ (H:Hp) (φ:List Addr) (st:Sto) (i:Nat),Fw φ0 φ H0 H->Sr K H φ st->
 (∀ d,ds[i]?=some d->J.go i H/\∀ x H',J.yld i H x H'->bU H H'/\Rl K H' φ d x)/\(ds.length=i->J.stop i H)
def tII (K:qad) (env:Ev) (st:Sto) (r:List D×Sto):TI:=λB H R=>∃ φ,Er K H φ env B/\Sr K H φ st/\∀ J H' φ',Fw φ φ' H H'->Sr K H' φ' r.2->Yl K φ' H' J r.1->R J H'
structure II (K:qad) (X:Cx) (tg iter:Expr) (f:Lf):Prop where
 run:∀ env st r,f env st=some r->PI X tg iter (tII K env st r)
theorem PI.imp {tg iter:Expr}{t t':TI} (h:PI X tg iter t) (m:∀ B H R,t' B H R->t B H R):PI X tg iter t':=λA s B H R I q=>h A s B H R I (m B H R q)
variable {tg:Expr}
end
section
variable {K:qad}{X:Cx}{pos:Pos}{tg e a b:Expr}{f:Ef}{af:Af}
theorem gy (h:IE K X e f) (hK:X.K=K:=by rfl):II K X tg e (bh f):=by
 subst hK;refine⟨λenv st r B=>?_⟩;simp only[bh,qab]at B;obtain⟨⟨w,G⟩,hy,B⟩:=B;dsimp only at B;split at B
 ·rename_i ds
  cases B;refine (DR (h.run _ _ _ hy)).imp ?_
  rintro L H R ⟨φ,Y,O,q⟩
  refine⟨φ,Y,O,λv H1 E f1 G w1=>?_⟩;obtain⟨a,vs,rfl,hq,B⟩:=w1;refine⟨a,U,⟨vs,(SqT.of hq)⟩,q _ H1 E f1 G λH2 u P i f2 s2=>?_⟩;have hq2:=(SqT.of hq).fw G f2;have hr2:=B.fw G f2;refine⟨λd hd=>?_,λhi=>⟨vs,hq2,by rw[<-hr2.length];exact qcE hi⟩⟩;obtain⟨v,ev,rv⟩:=hr2.get hd;refine⟨⟨vs,v,hq2,ev⟩,λx H' y=>?_⟩;obtain⟨rfl,y⟩:=y
  have:=y vs hq2
  rw[ev]at this;cases this;exact⟨bU.refl _,rv⟩
 ·rename_i ds
  cases B;refine (wX (h.run _ _ _ hy)).imp ?_
  rintro L H R ⟨φ,Y,O,q⟩
  refine⟨φ,Y,O,λv H1 E f1 G w1=>?_⟩;obtain⟨a,vs,rfl,h0,hq,B⟩:=w1;refine⟨a,U,⟨vs,.inl hq⟩,q _ H1 E f1 G λH2 u P i f2 s2=>?_⟩;have hq2:SqL X.K H2 a vs:=.inl (hq.fw f2 h0);have hr2:=B.fw G f2;refine⟨λd hd=>?_,λhi=>⟨vs,hq2,by rw[<-hr2.length];exact qcE hi⟩⟩;obtain⟨v,ev,rv⟩:=hr2.get hd;refine⟨⟨vs,v,hq2,ev⟩,λx H' y=>?_⟩;obtain⟨rfl,y⟩:=y
  have:=y vs hq2
  rw[ev]at this;cases this;exact⟨bU.refl _,rv⟩
 all_goals cases B
theorem uW (lo:Int) (n i:Nat):(lM lo n)[i]?=if i<n then some (.int (lo+i)) else none:=by
 unfold lM;rw[qbu];by_cases h:i<n
 ·rw[List.getElem?_range h,iFP h];rfl
 ·rw[List.getElem?_eq_none (by simpa using h),iFN h];rfl
theorem jp (lo:Int) (n:Nat):(lM lo n).length=n:=by unfold lM;rw[qan,List.length_range]
theorem Ek (lo:Int) (n:Nat) {φ:List Addr}{H:Hp}:Yl K φ H (Itr lo n) (lM lo n):=by
 intro H2 u P i f2 s2;refine⟨λd hd=>?_,λhi=>by rw[jp]at hi;exact qcE hi⟩;rw[uW]at hd;by_cases h:i<n
 ·rw[iFP h]at hd
  cases hd;refine⟨h,λx H' y=>?_⟩;obtain⟨rfl,rfl⟩:=y;exact⟨bU.refl _,U⟩
 ·rw[iFN h]at hd;cases hd
theorem kR {p:Pos} (hg:Gl X "range") (hm:X.mg "range" = none) (ha:IA K X [a] af) (hs:aN a=true:=by rfl):II K X tg (.Call (.Name "range" p) [a] [] pos) (fA af):=by
 refine⟨λenv st r B=>?_⟩;simp only[fA,qab]at B;obtain⟨⟨ws,G⟩,hy,B⟩:=B;dsimp only at B;split at B
 case h_2=>cases B
 rename_i j;have M:(if -(2^62)<=j/\j<2^62 then some (lM 0 j.toNat,G) else none)=some r:=B;by_cases hj:-(2^62)<=j/\j<2^62
 ·rw[iFP hj]at M
  cases M;refine (xV hg hm (ha.run _ _ _ hy) (qe hs)).imp ?_
  rintro L H R ⟨φ,Y,O,q⟩
  refine⟨φ,Y,O,λvs H1 E f1 G w1=>?_⟩;obtain⟨v,r,rfl,r1,rfl⟩:=w1;exact⟨j,by rw[show v=.int j from r1],hj.1,hj.2,q _ H1 E f1 G (Ek 0 _)⟩
 ·rw[iFN hj]at M;cases M
theorem qQ:∀ (ds:List D) (k i:Nat),(jP k ds)[i]?=(ds[i]?).map λd=>D.tup [.int ((k+i:Nat):Int),d]
 |[],k,i=>by simp[jP]
 |d::ds,k,0=>by simp[jP]
 |d::ds,k,i+1=>by
  have:=qQ ds (k+1) i
  rw[show k+1+i=k+(i+1) by lia]at this;simpa [jP] using this
theorem qR:∀ (ds:List D) (k:Nat),(jP k ds).length=ds.length
 |[],_=>rfl
 |d::ds,k=>by rw[jP,qaf,qaf,qR ds]
theorem xx {S:Hp->List V->Prop}{ds:List D}{vs:List V}{φ:List Addr}{H:Hp} (O:∀ H' W,Fw φ W H H'->S H' vs) (B:∀ H' W,Fw φ W H H'->Rls K H' W ds vs):Yl K φ H (Ite S) (jP 0 ds):=by
 intro H2 u P i f2 s2;have q2:=O H2 u f2;have r2:=B H2 u f2;refine⟨λd hd=>?_,λhi=>⟨vs,q2,by rw[<-r2.length,<-qR ds 0];exact hi⟩⟩;rw[qQ,qac]at hd;obtain⟨d',hd',rfl⟩:=hd;obtain⟨v,ev,rv⟩:=r2.get hd';refine⟨⟨vs,v,q2,ev⟩,λx H' y=>?_⟩;obtain⟨T,v',y1,hT,rfl,rfl⟩:=y
 have:=y1 vs q2
 rw[ev]at this;cases this;refine⟨bU.new hT _,T,_,U,bH,_,_,U,?_,_,_,U,rv.fw s2 (Fw.new hT),U⟩;show V.int _=V.int _;rw[qa8]
theorem AR {elts:List Expr}{k:Nat}{tpos p:Pos} (hg:Gl X "enumerate") (hm:X.mg "enumerate" = none) (ha:IA K X [a] af) (hs:aN a=true:=by rfl) (hK:X.K=K:=by rfl) :
  II K X (.Tuple elts k tpos) (.Call (.Name "enumerate" p) [a] [] pos) (sv af):=by
 subst hK;refine⟨λenv st r B=>?_⟩;simp only[sv,qab]at B;obtain⟨⟨ws,G⟩,hy,B⟩:=B;dsimp only at B;split at B
 ·rename_i ds
  cases B;refine (zB hg hm (ha.run _ _ _ hy) (qe hs)).imp ?_
  rintro L H R ⟨φ,Y,O,q⟩
  refine⟨φ,Y,O,λvs H1 E f1 G w1=>?_⟩;obtain⟨v,r,rfl,⟨a,us,rfl,hq,B⟩,rfl⟩:=w1;exact⟨a,U,⟨us,(SqT.of hq)⟩,q _ H1 E f1 G (xx (λH' W f=>(SqT.of hq).fw G f) λH' W f=>B.fw G f)⟩
 ·rename_i ds
  cases B;refine (zA hg hm (ha.run _ _ _ hy) (qe hs)).imp ?_
  rintro L H R ⟨φ,Y,O,q⟩
  refine⟨φ,Y,O,λvs H1 E f1 G w1=>?_⟩;obtain⟨v,r,rfl,⟨a,us,rfl,h0,hq,B⟩,rfl⟩:=w1;exact⟨a,U,⟨us,.inl hq⟩,q _ H1 E f1 G (xx (λH' W f=>.inl (hq.fw f h0)) λH' W f=>B.fw G f)⟩
 all_goals cases B
theorem mQ {iter:Expr}{body:List Stmt}{fi:Lf}{g:Tg}{gb:Sf} (hi:II K X tg iter fi) (hg:PG X tg (tG K g)) (hb:ISs K X body gb) (hp:qe9 (model X.prog X.w) X.A X.env X.xe) (hc:X.calm=true:=by rfl)
  (hs:∀ x,qbO iter X.env x=pure x:=by intro _;rfl):IS K X (.For tg iter body [] pos) (qy fi g gb):=by
 refine⟨λenv st r B=>?_⟩;simp only[qy,qab]at B;obtain⟨⟨ds,G⟩,hy,B⟩:=B;refine (DU hp hc (hi.run _ _ _ hy) hg hb.any hs).imp ?_
 rintro D L H ⟨φ,Y,O,q⟩
 refine⟨φ,Y,O,λJ H1 E f1 S1 yl=>?_⟩;refine⟨λi m L H=>m=ds.length - i/\i<=ds.length/\∃ env st u,Fw E u H1 H/\Er K H u env L/\Sr K H u st/\gx g gb (ds.drop i) env st=some r,⟨ds.length,by simp,qbs _,env,G,E,Fw.refl _ _,Y.fw O f1,S1,B⟩,?_⟩
 rintro i m L H2 ⟨rfl,hi,env2,P,u,f2,e2,S2,h2⟩
 obtain⟨y1,y2⟩:=yl H2 u P i f2 S2;by_cases hlt:i<ds.length
 ·obtain⟨go,yld⟩:=y1 ds[i] (qa6 hlt)
  rw[qct hlt]at h2;simp only[gx,qab]at h2;obtain⟨e3,he3,r3,hr3,h3⟩:=h2;refine .inr ⟨go,λσ' H'=>i+1<=ds.length/\∃ env st u,Fw E u H1 H'/\Er K H' u env σ'/\Sr K H' u st/\gx g gb _ env st=some r,λσ' H' ⟨hn,p'⟩=>⟨_,by lia,U,hn,p'⟩,λx H' y=>?_⟩;obtain⟨sm,rx⟩:=yld x H' y;have S3:=S2.same sm;have f3:=f2.trans (Fw.same sm);refine⟨u,P,env2,.d ds[i],e3,e2.fw S2 (Fw.same sm),S3,rx,he3,λσ' e' _=>?_⟩;refine⟨e3,P,r3,hr3,u,e',S3,?_⟩;cases r3 with
  |nx e4 s4=>exact λσ4 H4 F f4 e4' N=>⟨hlt,e4,s4,F,f3.trans f4,e4',N,h3⟩
  |ct e4 s4=>exact λσ4 H4 F f4 e4' N=>⟨hlt,e4,s4,F,f3.trans f4,e4',N,h3⟩
  |bk e4 s4=>
   cases h3;exact λσ4 H4 F f4 e4' N=>q σ4 H4 F (f1.trans (f3.trans f4)) e4' N
  |rt w s4=>
   cases h3;exact λv H4 F f4 N w4=>q v H4 F (f1.trans (f3.trans f4)) N w4
 ·have hi':i=ds.length:=by lia
  subst hi';rw[qdw]at h2;cases h2;exact .inl ⟨y2 U,q L H2 u (f1.trans f2) e2 S2⟩
def kl (n:Nat) (c:Tf) (b:Sf):Sf
 |env,st=>fE c b n env st
theorem pq {c:Expr}{body:List Stmt}{tc:Tf}{gb:Sf} (n:Nat) (hc:IT K X c tc) (hb:ISs K X body gb) (hp:qe9 (model X.prog X.w) X.A X.env X.xe):IS K X (.While c body [] pos) (kl n tc gb):=by
 refine⟨λenv st r B=>?_⟩;refine (uP hp hc.any hb.any).imp ?_
 rintro D L H ⟨φ,Y,O,q⟩
 refine⟨λm L H'=>∃ env st u,Fw φ u H H'/\Er K H' u env L/\Sr K H' u st/\fE tc gb m env st=some r,⟨n,env,st,φ,Fw.refl _ _,Y,O,B⟩,?_⟩
 rintro m L H2 ⟨env2,P,u,f2,e2,S2,h2⟩
 cases m with
 |zero=>cases h2
 |succ m=>
  simp only[fE,qab]at h2;obtain⟨⟨k,s3⟩,hk,h2⟩:=h2;refine⟨env2,P,_,hk,u,e2,S2,λH3 φ3 f3 S3=>?_⟩;cases k with
  |false=>
   cases h2;exact xM (q L H3 φ3 (f2.trans f3) (e2.fw S2 f3) S3)
  |true=>
   simp only[if_true,qab]at h2;obtain⟨r3,hr3,h3⟩:=h2;refine vq ⟨_,λσ' H' p'=>⟨m,qbI _,p'⟩,?_⟩;refine⟨env2,s3,r3,hr3,φ3,e2.fw S2 f3,S3,?_⟩;have f3':=f2.trans f3;cases r3 with
   |nx e4 s4=>exact λσ4 H4 F f4 e4' N=>⟨e4,s4,F,f3'.trans f4,e4',N,h3⟩
   |ct e4 s4=>exact λσ4 H4 F f4 e4' N=>⟨e4,s4,F,f3'.trans f4,e4',N,h3⟩
   |bk e4 s4=>
    cases h3;exact λσ4 H4 F f4 e4' N=>q σ4 H4 F (f3'.trans f4) e4' N
   |rt w s4=>
    cases h3;exact λv H4 F f4 N w4=>q v H4 F (f3'.trans f4) N w4
structure ITs (K:qad) (X:Cx) (ifs:List Expr) (t:Tf):Prop where
 run:PTs X ifs (xu K t)
theorem cv:ITs K X [] bg:=by
 refine⟨λpins s L H Q I ⟨env,st,r,e,φ,Y,O,q⟩=>?_⟩;cases e;exact Bw pins s L H Q I (q H φ (Fw.refl φ H) O)
theorem A1 {c:Expr}{t:Tf} (h:IT K X c t):ITs K X [c] t:=⟨Bx h.any⟩
theorem Er.emb {H:Hp}{φ:List Addr}{env:Ev}{L:St} (h:Er K H φ env L) (k:Nat) (js:List Nat):Er K H φ (jx k js env) (iD k js L):=by
 refine⟨by unfold jx iD;simp,λi w e=>?_⟩;unfold jx at e;unfold iD;by_cases hi:i<k
 ·rw[qaP (by simpa using hi),qcI,iFP hi]at e
  cases e
 ·rw[qbn (by simpa using hi),qcn,qbu,qac]at e
  obtain⟨j,ej,e⟩:=e;have ej2:env[j]?=some (some w):=by
   rw[qfe]at e;cases q:env[j]? with
   |none=>rw[q]at e;cases e
   |some o=>rw[q]at e;rw[show o=some w from e]
  obtain⟨v,ev,rv⟩:=h.at_ j w ej2;refine⟨v,?_,rv⟩;rw[qbn (by simpa using hi),qcn,qbu,ej];show some ((L[j]?).getD none)=_;rw[ev];rfl
theorem Sub.stay {k:Nat}{js is:List Nat}{L σ':St} (h:At is (iD k js L) σ') (hi:∀ j∈is,j<k):Sub (iD k js L) σ':=by
 refine⟨h.1.symm,λj v e=>?_⟩;by_cases hj:j∈is
 ·have:=hi j hj
  unfold iD at e;rw[qaP (by simpa using this),qcI,iFP this]at e;cases e
 ·rw[h.2 j hj];exact e
theorem y0 {k:Nat}{js:List Nat}{g:Tg}{tt:Tf}{te:Ef}{env:Ev}{st G:Sto}{ds:List D}{r:List D×Sto} (hgi:∀ j∈vm g,j<k) (hdl:ds.length<=1000000) (M:lcI g tt te (jx k js env) ds G=some r) :
  ∀ L H Q,tIL K env st r L H Q->tLc (iD k js) (tII K env st (ds,G)) (tG K g) (xu K tt) (u3 K te) L H Q:=by
 rintro L H Q ⟨φ,Y,O,q⟩
 refine⟨φ,Y,O,λJ H1 E f1 S1 yl=>?_⟩;refine⟨λi m ys H2=>m=ds.length - i/\i<=ds.length/\∃ st u es r2,Fw E u H1 H2/\Sr K H2 u st/\Rls K H2 u es ys/\es.length<=i/\lcI g tt te _ (ds.drop i) st=some r2/\r=(es++r2.1,r2.2),⟨ds.length,by simp,qbs _,G,E,[],r,Fw.refl _ _,S1,U,qaw _,M,U⟩,?_⟩
 rintro i m ys H2 ⟨rfl,hi,P,u,es,r2,f2,S2,rl2,hle,h2,rfl⟩
 obtain⟨y1,y2⟩:=yl H2 u P i f2 S2;by_cases hlt:i<ds.length
 ·obtain⟨go,yld⟩:=y1 ds[i] (qa6 hlt)
  rw[qct hlt]at h2;simp only[lcI,qab]at h2;obtain⟨e3,he3,⟨kb,s3⟩,hb3,h3⟩:=h2;have hz:ys.length<qaK:=by
   rw[<-rl2.length]
   have:=qca
   lia
  refine .inr ⟨go,hz,λys' H'=>i+1<=ds.length/\∃ st u es' r2',Fw E u H1 H'/\Sr K H' u st/\Rls K H' u es' ys'/\es'.length<=i+1/\lcI g tt te _ _ st=some r2'/\(es++r2.1,r2.2)=(es'++r2'.1,r2'.2),λys' H' ⟨hn,p'⟩=>⟨_,by lia,U,hn,p'⟩,λx H' y=>?_⟩;obtain⟨sm,rx⟩:=yld x H' y;have S3:=S2.same sm;have f3:=f2.trans (Fw.same sm);refine⟨u,P,_,.d ds[i],e3,((Y.fw O f1).emb k js).fw S1 f3,S3,rx,he3,λσ' e' stay=>⟨Sub.stay stay hgi,?_⟩⟩;refine⟨e3,P,_,hb3,u,e',S3,λH4 F f4 S4=>?_⟩;cases kb with
  |false=>
   exact xM ⟨hlt,s3,F,es,r2,f3.trans f4,S4,(rl2.fw S2 (Fw.same sm)).fw S3 f4,by lia,h3,U⟩
  |true=>
   simp only[if_true,qab,qac]at h3;obtain⟨x5,hx5,zs,hzs,r5,hr5,rfl⟩:=h3;refine vq ⟨e3,s3,x5,hx5,F,e'.fw S3 f4,S4,λv H5 φ5 f5 S5 w5=>?_⟩;obtain⟨x5,s5⟩:=x5;cases x5 with
   |h n=>cases hzs
   |d z=>
    cases hzs;refine⟨hlt,s5,φ5,es++[z],r5,(f3.trans f4).trans f5,S5,(((rl2.fw S2 (Fw.same sm)).fw S3 f4).fw S4 f5).append ⟨v,_,U,w5,U⟩,by simp;lia,hr5,?_⟩
    simp
 ·have hi':i=ds.length:=by lia
  subst hi';rw[qdw]at h2;cases h2;refine .inl ⟨y2 U,λDn hD=>?_⟩
  have:=q Dn ys H2 u (f1.trans f2) S2 hD
  exact this (by simpa using rl2)
theorem gq {A:Scope}{Nc:List Str}{k:Nat}{js:List Nat}{elt iter:Expr}{ifs:List Expr}{fi:Lf}{g:Tg}{tt:Tf}{te:Ef}
  (S:fP X A Nc (iD k js)) (hc:X.calm=true) (hgi:∀ j∈vm g,j<k) (hi:II K X tg iter fi)
  (hg:∀ l s H C fp,PG (lcX X A l Nc s H C fp) tg (tG K g)) (ht:∀ l s H C fp,ITs K (lcX X A l Nc s H C fp) ifs tt) (he:∀ l s H C fp,IE K (lcX X A l Nc s H C fp) elt te)
  (hs:∀ x,qbO iter X.env x=pure x:=by intro _;rfl):IL K X (.ListComp elt [⟨tg,iter,ifs,0⟩] A pos) (iLc k js fi g tt te):=by
 refine⟨λenv st r B=>?_⟩;simp only[iLc,qab]at B;obtain⟨⟨ds,G⟩,hy,B⟩:=B;have M:=B;by_cases hdn:¬ ds.length<=1000000
 ·rw[iFN hdn]at M;cases M
 have hdl:ds.length<=1000000:=by lia
 rw[iFP hdl]at M;refine (Cb S hc (hi.run _ _ _ hy) hg (λl s H C fp=>(ht l s H C fp).run) (λl s H C fp=>(he l s H C fp).any) hs).imp (y0 hgi hdl M)
theorem BZ {A:Scope}{Nc:List Str}{k:Nat}{js:List Nat}{elt iter:Expr}{ifs:List Expr}{fi:Lf}{g:Tg}{tt:Tf}{te:Ef}{i0:Nat}{x0:Str}{py spos:Pos}
  (hN0:X.N.Nodup) (hi0:X.N[i0]?=some x0) (hx0:Loc X.env.scope x0) (S:fP X A Nc (iD k js)) (hc:X.calm=true) (hgi:∀ j∈vm g,j<k) (hi:II K X tg iter fi)
  (hg:∀ l s H C fp,PG (lcX X A l Nc s H C fp) tg (tG K g)) (ht:∀ l s H C fp,ITs K (lcX X A l Nc s H C fp) ifs tt) (he:∀ l s H C fp,IE K (lcX X A l Nc s H C fp) elt te)
  (hsw:qd3 (.ListComp elt [⟨tg,iter,ifs,0⟩] A pos) (some (.Name x0 py)) spos.line X.env=pure true:=by rfl)
  (hf0:X.fn x0=true\/X.env.scope.names.lookup x0=some .local:=by first|exact .inl U|exact .inr U|assumption)
  (hs:∀ x,qbO iter X.env x=pure x:=by intro _;rfl):IS K X (.Assign [.Name x0 py] (.ListComp elt [⟨tg,iter,ifs,0⟩] A pos) spos) (aK (.nm i0) (ay (iLc k js fi g tt te)))/\
   IS K X (.Assign [.Name x0 py] (.ListComp elt [⟨tg,iter,ifs,0⟩] A pos) spos) (aK (.nm i0) (mP (iLc k js fi g tt te))):=by
 have key:∀ env st r0 r,iLc k js fi g tt te env st=some r->(∀ L φ H (D:tZ),Er K H φ env L->Sr K H φ st->yg K φ H D r0->∀ a vs H1 W,Fw φ W H H1->Sr K H1 W r.2->H1 a=none->Rls K H1 W r.1 vs->D.nx (L.set i0 (some (.ref a))) (upd H1 a (.lst vs)))->
   PS X (.Assign [.Name x0 py] (.ListComp elt [⟨tg,iter,ifs,0⟩] A pos) spos) (tS K env st r0):=by
  intro env st r0 r B h;simp only[iLc,qab]at B;obtain⟨⟨ds,G⟩,hy,B⟩:=B;have M:=B;by_cases hdn:¬ ds.length<=1000000
  ·rw[iFN hdn]at M;cases M
  have hdl:ds.length<=1000000:=by lia
  rw[iFP hdl]at M;refine (Fh hN0 hi0 hx0 S hc (hi.run _ _ _ hy) hg (λl s H C fp=>(ht l s H C fp).run) (λl s H C fp=>(he l s H C fp).any) hsw hf0 hs).imp ?_
  rintro D L H ⟨φ,Y,O,q⟩
  exact y0 hgi hdl M L H _ ⟨φ,Y,O,h L φ H D Y O q⟩
 constructor
 ·refine⟨λenv st r B=>?_⟩
  simp only[aK,ay,dC,qab,qac]at B;obtain⟨y,⟨r2,hy,rfl⟩,e',ee,rfl⟩:=B;cases ee;refine key _ _ _ _ hy λL φ H D Y O q a vs H1 E f1 G n1 w1=>?_;exact q _ _ E (f1.trans (Fw.new n1)) ((((Y.fw O f1).fw G (Fw.new n1))).set i0 ⟨a,vs,U,G.nin n1,.inl bH,w1.fw G (Fw.new n1)⟩) (G.new n1)
 ·refine⟨λenv st r B=>?_⟩
  simp only[aK,mP,dC,qab,qac]at B;obtain⟨y,⟨r2,hy,rfl⟩,e',ee,rfl⟩:=B;cases ee;refine key _ _ _ _ hy λL φ H D Y O q a vs H1 E f1 G n1 w1=>?_;exact q _ _ _ (f1.trans (Fw.more n1)) (((Y.fw O f1).fw G (Fw.more n1)).set i0 ⟨a,by rw[<-G.len];simp,U⟩) (G.more n1 w1)
end
def bR (n k:Nat) (b:Sf):Fn
 |ws,st=>if ws.length=k then (b (ws.map some++qax (n - k) none) st).bind λr=>match r with
 |.nx _ s=>some (.d .non,s)
 |.rt w s=>some (w,s)
 |_=>none
 else none
def AI (n:Nat) (w:W) (s:Sto):Option (W×Sto):=match w with
 |.d x=>some (.d x,s.take n)
 |.h m=>if m<n then some (.h m,s.take n) else (lg s m).map λds=>(.d (.lst ds),s.take n)
def vR (n k:Nat) (b:Sf):Fn
 |ws,st=>if ws.length=k then (b (ws.map some++qax (n - k) none) st).bind λr=>match r with
 |.nx _ s=>some (.d .non,s.take st.length)
 |.rt w s=>AI st.length w s
 |_=>none
 else none
section
variable {P:qaH}{w:World}{K:qad}{mg:Str->Option Value}{base:Heap}
theorem o0 {H:Hp}{φ:List Addr}{N:List Str}{k:Nat}:∀ {ws:List W}{vs:List V},Rws K H φ ws vs->ws.length=k->Er K H φ (ws.map some++qax (N.length - k) none) (mF N vs):=by
 intro ws vs r hk;have n:=r.length;refine⟨by unfold mF;simp;lia,λi x e=>?_⟩;unfold mF;by_cases hi:i<ws.length
 ·rw[qaP (by simpa using hi),qbu,qac]at e
  obtain⟨y,B,e⟩:=e
  have:∃ v,vs[i]?=some v/\Rw K H φ y v:=by
   clear hk n hi e
   induction ws generalizing vs i with
   |nil=>simp at B
   |cons w ws ih=>
    obtain⟨v,r',rfl,Y,X⟩:=r;cases i with
    |zero=>simp at B;subst B;exact⟨v,U,Y⟩
    |succ i=>simpa using ih X i (by simpa using B)
  obtain⟨v,T,rv⟩:=this;cases e;refine⟨v,?_,rv⟩;rw[qaP (by rw[qan,<-n];exact hi),qbu,T];rfl
 ·rw[qbn (by simpa using hi)]at e
  have:=qcr e
  have:=(qfF.mp this).2
  cases this
theorem e9 {x g:Str}{st:Stmt}{f:Addr}{fd:qaZ}{N ps:List Str}{k:Nat}{b:Sf} (F:Fun K x g st f fd) (S:aZ N ps (ak st))
  (M:∀ (j:Value) (A:qaS) (outer:List Env) (s:qag) (H:Hp) (E:XK),ez k (A.deeper (qds g (ak st) s.heap.objs.size f j))->ISs K (lU CX0 P w K mg base N g (ak st) f j A outer s H E).nox (aP st) b) :
  bv P w K mg base CX0 (k+1) f fd ps (spI K (bR N.length ps.length b)):=by
 refine F.ok S (λvs H Q E h=>?_) λj A outer s H vs Q E L h=>?_
 ·obtain⟨φ,st,ws,r,e,rw,_⟩:=h
  rw[bR]at e;by_cases n:ws.length=ps.length
  ·rw[<-rw.length,n]
  ·rw[iFN n]at e;cases e
 ·obtain⟨φ,t,ws,r,e,rw,S',q⟩:=h
  rw[bR]at e;by_cases n:ws.length=ps.length
  ·rw[iFP n]at e
   obtain⟨fl,R,p⟩:=qab.mp e;refine⟨_,(M j A outer s H E L).run _ _ _ R,φ,o0 rw n,S',?_⟩;cases fl with
   |nx e s=>cases p;exact λO H' c l e' s'=>q .non H' c l s' U
   |rt w s=>cases p;exact λv H' c l s' D=>q v H' c l s' D
   |bk e s=>cases p
   |ct e s=>cases p
  ·rw[iFN n]at e;cases e
theorem Fw.less {φ c:List Addr}{H H':Hp} (f:Fw φ c H H'):Fw φ φ H H':=⟨⟨[],by simp,by simp⟩,f.keep,f.there⟩
theorem EC {x g:Str}{st:Stmt}{f:Addr}{fd:qaZ}{N ps:List Str}{k:Nat}{b:Sf} (F:Fun K x g st f fd) (S:aZ N ps (ak st))
  (M:∀ (j:Value) (A:qaS) (outer:List Env) (s:qag) (H:Hp) (E:XK),ez k (A.deeper (qds g (ak st) s.heap.objs.size f j))->ISs K (lU CX0 P w K mg base N g (ak st) f j A outer s H E).nox (aP st) b) :
  bv P w K mg base CX0 (k+1) f fd ps (spI K (vR N.length ps.length b)):=by
 refine F.ok S (λvs H Q E h=>?_) λj A outer s H vs Q E L h=>?_
 ·obtain⟨φ,st,ws,r,e,rw,_⟩:=h
  rw[vR]at e;by_cases n:ws.length=ps.length
  ·rw[<-rw.length,n]
  ·rw[iFN n]at e;cases e
 ·obtain⟨φ,t,ws,r,e,rw,S',q⟩:=h
  rw[vR]at e;by_cases n:ws.length=ps.length
  ·rw[iFP n]at e
   obtain⟨fl,R,p⟩:=qab.mp e;refine⟨_,(M j A outer s H E L).run _ _ _ R,φ,o0 rw n,S',?_⟩;have less:∀ {H':Hp}{c:List Addr}{s':Sto},Fw φ c H H'->Sr K H' c s'->Sr K H' φ (s'.take t.length):=λ{H' c s'} l S2=>by
    obtain⟨ψ,rfl,_⟩:=l.ext;rw[<-S'.len];exact S2.less
   cases fl with
   |nx e s=>cases p;exact λO H' c l e' s'=>q .non H' φ l.less (less l s') U
   |rt w s=>
    intro v H' c l s' D;have u:AI t.length w s=some r:=p;obtain⟨ψ,o,_⟩:=l.ext;cases w with
    |d x=>
     cases u;subst o;exact q v H' φ l.less (less l s') (Rl.less D)
    |h m=>
     obtain⟨a,C,rfl⟩:=D;unfold AI at u;by_cases hm:m<t.length
     ·have e4:=by
       have:=u
       simp only[hm,if_true]at this;exact this
      cases e4;subst o;rw[qaP (by rw[S'.len];exact hm)]at C;exact q _ H' φ l.less (less l s') ⟨a,C,U⟩
     ·simp only[hm,if_false]at u
      obtain⟨ds,G,rfl⟩:=qac.mp u;obtain⟨vs,hv,rl⟩:=s'.atl m a ds C G;have hn:a∉φ:=λz=>by
       obtain⟨i,hi,ei⟩:=qdT.mp z;have h1:c[i]?=some a:=by subst o;rw[qaP hi,qa6 hi,ei]
       obtain⟨h2,J⟩:=qaA.mp h1;obtain⟨h3,I⟩:=qaA.mp C
       have:=(qeu s'.nd).mp (J.trans I.symm)
       rw[S'.len]at hi;lia
      subst o;exact q _ H' φ l.less (less l s') ⟨a,vs,U,hn,.inl hv,rl.less⟩
   |bk e s=>cases p
   |ct e s=>cases p
  ·rw[iFN n]at e;cases e
end
def bZ:D->Bool
 |.non=>true
 |.bl _=>true
 |.int _=>true
 |.str _=>true
 |_=>false
def vOf:D->V
 |.bl b=>.bl b
 |.int i=>.int i
 |.str x=>.str x
 |_=>.non
mutual
def eqD:D->D->Bool
 |.non,.non=>true
 |.bl a,.bl b=>a==b
 |.bl a,.int b=>(if a then 1 else 0)==b
 |.int a,.bl b=>a==(if b then 1 else 0)
 |.int a,.int b=>a==b
 |.str a,.str b=>a==b
 |.tup as,.tup bs=>jb as bs
 |.lst as,.lst bs=>jb as bs
 |_,_=>false
def jb:List D->List D->Bool
 |[],[]=>true
 |a::as,b::bs=>eqD a b&&jb as bs
 |_,_=>false
end
def okD:Nat->D->Bool
 |_,.non=>true
 |_,.bl _=>true
 |_,.int _=>true
 |_,.str _=>true
 |n+1,.tup ds=>ds.all (okD n)
 |n+1,.lst ds=>ds.all (okD n)
 |_,_=>false
def lsD (st:Sto):W->Option (List D)
 |.d (.lst ds)=>some ds
 |.h n=>lg st n
 |_=>none
def aU (st:Sto) (x y:W):Option D:=match x,y with
 |.d (.int i),.d (.int j)=>some (.int (i+j))
 |.d (.tup a),.d (.tup b)=>if a.length+b.length<=1000000 then some (.tup (a++b)) else none
 |.d (.str a),.d (.str b)=>if a.length+b.length<=1000000 then some (.str (a++b)) else none
 |x,y=>(lsD st x).bind λa=>(lsD st y).bind λb=>if a.length+b.length<=1000000 then some (.lst (a++b)) else none
def jY (_:Sto):W->W->Option D
 |.d (.int i),.d (.int j)=>some (.int (i - j))
 |_,_=>none
instance (a b:Int):Decidable (qdc a b):=by unfold qdc;infer_instance
def kf (_:Sto):W->W->Option D
 |.d (.int i),.d (.int j)=>if qdc i j then some (.int (i*j)) else none
 |.d (.tup a),.d (.int k)=>if a≠[]/\a.length<=1000/\1<=k/\k<1000 then some (.tup (qax k.toNat a).flatten) else none
 |.d (.lst a),.d (.int k)=>if a.length<=1000/\-1000<=k/\k<1000 then some (.lst (qax k.toNat a).flatten) else none
 |_,_=>none
def oW (_:Sto):W->W->Option D
 |.d (.int i),.d (.int j)=>if 0<j/\j<1073741824 then some (.int (i / j)) else none
 |_,_=>none
def jW (_:Sto):W->W->Option D
 |.d (.int i),.d (.int j)=>if 0<j then some (.int (i%j)) else none
 |_,_=>none
instance (i j:Int):Decidable (ql i j):=by unfold ql;infer_instance
def uh (_:Sto):W->W->Option D
 |.d (.int i),.d (.int j)=>if ql i j then some (.int (i^j.toNat)) else none
 |_,_=>none
def AC (_:Sto):W->W->Option D
 |.d (.int i),.d (.int j)=>if ql i j then some (.int (i*2^j.toNat)) else none
 |_,_=>none
def dLt (_:Sto):W->W->Option D
 |.d (.int i),.d (.int j)=>some (.bl (decide (i<j)))
 |_,_=>none
def dLe (_:Sto):W->W->Option D
 |.d (.int i),.d (.int j)=>some (.bl (decide (i<=j)))
 |_,_=>none
def dGt (_:Sto):W->W->Option D
 |.d (.int i),.d (.int j)=>some (.bl (decide (j<i)))
 |_,_=>none
def dGe (_:Sto):W->W->Option D
 |.d (.int i),.d (.int j)=>some (.bl (decide (j<=i)))
 |_,_=>none
def wF:D->Bool
 |.non=>true
 |_=>false
def xB (_:Sto):W->W->Option D
 |.d x,.d .non=>some (.bl (wF x))
 |_,_=>none
def oX (_:Sto):W->W->Option D
 |.d x,.d .non=>some (.bl (!wF x))
 |_,_=>none
def inD (x:D) (ds:List D):Bool:=ds.any λy=>eqD y x
def dIn (st:Sto) (x y:W):Option D:=match x with
 |.d x=>(e8 st y).bind λds=>if bZ x=true/\ds.all bZ=true then some (.bl (inD x ds)) else none
 |_=>none
def dQ (st:Sto) (x y:W):Option D:=match x with
 |.d x=>(e8 st y).bind λds=>if bZ x=true/\ds.all bZ=true then some (.bl (!inD x ds)) else none
 |_=>none
section
variable {K:qad}{X:Cx}
theorem io {H:Hp}{φ:List Addr}{d:D}{v:V} (h:bZ d=true) (r:Rl K H φ d v):v=vOf d/\h9 v=true:=by
 cases d with
 |non=>cases (r);exact⟨U,U⟩
 |bl b=>cases (r);exact⟨U,U⟩
 |int b=>cases (r);exact⟨U,U⟩
 |str b=>cases (r);exact⟨U,U⟩
 |_=>cases h
theorem sk {a b:D} (J:bZ a=true) (L:bZ b=true):eqV (vOf a) (vOf b)=eqD a b:=by
 cases a<;>cases b<;>first|rfl|(cases J;done)|(cases L)|(done)
theorem kE {H:Hp}{φ:List Addr}:∀ {ds:List D}{vs:List V},ds.all bZ=true->Rls K H φ ds vs->vs=ds.map vOf/\vs.all h9=true
 |[],_,_,h=>by cases h;exact⟨U,U⟩
 |d::ds,_,h,r=>by
  rw[qaQ,qao]at h;obtain⟨v,M,rfl,l,k⟩:=r;obtain⟨u,s⟩:=io h.1 l;obtain⟨t,p⟩:=kE h.2 k;exact⟨by rw[u,t];rfl,by rw[qaQ,s,p];rfl⟩
theorem md {x:D} (C:bZ x=true):∀ {ds:List D},ds.all bZ=true->inV (vOf x) (ds.map vOf)=inD x ds
 |[],_=>rfl
 |d::ds,h=>by
  rw[qaQ,qao]at h;have E:=md C h.2;unfold inV inD at E ⊢;rw[qal,qcp,qcp,E,sk h.1 C]
theorem zg {f:Value->Value->Sem Value}{g:Sto->W->W->Option D} (h:∀ st x y d,g st x y=some d->∃ i j,x=.d (.int i)/\y=.d (.int j)/\OpR X f (λn o H Q=>n=.int i/\o=.int j/\Q (vOf d) H)/\bZ d=true):OpD K X f g:=by
 refine⟨λst x y d hd=>?_⟩;obtain⟨i,j,rfl,rfl,I,G⟩:=h st x y d hd;refine I.imp ?_
 rintro n o H Q ⟨φ,S,l,k,q⟩
 refine⟨l,k,q _ H (bU.refl H) ?_⟩;cases d<;>first|rfl|cases G
theorem w2 {x y:W}{d:D}{F:Int->Int->Option D} (h:(match x,y with|.d (.int i),.d (.int j)=>F i j|_,_=>none)=some d):∃ i j,x=.d (.int i)/\y=.d (.int j)/\F i j=some d:=by
 split at h
 ·exact⟨_,_,U,U,h⟩
 ·cases h
theorem ifS {c:Prop} [Decidable c] {a d:D} (h:(if c then some a else none)=some d):c/\a=d:=by
 split at h
 ·rename_i q
  exact⟨q,qa1 h⟩
 ·cases h
theorem mm {f:Value->Value->Sem Value}{g:Sto->W->W->Option D}{F:Int->Int->Option D} (e:∀ st x y,g st x y=match x,y with|.d (.int i),.d (.int j)=>F i j|_,_=>none) (h:∀ i j d,F i j=some d->OpR X f (λn o H Q=>n=.int i/\o=.int j/\Q (vOf d) H)/\bZ d=true):OpD K X f g:=zg λst x y d hd=>by
 rw[e]at hd;obtain⟨i,j,rfl,rfl,hd⟩:=w2 hd;exact⟨i,j,U,U,h i j d hd⟩
theorem kA:OpD K X (qbF .Sub) jY:=mm (λ_ _ _=>rfl) λi j d h=>by cases h;exact⟨Dx.imp λ_ _ _ _ q=>⟨i,j,q⟩,U⟩
theorem wP:OpD K X (qa2 .Lt) dLt:=mm (λ_ _ _=>rfl) λi j d h=>by cases h;exact⟨Fb.imp λ_ _ _ _ q=>⟨i,j,q⟩,U⟩
theorem uG:OpD K X (qa2 .LtE) dLe:=mm (λ_ _ _=>rfl) λi j d h=>by cases h;exact⟨Fa.imp λ_ _ _ _ q=>⟨i,j,q⟩,U⟩
theorem wO:OpD K X (qa2 .Gt) dGt:=mm (λ_ _ _=>rfl) λi j d h=>by cases h;exact⟨E9.imp λ_ _ _ _ q=>⟨i,j,q⟩,U⟩
theorem B5:OpD K X (qa2 .GtE) dGe:=mm (λ_ _ _=>rfl) λi j d h=>by cases h;exact⟨E8.imp λ_ _ _ _ q=>⟨i,j,q⟩,U⟩
theorem sN:OpD K X (qbF .FloorDiv) oW:=mm (λ_ _ _=>rfl) λi j d h=>by obtain⟨c,rfl⟩:=ifS h;exact⟨Bj.imp λ_ _ _ _ q=>⟨i,j,q.1,q.2.1,c,q.2.2⟩,U⟩
theorem jC:OpD K X (qbF .Mod) jW:=mm (λ_ _ _=>rfl) λi j d h=>by obtain⟨c,rfl⟩:=ifS h;exact⟨Du.imp λ_ _ _ _ q=>⟨i,j,q.1,q.2.1,c,q.2.2⟩,U⟩
theorem pI:OpD K X (qbF .Pow) uh:=mm (λ_ _ _=>rfl) λi j d h=>by obtain⟨c,rfl⟩:=ifS h;exact⟨Dv.imp λ_ _ _ _ q=>⟨i,j,q.1,q.2.1,c,q.2.2⟩,U⟩
theorem Dm:OpD K X (qbF .LShift) AC:=mm (λ_ _ _=>rfl) λi j d h=>by obtain⟨c,rfl⟩:=ifS h;exact⟨Dw.imp λ_ _ _ _ q=>⟨i,j,q.1,q.2.1,c,q.2.2⟩,U⟩
theorem zW {H:Hp}{φ:List Addr}{d:D}{v:V} (r:Rl K H φ d v):decide (v=.non)=wF d:=by
 cases d with
 |non=>cases (show v=.non from r);rfl
 |bl b=>cases (show v=.bl b from r);rfl
 |int b=>cases (show v=.int b from r);rfl
 |str b=>cases (show v=.str b from r);rfl
 |ty b=>cases (show v=.ty b from r);rfl
 |dct=>obtain⟨a,rfl,_⟩:=r;rfl
 |scr ns=>obtain⟨a,rfl,_⟩:=r;rfl
 |tup ds=>obtain⟨a,vs,rfl,_⟩:=r;rfl
 |lst ds=>obtain⟨a,vs,rfl,_⟩:=r;rfl
theorem vD:OpD K X (qa2 .Is) xB:=by
 refine⟨λst x y d h=>?_⟩
 match x,y,h with
 |.d x,.d .non,h=>
  cases h;refine Ds.imp ?_
  rintro n o H Q ⟨φ,S,l,k,q⟩
  refine⟨k,q _ H (bU.refl H) ?_⟩;rw[zW l];rfl
theorem wQ:OpD K X (qa2 .IsNot) oX:=by
 refine⟨λst x y d h=>?_⟩
 match x,y,h with
 |.d x,.d .non,h=>
  cases h;refine Bl.imp ?_
  rintro n o H Q ⟨φ,S,l,k,q⟩
  refine⟨k,q _ H (bU.refl H) ?_⟩;rw[zW l];rfl
theorem nD (A:X.K=K:=by rfl):OpD K X (qa2 .In) dIn:=by
 subst A;refine⟨λst x y d h=>?_⟩
 match x,h with
 |.d x,h=>
  simp only[dIn,qab]at h;obtain⟨ds,z,h⟩:=h;split at h
  ·rename_i m
   cases h;refine qZ.imp ?_
   rintro n o H Q ⟨φ,S,l,k,q⟩
   obtain⟨a,vs,rfl,B,w⟩:=mE S k z;obtain⟨u,s⟩:=io m.1 l;obtain⟨t,p⟩:=kE m.2 w;refine⟨a,vs,U,B,s,p,q _ H (bU.refl H) ?_⟩;rw[u,t,md m.1 m.2];rfl
  ·cases h
theorem kz (A:X.K=K:=by rfl):OpD K X (qa2 .NotIn) dQ:=by
 subst A;refine⟨λst x y d h=>?_⟩
 match x,h with
 |.d x,h=>
  simp only[dQ,qab]at h;obtain⟨ds,z,h⟩:=h;split at h
  ·rename_i m
   cases h;refine mq.imp ?_
   rintro n o H Q ⟨φ,S,l,k,q⟩
   obtain⟨a,vs,rfl,B,w⟩:=mE S k z;obtain⟨u,s⟩:=io m.1 l;obtain⟨t,p⟩:=kE m.2 w;refine⟨a,vs,U,B,s,p,q _ H (bU.refl H) ?_⟩;rw[u,t,md m.1 m.2];rfl
  ·cases h
end
section
variable {K:qad}{X:Cx}
theorem wR:OpR X (qbF .Add) (λx y H Q=>∃ l b G zs,x=.ref l/\y=.ref b/\Rd H l (.lst G)/\Rd H b (.lst zs)/\G.length+zs.length<=qaK/\∀ p,H p=none->Q (.ref p) (upd H p (.lst (G++zs)))):=by
 intro E s M H x y v u Q I rx ry h;obtain⟨l,b,G,zs,rfl,rfl,hH,hB,hz,q⟩:=h;cases rx;cases ry;obtain⟨z,g,n,r,e⟩:=hH.ok I.hok;obtain⟨z2,N,n2,J,e2⟩:=hB.ok I.hok;have L:=r.length;have hl2:=J.length;refine PySem.P.add_list e e2 ?_ (by rw[qaG,qaG];lia);have ea:g.toArray++N.toArray=(g++N).toArray:=by simp
 rw[ea];exact⟨.ref _,_,I.lnew (r.append J) (by rw[qai];lia),U,q _ I.fresh⟩
theorem zh:OpR X (qbF .Add) (λx y H Q=>∃ a b G ys,x=.ref a/\y=.ref b/\SqT X.K H a G/\SqT X.K H b ys/\G.length+ys.length<=qaK/\
  (G=[]->Q (.ref b) H)/\(ys=[]->Q (.ref a) H)/\∀ p,H p=none->Q (.ref p) (upd H p (.tup (G++ys)))):=by
 intro E s M H x y v u Q I rx ry h;obtain⟨a,b,G,ys,rfl,rfl,ha,hb,hz,q0,q1,q2⟩:=h;by_cases hx:G=[]
 ·cases rx
  cases ry;obtain⟨g,O,p1,_⟩:=I.tuple ha;obtain⟨N,J,p2,_⟩:=I.tuple hb;obtain⟨⟨cls,dd,data,sl⟩,ho,hc,n,hd⟩:=id p1;obtain⟨⟨cls2,dd2,data2,sl2⟩,ho2,hc2,n2,hd2⟩:=id p2;subst hc hd hc2 hd2;exact qfV ⟨_,ho,U⟩ ⟨_,ho2,U⟩ qeW qfy qdp qdl (qc9 _ _)
   (tuple_addW0 a b g.toArray N.toArray n n2 dd dd2 sl sl2 (by simp[O.nil_iff.mpr hx])) ⟨ho,ho2,.ref b,H,I,U,q0 hx⟩
 ·exact Bi E s M H _ _ v u Q I rx ry ⟨a,b,G,ys,U,U,ha,hb,hx,hz,q1,λ_ p C=>q2 p C⟩
theorem mV {st:Sto}{H:Hp}{φ:List Addr}{w:W}{v:V}{ds:List D} (S:Sr K H φ st) (r:Rw K H φ w v) (e:lsD st w=some ds):∃ a vs,v=.ref a/\Rd H a (.lst vs)/\Rls K H φ ds vs:=by
 cases w with
 |h n=>
  obtain⟨a,ea,rfl⟩:=r;obtain⟨vs,q,rl⟩:=S.atl n a ds ea e;exact⟨a,vs,U,.inl q,rl⟩
 |d x=>
  cases x with
  |lst es=>cases e;obtain⟨a,vs,rfl,h0,B,A⟩:=r;exact⟨a,vs,U,B,A⟩
  |_=>cases e
theorem mil:(1000000:Nat)<=qaK:=by decide
theorem aO (hK:X.K=K:=by rfl):OpD K X (qbF .Add) aU:=by
 subst hK;refine⟨λst x y d h=>?_⟩;have Y:(lsD st x).bind (λa=>(lsD st y).bind λb=>if a.length+b.length<=1000000 then some (.lst (a++b)) else none)=some d->OpR X _ (rD X.K st x y d):=λh=>by
  simp only[qab]at h;obtain⟨as,ha,bs,hb,h⟩:=h;split at h
  ·rename_i L
   cases h;refine wR.imp ?_
   rintro vx vy H Q ⟨φ,S,O,J,q⟩
   obtain⟨a,us,rfl,B,A⟩:=mV S O ha;obtain⟨b,vs,rfl,h3,h4⟩:=mV S J hb;refine⟨a,b,us,vs,U,U,B,h3,by rw[<-A.length,<-h4.length];exact qaU L mil,λp C=>q _ _ (bU.new C _) ?_⟩;exact⟨p,_,U,S.nin C,.inl bH,(A.append h4).fw S (Fw.new C)⟩
  ·cases h
 match x,y,h with
 |.d (.int i),.d (.int j),h=>
  cases h;refine Dq.imp ?_
  rintro vx vy H Q ⟨φ,S,O,J,q⟩
  exact⟨i,j,O,J,q _ H (bU.refl H) U⟩
 |.d (.tup as),.d (.tup bs),h=>
  simp only[aU]at h;split at h
  ·rename_i L
   cases h;refine zh.imp ?_
   rintro vx vy H Q ⟨φ,S,⟨a,us,rfl,B,A⟩,⟨b,vs,rfl,h3,h4⟩,q⟩
   refine⟨a,b,us,vs,U,U,(SqT.of B),(SqT.of h3),by rw[<-A.length,<-h4.length];exact qaU L mil,λe=>?_,λe=>?_,λp C=>?_⟩
   ·subst e
    have:as=[]:=by cases as with|nil=>rfl|cons _ _=>cases A.length
    subst this;exact q _ H (bU.refl H) ⟨b,vs,U,h3,h4⟩
   ·subst e
    have:bs=[]:=by cases bs with|nil=>rfl|cons _ _=>cases h4.length
    subst this;exact q _ H (bU.refl H) ⟨a,us,U,B,by rw[qa5];exact A⟩
   ·exact q _ _ (bU.new C _) ⟨p,_,U,bH,(A.append h4).fw S (Fw.new C)⟩
  ·cases h
 |.d (.str as),.d (.str bs),h=>
  simp only[aU]at h;split at h
  ·rename_i L
   cases h;refine vJ.imp ?_
   rintro vx vy H Q ⟨φ,S,O,J,q⟩
   exact⟨as,bs,O,J,qaU L mil,q _ H (bU.refl H) U⟩
  ·cases h
 |.d (.lst as),y,h=>exact Y (by cases y with|h n=>exact h|d y=>cases y<;>exact h)
 |.h n,y,h=>exact Y (by cases y with|h n=>exact h|d y=>cases y<;>exact h)
theorem Bm:OpR X (qbF .Mult) (λx y H Q=>∃ l k G,x=.ref l/\y=.int k/\Rd H l (.lst G)/\-(2 ^ 63)<=k/\k < 2 ^ 63/\G.length*k.toNat<=qaK/\
 ∀ p,H p=none->Q (.ref p) (upd H p (.lst (qax k.toNat G).flatten))):=by
 intro E s M H x y v u Q I rx ry h;obtain⟨l,k,G,rfl,rfl,hH,B,A,hz,q⟩:=h;cases rx;obtain⟨t,rfl⟩:=ry;obtain⟨z,g,n,r,e⟩:=hH.ok I.hok;have hlen:g.toArray.size*k.toNat<=qaK:=by rw[qaG,<-r.length];exact hz
 have hcap:¬ g.toArray.size*k.toNat > (2^63 - 1) / 8:=by
  have:(qaK)<=(2^63 - 1) / 8:=by decide
  lia
 have hfit:¬ (!Builtin.List.listFitsIndex k)=true:=by
  rw[fitsIndex_both B A];exact qaR
 have hlong:¬ qei (g.toArray.size*k.toNat)=true:=by
  rw[zd hlen];exact qaR
 have hnew:qfP (λx1 x2=>x1++x2) #[] (qax (if g.toArray.isEmpty=true then 0 else k.toNat) g.toArray)=(qax k.toNat g).flatten.toArray:=by
  have f0:=λm=>by
   have:=mM g m []
   rw[qaI]at this;exact this
  rw[f0];cases g with
  |nil=>simp
  |cons a r'=>rw[iFN (by simp)]
 refine qfh (by decide) ⟨_,e,U⟩ (λs'=>qeF s' k t) noFill_list_mul qgN qdY repeat_list qgw.lookup
  (qcl qdY (qeF s k t) qgx (qgo _ _) (int___rmul___int_list k t l g.toArray n)
    ⟨e,U,⟨_,e,U⟩,qcl F.slot_list_mul ⟨_,e,U⟩ F.entry_list_mul (F.args_list_mul_2 _ _) (AutoListH.list___mul___list_int_3 l g.toArray n k t hfit hcap hlong) ⟨e,?_⟩⟩)
 rw[hnew];exact⟨.ref _,_,I.lnew (r.rep k.toNat) (by rw[sH,qes];exact hz),U,q _ I.fresh⟩
theorem jD (hK:X.K=K:=by rfl):OpD K X (qbF .Mult) kf:=by
 refine⟨λst x y d h=>?_⟩
 match x,y,h with
 |.d (.int i),.d (.int j),h=>
  simp only[kf]at h;split at h
  ·rename_i L
   cases h;refine Bk.imp ?_
   rintro vx vy H Q ⟨φ,S,O,J,q⟩
   exact⟨i,j,O,J,L,q _ H (bU.refl H) U⟩
  ·cases h
 |.d (.tup as),.d (.int k),h=>
  simp only[kf]at h;split at h
  ·rename_i L
   cases h;refine Bn.imp ?_
   rintro vx vy H Q ⟨φ,S,⟨a,us,rfl,B,A⟩,J,q⟩
   have hne:us≠[]:=by rintro rfl;cases as with|nil=>exact L.1 U|cons _ _=>cases A.length
   refine⟨a,k,us,U,J,(SqT.of B),hne,by rw[<-A.length];exact L.2.1,L.2.2.1,L.2.2.2,λe=>?_,λ_ p C=>?_⟩
   ·subst e
    exact q _ H (bU.refl H) ⟨a,us,U,B,by simpa using A⟩
   ·exact q _ _ (bU.new C _) ⟨p,_,U,bH,(A.rep _).fw S (Fw.new C)⟩
  ·cases h
 |.d (.lst as),.d (.int k),h=>
  simp only[kf]at h;split at h
  ·rename_i L
   cases h;refine Bm.imp ?_
   rintro vx vy H Q ⟨φ,S,⟨a,us,rfl,h0,B,A⟩,J,q⟩
   refine⟨a,k,us,U,J,B,by lia,by lia,?_,λp C=>?_⟩
   ·rw[<-A.length]
    have:as.length*k.toNat<=1000*1000:=qe0 L.1 (by lia)
    exact qaU this mil
   ·exact q _ _ (bU.new C _) ⟨p,_,U,S.nin C,.inl bH,(A.rep _).fw S (Fw.new C)⟩
  ·cases h
def dIx (st:Sto) (x y:W):Option D:=match x,y with
 |.d (.str z),.d (.int i)=>if z.length<=1000000 then (atI z.cps.toList i).map λc=>.str ⟨#[c]⟩ else none
 |x,.d (.int i)=>(e8 st x).bind λds=>atI ds i
 |_,_=>none
theorem CA {H:Hp}{φ:List Addr}{ds:List D}{vs:List V}{i:Int}{d:D} (r:Rls K H φ ds vs) (e:atI ds i=some d):∃ v,atI vs i=some v/\Rl K H φ d v:=by
 unfold atI at e ⊢;rw[<-r.length];obtain⟨j,e1,e2⟩:=qab.mp e;obtain⟨v,ev,rv⟩:=r.get e2;exact⟨v,by rw[e1];exact ev,rv⟩
theorem IxR.imp {r r':R2} (h:IxR X r) (m:∀ x y H Q,r' x y H Q->r x y H Q):IxR X r':=λvalue slice E s M H x y v u Q I rx ry q hs=>h value slice E s M H x y v u Q I rx ry (m _ _ _ _ q) hs
theorem FX (st:Sto) (x y:W) (d:D) (h:dIx st x y=some d) (hK:X.K=K):IxR X (rD K st x y d):=by
 subst hK
 match y,h with
 |.d (.int i),h=>
  have seq:(e8 st x).bind (λds=>atI ds i)=some d->IxR X (rD X.K st x (.d (.int i)) d):=λh=>by
   obtain⟨ds,e1,e2⟩:=qab.mp h;refine yV.imp ?_
   rintro vx vy H Q ⟨φ,S,O,J,q⟩
   obtain⟨a,vs,rfl,B,A⟩:=mE S O e1;obtain⟨v,ev,rv⟩:=CA A e2;rcases B with B|B
   ·exact .inl ⟨a,vs,i,v,U,J,B,ev,q _ H (bU.refl H) rv⟩
   ·exact .inr (.inl ⟨a,vs,i,v,U,J,B,ev,q _ H (bU.refl H) rv⟩)
  match x,h with
  |.d (.str z),h=>
   simp only[dIx]at h;split at h
   ·rename_i L
    obtain⟨c,e1,rfl⟩:=qac.mp h;refine yV.imp ?_
    rintro vx vy H Q ⟨φ,S,O,J,q⟩
    exact .inr (.inr ⟨z,i,c,O,J,qaU L mil,e1,q _ H (bU.refl H) U⟩)
   ·cases h
  |.d (.tup z),h=>exact seq h
  |.d (.lst z),h=>exact seq h
  |.d (.scr z),h=>exact seq h
  |.h z,h=>exact seq h
 |.d .non,h=>cases x with|h n=>cases h|d x=>cases x<;>cases h
 |.d (.bl _),h=>cases x with|h n=>cases h|d x=>cases x<;>cases h
 |.d (.str _),h=>cases x with|h n=>cases h|d x=>cases x<;>cases h
 |.d (.ty _),h=>cases x with|h n=>cases h|d x=>cases x<;>cases h
 |.d (.scr _),h=>cases x with|h n=>cases h|d x=>cases x<;>cases h
 |.d .dct,h=>cases x with|h n=>cases h|d x=>cases x<;>cases h
 |.d (.tup _),h=>cases x with|h n=>cases h|d x=>cases x<;>cases h
 |.d (.lst _),h=>cases x with|h n=>cases h|d x=>cases x<;>cases h
 |.h _,h=>cases x with|h n=>cases h|d x=>cases x<;>cases h
variable {e a b:Expr}{pos p2:Pos}{f fa fb:Ef}
theorem aX (ha:IE K X a fa) (hb:IE K X b fb) (hs:kC b=true:=by rfl) (hK:X.K=K:=by rfl):IE K X (.Subscript a b pos) (iOp dIx fa fb):=by
 refine⟨λenv st r hr=>?_⟩;simp only[iOp,qab,qac]at hr;obtain⟨x,hx,y,hy,d,hd,rfl⟩:=hr;exact (B9 (FX _ _ _ _ hd hK) (ha.run _ _ _ hx) (hb.run _ _ _ hy) (px hs)).imp λM H Q h=>tQ h
abbrev Pf:=Ev->Sto->Option (Option Int×Sto)
def iPn:Pf
 |_,st=>some (none,st)
def yS:W->Option Int
 |.d (.int i)=>some i
 |_=>none
theorem xJ {w:W}{i:Int} (h:yS w=some i):w=.d (.int i):=by
 cases w with
 |h n=>cases h
 |d x=>cases x<;>first|(cases h;done)|(injection h with h;subst h;rfl)
def iPs (f:Ef):Pf
 |env,st=>(f env st).bind λr=>(yS r.1).map λi=>(some i,r.2)
def tIO (K:qad) (env:Ev) (st:Sto) (r:Option Int×Sto):TO:=λM H Q=>∃ φ,Er K H φ env M/\Sr K H φ st/\∀ H' φ',Fw φ φ' H H'->Sr K H' φ' r.2->Q r.1 H'
structure IO (K:qad) (X:Cx) (e:Option Expr) (f:Pf):Prop where
 run:∀ env st r,f env st=some r->PO X e (tIO K env st r)
theorem PO.imp {e:Option Expr}{t t':TO} (h:PO X e t) (m:∀ M H Q,t' M H Q->t M H Q):PO X e t':=λE s M H Q I q=>h E s M H Q I (m M H Q q)
theorem gJ:IO K X none iPn:=by
 refine⟨λenv st r hr=>?_⟩;cases hr;exact Bs.imp λM H Q ⟨φ,hE,P,q⟩=>q H φ (Fw.refl φ H) P
theorem bu (h:IE K X e f):IO K X (some e) (iPs f):=by
 refine⟨λenv st r hr=>?_⟩;simp only[iPs,qab,qac]at hr;obtain⟨⟨x,R⟩,hx,i,hi,rfl⟩:=hr;cases xJ hi;refine (Bt (h.run _ _ _ hx)).imp ?_
 rintro M H Q ⟨φ,hE,P,q⟩
 exact⟨φ,hE,P,λv H1 T f1 R w1=>⟨i,w1,q H1 T f1 R⟩⟩
def mK (G:List D) (lo hi:Option Int):List D:=(G.drop (HT.sIx G.length 0 lo)).take (HT.sIx G.length G.length hi - HT.sIx G.length 0 lo)
theorem wv {H:Hp}{φ:List Addr}{ds:List D}{vs:List V} (r:Rls K H φ ds vs) (lo hi:Option Int):Rls K H φ (mK ds lo hi) (vf vs lo hi):=by
 unfold mK vf;rw[r.length];exact (r.drop _).take _
def dSl (st:Sto) (x:W) (lo hi:Option Int):Option D:=match x with
 |.d (.tup ds)=>some (.tup (mK ds lo hi))
 |.d (.lst ds)=>some (.lst (mK ds lo hi))
 |.h n=>(lg st n).map λds=>.lst (mK ds lo hi)
 |.d (.scr ns)=>some (.lst (mK (ns.map D.int) lo hi))
 |_=>none
def iSl (f:Ef) (lo hi:Pf):Ef
 |env,st=>(f env st).bind λx=>(lo env x.2).bind λl=>(hi env l.2).bind λu=>(dSl u.2 x.1 l.1 u.1).map λd=>(.d d,u.2)
theorem BY {lo hi:Option Expr}{fl fh:Pf} (h:IE K X e f) (L:IO K X lo fl) (hh:IO K X hi fh) (hK:X.K=K:=by rfl):IE K X (.Subscript e (.Slice lo hi none p2) pos) (iSl f fl fh):=by
 subst hK;refine⟨λenv st r hr=>?_⟩;simp only[iSl,qab,qac]at hr;obtain⟨⟨x,R⟩,hx,l,hl',u,hu',d,hd,rfl⟩:=hr;have list:(∀ {H:Hp}{φ:List Addr}{v:V},Sr X.K H φ u.2->Rw X.K H φ x v->∃ a vs ds,v=.ref a/\SqL X.K H a vs/\Rls X.K H φ ds vs/\d=.lst (mK ds l.1 u.1))->PE X (.Subscript e (.Slice lo hi none p2) pos) (tI X.K env st (.d d,u.2)):=λhq=>by
  refine (pS BI (h.run _ _ _ hx) (L.run _ _ _ hl') (hh.run _ _ _ hu')).imp ?_
  rintro M H Q ⟨φ,hE,P,q⟩
  refine⟨φ,hE,P,λv H1 T f1 R w1=>⟨T,hE.fw P f1,R,λH2 φ2 f2 s2=>⟨φ2,(hE.fw P f1).fw R f2,s2,λH3 φ3 f3 s3=>?_⟩⟩⟩;obtain⟨a,vs,ds,rfl,B,A,rfl⟩:=hq s3 ((w1.fw R f2).fw s2 f3);refine⟨a,vs,U,B,λp C=>q _ _ φ3 (((f1.trans f2).trans f3).trans (Fw.new C)) (s3.new C) ?_⟩;exact⟨p,_,U,s3.nin C,.inl bH,(wv A _ _).fw s3 (Fw.new C)⟩
 match x,hd with
 |.d (.tup ds),hd=>
  cases hd;refine (pS (C8 U) (h.run _ _ _ hx) (L.run _ _ _ hl') (hh.run _ _ _ hu')).imp ?_
  rintro M H Q ⟨φ,hE,P,q⟩
  refine⟨φ,hE,P,λv H1 T f1 R w1=>⟨T,hE.fw P f1,R,λH2 φ2 f2 s2=>⟨φ2,(hE.fw P f1).fw R f2,s2,λH3 φ3 f3 s3=>?_⟩⟩⟩;obtain⟨a,vs,rfl,B,A⟩:=(w1.fw R f2).fw s2 f3;refine⟨a,vs,U,(SqT.of B),?_⟩;by_cases hc:HT.sIx vs.length 0 l.1=0/\HT.sIx vs.length vs.length u.1=vs.length
  ·refine .inr ⟨hc,q _ _ φ3 ((f1.trans f2).trans f3) s3 ⟨a,vs,U,B,?_⟩⟩
   have e:mK ds l.1 u.1=ds:=by
    unfold mK;rw[A.length,hc.1,hc.2,qcS,qhC,<-A.length,qbd]
   rw[e];exact A
  ·exact .inl ⟨hc,λp C=>q _ _ φ3 (((f1.trans f2).trans f3).trans (Fw.new C)) (s3.new C) ⟨p,_,U,bH,(wv A _ _).fw s3 (Fw.new C)⟩⟩
 |.d (.lst ds),hd=>
  cases hd;refine list λ{H φ v} S w=>?_;obtain⟨a,vs,rfl,h0,B,A⟩:=w;exact⟨a,vs,ds,U,.inl B,A,U⟩
 |.d (.scr ns),hd=>
  cases hd;refine list λ{H φ v} S w=>?_;obtain⟨a,rfl,h⟩:=w;refine⟨a,_,_,U,?_,Rls.of_ints ns,U⟩;rcases h with⟨o,h⟩|h
  ·exact .inl (.inr ⟨o,h⟩)
  ·exact .inr h
 |.h n,hd=>
  obtain⟨ds,e1,rfl⟩:=qac.mp hd;refine list λ{H φ v} S w=>?_;obtain⟨a,ea,rfl⟩:=w;obtain⟨vs,q,rl⟩:=S.atl n a ds ea e1;exact⟨a,vs,ds,U,SqL.of q,rl,U⟩
end
section
variable {K:qad}{X:Cx}{pins:List (Addr×Obj)}{σ:St}{H:Hp}{s:qag}{φ:List Addr}{st:Sto}
theorem iE:∀ (O P:List D),((qcC (min O.length P.length)).all (λj=>eqD (O.getD j .non) (P.getD j .non))&&O.length==P.length)=jb O P
 |[],[]=>rfl
 |[],y::P=>by simp[jb]
 |x::O,[]=>by simp[jb]
 |x::O,y::P=>by
  show ((qcC (min (O.length+1) (P.length+1))).all _&&(O.length+1==P.length+1))=(eqD x y&&jb O P);rw[show min _ _=min O.length P.length+1 by lia,ou,<-iE O P];have e:(O.length+1==P.length+1)=(O.length==P.length):=by simp
  rw[e,Bool.and_assoc];rfl
theorem ln {O P:List D} (h:O.length=P.length):(qcC O.length).all (λj=>eqD (O.getD j .non) (P.getD j .non))=jb O P:=by
 rw[<-iE O P,<-h,Nat.min_self];simp
theorem uj:∀ {O P:List D},O.length≠P.length->jb O P=false
 |[],[],h=>absurd U h
 |[],_::_,_=>rfl
 |_::_,[],_=>rfl
 |x::O,y::P,h=>by
  show (eqD x y&&jb O P)=false;rw[uj (by intro e;apply h;rw[qaf,qaf,e]),Bool.and_false]
theorem BD (I:Inv X pins σ H s) {a:Addr}{vs ws:List V} (h:Rd H a (.lst vs)) (h':Rd H a (.lst ws)):vs=ws:=I.list_inj (.inl h) (.inl h')
theorem wy (I:Inv X pins σ H s):∀ (n:Nat) {d e:D}{v:V},Rl X.K H φ d v->Rl X.K H φ e v->okD n d=true->okD n e=true->eqD d e=true:=by
 intro n
 induction n with
 |zero=>
  intro d e v m l T J;cases d<;>first|(cases T;done)|skip
  all_goals (cases e<;>first|(cases J;done)|skip)
  all_goals (first|rfl|(cases m.symm.trans l;done)|(cases m.symm.trans l;simp[eqD]))
 |succ n ih=>
  have lists:∀ {ds o:List D}{vs:List V},Rls X.K H φ ds vs->Rls X.K H φ o vs->(∀ d∈ds,okD n d=true)->(∀ d∈o,okD n d=true)->jb ds o=true:=by
   intro ds
   induction ds with
   |nil=>
    intro o vs m l _ _;cases m;cases o with
    |nil=>rfl
    |cons e o=>obtain⟨_,_,q,_⟩:=l;cases q
   |cons d ds ihd=>
    intro o vs m l T J;obtain⟨v,r,rfl,a1,a2⟩:=m;cases o with
    |nil=>cases l
    |cons e o=>
     obtain⟨v',r',q,b1,b2⟩:=l;cases q;show (eqD d e&&jb ds o)=true;rw[ih a1 b1 (T d qae) (J e qae),ihd a2 b2 (λx hx=>T x (qah _ hx)) (λx hx=>J x (qah _ hx))];rfl
  intro d e v m l T J;cases d with
  |tup ds=>
   obtain⟨a,vs,rfl,R,N⟩:=m;cases e with
   |tup o=>
    obtain⟨b,L,q,p,C⟩:=l;cases q;rw[I.tuple_inj (SqT.of p) (SqT.of R)]at C;exact lists N C (qas.mp T) (qas.mp J)
   |lst o=>
    obtain⟨b,L,q,_,p,C⟩:=l;cases q;obtain⟨_,_,F,_⟩:=I.tuple (SqT.of R);obtain⟨_,_,f,_⟩:=I.list (.inl p);exact absurd U (qe3 f.isList F)
   |_=>first|(cases J;done)|(cases l;done)
  |lst ds=>
   obtain⟨a,vs,rfl,h0,R,N⟩:=m;cases e with
   |lst o=>
    obtain⟨b,L,q,_,p,C⟩:=l;cases q;rw[BD I p R]at C;exact lists N C (qas.mp T) (qas.mp J)
   |tup o=>
    obtain⟨b,L,q,p,C⟩:=l;cases q;obtain⟨_,_,F,_⟩:=I.tuple (SqT.of p);obtain⟨_,_,f,_⟩:=I.list (.inl R);exact absurd U (qe3 f.isList F)
   |_=>first|(cases J;done)|(cases l;done)
  |non=>cases e<;>first|rfl|(cases J;done)|(cases m.symm.trans l;done)|(cases m;obtain⟨_,_,q,_⟩:=l;cases q)
  |bl b=>cases e<;>first|(cases J;done)|(cases m.symm.trans l;simp[eqD];done)|(cases m.symm.trans l;done)|(cases m;obtain⟨_,_,q,_⟩:=l;cases q)
  |int b=>cases e<;>first|(cases J;done)|(cases m.symm.trans l;simp[eqD];done)|(cases m.symm.trans l;done)|(cases m;obtain⟨_,_,q,_⟩:=l;cases q)
  |str b=>cases e<;>first|(cases J;done)|(cases m.symm.trans l;simp[eqD];done)|(cases m.symm.trans l;done)|(cases m;obtain⟨_,_,q,_⟩:=l;cases q)
  |ty b=>cases T
  |scr b=>cases T
  |dct=>cases T
theorem iA {ds:List D}{vs:List V}{L:List Value} (r:Rls K H φ ds vs) (rv:bn vs L):∀ (j:Nat) (h:j<L.length),∃ v,Rl K H φ (ds.getD j .non) v/\bI v L[j]/\ds.getD j .non∈ds:=by
 intro j h;obtain⟨h',q⟩:=rv.at j h;have hd:j<ds.length:=by rw[r.length];exact h'
 have e:=qa6 hd;obtain⟨v,ev,rl⟩:=r.get e;rw[qa6 h']at ev;cases ev;refine⟨_,?_,q,?_⟩
 ·rw[qfe,e];exact rl
 ·rw[qfe,e];exact qet hd
theorem CJ (I:Inv X pins σ H s):∀ (n:Nat) {A:qaS}{d e:D}{v u:V}{vv uu:Value},Rl X.K H φ d v->Rl X.K H φ e u->bI v vv->bI u uu->okD n d=true->okD n e=true->A.units+n<cLine->qcV A s vv uu (eqD d e):=by
 have flat:∀ {A:qaS}{d e:D}{v u:V}{vv uu:Value},bZ d=true->bZ e=true->Rl X.K H φ d v->Rl X.K H φ e u->bI v vv->bI u uu->qcV A s vv uu (eqD d e):=by
  intro A d e v u vv uu f1 f2 m l q1 M;obtain⟨Y,g1⟩:=io f1 m;obtain⟨e2,g2⟩:=io f2 l;rw[<-sk f1 f2,<-Y,<-e2];exact yy q1 M g1 g2
 intro n
 induction n with
 |zero=>
  intro A d e v u vv uu m l q1 M T J hu;refine flat ?_ ?_ m l q1 M
  ·cases d<;>first|rfl|cases T
  ·cases e<;>first|rfl|cases J
 |succ n ih=>
  intro A d e v u vv uu m l q1 M T J hu;have c:A.units<cLine:=by lia
  have hu1:A.in1.units+n<cLine:=by show A.units+1+n<cLine;lia
  cases d with
  |tup ds=>
   obtain⟨a,vs,rfl,R,N⟩:=m;cases q1;obtain⟨G,rv,F,_⟩:=I.tuple (SqT.of R);cases e with
   |tup o=>
    obtain⟨b,L,rfl,p,C⟩:=id l;cases M;by_cases hab:a=b
    ·subst hab
     rw[wy I (n+1) (d:=.tup ds) ⟨a,vs,U,R,N⟩ l T J];exact qed _
    ·obtain⟨g,B,f,_⟩:=I.tuple (SqT.of p)
     have z:=qdQ (A:=A) (e:=λj=>eqD (ds.getD j .non) (o.getD j .non)) F f c λj g1 g2=>by
      obtain⟨v1,k1,k2,k3⟩:=iA N rv j (by simpa using g1);obtain⟨v2,k4,k5,k6⟩:=iA C B j (by simpa using g2);exact ih k1 k4 (by simpa using k2) (by simpa using k5) (qas.mp T _ k3) (qas.mp J _ k6) hu1
     have Y:G.toArray.size=ds.length:=by simp[<-rv.length,N.length]
     have e2:g.toArray.size=o.length:=by simp[<-B.length,C.length]
     rw[Y,e2,iE]at z;exact qdG hab z
   |lst o=>
    obtain⟨b,L,rfl,_,p,C⟩:=id l;cases M;obtain⟨g,B,f,_⟩:=I.list (.inl p);exact qiB F f.isList c
   |non=>cases l;cases M;exact qiA F c
   |bl x=>cases l;cases M;exact qiD x F c
   |int x=>cases l;obtain⟨t,rfl⟩:=M;exact qiC x t F c
   |str x=>cases l;obtain⟨t,rfl⟩:=M;exact qiz x t F c
   |ty _=>cases J
   |scr _=>cases J
   |dct=>cases J
  |lst ds=>
   obtain⟨a,vs,rfl,h0,R,N⟩:=m;cases q1;obtain⟨G,rv,F,_⟩:=I.list (.inl R);cases e with
   |lst o=>
    obtain⟨b,L,rfl,_,p,C⟩:=id l;cases M;by_cases hab:a=b
    ·subst hab
     rw[wy I (n+1) (d:=.lst ds) ⟨a,vs,U,h0,R,N⟩ l T J];exact qed _
    ·obtain⟨g,B,f,_⟩:=I.list (.inl p)
     have Y:G.toArray.size=ds.length:=by simp[<-rv.length,N.length]
     have e2:g.toArray.size=o.length:=by simp[<-B.length,C.length]
     by_cases hl:ds.length=o.length
     ·have z:=qe8 (A:=A) (e:=λj=>eqD (ds.getD j .non) (o.getD j .non)) F.isList f.isList (by rw[Y,e2,hl]) c λj g1 g2=>by
       obtain⟨v1,k1,k2,k3⟩:=iA N rv j (by simpa using g1);obtain⟨v2,k4,k5,k6⟩:=iA C B j (by simpa using g2);exact ih k1 k4 (by simpa using k2) (by simpa using k5) (qas.mp T _ k3) (qas.mp J _ k6) hu1
      rw[Y,ln hl]at z;exact qdG hab z
     ·have z:=qen (A:=A) F.isList f.isList (by rw[Y,e2];simpa using hl) c
      show qcV A s _ _ (jb ds o);rw[uj hl];exact qdG hab z
   |tup o=>
    obtain⟨b,L,rfl,p,C⟩:=id l;cases M;obtain⟨g,B,f,_⟩:=I.tuple (SqT.of p);exact qiO F.isList f c
   |non=>cases l;cases M;exact qiQ F.isList c
   |bl x=>cases l;cases M;exact qiS x F.isList c
   |int x=>cases l;obtain⟨t,rfl⟩:=M;exact qiR x t F.isList c
   |str x=>cases l;obtain⟨t,rfl⟩:=M;exact qiP x t F.isList c
   |ty _=>cases J
   |scr _=>cases J
   |dct=>cases J
  |non=>
   cases m;cases q1;cases e with
   |tup o=>obtain⟨b,L,rfl,p,C⟩:=l;cases M;obtain⟨_,_,f,_⟩:=I.tuple (SqT.of p);exact qiJ f c
   |lst o=>obtain⟨b,L,rfl,_,p,C⟩:=l;cases M;obtain⟨_,_,f,_⟩:=I.list (.inl p);exact qiL f.isList c
   |_=>first|(cases J;done)|exact flat U U (d:=.non) U l (v:=.non) U M
  |bl x=>
   cases m;cases q1;cases e with
   |tup o=>obtain⟨b,L,rfl,p,C⟩:=l;cases M;obtain⟨_,_,f,_⟩:=I.tuple (SqT.of p);exact qiX x f c
   |lst o=>obtain⟨b,L,rfl,_,p,C⟩:=l;cases M;obtain⟨_,_,f,_⟩:=I.list (.inl p);exact qi0 x f.isList c
   |_=>first|(cases J;done)|exact flat U U (d:=.bl x) U l (v:=.bl x) U M
  |int x=>
   cases m;obtain⟨t1,rfl⟩:=q1;cases e with
   |tup o=>obtain⟨b,L,rfl,p,C⟩:=l;cases M;obtain⟨_,_,f,_⟩:=I.tuple (SqT.of p);exact qiT x t1 f c
   |lst o=>obtain⟨b,L,rfl,_,p,C⟩:=l;cases M;obtain⟨_,_,f,_⟩:=I.list (.inl p);exact qiV x t1 f.isList c
   |_=>first|(cases J;done)|exact flat U U (d:=.int x) U l (v:=.int x) ⟨t1,U⟩ M
  |str x=>
   cases m;obtain⟨t1,rfl⟩:=q1;cases e with
   |tup o=>obtain⟨b,L,rfl,p,C⟩:=l;cases M;obtain⟨_,_,f,_⟩:=I.tuple (SqT.of p);exact qiE x t1 f c
   |lst o=>obtain⟨b,L,rfl,_,p,C⟩:=l;cases M;obtain⟨_,_,f,_⟩:=I.list (.inl p);exact qiH x t1 f.isList c
   |_=>first|(cases J;done)|exact flat U U (d:=.str x) U l (v:=.str x) ⟨t1,U⟩ M
  |ty _=>cases T
  |scr _=>cases T
  |dct=>cases T
theorem D3 {A:qaS}{y x:V}{u v:Value} (ry:bI y u) (E:bI x v) (fy:h9 y=true) (fx:h9 x=true):qhv A s u v (eqV y x):=by
 cases y with
 |non=>
  cases ry;cases x with
  |non=>cases E;exact qid
  |bl b=>cases E;exact qig b
  |int b=>obtain⟨t,rfl⟩:=E;exact qif b t
  |str b=>obtain⟨t,rfl⟩:=E;exact qic b t
  |_=>cases fx
 |bl a=>
  cases ry;cases x with
  |non=>cases E;exact qiv a
  |bl b=>cases E;exact qiy a b
  |int b=>obtain⟨t,rfl⟩:=E;exact qix a b t
  |str b=>obtain⟨t,rfl⟩:=E;exact qiu a b t
  |_=>cases fx
 |int a=>
  obtain⟨t',rfl⟩:=ry;cases x with
  |non=>cases E;exact qip a t'
  |bl b=>cases E;exact qis a t' b
  |int b=>obtain⟨t,rfl⟩:=E;exact qir a t' b t
  |str b=>obtain⟨t,rfl⟩:=E;exact qio a t' b t
  |_=>cases fx
 |str a=>
  obtain⟨t',rfl⟩:=ry;cases x with
  |non=>cases E;exact qh7 a t'
  |bl b=>cases E;exact qia a t' b
  |int b=>obtain⟨t,rfl⟩:=E;exact qh9 a t' b t
  |str b=>obtain⟨t,rfl⟩:=E;exact qh6 a t' b t
  |_=>cases fx
 |_=>cases fy
theorem zO {A:qaS}{y x:V}{u v:Value} (ry:bI y u) (E:bI x v) (fy:h9 y=true) (fx:h9 x=true):qgs A s u v (!eqV y x):=by
 cases y with
 |non=>
  cases ry;cases x with
  |non=>cases E;exact qg8
  |bl b=>cases E;exact qhb b
  |int b=>obtain⟨t,rfl⟩:=E;exact qha b t
  |str b=>obtain⟨t,rfl⟩:=E;exact qg7 b t
  |_=>cases fx
 |bl a=>
  cases ry;cases x with
  |non=>cases E;exact qhr a
  |bl b=>cases E;exact qhu a b
  |int b=>obtain⟨t,rfl⟩:=E;exact qht a b t
  |str b=>obtain⟨t,rfl⟩:=E;exact qhq a b t
  |_=>cases fx
 |int a=>
  obtain⟨t',rfl⟩:=ry;cases x with
  |non=>cases E;exact qhl a t'
  |bl b=>cases E;exact qho a t' b
  |int b=>obtain⟨t,rfl⟩:=E;exact qhn a t' b t
  |str b=>obtain⟨t,rfl⟩:=E;exact qhk a t' b t
  |_=>cases fx
 |str a=>
  obtain⟨t',rfl⟩:=ry;cases x with
  |non=>cases E;exact qg2 a t'
  |bl b=>cases E;exact qg5 a t' b
  |int b=>obtain⟨t,rfl⟩:=E;exact qg4 a t' b t
  |str b=>obtain⟨t,rfl⟩:=E;exact qg1 a t' b t
  |_=>cases fx
 |_=>cases fy
inductive Kin where
 |fl (d:D)|tp (ds:List D)|ls (ds:List D)
def gu (st:Sto):W->Option Kin
 |.d (.tup ds)=>some (.tp ds)
 |.d (.lst ds)=>some (.ls ds)
 |.h n=>(lg st n).map .ls
 |.d .non=>some (.fl .non)
 |.d (.bl b)=>some (.fl (.bl b))
 |.d (.int i)=>some (.fl (.int i))
 |.d (.str x)=>some (.fl (.str x))
 |_=>none
def eqK:Kin->Kin->Option Bool
 |.fl a,.fl b=>some (eqD a b)
 |.tp as,.tp bs=>if (as.isEmpty||bs.isEmpty)=true then some (as.isEmpty&&bs.isEmpty) else if as.all (okD 60)=true/\bs.all (okD 60)=true then some (jb as bs) else none
 |.ls as,.ls bs=>if as.length=bs.length then (if as.all (okD 60)=true/\bs.all (okD 60)=true then some (jb as bs) else none) else some false
 |.fl _,.tp _=>some false
 |.tp _,.fl _=>some false
 |.fl _,.ls _=>some false
 |.ls _,.fl _=>some false
 |.tp _,.ls _=>some false
 |.ls _,.tp _=>some false
def dEq (st:Sto) (x y:W):Option D:=(gu st x).bind λa=>(gu st y).bind λb=>(eqK a b).map λk=>.bl k
def dNe (st:Sto) (x y:W):Option D:=(gu st x).bind λa=>(gu st y).bind λb=>(eqK a b).map λk=>.bl (!k)
def Ct (K:qad) (H:Hp) (φ:List Addr):Kin->V->Prop
 |.fl d,v=>bZ d=true/\Rl K H φ d v
 |.tp ds,v=>∃ a vs,v=.ref a/\SqT K H a vs/\Rls K H φ ds vs
 |.ls ds,v=>∃ a vs,v=.ref a/\Rd H a (.lst vs)/\Rls K H φ ds vs
theorem oh {w:W}{v:V}{k:Kin} (S:Sr K H φ st) (r:Rw K H φ w v) (e:gu st w=some k):Ct K H φ k v:=by
 cases w with
 |h n=>
  obtain⟨a,ea,rfl⟩:=r;obtain⟨ds,Y,rfl⟩:=qac.mp e;obtain⟨vs,q,rl⟩:=S.atl n a ds ea Y;exact⟨a,vs,U,.inl q,rl⟩
 |d x=>
  cases x with
  |tup o=>cases e;obtain⟨a,vs,rfl,R,N⟩:=r;exact⟨a,vs,U,SqT.of R,N⟩
  |lst o=>cases e;obtain⟨a,vs,rfl,h0,R,N⟩:=r;exact⟨a,vs,U,R,N⟩
  |non=>cases e;exact⟨U,r⟩
  |bl b=>cases e;exact⟨U,r⟩
  |int b=>cases e;exact⟨U,r⟩
  |str b=>cases e;exact⟨U,r⟩
  |_=>cases e
theorem C1 {A:qaS}{k:Nat} (hr:ez k A):A.in1.units+60<cLine:=by
 have:=hr.un
 lia
theorem zM {k:Nat} (hr:ez k X.A) (I:Inv X pins σ H s) {a b:Kin}{v u:V}{vv uu:Value}{r:Bool} (ra:Ct X.K H φ a v) (rb:Ct X.K H φ b u) (qa:bI v vv) (qb:bI u uu) (e:eqK a b=some r) :
  qhv X.A s vv uu r/\qgs X.A s vv uu (!r):=by
 have c:=hr.units0;have items:∀ {ds o:List D}{vs L:List V}{G g:List Value},Rls X.K H φ ds vs->Rls X.K H φ o L->bn vs G->bn L g->ds.all (okD 60)=true->o.all (okD 60)=true->
   ∀ j (g1:j<G.toArray.size) (g2:j<g.toArray.size),qcV X.A.in1 s G.toArray[j] g.toArray[j] (eqD (ds.getD j .non) (o.getD j .non)):=by
  intro ds o vs L G g N C rv B T J j g1 g2;obtain⟨v1,k1,k2,k3⟩:=iA N rv j (by simpa using g1);obtain⟨v2,k4,k5,k6⟩:=iA C B j (by simpa using g2);exact CJ I 60 k1 k4 (by simpa using k2) (by simpa using k5) (qas.mp T _ k3) (qas.mp J _ k6) (C1 hr)
 match a,b,e with
 |.fl d,.fl d',e=>
  cases e;obtain⟨f1,m⟩:=ra;obtain⟨f2,l⟩:=rb;obtain⟨Y,g1⟩:=io f1 m;obtain⟨e2,g2⟩:=io f2 l;rw[<-sk f1 f2,<-Y,<-e2];exact⟨D3 qa qb g1 g2,zO qa qb g1 g2⟩
 |.tp ds,.tp o,e=>
  simp only[eqK]at e;obtain⟨a,vs,rfl,R,N⟩:=ra;obtain⟨b,L,rfl,p,C⟩:=rb;cases qa;cases qb;obtain⟨G,rv,F,_⟩:=I.tuple R;obtain⟨g,B,f,_⟩:=I.tuple p;have Y:G.toArray.size=ds.length:=by simp[<-rv.length,N.length]
  have e2:g.toArray.size=o.length:=by simp[<-B.length,C.length]
  split at e
  ·rename_i hc
   cases e;have hv:∀ j (g1:j<G.toArray.size) (g2:j<g.toArray.size),qcV X.A.in1 s G.toArray[j] g.toArray[j] (eqD (ds.getD j .non) (o.getD j .non)):=λj g1 g2=>by
    rw[Y]at g1;rw[e2]at g2;rw[qeE]at hc;rcases hc with hc|hc
    ·rw[qf5.mp hc]at g1;exact absurd g1 (qeL _)
    ·rw[qf5.mp hc]at g2;exact absurd g2 (qeL _)
   have z:=qdQ (A:=X.A) F f c hv;have z':=qez (A:=X.A) F f c hv;rw[Y,e2,iE]at z z';have e3:jb ds o=(ds.isEmpty&&o.isEmpty):=by
    cases ds with
    |nil=>cases o<;>rfl
    |cons _ _=>cases o with
     |nil=>rfl
     |cons _ _=>cases hc
   rw[e3]at z z';exact⟨z,z'⟩
  ·split at e
   ·rename_i hc
    cases e;have z:=qdQ (A:=X.A) F f c (items N C rv B hc.1 hc.2);have z':=qez (A:=X.A) F f c (items N C rv B hc.1 hc.2);rw[Y,e2,iE]at z z';exact⟨z,z'⟩
   ·cases e
 |.ls ds,.ls o,e=>
  simp only[eqK]at e;obtain⟨a,vs,rfl,R,N⟩:=ra;obtain⟨b,L,rfl,p,C⟩:=rb;cases qa;cases qb;obtain⟨G,rv,F,_⟩:=I.list (.inl R);obtain⟨g,B,f,_⟩:=I.list (.inl p);have Y:G.toArray.size=ds.length:=by simp[<-rv.length,N.length]
  have e2:g.toArray.size=o.length:=by simp[<-B.length,C.length]
  split at e
  ·rename_i hl
   split at e
   ·rename_i hc
    cases e;have z:=qe8 (A:=X.A) F.isList f.isList (by rw[Y,e2,hl]) c (items N C rv B hc.1 hc.2);have z':=qhd (A:=X.A) F.isList f.isList (by rw[Y,e2,hl]) c (items N C rv B hc.1 hc.2);rw[Y,ln hl]at z z';exact⟨z,z'⟩
   ·cases e
  ·rename_i hl
   cases e;have z':=qhc (A:=X.A) F.isList f.isList (by rw[Y,e2];simpa using hl) c;exact⟨(qen (A:=X.A) F.isList f.isList (by rw[Y,e2];simpa using hl) c),z'⟩
 |.fl d,.tp o,e=>
  cases e;obtain⟨f1,m⟩:=ra;obtain⟨b,L,rfl,p,C⟩:=rb;cases qb;obtain⟨g,B,f,_⟩:=I.tuple p;cases d with
  |non=>cases m;cases qa;exact⟨qib f c,qg6 f c⟩
  |bl x=>cases m;cases qa;exact⟨qit x f c,qhp x f c⟩
  |int x=>cases m;obtain⟨t,rfl⟩:=qa;exact⟨qim x t f c,qhj x t f c⟩
  |str x=>cases m;obtain⟨t,rfl⟩:=qa;exact⟨qh5 x t f c,qg0 x t f c⟩
  |_=>cases f1
 |.tp o,.fl d,e=>
  cases e;obtain⟨f1,m⟩:=rb;obtain⟨b,L,rfl,p,C⟩:=ra;cases qa;obtain⟨g,B,f,_⟩:=I.tuple p;cases d with
  |non=>cases m;cases qb;exact⟨qh1 f c,qgW f c⟩
  |bl x=>cases m;cases qb;exact⟨qh4 x f c,qgZ x f c⟩
  |int x=>cases m;obtain⟨t,rfl⟩:=qb;exact⟨qh3 x t f c,qgY x t f c⟩
  |str x=>cases m;obtain⟨t,rfl⟩:=qb;exact⟨qh0 x t f c,qgV x t f c⟩
  |_=>cases f1
 |.fl d,.ls o,e=>
  cases e;obtain⟨f1,m⟩:=ra;obtain⟨b,L,rfl,p,C⟩:=rb;cases qb;obtain⟨g,B,f,_⟩:=I.list (.inl p);replace f:=f.isList;cases d with
  |non=>cases m;cases qa;exact⟨qie f c,qg9 f c⟩
  |bl x=>cases m;cases qa;exact⟨qiw x f c,qhs x f c⟩
  |int x=>cases m;obtain⟨t,rfl⟩:=qa;exact⟨qiq x t f c,qhm x t f c⟩
  |str x=>cases m;obtain⟨t,rfl⟩:=qa;exact⟨qh8 x t f c,qg3 x t f c⟩
  |_=>cases f1
 |.ls o,.fl d,e=>
  cases e;obtain⟨f1,m⟩:=rb;obtain⟨b,L,rfl,p,C⟩:=ra;cases qa;obtain⟨g,B,f,_⟩:=I.list (.inl p);replace f:=f.isList;cases d with
  |non=>cases m;cases qb;exact⟨qij f c,qhg f c⟩
  |bl x=>cases m;cases qb;exact⟨qil x f c,qhi x f c⟩
  |int x=>cases m;obtain⟨t,rfl⟩:=qb;exact⟨qik x t f c,qhh x t f c⟩
  |str x=>cases m;obtain⟨t,rfl⟩:=qb;exact⟨qii x t f c,qhf x t f c⟩
  |_=>cases f1
 |.tp ds,.ls o,e=>
  cases e;obtain⟨a,vs,rfl,R,N⟩:=ra;obtain⟨b,L,rfl,p,C⟩:=rb;cases qa;cases qb;obtain⟨G,rv,F,_⟩:=I.tuple R;obtain⟨g,B,f,_⟩:=I.list (.inl p);exact⟨qh2 F f.isList c,qgX F f.isList c⟩
 |.ls ds,.tp o,e=>
  cases e;obtain⟨a,vs,rfl,R,N⟩:=ra;obtain⟨b,L,rfl,p,C⟩:=rb;cases qa;cases qb;obtain⟨G,rv,F,_⟩:=I.list (.inl R);obtain⟨g,B,f,_⟩:=I.tuple p;exact⟨qih F.isList f c,qhe F.isList f c⟩
theorem dj {k:Nat} (hr:ez k X.A) (hK:X.K=K:=by rfl):OpD K X (qa2 .Eq) dEq:=by
 subst hK;refine⟨λst x y d h=>?_⟩;simp only[dEq,qab,qac]at h;obtain⟨a,ha,b,hb,r,e,rfl⟩:=h;intro pins s σ H vx vy v u Q I E ry q;obtain⟨φ,S,m,l,q⟩:=q;exact (zM hr I (oh S m ha) (oh S l hb) E ry e).1 _ _ _ _ ⟨.bl r,H,I,U,q _ H (bU.refl H) U⟩
theorem fg {k:Nat} (hr:ez k X.A) (hK:X.K=K:=by rfl):OpD K X (qa2 .NotEq) dNe:=by
 subst hK;refine⟨λst x y d h=>?_⟩;simp only[dNe,qab,qac]at h;obtain⟨a,ha,b,hb,r,e,rfl⟩:=h;intro pins s σ H vx vy v u Q I E ry q;obtain⟨φ,S,m,l,q⟩:=q;exact (zM hr I (oh S m ha) (oh S l hb) E ry e).2 _ _ _ _ ⟨.bl _,H,I,U,q _ H (bU.refl H) U⟩
end
section
variable {K:qad}{X:Cx}
def ko:List D->Option (List Int)
 |[]=>some []
 |.int i::ds=>(ko ds).map λr=>i::r
 |_=>none
theorem kq:∀ {ds:List D}{ns:List Int},ko ds=some ns->ds=ns.map D.int
 |[],_,h=>by cases h;rfl
 |.int i::ds,_,h=>by
  obtain⟨r,e,rfl⟩:=qac.mp h;rw[kq e];rfl
 |.non::_,_,h=>by cases h
 |.bl _::_,_,h=>by cases h
 |.str _::_,_,h=>by cases h
 |.ty _::_,_,h=>by cases h
 |.dct::_,_,h=>by cases h
 |.scr _::_,_,h=>by cases h
 |.tup _::_,_,h=>by cases h
 |.lst _::_,_,h=>by cases h
theorem lF:∀ (ns:List Int),ko (ns.map D.int)=some ns
 |[]=>rfl
 |n::ns=>by rw[qal,ko,lF ns];rfl
def jv:List D->Option (List Bool)
 |[]=>some []
 |.bl i::ds=>(jv ds).map λr=>i::r
 |_=>none
theorem nr:∀ {ds:List D}{ns:List Bool},jv ds=some ns->ds=ns.map D.bl
 |[],_,h=>by cases h;rfl
 |.bl i::ds,_,h=>by
  obtain⟨r,e,rfl⟩:=qac.mp h;rw[nr e];rfl
 |.non::_,_,h=>by cases h
 |.int _::_,_,h=>by cases h
 |.str _::_,_,h=>by cases h
 |.ty _::_,_,h=>by cases h
 |.dct::_,_,h=>by cases h
 |.scr _::_,_,h=>by cases h
 |.tup _::_,_,h=>by cases h
 |.lst _::_,_,h=>by cases h
theorem oR:∀ (ns:List Bool),jv (ns.map D.bl)=some ns
 |[]=>rfl
 |n::ns=>by rw[qal,jv,oR ns];rfl
def bN (st:Sto):List W->Option D
 |[.d (.str x)]=>if x.length<=1000000 then some (.int x.length) else none
 |[w]=>(e8 st w).map λds=>.int ds.length
 |_=>none
def oV (_:Sto):List W->Option D
 |[.d (.int i)]=>some (.int (if i<0 then -i else i))
 |_=>none
def CH (_:Sto):List W->Option D
 |[.d (.int i),.d (.int j)]=>some (.int (if j<i then j else i))
 |_=>none
def AB (_:Sto):List W->Option D
 |[.d (.int i)]=>some (.int i)
 |[.d (.bl k)]=>some (.int (if k then 1 else 0))
 |_=>none
def qx (_:Sto):List W->Option D
 |[.d (.lst ds)]=>(jv ds).map λns=>.bl (ns.all id)
 |_=>none
def jZ (st:Sto):List W->Option D
 |[w]=>(e8 st w).map λds=>.tup ds
 |_=>none
def ji (st:Sto):W->Option String
 |.d .non=>some "NoneType"
 |.d (.bl _)=>some "bool"
 |.d (.int _)=>some "int"
 |.d (.str _)=>some "str"
 |.d (.tup _)=>some "tuple"
 |.d (.lst _)=>some "list"
 |.d .dct=>some "dict"
 |.h n=>(lg st n).map λ_=>"list"
 |_=>none
def vp (t c:String):Option Bool:=
 if c = "int" then some (t=="int" || t=="bool")
 else if c = "bool"\/c = "str"\/c = "tuple"\/c = "list" then some (t==c)
 else none
def cC (st:Sto):List W->Option D
 |[w,.d (.ty c)]=>(ji st w).bind λt=>(vp t c).map λb=>.bl b
 |_=>none
theorem df (R:X.K=K:=by rfl):j6 K X (.builtin "len") bN:=by
 subst R;refine⟨λst ws d h=>?_⟩;have seq:∀ w,(e8 st w).map (λds=>D.int ds.length)=some d->gK X _ (rCD X.K st [w] d):=λw h=>by
  obtain⟨ds,e,rfl⟩:=qac.mp h;refine rQ.imp ?_
  rintro vs H Q ⟨φ,S,⟨v,r,rfl,m,rfl⟩,q⟩
  obtain⟨a,M,rfl,A,T⟩:=mE S m e;exact⟨a,M,U,A,q _ H (bU.refl H) (by rw[<-T.length];rfl)⟩
 cases ws with
 |nil=>cases h
 |cons w tl=>
  cases tl with
  |cons _ _=>
   cases w with
   |h n=>cases h
   |d x=>cases x<;>cases h
  |nil=>
   cases w with
   |h n=>exact seq _ h
   |d x=>
    cases x with
    |str x=>
     simp only[bN]at h;split at h
     ·rename_i hl
      cases h;refine rR.imp ?_
      rintro vs H Q ⟨φ,S,⟨v,r,rfl,m,rfl⟩,q⟩
      exact⟨x,by rw[m],qaU hl mil,q _ H (bU.refl H) U⟩
     ·cases h
    |tup ds=>exact seq _ h
    |lst ds=>exact seq _ h
    |scr ds=>exact seq _ h
    |_=>cases h
theorem rT:j6 K X (.builtin "abs") oV:=by
 refine⟨λst ws d h=>?_⟩
 match ws,h with
 |[.d (.int i)],h=>
  cases h;refine yu.imp ?_
  rintro vs H Q ⟨φ,S,⟨v,r,rfl,m,rfl⟩,q⟩
  exact⟨i,by rw[m],q _ H (bU.refl H) U⟩
theorem CF (hc:X.calm=true:=by rfl):j6 K X (.builtin "min") CH:=by
 refine⟨λst ws d h=>?_⟩
 match ws,h with
 |[.d (.int i),.d (.int j)],h=>
  cases h;refine (xz hc).imp ?_
  rintro vs H Q ⟨φ,S,⟨v,r,rfl,m,u,r',rfl,r2,rfl⟩,q⟩
  exact⟨i,j,by rw[m,r2],q _ H (bU.refl H) U⟩
theorem CD:j6 K X (.type "int") AB:=by
 refine⟨λst ws d h=>?_⟩
 match ws,h with
 |[.d (.int i)],h=>
  cases h;refine qP.imp ?_
  rintro vs H Q ⟨φ,S,⟨v,r,rfl,m,rfl⟩,q⟩
  exact .inl ⟨i,by rw[m],q _ H (bU.refl H) U⟩
 |[.d (.bl i)],h=>
  cases h;refine qP.imp ?_
  rintro vs H Q ⟨φ,S,⟨v,r,rfl,m,rfl⟩,q⟩
  exact .inr ⟨i,by rw[m],q _ H (bU.refl H) U⟩
theorem oU (hc:X.calm=true:=by rfl) (R:X.K=K:=by rfl):j6 K X (.builtin "all") qx:=by
 refine⟨λst ws d h=>?_⟩
 match ws,h with
 |[.d (.lst ds)],h=>
  obtain⟨ns,e,rfl⟩:=qac.mp h;cases nr e;refine (ES hc U).imp ?_
  rintro vs H Q ⟨φ,S,⟨v,r,rfl,⟨a,M,rfl,h0,A,T⟩,rfl⟩,q⟩
  cases T.bools;exact⟨a,ns,U,.inl A,q _ H (bU.refl H) U⟩
theorem lB (R:X.K=K:=by rfl):j6 K X (.type "tuple") jZ:=by
 subst R;refine⟨λst ws d h=>?_⟩
 match ws,h with
 |[w],h=>
  obtain⟨ds,e,rfl⟩:=qac.mp h;refine qv.imp ?_
  rintro vs H Q ⟨φ,S,⟨v,r,rfl,m,rfl⟩,q⟩
  obtain⟨a,M,rfl,A,T⟩:=u0 S m e;refine⟨a,M,U,?_⟩;rcases A with A|A
  ·exact .inl ⟨A,λl hl=>q _ _ (bU.new hl _) ⟨l,M,U,bH,T.fw S (Fw.new hl)⟩⟩
  ·exact .inr ⟨SqT.of A,q _ H (bU.refl H) ⟨a,M,U,A,T⟩⟩
theorem je {t c:String}{b:Bool} (L:t = "NoneType"\/t = "bool"\/t = "int"\/t = "str"\/t = "tuple"\/t = "list"\/t = "dict") (h:vp t c=some b):qfL K (.type t) (.type c)=some b:=by
 unfold vp at h;split at h
 ·rename_i hc
  subst hc;rcases L with rfl|rfl|rfl|rfl|rfl|rfl|rfl<;>(cases h;rfl)
 ·split at h
  ·rename_i _ hc
   rcases hc with rfl|rfl|rfl|rfl<;>rcases L with rfl|rfl|rfl|rfl|rfl|rfl|rfl<;>(cases h;rfl)
  ·cases h
theorem dr (R:X.K=K:=by rfl):j6 K X (.builtin "isinstance") cC:=by
 subst R;refine⟨λst ws d h=>?_⟩
 match ws,h with
 |[w,.d (.ty c)],h=>
  simp only[cC,qab,qac]at h;obtain⟨t,L,b,P,rfl⟩:=h;intro pins s σ H xs M Q I rv q;obtain⟨φ,S,⟨v,r,rfl,m,u,r',rfl,r2,rfl⟩,q⟩:=q;cases (show u=.ty c from r2);obtain⟨vv,uu,rfl,B,rv2⟩:=rv.two;cases rv2;have fin:∀ tk,EP X pins σ Q (.bool b) { s with toks:=tk }:=λtk=>⟨.bl b,H,I.tok tk,U,q _ H (bU.refl H) U⟩;cases w with
  |h n=>
   obtain⟨a,ea,rfl⟩:=m;obtain⟨ds,eds,rfl⟩:=qac.mp L;obtain⟨vs,hv,_⟩:=S.atl n a ds ea eds;exact eU I B (.lst hv) (je (by simp) P) fin
  |d x=>
   cases x with
   |non=>cases L;cases m;exact eU I B .non (je (by simp) P) fin
   |bl x=>cases L;cases m;exact eU I B (.bl x) (je (by simp) P) fin
   |int x=>cases L;cases m;exact eU I B (.int x) (je (by simp) P) fin
   |str x=>cases L;cases m;exact eU I B (.str x) (je (by simp) P) fin
   |lst ds=>
    cases L;obtain⟨a,vs,rfl,h0,A,T⟩:=m;rcases A with A|⟨o,A⟩
    ·exact eU I B (.lst A) (je (by simp) P) fin
    ·exact eU I B (.frz A) (je (by simp) P) fin
   |tup ds=>
    cases L;obtain⟨a,vs,rfl,A,T⟩:=m;cases B;obtain⟨its,_,p,_⟩:=I.tuple (SqT.of A);obtain⟨o,e1,e2,_⟩:=p;exact qbx qfd I.kIn ⟨o,e1,e2⟩ (je (by simp) P) (λz=>nomatch z) fin
   |dct=>
    cases L;obtain⟨a,rfl,_,A⟩:=m;rcases A with⟨d,A⟩|⟨d,A⟩
    ·exact eU I B (.dK A) (je (by simp) P) fin
    ·exact eU I B (.dT A) (je (by simp) P) fin
   |ty x=>cases L
   |scr x=>cases L
variable {e a b:Expr}{es:List Expr}{pos:Pos}{f fa fb:Ef}{af:Af}
theorem fK {x:Str}{c:String} (hg:Gl X x) (hm:X.mg x=none) (hv:qb6 x=some (.type c)) (hn:x≠"__name__":=by decide) (hd:(x==("__debug__" : Str))=false:=by decide):IE K X (.Name x pos) (iC (.ty c)):=
 xH (v:=.ty c) (Bp hg hm hv U hn hd) λ_ _=>rfl
theorem cG {x:Str}{d:D}{v:V}{u:Value} (hg:Gl X x) (hm:X.mg x=some u) (r:bI v u) (h:∀ H φ,Rl K H φ d v) (hd:(x==("__debug__" : Str))=false:=by decide):IE K X (.Name x pos) (iC d):=
 xH (iU hg hm r hd) h
def ki (g:List D->List W->Option (D×List D)) (o:Ef) (a:Af):Ef
 |env,st=>(o env st).bind λx=>(a env x.2).bind λr=>match x.1 with
 |.h n=>(lg x.2 n).bind λ_=>(lg r.2 n).bind λds=>(g ds r.1).map λy=>(.d y.1,r.2.set n (.l y.2))
 |_=>none
def fS (ds:List D):List W->Option (D×List D)
 |[.d x]=>if ds.length<1000000 then some (.non,ds++[x]) else none
 |_=>none
theorem C0 {N:Str}{id:String}{E:Pos}{rr:V->List V->Hp->VK->Prop}{g:List D->List W->Option (D×List D)} (slot:Slot "list" N id) (hty:typeOf (.builtin id)=pure (.type "method_descriptor")) (hm:MtR X id rr)
  (hg:∀ (H:Hp) (φ:List Addr) (st:Sto) (n:Nat) (ad:Addr) (ds:List D) (vs:List V) (ws:List W) (M:List V) (y:D×List D) (Q:VK),Sr K H φ st->φ[n]?=some ad->lg st n=some ds->H ad=some (.lst vs)->Rls K H φ ds vs->Rws K H φ ws M->g ds ws=some y->
    (∀ v vs',Rl K H φ y.1 v->Rls K H φ y.2 vs'->(∀ b,v≠.ref b)->Q v (upd H ad (.lst vs')))->rr (.ref ad) M H Q)
  (hfl:∀ ds ws y,g ds ws=some y->bZ y.1=true)
  (ho:IE K X a fa) (ha:IA K X (e::es) af) (F:qcQ a N X.env (eval a X.env)=eval a X.env:=by rfl)
  (C:(e::es).all aN=true:=by rfl) (J:(e::es).length<30:=by decide) (G:(E.endLine==pos.line)=true:=by rfl) (R:X.K=K:=by rfl) :
  IE K X (.Call (.Attribute a N E) (e::es) [] pos) (ki g fa af):=by
 have O:=by rw[qaQ,qao]at C;exact C
 refine⟨λenv st r hr=>?_⟩;simp only[ki,qab]at hr;obtain⟨⟨x,s1⟩,hx,⟨ws,s2⟩,hw,hr⟩:=hr;cases x with
 |d x=>cases hr
 |h n=>
  simp only[qab,qac]at hr;obtain⟨ds1,hds1,ds,hds,y,Y,rfl⟩:=hr;refine (uL PySem.F.plainAttrs_list slot hty hm (ho.run _ _ _ hx) (ha.run _ _ _ hw) F (kG C J) G (bB O.1) (cu O.2)).imp ?_
  rintro σ H Q ⟨φ,hE,hS,q⟩
  refine⟨φ,hE,hS,λv H1 φ1 f1 S1 w1=>?_⟩;obtain⟨ad,ea,rfl⟩:=w1;obtain⟨vs1,hv1,_⟩:=S1.atl n ad _ ea hds1;refine⟨.inl ⟨U,vs1,SqL.of hv1⟩,φ1,hE.fw hS f1,S1,λM H2 φ2 f2 S2 w2=>?_⟩;have ea2:=f2.get ea;obtain⟨vs2,hv2,rl2⟩:=S2.atl n ad ds ea2 hds;refine hg H2 φ2 s2 n ad ds vs2 ws M y _ S2 ea2 hds hv2 rl2 w2 Y λv vs' m r2 P=>?_;obtain⟨f3,S3⟩:=S2.put ea2 r2;exact q v _ φ2 ((f1.trans f2).trans f3) S3 (m.fw S2 f3)
theorem iz {E:Pos} (ho:IE K X a fa) (ha:IA K X (e::es) af) (F:qcQ a "append" X.env (eval a X.env)=eval a X.env:=by rfl)
  (C:(e::es).all aN=true:=by rfl) (J:(e::es).length<30:=by decide) (G:(E.endLine==pos.line)=true:=by rfl) (R:X.K=K:=by rfl) :
  IE K X (.Call (.Attribute a "append" E) (e::es) [] pos) (ki fS fa af):=by
 refine C0 PySem.F.slot_list_append PySem.F.type_list_append xQ (λH φ st n ad ds vs ws M y Q S ea eds hv rl rw Y q=>?_) (λds ws y h=>?_) ho ha F C J G R
 ·match ws,Y with
  |[.d x],Y=>
   simp only[fS]at Y;split at Y
   ·rename_i hl
    cases Y;obtain⟨v,r,rfl,m,rfl⟩:=rw;exact⟨ad,vs,v,U,U,hv,by rw[<-rl.length];exact qaD hl mil,q _ _ U (rl.append ⟨v,_,U,m,U⟩) (λb z=>nomatch z)⟩
   ·cases Y
 ·match ws,h with
  |[.d x],h=>
   simp only[fS]at h;split at h
   ·cases h;rfl
   ·cases h
end
section
variable {K:qad}{X:Cx}{e a b:Expr}{es:List Expr}{pos:Pos}{f E F:Ef}{af:Af}
def rL (K:qad) (st:Sto) (x y:W) (ds:List D):R2:=λI J H Q=>∃ φ,Sr K H φ st/\Rw K H φ x I/\Rw K H φ y J/\∀ p c,H p=none->Rls K H φ ds c->Q (.ref p) (upd H p (.lst c))
structure OpL (K:qad) (X:Cx) (f:Value->Value->Sem Value) (g:Sto->W->W->Option (List D)):Prop where
 run:∀ st x y d,g st x y=some d->OpR X f (rL K st x y d)
def yM (g:Sto->W->W->Option (List D)) (a b:Ef):Lf
 |env,st=>(a env st).bind λx=>(b env x.2).bind λy=>(g y.2 x.1 y.1).map λd=>(d,y.2)
theorem EL {op:Operator}{g:Sto->W->W->Option (List D)} (ho:OpL K X (qbF op) g) (B:IE K X a E) (C:IE K X b F):IL K X (.BinOp a op b pos) (yM g E F):=by
 refine⟨λenv st r L=>?_⟩;simp only[yM,qab,qac]at L;obtain⟨x,R,y,hy,d,hd,rfl⟩:=L;refine (Cc (ho.run _ _ _ _ hd) (B.run _ _ _ R) (C.run _ _ _ hy)).imp ?_
 rintro σ H Q ⟨φ,M,l,q⟩
 exact⟨φ,M,l,λv H1 s f1 N w1=>⟨s,M.fw l f1,N,λu H2 i f2 s2 w2=>⟨i,s2,w1.fw N f2,w2,λp c w r=>q p c H2 i (f1.trans f2) s2 w r⟩⟩⟩
def yX (st:Sto) (x y:W):Option (List D):=(lsD st x).bind λa=>(lsD st y).bind λb=>if a.length+b.length<=1000000 then some (a++b) else none
theorem Dp:OpL K X (qbF .Add) yX:=by
 refine⟨λst x y d h=>?_⟩;simp only[yX,qab]at h;obtain⟨as,B,bs,C,h⟩:=h;split at h
 ·rename_i hl
  cases h;refine wR.imp ?_
  rintro I J H Q ⟨φ,S,T,P,q⟩
  obtain⟨a,c,rfl,A,k⟩:=mV S T B;obtain⟨b,vs,rfl,O,G⟩:=mV S P C;exact⟨a,b,c,vs,U,U,A,O,by rw[<-k.length,<-G.length];exact qaU hl mil,λp w=>q p _ w (k.append G)⟩
 ·cases h
def oa (ds:List D) (o:Obj):Bool:=(o.cls==.type "tuple" && o.dict.isNone) && (ds.all bZ && match o.data with
 |.seq j _=>decide (j.size<=1000)&&j.toList.map ym==(ds.map vOf).map some
 |_=>false)
theorem yn {v:Value}{x:V} (h:ym v=some x):bI x v:=by
 cases v<;>first|(cases h;exact U)|(cases h;exact⟨_,U⟩)|cases h
theorem u6:∀ {t:List V}{c:List Value},c.map ym=t.map some->bn t c
 |[],[],_=>.nil
 |[],_::_,h=>nomatch h
 |_::_,[],h=>nomatch h
 |n::ns,u::c,h=>by
  injection h with A k;exact .cons (yn A) (u6 k)
theorem kF {H:Hp}{φ:List Addr}:∀ {ds:List D},ds.all bZ=true->Rls K H φ ds (ds.map vOf)
 |[],_=>rfl
 |d::ds,h=>by
  rw[qaQ,qao]at h;refine⟨_,_,U,?_,kF h.2⟩;cases d<;>first|exact U|cases h.1
theorem BJ {H:Hp}{ad:Addr}{ns:List Int}{m:Fn} (hO:As H) (l:SqL K H ad (ns.map V.int)) (h:∃ st,m [.d (.scr ns)] []=some (.d (.bl true),st)):spI K m [.ref ad] H (λv _=>v=.bl true) λ_ _ _=>False:=by
 obtain⟨st,h⟩:=h;refine⟨_,_,_,_,h,⟨_,_,U,⟨ad,U,?_⟩,U⟩,⟨List.nodup_nil,U,λn a ds e=>by simp at e⟩,λv H' Y _ _ r=>r⟩;rcases l with (h|h)|h
 ·rcases hO ad with z|⟨o,t,z⟩
  ·rw[h]at z;cases z
  ·rw[h]at z;cases z
 ·exact .inl h
 ·exact .inr h
end
end L2
namespace L2
open PySem
theorem o7 {g:Tg}{body:Sf}:∀ {ds:List D} (Pv:Nat->Ev->Sto->Prop) {env:Ev}{st:Sto},Pv 0 env st->
  (∀ i d env st,ds[i]?=some d->Pv i env st->∃ e b s2,dC g (.d d) env=some e/\(body e st=some (.nx b s2)\/body e st=some (.ct b s2))/\Pv (i+1) b s2)->
  ∃ env' a,gx g body ds env st=some (.nx env' a)/\Pv ds.length env' a
 |[],Pv,env,st,f,_=>⟨env,st,U,f⟩
 |d::ds,Pv,env,st,f,h=>by
  obtain⟨e,b,s2,j,c,o⟩:=h 0 d env st U f;obtain⟨k,s',n,m⟩:=o7 _ o λi l env' a hd p=>h (i+1) l env' a (by simpa using hd) p;refine⟨k,s',?_,m⟩;unfold gx;rw[j,qaa];rcases c with c|c<;>(rw[c];exact n)
theorem me {g:Tg}{tt:Tf}{te:Ef}{env:Ev}:∀ {ds:List D} (Pv:Nat->List D->Sto->Prop) {st:Sto}{ys0:List D},Pv 0 ys0 st->
  (∀ i d b st,ds[i]?=some d->Pv i b st->∃ h,dC g (.d d) env=some h/\((∃ c x s2,tt h st=some (true,c)/\te h c=some (.d x,s2)/\Pv (i+1) (b++[x]) s2)\/∃ c,tt h st=some (false,c)/\Pv (i+1) b c))->
  ∃ b a,lcI g tt te env ds st=some (b,a)/\Pv ds.length (ys0++b) a
 |[],Pv,st,ys0,m,_=>⟨_,st,U,by rw[qa5];exact m⟩
 |d::ds,Pv,st,ys0,m,o=>by
  obtain⟨h,q,f⟩:=o 0 d ys0 st U m;rcases f with⟨c,x,s2,f,r,n⟩|⟨c,f,n⟩
  ·obtain⟨b,s',l,j⟩:=me _ n λi k e a hd p=>o (i+1) k e a (by simpa using hd) p
   refine⟨_,s',?_,by simpa using j⟩;unfold lcI;rw[q,qaa,f,qaa,r,qaa,l];rfl
  ·obtain⟨b,s',l,j⟩:=me _ n λi k e a hd p=>o (i+1) k e a (by simpa using hd) p
   refine⟨b,s',?_,by simpa using j⟩;unfold lcI;rw[q,qaa,f,qaa,iFN qaR,l]
theorem uz {g:Tg}{tt:Tf}{te:Ef}{env:Ev}{st:Sto} (p:D->Bool) (F:D->D):∀ {ds:List D},(∀ d∈ds,∃ a,dC g (.d d) env=some a/\tt a st=some (p d,st)/\(p d=true->te a st=some (.d (F d),st)))->
  lcI g tt te env ds st=some ((ds.filter p).map F,st)
 |[],_=>rfl
 |d::ds,h=>by
  obtain⟨a,e,f,i⟩:=h d qae;have b:=uz p F λx c=>h x (qah _ c);unfold lcI;rw[e,qaa,f,qaa];cases hp:p d with
  |true=>rw[i hp,qaa,b,qf6,hp];rfl
  |false=>rw[b,qf6,hp];rfl
theorem jy {g:Tg}{te:Ef}{env:Ev}{st:Sto} (F:D->D) {ds:List D} (h:∀ d∈ds,∃ a,dC g (.d d) env=some a/\te a st=some (.d (F d),st)):lcI g bg te env ds st=some (ds.map F,st):=by
 have:=uz (tt:=bg) _ F λd hd=>by
  obtain⟨a,c,b⟩:=h d hd;exact⟨a,c,U,λ_=>b⟩
 rw[this,List.filter_eq_self.mpr λ_ _=>rfl]
def dc (st:Sto) (n:Nat):Prop:=∃ x y z:Int,0<=x/\st[n]?=some (.l [.int x,.int y,.int z])
def Stp (n:Nat) (st a:Sto):Prop:=(∃ v,a=st.set n v)/\dc a n
theorem dc.lt {st:Sto}{n:Nat} (h:dc st n):n<st.length:=by
 obtain⟨x,y,z,_,e⟩:=h;exact (qaA.mp e).1
theorem Stp.refl {st:Sto}{n:Nat} (h:dc st n):Stp n st st:=by
 exact⟨⟨_,(List.set_getElem_self (h.lt)).symm⟩,h⟩
theorem Stp.trans {n:Nat}{a b c:Sto} (h:Stp n a b) (d:Stp n b c):Stp n a c:=by
 obtain⟨⟨v,rfl⟩,_⟩:=h;obtain⟨⟨u,rfl⟩,q⟩:=d;exact⟨⟨u,by rw[qgM]⟩,q⟩
theorem Stp.hand {n:Nat}{a b:Sto} (h:Stp n a b):dc b n:=h.2
theorem Stp.get {n m:Nat}{a b:Sto} (h:Stp n a b) (hm:m≠n):b[m]?=a[m]?:=by obtain⟨⟨v,rfl⟩,_⟩:=h;rw[qbw (qb5 hm)]
theorem sK {a b:Int} (h:-(2^64)<a/\a<2^64):qcf a b:=Ar.ok (.inl h)
theorem sL {a b:Int} (h:-(2^64)<b/\b<2^64):qcf a b:=Ar.ok (.inr h)
theorem sr {st:Sto}{n:Nat}{v:C} (h:n<st.length):(st.set n v)[n]?=some v:=qbJ h
theorem nO {α:Type} (a:α) (l:List α):atI (a::l) 0=some a:=lR U
theorem t9 {α:Type} (a b:α) (l:List α):atI (a::b::l) 1=some b:=lR U
theorem Et {α:Type} (a b c:α) (l:List α):atI (a::b::c::l) 2=some c:=lR U
theorem EO (n:Nat):ixN (n+1) 0=some 0:=sC (by lia)
theorem Gp (n:Nat):ixN (n+2) 1=some 1:=sC (by lia)
theorem Gq (n:Nat):ixN (n+3) 2=some 2:=sC (by lia)
theorem uw:vp "int" "int" = some true:=rfl
theorem sB:vp "int" "bool" = some false:=rfl
theorem eE:vp "str" "str" = some true:=rfl
theorem cx:vp "tuple" "tuple" = some true:=rfl
theorem dc.app {st:Sto}{n:Nat} (h:dc st n) (u:Sto):dc (st++u) n:=by
 obtain⟨x,y,z,a,e⟩:=id h;exact⟨x,y,z,a,by rw[qaP h.lt];exact e⟩
theorem xk {n i:Nat}{d:D} (h:(lM 0 n)[i]?=some d):d=.int (i:Int)/\i<n:=by
 rw[uW]at h;by_cases hi:i<n
 ·rw[iFP hi]at h
  cases h;exact⟨by rw[Int.zero_add],hi⟩
 ·rw[iFN hi]at h;cases h
end L2
namespace L2
open PySem PySem.Spec PyProof.Rows
section
variable {prog:qaH}{w:World}{A:qaS}{E:Value->qag->Prop}{s:qag}{b:qex}{O:qfb}{c:Keyed->O.α}{S:Keyed->Prop}
variable {a0:Array Keyed}{lo:Nat}{a:Array (Nat×Nat×Nat)}{g0:Nat}{st:qfX}
end
section
variable {prog:qaH}{w:World}{A:qaS}{E:Value->qag->Prop}{s:qag}{b:qex}{O:qfb}{c:Keyed->O.α}{S:Keyed->Prop}
variable {a0:Array Keyed}{lo:Nat}{a:Array (Nat×Nat×Nat)}{g0:Nat}{st:qfX}
end
section
variable {prog:qaH}{w:World}{A:qaS}{E:Value->qag->Prop}{s:qag}{b:qex}{O:qfb}{c:Keyed->O.α}{S:Keyed->Prop}
variable {a0:Array Keyed}{lo:Nat}{a:Array (Nat×Nat×Nat)}{g0:Nat}{st:qfX}
end
section
variable {O:qfb}{h:Keyed->O.α}
variable {a b c:Array Keyed}{f d:Nat}
variable {e g:Nat}
end
section
variable {prog:qaH}{w:World}{A:qaS}{E:Value->qag->Prop}{s:qag}{c:qex}{O:qfb}{d:Keyed->O.α}{S:Keyed->Prop}{st:qfX}{a b:Array Keyed}
end
section
variable {prog:qaH}{w:World}{A:qaS}{E:Value->qag->Prop}{s:qag}{e:qex}{O:qfb}{g:Keyed->O.α}{S:Keyed->Prop}{st:qfX}{a b c:Array Keyed}{d f:Nat}
end
section
variable {prog:qaH}{w:World}{A:qaS}{E:Value->qag->Prop}{s:qag}{b:qex}{O:qfb}{e:Keyed->O.α}{S:Keyed->Prop}{st:qfX}{a:Array Keyed}{d c:Nat}
end
section
variable {prog:qaH}{w:World}{A:qaS}{E:Value->qag->Prop}{s:qag}{a:qex}{O:qfb}{b:Keyed->O.α}{S:Keyed->Prop}{st:qfX}{a0:Array Keyed}
end
end L2
namespace L2
open PySem PySem.Spec PyProof.Rows PySem.SeqAt
open MeetsSeq MeetsSeq2 MeetsSeq3 SeqRoads2
open AutoSeq1 (wpAny_loadPart')
section
variable {A:qaS}{s:qag}{p q:Addr}{a vs:Array Value}{e l:Nat->Bool}
end
end L2
namespace L2
open PySem PySem.Spec PyProof.Rows PySem.SeqAt PySem.W
def vz:List Int->List Int->Bool
 |[],[]=>false
 |[],_::_=>true
 |_::_,[]=>false
 |a::as,b::bs=>if a=b then vz as bs else decide (a<b)
section
variable {prog:qaH}{w:World}{A:qaS}{E:Value->qag->Prop}{s:qag}{x y:Value}{l m:List Int}
end
section
variable {prog:qaH}{w:World}{A:qaS}{E:Value->qag->Prop}{s:qag}{O:qfb}{a:Keyed->O.α}{S:Keyed->Prop}{vs:List Value}
end
section
variable {prog:qaH}{w:World}{A:qaS}{E:Value->qag->Prop}{s:qag}
end
def dL (l:List Int):D:=.tup (l.map D.int)
section
variable {K:qad}{X:Cx}{a:List (Addr×Obj)}{b:St}{H:Hp}{s:qag}{φ:List Addr}
end
end L2
namespace L2
open PySem PySem.Spec PyProof.Rows
open PySem.AutoSeq1 (wpAny_loadPart')
section
variable {prog:qaH}{w:World}{A:qaS}{E:Value->qag->Prop}{s:qag}{k k2:Bool}
variable {z TI TO c f l1 l2:Addr}{n:Nat}{d e:Array Value}{a b:Value}
end
section
variable {prog:qaH}{w:World}{A:qaS}{E:Value->qag->Prop}{s:qag}{k k2:Bool}
end
section
variable {K:qad}{X:Cx}{a b:Expr}{pos:Pos}{c:Af}
end
section
variable {prog:qaH}{w:World}{A:qaS}{s:qag}{I l S:Addr}{a:Array Value}{ns:List Int}{b:List (Str×Value)}{R:qhM->qag->Prop}
variable {E:Value->qag->Prop}
end
section
variable {K:qad}{X:Cx}{e a b:Expr}{c:List Expr}{pos:Pos}{f g h:Ef}{d:Af}
end
section
variable {K:qad}{X:Cx}
def EM (b:Bool):D->Bool
 |.bl c=>c==b
 |_=>false
def ww (_:Sto):W->W->Option D
 |.d x,.d (.bl b)=>some (.bl (!EM b x))
 |_,_=>none
theorem pr {M:Model}{A:qaS}{E:Value->qag->Prop}{s:qag}{Q:Value->qag->Prop}{v:Value}{b:Bool} (z:∀ id,v≠.builtin id) (h:Q (.bool (!(v==.bool b))) s):wpAny M A (qa2 .IsNot v (.bool b)) Q E s:=by
 cases v<;>first|exact qa4 h|exact absurd U (z _)
theorem Fz {H:Hp}{φ:List Addr}{d:D}{v:V}{u:Value}{b:Bool} (r:Rl K H φ d v) (q:bI v u):EM b d=(u==.bool b):=by
 cases d with
 |bl c=>
  have r':v=.bl c:=r;subst r';have f:u=.bool c:=q;subst f;cases c<;>cases b<;>rfl
 |non=>have r':v=.non:=r;subst r';have f:u=.none:=q;subst f;rfl
 |int i=>have r':v=.int i:=r;subst r';obtain⟨t,rfl⟩:=q;rfl
 |str i=>have r':v=.str i:=r;subst r';obtain⟨t,rfl⟩:=q;rfl
 |ty i=>have r':v=.ty i:=r;subst r';have f:u=.type i:=q;subst f;rfl
 |dct=>obtain⟨a,rfl,_⟩:=r;have f:u=.ref a:=q;subst f;rfl
 |scr ns=>obtain⟨a,rfl,_⟩:=r;have f:u=.ref a:=q;subst f;rfl
 |tup ds=>obtain⟨a,vs,rfl,_⟩:=r;have f:u=.ref a:=q;subst f;rfl
 |lst ds=>obtain⟨a,vs,rfl,_⟩:=r;have f:u=.ref a:=q;subst f;rfl
theorem Bd {H:Hp}{φ:List Addr}{d:D}{v:V}{u:Value} (r:Rl K H φ d v) (q:bI v u):∀ id,u≠.builtin id:=by
 intro id e;subst e;cases d with
 |bl c=>have r':v=.bl c:=r;subst r';cases q
 |non=>have r':v=.non:=r;subst r';cases q
 |int i=>have r':v=.int i:=r;subst r';obtain⟨t,h⟩:=q;cases h
 |str i=>have r':v=.str i:=r;subst r';obtain⟨t,h⟩:=q;cases h
 |ty i=>have r':v=.ty i:=r;subst r';cases q
 |dct=>obtain⟨a,rfl,_⟩:=r;cases q
 |scr ns=>obtain⟨a,rfl,_⟩:=r;cases q
 |tup ds=>obtain⟨a,vs,rfl,_⟩:=r;cases q
 |lst ds=>obtain⟨a,vs,rfl,_⟩:=r;cases q
theorem Be:OpD K X (qa2 .IsNot) ww:=by
 refine⟨λst x y d h=>?_⟩
 match x,y,h with
 |.d x,.d (.bl b),h=>
  cases h;intro l s J H w C v u Q I o G F;obtain⟨φ,S,m,p,q⟩:=F;subst p;subst G;exact pr (Bd m o) (vi I (q _ H (bU.refl H) U) (by rw[Fz m o]))
def El (_ j:Int):Prop:=0<j/\j<1000000000000000000000000000000000000000000000000000000000000
theorem A6 {j:Int} (n:0<j) (h:j<1000000000000000000000000000000000000000000000000000000000000):j.natAbs.log2<9000:=by
 have g:j.natAbs≠0:=by lia
 have B:j.natAbs<2^200:=by
  lia
 have:=(qhS g).mpr B
 lia
theorem zi:OpR X (qbF .FloorDiv) (rI El λi j=>.int (i / j)):=opI λi j _ _ _ _ _ k q=>by
 obtain⟨n,g⟩:=k;exact floordiv_int (by lia) (by rw[qeR i (by lia)];exact q) (.inl (PyProof.noPylong_of_log2 (A6 n g)))
def yw (_:Sto):W->W->Option D
 |.d (.int i),.d (.int j)=>if 0<j/\j<1000000000000000000000000000000000000000000000000000000000000 then some (.int (i / j)) else none
 |_,_=>none
theorem Dk:OpD K X (qbF .FloorDiv) yw:=zg λst x y d h=>by
 match x,y,h with
 |.d (.int i),.d (.int j),h=>
  simp only[yw]at h;split at h
  ·rename_i k
   cases h;exact⟨i,j,U,U,zi.imp λw C H Q ⟨a,b,q⟩=>⟨i,j,a,b,k,q⟩,U⟩
  ·cases h
end
section
variable {K:qad}{X:Cx}{pos:Pos}{a b:Expr}{c:Af}
end
section
variable {K:qad}{X:Cx}{pos:Pos}{e a b c:Expr}{d:List Expr}{f h i:Ef}{g:Af}
end
open Classical in
def lcH (n:Nat) (all:List D) (g:Tg) (tt:Tf) (te:Ef) (env:Ev):List D->Sto->Option (List D×Sto)
 |[],st=>if lg st n=some all then some ([],st) else none
 | d::ds,st=>if lg st n=some all then ((dC g (.d d) env).bind λe=>(tt e st).bind λb=>if b.1=true then (te e b.2).bind λx=>(fz [x.1]).bind λa=>(lcH n all g tt te env ds x.2).map λr=>(a++r.1,r.2)
   else lcH n all g tt te env ds b.2) else none
def vj (k:Nat) (js:List Nat) (a:Ef) (g:Tg) (tt:Tf) (te:Ef):Lf
 |env,st=>(a env st).bind λr=>match r.1 with
  |.h n=>(lg r.2 n).bind λds=>if ds.length<=1000000 then lcH n ds g tt te (jx k js env) ds r.2 else none
  |_=>none
section
variable {K:qad}{X:Cx}{pos:Pos}{tg:Expr}
def YlH (K:qad) (φ0:List Addr) (H0:Hp) (J:It) (n:Nat) (ds:List D):Prop:=∀ (H:Hp) (φ:List Addr) (st:Sto) (i:Nat),Fw φ0 φ H0 H->Sr K H φ st->lg st n=some ds->
 (∀ d,ds[i]?=some d->J.go i H/\∀ x H',J.yld i H x H'->bU H H'/\Rl K H' φ d x)/\(ds.length=i->J.stop i H)
def FK (K:qad) (env:Ev) (st:Sto) (n:Nat) (ds:List D) (o:Sto):TI:=λσ H R=>∃ φ,Er K H φ env σ/\Sr K H φ st/\∀ J H' T,Fw φ T H H'->Sr K H' T o->YlH K T H' J n ds->R J H'
theorem Br {e:Expr}{f:Ef}{env:Ev}{st o:Sto}{n:Nat}{ds:List D} (h:IE K X e f) (hK:X.K=K) (hf:f env st=some (.h n,o)) (hn:lg o n=some ds):PI X tg e (FK K env st n ds o):=by
 subst hK;refine (wX (h.run _ _ _ hf)).imp ?_
 rintro σ H R ⟨φ,hE,hS,q⟩
 refine⟨φ,hE,hS,λv H1 B f1 S1 w1=>?_⟩;obtain⟨a,vs,rfl,hq,u⟩:=mV S1 w1 (show lsD o (.h n)=some ds from hn);refine⟨a,U,⟨vs,.inl hq⟩,q _ H1 B f1 S1 λH2 c p i f2 S2 hn2=>?_⟩;obtain⟨a2,I,ea,hq2,hr2⟩:=mV S2 (Rw.fw S1 f2 w1) (show lsD p (.h n)=some ds from hn2);cases ea;have O:SqL X.K H2 a I:=.inl hq2;refine⟨λd hd=>?_,λhi=>⟨I,O,by rw[<-hr2.length];exact qcE hi⟩⟩;obtain⟨v,ev,rv⟩:=hr2.get hd;refine⟨⟨I,v,O,ev⟩,λx H' y=>?_⟩;obtain⟨rfl,y⟩:=y
 have:=y I O
 rw[ev]at this;cases this;exact⟨bU.refl _,rv⟩
theorem A4 {k n:Nat}{js:List Nat}{g:Tg}{tt:Tf}{te:Ef}{env:Ev}{st o:Sto}{ds:List D}{r:List D×Sto} (Y:∀ j∈vm g,j<k) (hdl:ds.length<=1000000) (L:lcH n ds g tt te (jx k js env) ds o=some r) :
  ∀ σ H Q,tIL K env st r σ H Q->tLc (iD k js) (FK K env st n ds o) (tG K g) (xu K tt) (u3 K te) σ H Q:=by
 rintro σ H Q ⟨φ,hE,hS,q⟩
 refine⟨φ,hE,hS,λJ H1 B f1 S1 yl=>?_⟩;have hE1:=(hE.fw hS f1).emb k js;refine⟨λi m ys H2=>m=ds.length - i/\i<=ds.length/\∃ st c W N,Fw B c H1 H2/\Sr K H2 c st/\Rls K H2 c W ys/\W.length<=i/\lcH n ds g tt te (jx k js env) (ds.drop i) st=some N/\r=(W++N.1,N.2),⟨ds.length,by simp,qbs _,o,B,[],r,Fw.refl _ _,S1,U,qaw _,L,U⟩,?_⟩
 rintro i m ys H2 ⟨rfl,hi,p,c,W,N,f2,S2,E,hle,A,rfl⟩
 by_cases F:i<ds.length
 ·rw[qct F]at A
  rw[lcH]at A;by_cases t:lg p n=some ds
  ·rw[iFP t]at A
   obtain⟨y1,y2⟩:=yl H2 c p i f2 S2 t;obtain⟨go,yld⟩:=y1 ds[i] (qa6 F);simp only[qab]at A;obtain⟨e3,he3,⟨kb,s3⟩,hb3,h3⟩:=A;have hz:ys.length<qaK:=by
    rw[<-E.length]
    have:qaK=16777216:=qca
    lia
   refine .inr ⟨go,hz,λys' H'=>i+1<=ds.length/\∃ st c M P,Fw B c H1 H'/\Sr K H' c st/\Rls K H' c M ys'/\M.length<=i+1/\lcH n ds g tt te (jx k js env) (ds.drop (i+1)) st=some P/\(W++N.1,N.2)=(M++P.1,P.2),λys' H' ⟨hn,p'⟩=>⟨ds.length - (i+1),by lia,U,hn,p'⟩,λx H' y=>?_⟩;obtain⟨sm,rx⟩:=yld x H' y;have S3:=S2.same sm;have f3:=f2.trans (Fw.same (φ:=c) sm);refine⟨c,p,jx k js env,.d ds[i],e3,hE1.fw S1 f3,S3,rx,he3,λσ' e' stay=>⟨Sub.stay stay Y,?_⟩⟩;refine⟨e3,p,_,hb3,c,e',S3,λH4 φ4 f4 S4=>?_⟩;cases kb with
   |false=>
    rw[iFN qaR]at h3;exact xM ⟨F,s3,φ4,W,N,f3.trans f4,S4,(E.fw S2 (Fw.same sm)).fw S3 f4,by lia,h3,U⟩
   |true=>
    simp only[if_true,qab,qac]at h3;obtain⟨x5,hx5,zs,hzs,r5,hr5,rfl⟩:=h3;refine vq ⟨e3,s3,x5,hx5,φ4,e'.fw S3 f4,S4,λv H5 φ5 f5 S5 w5=>?_⟩;obtain⟨x5,s5⟩:=x5;cases x5 with
    |h n=>cases hzs
    |d z=>
     cases hzs;refine⟨F,s5,φ5,W++[z],r5,(f3.trans f4).trans f5,S5,(((E.fw S2 (Fw.same sm)).fw S3 f4).fw S4 f5).append ⟨v,[],U,w5,U⟩,by rw[qai];simp;lia,hr5,?_⟩
     simp
  ·rw[iFN t]at A;cases A
 ·have hi':i=ds.length:=by lia
  subst hi';rw[qdw,lcH]at A;by_cases t:lg p n=some ds
  ·rw[iFP t]at A
   obtain⟨y1,y2⟩:=yl H2 c p _ f2 S2 t;cases A;refine .inl ⟨y2 U,λDn hD=>?_⟩
   have:=q Dn ys H2 c (f1.trans f2) S2 hD
   exact this (by simpa using E)
  ·rw[iFN t]at A;cases A
theorem xF {k:Nat}{js:List Nat}{fe:Ef}{g:Tg}{tt:Tf}{te:Ef}{env:Ev}{st:Sto}{r:List D×Sto} (u:vj k js fe g tt te env st=some r):∃ n o ds,fe env st=some (.h n,o)/\lg o n=some ds/\ds.length<=1000000/\lcH n ds g tt te (jx k js env) ds o=some r:=by
 simp only[vj,qab]at u;obtain⟨⟨w,o⟩,hy,u⟩:=u;cases w with
 |d x=>cases u
 |h n=>
  obtain⟨ds,V,u⟩:=qab.mp u;by_cases hdl:ds.length<=1000000
  ·rw[iFP hdl]at u
   exact⟨n,o,ds,hy,V,hdl,u⟩
  ·rw[iFN hdl]at u;cases u
theorem CZ {l:Scope}{Nc:List Str}{k:Nat}{js:List Nat}{elt iter:Expr}{ifs:List Expr}{fe:Ef}{g:Tg}{tt:Tf}{te:Ef}
  (S:fP X l Nc (iD k js)) (hc:X.calm=true) (Y:∀ j∈vm g,j<k) (hi:IE K X iter fe) (hK:X.K=K)
  (hg:∀ b s H C G,PG (lcX X l b Nc s H C G) tg (tG K g)) (ht:∀ b s H C G,ITs K (lcX X l b Nc s H C G) ifs tt) (he:∀ b s H C G,IE K (lcX X l b Nc s H C G) elt te)
  (hs:∀ x,qbO iter X.env x=pure x:=by intro _;rfl):IL K X (.ListComp elt [⟨tg,iter,ifs,0⟩] l pos) (vj k js fe g tt te):=by
 refine⟨λenv st r u=>?_⟩;obtain⟨n,o,ds,hy,V,hdl,L⟩:=xF u;exact (Cb S hc (Br hi hK hy V) hg (λb s H C G=>(ht b s H C G).run) (λb s H C G=>(he b s H C G).any) hs).imp (A4 Y hdl L)
end
theorem sG {n:Nat}{all:List D}{g:Tg}{tt:Tf}{te:Ef}{env:Ev}:∀ {ds:List D} (Pv:Nat->List D->Sto->Prop) {st:Sto}{ys0:List D},Pv 0 ys0 st->(∀ i b st,Pv i b st->lg st n=some all)->
  (∀ i d b st,ds[i]?=some d->Pv i b st->∃ k,dC g (.d d) env=some k/\((∃ c x s2,tt k st=some (true,c)/\te k c=some (.d x,s2)/\Pv (i+1) (b++[x]) s2)\/∃ c,tt k st=some (false,c)/\Pv (i+1) b c))->
  ∃ b a,lcH n all g tt te env ds st=some (b,a)/\Pv ds.length (ys0++b) a
 |[],Pv,st,ys0,f,h,_=>⟨[],st,by rw[lcH,iFP (h _ _ _ f)],by rw[qa5];exact f⟩
 |d::ds,Pv,st,ys0,f,h,r=>by
  obtain⟨k,s,j⟩:=r 0 d ys0 st U f;rcases j with⟨c,x,s2,j,t,q⟩|⟨c,j,q⟩
  ·obtain⟨b,s',o,l⟩:=sG (g:=g) (tt:=tt) (te:=te) (env:=env) (ds:=ds) (λi=>Pv (i+1)) q (λi=>h (i+1)) λi m e a hd p=>r (i+1) m e a (by simpa using hd) p
   refine⟨x::b,s',?_,by simpa using l⟩;rw[lcH,iFP (h _ _ _ f),s,qaa,j,qaa,iFP U,t,qaa,o];rfl
  ·obtain⟨b,s',o,l⟩:=sG (g:=g) (tt:=tt) (te:=te) (env:=env) (ds:=ds) (λi=>Pv (i+1)) q (λi=>h (i+1)) λi m e a hd p=>r (i+1) m e a (by simpa using hd) p
   refine⟨b,s',?_,by simpa using l⟩;rw[lcH,iFP (h _ _ _ f),s,qaa,j,qaa,iFN qaR,o]
def cK (c:Nat):Str:=⟨#[c]⟩
def rW (x:Str):List D:=x.cps.toList.map λc=>D.str (cK c)
def asc (x:Str):Bool:=x.cps.all λc=>decide (c<128)
def Its (x:Str):It where
 go i _:=i<x.cps.size
 yld i H v H':=H'=H/\∃ c,x.cps[i]?=some c/\v=.str (cK c)
 stop i _:=x.cps.size<=i
theorem Am {P:qaH}{w:World}{K:qad}{A:Expr} (x:Str) (t:Tok) (f:Addr):vc P w K A (Its x) [f] f (λi h=>h.IsStrIter f "str_ascii_iterator" x t i) where
 mem:=by simp
 obj:=λi h st b g=>by
  have e:b=f:=by simpa using g
  subst e;obtain⟨o,e,c,d⟩:=st;exact⟨o,e,λv z=>by rw[d]at z;cases z⟩
 keep:=λi h l st k=>by
  obtain⟨o,e,c,d⟩:=st;exact⟨o,k f (by simp) o e,c,d⟩
 item:=by
  intro X p hw n u i a s y H E I m st q;subst p hw n;obtain⟨f0,f1,f2,f3,f4,f5⟩:=m f (by simp);have r:x.cps[i]?=some x.cps[i]:=Array.getElem?_eq_getElem q;refine wpAny_pyNext_ascii_item st r λl j C=>?_;have I1:Inv X a y H { s with heap:=l,toks:=s.toks+1 }:=I.turned (λb o g e=>(C.2 b g).trans e) f0 f1 f3 f4 f5;obtain⟨o,e,c,d⟩:=id j;exact⟨_,U,wA (s:={ s with heap:=l,toks:=s.toks+1 }) e c d (by decide) ⟨.str (cK x.cps[i]),H,I1,⟨_,U⟩,⟨U,_,r,U⟩,j,λb g=>(m b g).1⟩⟩
 done:=by
  intro X p hw n u i a s y H E I m st q;subst p hw n;obtain⟨f0,f1,f2,f3,f4,f5⟩:=m f (by simp);exact wpAny_pyNext_ascii_end (I.ok.hd u) st (Array.getElem?_eq_none q) λl B=>⟨U,I.turned (t':=s.toks) (λb o g e=>B b o g e) f0 f1 f3 f4 f5⟩
 self:=λ_ _ _ _ _ st h=>wpAny_pyIter_striter_ascii st h
section
variable {K:qad}{X:Cx}{pos:Pos}{z e:Expr}{f:Ef}
def Gn (tl:TE):TI:=λn H R=>tl n H λv H1=>∃ x,v=.str x/\asc x=true/\R (Its x) H1
theorem DQ {l:Expr}{tl:TE} (J:PE X l tl):PI X z l (Gn tl):=by
 intro j s n H R I h;refine thn (J j s n H _ I h) λv g ⟨x,H1,I1,D,N⟩=>?_;obtain⟨x,rfl,m,q⟩:=N;obtain⟨t,rfl⟩:=D;refine wpAny_pyIter_ascii m ?_;refine⟨g.heap.objs.size,[g.heap.objs.size],_,_,H1,U,I1.kept (t':=g.toks) λb o e=>qaj _ e,Am x t _,⟨_,qaV _ U,U,U⟩,λb M=>?_,q⟩;have e:b=g.heap.objs.size:=by simpa using M
 subst e;exact I1.fpOk (qaw _) (I1.hok.fresh (qaw _))
def cO (f:Ef):Lf
 |env,st=>(f env st).bind λr=>match r.1 with
 |.d (.str x)=>if asc x then some (rW x,r.2) else none
 |_=>none
theorem kn (h:IE K X e f):II K X z e (cO f):=by
 refine⟨λenv st r a=>?_⟩;simp only[cO,qab]at a;obtain⟨⟨w,g⟩,G,a⟩:=a
 match w,a with
 |.d (.str x),a=>
  dsimp only at a;by_cases m:asc x=true
  case neg=>rw[iFN m]at a;cases a
  rw[iFP m]at a;cases a;refine (DQ (h.run _ _ _ G)).imp ?_
  rintro n H R ⟨φ,L,C,q⟩
  refine⟨φ,L,C,λv H1 p f1 g u=>?_⟩;have u:v=.str x:=u;subst u;refine⟨x,U,m,q _ H1 p f1 g λH2 B O i f2 s2=>?_⟩;refine⟨λd hd=>?_,λhi=>?_⟩
  ·unfold rW at hd
   rw[qbu,qac]at hd;obtain⟨c,E,rfl⟩:=hd;have k:x.cps[i]?=some c:=by simpa using E
   refine⟨(qbV.mp k).1,λy H' ⟨e,c2,A,F⟩=>?_⟩;subst e;rw[k]at A;cases A;subst F;exact⟨bU.refl _,U⟩
  ·unfold rW at hi
   rw[qan,qbS]at hi;exact qcE hi
end
section
variable {K:qad}{X:Cx}{pos:Pos}{a e:Expr}{P:Ef}{O:Af}
def kH:List D->Option (List Str)
 |[]=>some []
 |.str x::ds=>(kH ds).map (x::·)
 |_::_=>none
def fJ (o:Ef) (a:Af):Ef
 |env,st=>(o env st).bind λx=>(a env x.2).bind λr=>match x.1,r.1 with
 |.d (.str s),[.d (.lst ds)]=>(kH ds).bind λc=>if JoinOk s c=true then some (.d (.str (qbT s c)),r.2) else none
 |_,_=>none
theorem nK:∀ {ds:List D}{c:List Str}{vs:List V}{φ:List Addr}{H:Hp},kH ds=some c->Rls K H φ ds vs->vs=c.map V.str
 |[],c,vs,φ,H,h,r=>by
  cases h;exact r
 |d::ds,c,vs,φ,H,h,r=>by
  obtain⟨v,vr,rfl,A,G⟩:=r;cases d with
  |str x=>
   obtain⟨ys,hy,rfl⟩:=qac.mp h
   have:=nK hy G
   subst this;have A:v=.str x:=A;subst A;rfl
  |_=>cases h
theorem rq:∀ {c:List Str}{g:List Value},bn (c.map V.str) g->∃ l:List (Str×Tok),g=qfS l/\l.map (·.1)=c
 |[],g,r=>by
  cases r;exact⟨[],U,U⟩
 |x::c,g,r=>by
  cases r with
  |cons A G=>
   obtain⟨t,rfl⟩:=A;obtain⟨l,rfl,rfl⟩:=rq G;exact⟨(x,t)::l,U,U⟩
def Fs (X:Cx):V->List V->Hp->VK->Prop:=λx c H Q=>∃ s p w,x=.str s/\c=[.ref p]/\SqL X.K H p (w.map V.str)/\JoinOk s w=true/\Q (.str (qbT s w)) H
theorem A8:MtR X "str.join" (Fs X):=by
 intro N s σ H x c v us Q I rx rv h;obtain⟨z,p,w,rfl,rfl,F,B,q⟩:=h;obtain⟨t,rfl⟩:=rx;obtain⟨u,rfl,ru⟩:=rv.one;cases ru;obtain⟨g,r,Y,hz⟩:=I.list F;obtain⟨l,rfl,rfl⟩:=rq r;exact SC.join Y.isList U B λt' k=>⟨.str _,H,I.tok k,⟨_,U⟩,q⟩
theorem iS {i:Pos} (ho:IE K X a P) (ha:IA K X [e] O) (j:qcQ a "join" X.env (eval a X.env)=eval a X.env:=by rfl)
  (f:[e].all aN=true:=by rfl) (n:(i.endLine==pos.line)=true:=by rfl) (hK:X.K=K:=by rfl) :
  IE K X (.Call (.Attribute a "join" i) [e] [] pos) (fJ P O):=by
 subst hK;have m:aN e=true:=by rw[qaQ,qao]at f;exact f.1
 refine⟨λenv st r b=>?_⟩;simp only[fJ,qab]at b;obtain⟨⟨x,s1⟩,W,⟨ws,s2⟩,hw,b⟩:=b
 match x,ws,b with
 |.d (.str z),[.d (.lst ds)],b=>
  simp only[qab]at b;obtain⟨w,L,b⟩:=b;by_cases B:JoinOk z w=true
  case neg=>rw[iFN B]at b;cases b
  rw[iFP B]at b;cases b;refine (uL qcH PySem.F.slot_str_join PySem.F.type_str_join A8 (ho.run _ _ _ W) (ha.run _ _ _ hw) j (kG f (by show 1<30;decide)) n (bB m) (cu U)).imp ?_
  rintro σ H Q ⟨φ,S,R,q⟩
  refine⟨φ,S,R,λv H1 J f1 S1 M=>?_⟩;have M:v=.str z:=M;subst M;refine⟨U,J,S.fw R f1,S1,λus H2 E f2 S2 w2=>?_⟩;obtain⟨y,us',rfl,T,rfl⟩:=w2;obtain⟨p,vs,rfl,h0,F,C⟩:=T
  have:=nK L C
  subst this;exact⟨z,p,w,U,U,.inl F,B,q _ H2 E (f1.trans f2) S2 U⟩
end
section
variable {a:Type} [DecidableEq a]
end
section
variable {P:qaH}{w:World}{H:Hp}{h:Heap}{a:Addr}
end
section
variable {X:Cx}{b:List (Addr×Obj)}{c:St}{H:Hp}{s:qag}{a:Addr}{y v:V}{u r:Value}{o:Option V}{A:qaS}{E:Value->qag->Prop}
end
section
variable {X:Cx}{b:List (Addr×Obj)}{c:St}{H:Hp}{s:qag}{a:Addr}{kvs:List (Key×V)}{k:Key}{u:Value}{A:qaS}{E:Value->qag->Prop}
end
def Eo (i:Expr):Prop:=∀ a iv,qe7 i false a iv=operate [a,iv] (qd5 a iv)
theorem BM {prog:qaH}{w:World}{A:qaS}{E:Value->qag->Prop}{s:qag}{env:Env}{b a:Expr}{pos:Pos}{T id:String}{Q:Value->qag->Prop}
  (k:typeLookup (.type T) "__getitem__" = pure (some (.builtin id))) (m:Eo a)
  (h:wpAny (model prog w) A (eval b env) (λo f=>wpAny (model prog w) A (eval a env) (λi c=>c.TypeIs o T/\wpAny (model prog w) A (qd5 o i) Q E c) E f) E s) :
  wpAny (model prog w) A (eval (.Subscript b a pos) env) Q E s:=by
 refine qgH (qbc h (λo f j=>qbc j (λi c d=>?_) λ_ _ x=>x) λ_ _ x=>x);obtain⟨l,d⟩:=d;refine qam ?_;refine qam (wpAny_specialOf l k ?_);have fin:wpAny (model prog w) A (qe7 a false o i) (λr e=>wpAny (model prog w) A (letTemporaryGo b o r >>= λ_=>pure r) Q E e) E c:=by
  rw[m o i];exact wpAny_operating (qbc d (λr e g=>qam (wpAny_letTemporaryGo (qa4 g))) λ_ _ x=>x)
 first
  |exact qa4 (qam fin)
  |exact qam _
  |exact qam fin
section
variable {X:Cx}{o i e a:Expr}{pos b c:Pos}{f ty d:TE}
end
section
variable {X:Cx}{pos:Pos}
end
section
variable {X:Cx}{b:List (Addr×Obj)}{c:St}{H:Hp}{s:qag}{a:Addr}{y d:V}{u r:Value}{o:Option V}{A:qaS}{E:Value->qag->Prop}
end
section
variable {X:Cx}{o e f:Expr}{b a:Pos}{c ty tx:TE}
end
section
variable {X:Cx}{b:List (Addr×Obj)}{c:St}{H:Hp}{s:qag}{a:Addr}{kvs:List (Key×V)}{A:qaS}{E:Value->qag->Prop}
end
section
variable {X:Cx}{b:List (Addr×Obj)}{c:St}{H:Hp}{s:qag}{a:Addr}{y:V}{u:Value}{A:qaS}{E:Value->qag->Prop}
end
section
variable {prog:qaH}{w:World}{A:qaS}{E:Value->qag->Prop}{s:qag}{b:Type} [DecidableEq b] {c:KeyKind prog w b}{a:Addr}{kvs:List (b×Value)}
end
section
variable {X:Cx}{b:List (Addr×Obj)}{c:St}{H:Hp}{s:qag}{a:Addr}{kvs:List (Key×V)}{k:Key}{u r:Value}{A:qaS}{E:Value->qag->Prop}{z:V}
end
section
variable {K:qad}{X:Cx}{pos:Pos}{e a b o f:Expr}{g i d c h:Ef}
end
section
variable {K:qad}{X:Cx}
end
section
variable {K:qad}{X:Cx}
def nW (_:Sto):List W->Option D
 |[.d (.int i)]=>if i.natAbs.log2<1920 then some (.str (toString i)) else none
 |_=>none
theorem rV:j6 K X (.type "str") nW:=by
 refine⟨λst ws d h=>?_⟩
 match ws,h with
 |[.d (.int i)],h=>
  dsimp only[nW]at h;by_cases a:i.natAbs.log2<1920
  case neg=>rw[iFN a]at h;cases h
  rw[iFP a]at h;cases h;refine rS.imp ?_
  rintro vs H Q ⟨φ,S,⟨v,r,rfl,b,rfl⟩,q⟩
  exact⟨i,by rw[show v=.int i from b],a,q _ H (bU.refl H) U⟩
end
def atS (x:Str):List (Str×D)->Option D
 |[]=>none
 |(k,d)::r=>if k=x then some d else atS x r
def qI:D->Option V
 |.non=>some .non
 |.bl b=>some (.bl b)
 |.int i=>some (.int i)
 |.str x=>some (.str x)
 |_=>none
theorem xw {K:qad}{H:Hp}{φ:List Addr}:∀ {d:D}{v:V},qI d=some v->Rl K H φ d v
 |.non,_,h=>by cases h;rfl
 |.bl _,_,h=>by cases h;rfl
 |.int _,_,h=>by cases h;rfl
 |.str _,_,h=>by cases h;rfl
 |.ty _,_,h=>nomatch h
 |.dct,_,h=>nomatch h
 |.scr _,_,h=>nomatch h
 |.tup _,_,h=>nomatch h
 |.lst _,_,h=>nomatch h
inductive KPs:List (Str×D)->List (Key×Value)->Prop
 |nil:KPs [] []
 |cons {x:Str}{d:D}{v:V}{u:Value}{r:List (Str×D)}{vs:List (Key×Value)} (h:qI d=some v) (e:bI v u) (t:KPs r vs):KPs ((x,d)::r) ((.inr x,u)::vs)
theorem KPs.some {x:Str}{d:D}:∀ {kvs:List (Str×D)}{vs:List (Key×Value)},KPs kvs vs->atS x kvs=some d->∃ v u,qI d=some v/\bI v u/\qfx vs (.inr x)=some u
 |_,_,.nil,h=>nomatch h
 |(k,i)::r,_,.cons (u:=u) c e t,h=>by
  unfold atS at h;by_cases a:k=x
  ·subst a
   rw[iFP U]at h;cases h;exact⟨_,u,c,e,by simp[qfx]⟩
  ·rw[iFN a]at h
   obtain⟨v,u,b,f,g⟩:=KPs.some t h;refine⟨v,u,b,f,?_⟩;rw[<-g]
   have:¬ (Sum.inr k:Key)=Sum.inr x:=λq=>a (qem q)
   simp[qfx,qgf,this]
theorem KPs.none {x:Str}:∀ {kvs:List (Str×D)}{vs:List (Key×Value)},KPs kvs vs->atS x kvs=none->qfx vs (.inr x)=none
 |_,_,.nil,h=>rfl
 |(k,b)::r,_,.cons (u:=u) c e t,h=>by
  unfold atS at h;by_cases a:k=x
  ·rw[iFP a]at h
   cases h
  ·rw[iFN a]at h
   rw[<-KPs.none t h]
   have:¬ (Sum.inr k:Key)=Sum.inr x:=λq=>a (qem q)
   simp[qfx,qgf,this]
theorem KPs.isSome {x:Str}{kvs:List (Str×D)}{vs:List (Key×Value)} (h:KPs kvs vs):(qfx vs (.inr x)).isSome=(atS x kvs).isSome:=by
 cases e:atS x kvs with
 |none=>rw[h.none e];rfl
 |some d=>
  obtain⟨v,u,_,_,a⟩:=h.some e;rw[a];rfl
def KDc (K:qad) (P:qaH) (w:World) (p:Addr) (kvs:List (Str×D)):Prop:=(p==qdD)=false/\∃ o vs,K.lookup p=some o/\qdL (fu P w) o vs/\KPs kvs vs
section
variable {K:qad}{X:Cx}{b:List (Addr×Obj)}{e:St}{H:Hp}{s:qag}{p:Addr}{kvs:List (Str×D)}
theorem KDc.at (h:KDc X.K X.prog X.w p kvs) (I:Inv X b e H s):∃ vs,s.heap.DictOf (fu X.prog X.w) p vs/\KPs kvs vs:=by
 obtain⟨_,o,vs,hk,⟨es,ep,hd⟩,kp⟩:=h;exact⟨vs,⟨o,es,ep,I.kIn p o hk,hd⟩,kp⟩
variable {pos M:Pos}{a:Expr}{B:Ef}{x:Str}
def qz (kvs:List (Str×D)) (f:Ef):Ef
 |env,st=>(f env st).bind λr=>match r.1 with
 |.d (.str x)=>(atS x kvs).map λd=>(.d d,r.2)
 |_=>none
def jQ (k:Bool) (kvs:List (Str×D)) (f:Ef):Tf
 |env,st=>(f env st).bind λr=>match r.1 with
 |.d (.str x)=>some (k != (atS x kvs).isSome,r.2)
 |_=>none
def GG (F ty:TE) (X:Cx) (p:Addr) (kvs:List (Str×D)):TE:=λe H Q=>F e H λx H1=>ty e H1 λy H2=>∃ z d v,x=.ref p/\y=.str z/\KDc X.K X.prog X.w p kvs/\atS z kvs=some d/\qI d=some v/\Q v H2
theorem DE {o i:Expr}{F ty:TE} (N:PE X o F) (hi:PE X i ty) (W:Eo i):PE X (.Subscript o i pos) (GG F ty X p kvs):=by
 intro b s e H Q I h;refine BM PySem.F.slot_dict_getitem.lookup W (thn (N b s e H _ I h) λu P ⟨x,H1,I1,A,q1⟩=>thn (hi b P e H1 _ I1 q1) λiv s2 ⟨y,H2,I2,m,z,d,v,ex,T,g,C,l,q2⟩=>?_);subst ex;subst T;obtain rfl:u=Value.ref p:=A;obtain⟨t,rfl⟩:=m;obtain⟨vs,dd,kp⟩:=g.at I2;obtain⟨v',u',E,V,Y⟩:=kp.some C;rw[l]at E;cases E;exact⟨dd.typeIs,wpAny_getItem_of (gW _ _ z t) dd.mapOf Y ⟨v,H2,I2.tok _,V,q2⟩⟩
def D2 (X:Cx) (p:Addr) (kvs:List (Str×D)) (k:Bool):R2:=λx y H Q=>∃ z,x=.str z/\y=.ref p/\KDc X.K X.prog X.w p kvs/\Q (.bl (k != (atS z kvs).isSome)) H
theorem zj:OpR X (qa2 .In) (D2 X p kvs false):=by
 intro b s e H x y v u Q I A m h;obtain⟨z,rfl,rfl,g,q⟩:=h;obtain⟨t,rfl⟩:=A;cases m;obtain⟨vs,dd,kp⟩:=g.at I;refine wpAny_in_of (gW _ _ z t) g.1 dd.mapOf ?_;refine⟨.bl _,H,I.tok _,?_,q⟩;show Value.bool _=Value.bool _;rw[kp.isSome,qeV]
theorem sZ:OpR X (qa2 .NotIn) (D2 X p kvs true):=by
 intro b s e H x y v u Q I A m h;obtain⟨z,rfl,rfl,g,q⟩:=h;obtain⟨t,rfl⟩:=A;cases m;obtain⟨vs,dd,kp⟩:=g.at I;refine wpAny_notIn_of (gW _ _ z t) g.1 dd.mapOf ?_;refine⟨.bl _,H,I.tok _,?_,q⟩;show Value.bool _=Value.bool _;rw[kp.isSome,Bool.true_bne]
theorem sy (L:Gl X x) (hm:X.mg x=some (.ref p)) (g:KDc X.K X.prog X.w p kvs) (R:IE K X a B) (S:kC a=true:=by rfl) (hd:(x==("__debug__" : Str))=false:=by decide):IE K X (.Subscript (.Name x M) a pos) (qz kvs B):=by
 refine⟨λenv st r c=>?_⟩;simp only[qz,qab]at c;obtain⟨⟨w,P⟩,J,c⟩:=c
 match w,c with
 |.d (.str z),c=>
  obtain⟨d,C,rfl⟩:=qac.mp c;have l:∃ v,qI d=some v:=by
   obtain⟨_,o,vs,_,_,kp⟩:=g;obtain⟨v,u,E,_⟩:=kp.some C;exact⟨v,E⟩
  obtain⟨v,l⟩:=l;refine (DE (p:=p) (kvs:=kvs) (iU (v:=.ref p) L hm U hd) (R.run _ _ _ J) (px S)).imp ?_
  rintro e H Q ⟨φ,O,G,q⟩
  refine⟨φ,O,G,λy H1 j f1 S1 n=>?_⟩;exact⟨z,d,v,U,n,g,C,l,q _ H1 j f1 S1 (xw l)⟩
theorem pv {k:Bool}{op:CmpOp} (N:OpR X (qa2 op) (D2 X p kvs k)) (L:Gl X x) (hm:X.mg x=some (.ref p)) (g:KDc X.K X.prog X.w p kvs) (R:IE K X a B) (hd:(x==("__debug__" : Str))=false:=by decide) (S:qch op (.Name x M)=false:=by rfl) :
  IT K X (.Compare a [op] [.Name x M] pos) (jQ k kvs B):=by
 refine⟨λenv st r c=>?_⟩;simp only[jQ,qab]at c;obtain⟨⟨w,P⟩,J,c⟩:=c
 match w,c with
 |.d (.str z),c=>
  cases c;refine (tu N (R.run _ _ _ J) (iU (v:=.ref p) L hm U hd) S).imp ?_
  rintro e H Q ⟨φ,O,G,q⟩
  refine⟨φ,O,G,λy H1 j f1 S1 n=>?_⟩;have n:y=.str z:=n;subst n;exact⟨z,U,U,g,_,U,q H1 j f1 S1⟩
end
section
variable {X:Cx}{e:Expr}{ty:TE}{k i d l j b c a:Pos}{g f n h m:Nat}
end
section
variable {K:qad}{X:Cx}{e:Expr}{f:Ef}{pos u:Pos}{x:Str}{p:Addr}{ds:List D}{s:Stmt}
def KTp (K:qad) (p:Addr) (ds:List D):Prop:=ds.all bZ=true/\∀ H,SqT K H p (ds.map vOf)
theorem yW {o:Obj} (l:K.lookup p=some o) (h:oa ds o=true):KTp K p ds:=by
 unfold oa at h;rw[qao,qao,qao]at h;obtain⟨⟨M,R⟩,A,j⟩:=h;refine⟨A,λH=>?_⟩;cases e:o.data with
 |seq c n=>
  rw[e]at j;have b:(decide (c.size<=1000)&&c.toList.map ym==(ds.map vOf).map some)=true:=j;rw[qao]at b;exact .inr ⟨o,c,n,l,eq_of_beq M,e,tP (of_decide_eq_true b.1),u6 (eq_of_beq b.2),Option.isNone_iff_eq_none.mp R⟩
 |_=>rw[e]at j;cases j
def pb (k:Bool) (ds:List D) (f:Ef):Tf
 |env,st=>(f env st).bind λr=>match r.1 with
 |.d x=>if bZ x=true then some (k != inD x ds,r.2) else none
 |_=>none
theorem C5 {k:Bool}{op:CmpOp} (L:OpR X (qa2 op) (rIn X.K k)) (E:Gl X x) (hm:X.mg x=some (.ref p)) (g:KTp K p ds) (O:IE K X e f) (hd:(x==("__debug__" : Str))=false:=by decide) (P:qch op (.Name x u)=false:=by rfl) (F:X.K=K:=by rfl) :
  IT K X (.Compare e [op] [.Name x u] pos) (pb k ds f):=by
 subst F;refine⟨λenv st r a=>?_⟩;simp only[pb,qab]at a;obtain⟨⟨w,V⟩,C,a⟩:=a
 match w,a with
 |.d z,a=>
  dsimp only at a;by_cases m:bZ z=true
  case neg=>rw[iFN m]at a;cases a
  rw[iFP m]at a;cases a;refine (tu L (O.run _ _ _ C) (iU (v:=.ref p) E hm U hd) P).imp ?_
  rintro T H Q ⟨φ,N,B,q⟩
  refine⟨φ,N,B,λy H1 i f1 S1 J=>?_⟩;obtain⟨S,I⟩:=io m J;have G:(ds.map vOf).all h9=true:=(kE (K:=X.K) (H:=H1) (φ:=i) g.1 (kF g.1)).2;refine⟨p,ds.map vOf,U,.inr (g.2 H1),I,G,_,U,?_⟩;rw[S,md m g.1];have t:(if k=true then !inD z ds else inD z ds)=(k != inD z ds):=by cases k<;>cases inD z ds<;>rfl
  rw[t];exact q H1 i f1 S1
def gk:Sf
 |_,_=>none
theorem bT:IS K X s gk:=⟨λenv st r a=>by cases a⟩
end
inductive EPs (w:World):List qdF->List (Str×D)->List (Key×Value)->Prop
 |nil:EPs w [] [] []
 |cons {x:Str}{t:Tok}{d:D}{v:V}{u:Value}{es:List qdF}{kvs:List (Str×D)}{vs:List (Key×Value)} (h:qI d=some v) (r:bI v u) (q:EPs w es kvs vs) :
   EPs w (⟨PyData.keyHash w.params x,.str x t,u⟩::es) ((x,d)::kvs) ((.inr x,u)::vs)
theorem EPs.kps {w:World}:∀ {a:List qdF}{kvs:List (Str×D)}{vs:List (Key×Value)},EPs w a kvs vs->KPs kvs vs
 |_,_,_,.nil=>.nil
 |_,_,_,.cons h r q=>.cons h r q.kps
theorem EPs.keys {P:qaH}{w:World}:∀ {b:List qdF}{kvs:List (Str×D)}{vs:List (Key×Value)},EPs w b kvs vs->(∀ e∈b,∃ k,(fu P w).is k e.key=true/\e.hash=(fu P w).hash k)/\Pairs (fu P w) b vs/\vs.map (·.1)=kvs.map λd=>Sum.inr d.1
 |_,_,_,.nil=>⟨λe a=>(nomatch a),.nil,U⟩
 |_,_,_,.cons (x:=x) (t:=t) h r q=>by
  obtain⟨c,f,g⟩:=q.keys (P:=P);refine⟨λe a=>?_,.cons (gW P w x t) U f,by rw[qal,qal,g]⟩;rcases qat.mp a with rfl|a
  ·exact⟨.inr x,gW P w x t,U⟩
  ·exact c e a
theorem kdc_mk {P:qaH}{w:World}{a:List qdF}{b:Nat}{kvs:List (Str×D)}{vs:List (Key×Value)} (h:EPs w a kvs vs) (hn:(kvs.map (·.1)).Nodup) :
  ∃ vs,qdL (fu P w) { cls:=.type "dict",data:=.dict a.toArray b } vs/\KPs kvs vs:=by
 obtain⟨c,g,i⟩:=h.keys (P:=P);refine⟨vs,⟨a.toArray,b,⟨U,U,U⟩,U,λe d=>c e (by simpa using d),g,?_⟩,h.kps⟩;rw[i]
 have:(kvs.map λf=>(Sum.inr f.1:Key))=(kvs.map (·.1)).map Sum.inr:=by rw[qaX];rfl
 rw[this];rw[qeM,List.pairwise_map];exact (qeM.mp hn).imp λh e=>h (qem e)
section
variable {b:Bool}{t:SetTable}{m d k:Nat}
end
section
variable {prog:qaH}{w:World}{A:qaS}{E:Value->qag->Prop}{s:qag}{a:Addr}{m d k:Nat}
end
section
variable {prog:qaH}{w:World}{A:qaS}{E:Value->qag->Prop}{s:qag}{a c:Addr}{m d b i:Nat}{f:Nat->Tok}
end
section
variable {prog:qaH}{w:World}{A:qaS}{E:Value->qag->Prop}{s:qag}{a c:Addr}{m d b i:Nat}{f:Nat->Tok}
end
section
variable {prog:qaH}{w:World}{A:qaS}{E:Value->qag->Prop}{s:qag}
end
section
variable {prog:qaH}{w:World}{A:qaS}{R:qhM->qag->Prop}{I:Addr}{a b:List Addr}{G:Array qe6->Array qe6->Prop}{P:Nat->Value->Prop}{St:Nat->qag->Prop}
end
section
variable {prog:qaH}{w:World}{A:qaS}{E:Value->qag->Prop}{s:qag}
end
section
variable {prog:qaH}{w:World}{A:qaS}{E:Value->qag->Prop}{s:qag}{a r o:Addr}{m m1 m2 d k b:Nat}{f:Nat->Tok}
end
section
variable {prog:qaH}{w:World}{A:qaS}{E:Value->qag->Prop}{s:qag}{a b r o:Addr}{m m1 m2 d k c:Nat}{f:Nat->Tok}
end
section
variable {prog:qaH}{w:World}{A:qaS}{E:Value->qag->Prop}{s:qag}{a b r o:Addr}{m m1 m2 d k c:Nat}{f:Nat->Tok}
end
section
variable {prog:qaH}{w:World}{A:qaS}{E:Value->qag->Prop}{s:qag}{a:Addr}{m d b:Nat}{f:Nat->Tok}
end
section
variable {K:qad}{X:Cx}{pos p:Pos}{e a b:Expr}{d:Ef}{c f:Xf}
end
section
variable {prog:qaH}{w:World}{A:qaS}{E:Value->qag->Prop}{s:qag}{d c:Addr}{a:Array qdF}{i b:Nat}
end
section
variable {prog:qaH}{w:World}{A:qaS}{E:Value->qag->Prop}{s:qag}{d:Addr}{a:Array qdF}{b:Nat}
end
section
variable {K:qad}{X:Cx}{pos:Pos}{e a b o f:Expr}{g i d c h:Ef}
end
section
variable {K:qad}{X:Cx}{a:List (Addr×Obj)}{b:St}{H:Hp}{s:qag}{φ:List Addr}
end
section
variable {K:qad}{X:Cx}
end
theorem vS (n:Nat) (d:Nat) (hd:d<=n) (o:Option Int):HT.sIx n d o<=n:=by
 cases o with
 |none=>exact hd
 |some i=>unfold HT.sIx;split<;>lia
def mL (z:Str) (lo hi:Option Int):Str:=⟨((z.cps.toList.drop (HT.sIx z.length 0 lo)).take (HT.sIx z.length z.length hi - HT.sIx z.length 0 lo)).toArray⟩
theorem Ad (lo hi:Option Int) (n:Nat):qd9 lo hi 1 n=sliceRange ((HT.sIx n 0 lo:Nat):Int) ((HT.sIx n n hi:Nat):Int) 1:=by
 unfold qd9;dsimp only;simp only[show (1:Int) > 0 by decide,if_true]
 congr 1
 ·cases lo with
  |none=>simp[HT.sIx]
  |some i=>
   simp only[HT.sIx];by_cases h:i<0
   ·simp only[h,if_true]<;>lia
   ·simp only[h,if_false]<;>lia
 ·cases hi with
  |none=>simp[HT.sIx]
  |some i=>
   simp only[HT.sIx];by_cases h:i<0
   ·simp only[h,if_true]<;>lia
   ·simp only[h,if_false]<;>lia
theorem ya (z:Str) (lo hi:Option Int):Txt.slice z lo hi=mL z lo hi:=by
 have g:=vS z.length 0 (qbs _) lo;have h:=vS z.length z.length (qaw _) hi;unfold Txt.slice mL;rw[Ad,qhV];generalize HT.sIx z.length 0 lo=a at *;generalize HT.sIx z.length z.length hi=b at *;split
 ·rename_i e
  have c:b - a=z.length:=by simpa using e
  have d:a=0:=by lia
  subst d;have f:z.length=z.cps.toList.length:=by simp[qhZ]
  rw[c,f,qcS,qbd]
 ·rw[pick_run]
def GB:V->Option Int->Option Int->Hp->VK->Prop:=λx lo hi H Q=>∃ z,x=.str z/\z.length<=qaK/\Q (.str (mL z lo hi)) H
section
variable {K:qad}{X:Cx}{pos p2:Pos}{a e:Expr}{f fa:Ef}{af:Af}
theorem D7:SlR X GB:=by
 intro C s σ H x v vl vu lo hi sl Q I rx hs pl pu h;obtain⟨z,rfl,hz,q⟩:=h;obtain⟨t,rfl⟩:=rx;refine⟨"str",_,PySem.F.slot_str_getitem.lookup,qdC _ _ _,?_⟩
 have key:∀ (l u:Option (Int×Tok)),vl=partValue l->vu=partValue u->lo=l.map (·.1)->hi=u.map (·.1)->wpAny (model X.prog X.w) X.A (qd5 (.str z t) (.ref sl)) (EP X C σ Q) X.xe s:=by
  rintro l u rfl rfl rfl rfl
  rw[<-ya]at q;exact wpAny_getItem_str_slice (l:=l) (u:=u) (st:=none) hs U (post_val_or_str ⟨qaU (Txt.slice_le z _ _) hz,λt' k=>⟨.str _,H,I.tok k,⟨_,U⟩,q⟩⟩)
 cases pl with
 |none=>cases pu with
  |none=>exact key none none U U U U
  |int j u=>exact key none (some (j,u)) U U U U
 |int i t=>cases pu with
  |none=>exact key (some (i,t)) none U U U U
  |int j u=>exact key (some (i,t)) (some (j,u)) U U U U
def dk (f:Ef) (lo hi:Pf):Ef
 |env,st=>(f env st).bind λx=>(lo env x.2).bind λl=>(hi env l.2).bind λu=>match x.1 with
 |.d (.str z)=>if z.length<=1000000 then some (.d (.str (mL z l.1 u.1)),u.2) else none
 |_=>none
theorem d8 {lo hi:Option Expr}{fl fh:Pf} (h:IE K X e f) (hl:IO K X lo fl) (hh:IO K X hi fh) (hK:X.K=K:=by rfl):IE K X (.Subscript e (.Slice lo hi none p2) pos) (dk f fl fh):=by
 subst hK;refine⟨λenv st r hr=>?_⟩;simp only[dk,qab]at hr;obtain⟨⟨x,s1⟩,hx,l,hl',u,hu',hr⟩:=hr
 match x,hr with
 |.d (.str z),hr=>
  dsimp only at hr;by_cases hz:z.length<=1000000
  case neg=>rw[iFN hz]at hr;cases hr
  rw[iFP hz]at hr;cases hr;refine (pS D7 (h.run _ _ _ hx) (hl.run _ _ _ hl') (hh.run _ _ _ hu')).imp ?_
  rintro σ H Q ⟨φ,T,R,q⟩
  refine⟨φ,T,R,λv H1 M f1 s1 P=>⟨M,T.fw R f1,s1,λH2 L f2 s2=>⟨L,(T.fw R f1).fw s1 f2,s2,λH3 φ3 f3 s3=>?_⟩⟩⟩;exact⟨z,P,by rw[qca];lia,q _ _ φ3 ((f1.trans f2).trans f3) s3 U⟩
def iTm (g:Str->Str->Option D) (o:Ef) (a:Af):Ef
 |env,st=>(o env st).bind λx=>(a env x.2).bind λr=>match x.1,r.1 with
 |.d (.str s),[.d (.str t)]=>(g s t).map λd=>(.d d,r.2)
 |_,_=>none
def rTm (g:Str->Str->Option D):V->List V->Hp->VK->Prop:=λx N H Q=>∃ z y d v,x=.str z/\N=[.str y]/\g z y=some d/\qI d=some v/\Q v H
theorem ny {B:Pos}{Y:Str}{id:String}{g:Str->Str->Option D} (slot:Slot "str" Y id) (hty:typeOf (.builtin id)=pure (.type "method_descriptor")) (hm:MtR X id (rTm g)) (hf:∀ x y d,g x y=some d->∃ v,qI d=some v)
  (ho:IE K X a fa) (ha:IA K X [e] af) (F:qcQ a Y X.env (eval a X.env)=eval a X.env:=by rfl)
  (p:[e].all aN=true:=by rfl) (J:(B.endLine==pos.line)=true:=by rfl) (hK:X.K=K:=by rfl) :
  IE K X (.Call (.Attribute a Y B) [e] [] pos) (iTm g fa af):=by
 subst hK;have G:aN e=true:=by rw[qaQ,qao]at p;exact p.1
 refine⟨λenv st r m=>?_⟩;simp only[iTm,qab]at m;obtain⟨⟨x,s1⟩,hx,⟨ws,s2⟩,hw,m⟩:=m
 match x,ws,m with
 |.d (.str z),[.d (.str y)],m=>
  obtain⟨d,hd,rfl⟩:=qac.mp m;obtain⟨v,hv⟩:=hf _ _ _ hd;refine (uL qcH slot hty hm (ho.run _ _ _ hx) (ha.run _ _ _ hw) F (kG p (by show 1<30;decide)) J (bB G) (cu U)).imp ?_
  rintro σ H Q ⟨φ,T,R,q⟩
  refine⟨φ,T,R,λv' H1 M f1 S1 P=>?_⟩;have P:v'=.str z:=P;subst P;refine⟨U,M,T.fw R f1,S1,λus H2 L f2 S2 w2=>?_⟩;obtain⟨y',us',rfl,O,rfl⟩:=w2;have O:y'=.str y:=O;subst O;exact⟨z,y,d,v,U,U,hd,hv,q _ H2 L (f1.trans f2) S2 (xw hv)⟩
def ic (x y:Str):Option D:=some (.int (qfK x y))
theorem kU:MtR X "str.find" (rTm ic):=by
 intro C s σ H x N v us Q I rx rv h;obtain⟨z,y,d,v',rfl,rfl,hd,hv,q⟩:=h;cases hd;cases hv;obtain⟨t,rfl⟩:=rx;obtain⟨u,rfl,ru⟩:=rv.one;obtain⟨t2,rfl⟩:=ru;exact call_gives qbL (qdC _ _ _) PySem.F.entry_str_find (PySem.F.args_str_find_2 _ _) (gives_str_find z y t t2) ⟨.int _,H,I.tok _,⟨_,U⟩,q⟩
theorem iy:∀ x y d,ic x y=some d->∃ v,qI d=some v:=λx y d h=>by cases h;exact⟨_,U⟩
def ft (x y:Str):Option D:=if x.length<=1000000 then some (.str (Txt.rstripChars x y)) else none
theorem qV:MtR X "str.rstrip" (rTm ft):=by
 intro C s σ H x N v us Q I rx rv h;obtain⟨z,y,d,v',rfl,rfl,hd,hv,q⟩:=h;unfold ft at hd;split at hd
 ·rename_i hz
  cases hd;cases hv;obtain⟨t,rfl⟩:=rx;obtain⟨u,rfl,ru⟩:=rv.one;obtain⟨t2,rfl⟩:=ru;exact SC.rstripChars (λt' k=>⟨.str _,H,I.tok k,⟨_,U⟩,q⟩) (by rw[qca];lia)
 ·cases hd
theorem nw:∀ x y d,ft x y=some d->∃ v,qI d=some v:=λx y d h=>by
 unfold ft at h;split at h
 ·cases h;exact⟨_,U⟩
 ·cases h
def iZf (o:Ef) (a:Af):Ef
 |env,st=>(o env st).bind λx=>(a env x.2).bind λr=>match x.1,r.1 with
 |.d (.str s),[.d (.int i)]=>if PadOk i=true then some (.d (.str (Txt.zfill s i)),r.2) else none
 |_,_=>none
def rZf:V->List V->Hp->VK->Prop:=λx N H Q=>∃ z i,x=.str z/\N=[.int i]/\PadOk i=true/\Q (.str (Txt.zfill z i)) H
theorem E4:MtR X "str.zfill" rZf:=by
 intro C s σ H x N v us Q I rx rv h;obtain⟨z,i,rfl,rfl,hp,q⟩:=h;obtain⟨t,rfl⟩:=rx;obtain⟨u,rfl,ru⟩:=rv.one;obtain⟨t2,rfl⟩:=ru;exact SC.zfill hp λt' k=>⟨.str _,H,I.tok k,⟨_,U⟩,q⟩
theorem EK {B:Pos} (ho:IE K X a fa) (ha:IA K X [e] af) (F:qcQ a "zfill" X.env (eval a X.env)=eval a X.env:=by rfl)
  (p:[e].all aN=true:=by rfl) (J:(B.endLine==pos.line)=true:=by rfl) (hK:X.K=K:=by rfl) :
  IE K X (.Call (.Attribute a "zfill" B) [e] [] pos) (iZf fa af):=by
 subst hK;have G:aN e=true:=by rw[qaQ,qao]at p;exact p.1
 refine⟨λenv st r m=>?_⟩;simp only[iZf,qab]at m;obtain⟨⟨x,s1⟩,hx,⟨ws,s2⟩,hw,m⟩:=m
 match x,ws,m with
 |.d (.str z),[.d (.int i)],m=>
  dsimp only at m;by_cases hp:PadOk i=true
  case neg=>rw[iFN hp]at m;cases m
  rw[iFP hp]at m;cases m;refine (uL qcH PySem.F.slot_str_zfill PySem.F.type_str_zfill E4 (ho.run _ _ _ hx) (ha.run _ _ _ hw) F (kG p (by show 1<30;decide)) J (bB G) (cu U)).imp ?_
  rintro σ H Q ⟨φ,T,R,q⟩
  refine⟨φ,T,R,λv' H1 M f1 S1 P=>?_⟩;have P:v'=.str z:=P;subst P;refine⟨U,M,T.fw R f1,S1,λus H2 L f2 S2 w2=>?_⟩;obtain⟨y',us',rfl,O,rfl⟩:=w2;have O:y'=.int i:=O;subst O;exact⟨z,i,U,U,hp,q _ H2 L (f1.trans f2) S2 U⟩
def sx (o:Ef) (a:Af):Ef
 |env,st=>(o env st).bind λx=>(a env x.2).bind λr=>match x.1,r.1 with
 |.d (.str s),[.d (.str c)]=>if s.length<=100000/\c.length=1/\(qef s c).length<=100000/\(qcq s (qb4 s c 0 s.length (s.length+1)) c.length).length<=100000 then some (.d (.lst ((qef s c).map D.str)),r.2) else none
 |_,_=>none
def GD (X:Cx):V->List V->Hp->VK->Prop:=λx N H Q=>∃ s c,x=.str s/\N=[.str c]/\s.length<=100000/\c.length=1/\(qef s c).length<=100000/\(qcq s (qb4 s c 0 s.length (s.length+1)) c.length).length<=100000/\∀ l,H l=none->Q (.ref l) (upd H l (.lst ((qef s c).map V.str)))
theorem nJ:∀ (l:List (Str×Tok)),bn ((l.map (·.1)).map V.str) (qfS l)
 |[]=>.nil
 |(x,t)::l=>.cons ⟨t,U⟩ (nJ l)
theorem vX {prog:qaH}{w:World}{A:qaS}{E:Value->qag->Prop}{s:qag}{x y:Str}{t u:Tok}{Q:Value->qag->Prop} (hy:(y.length==0)=false)
  (hq:∀ l k,l.map (·.1)=qef x y->Q (.ref s.heap.objs.size) { s with heap:=s.heap.push { cls:=.type "list",data:=.seq (qfS l).toArray },toks:=k })
  (hsz:x.length<=qaK) (hsz2:(qcq x (qb4 x y 0 x.length (x.length+1)) y.length).length<=qaK) :
  wpAny (model prog w) A (call (.builtin "str.split") [.str x t,.str y u]) Q E s:=by
 cases h1:(decide (x.length<y.length)||decide (qeO x<qeO y))
 ·cases hf:(qb4 x y 0 x.length (x.length+1)).isEmpty
  ·refine qcl qcG (qdC _ _ _) qdm (qda _ _) (meets_str_split_sep x y t u h1 hy hf hsz hsz2) ?_
   show wants Q E _ { s with toks:=_,heap:=s.heap.push { cls:=.type "list",data:=.seq (strsFrom s.toks (qcq x (qb4 x y 0 x.length (x.length+1)) y.length)).toArray } }
   rw[strsFrom_eq];exact hq (numbered s.toks _) _ ((numbered_texts _ _).trans ((iFN (ne_true_of_eq_false h1)).trans (iFN (ne_true_of_eq_false hf))).symm)
  ·exact qcl qcG (qdC _ _ _) qdm (qda _ _) (meets_str_split_not_found x y t u h1 hy hf)
    (hq [(x,t)] s.toks ((iFN (ne_true_of_eq_false h1)).trans (iFP hf)).symm)
 ·exact qcl qcG (qdC _ _ _) qdm (qda _ _) (meets_str_split_cannot_occur x y t u h1)
   (hq [(x,t)] s.toks (iFP h1).symm)
theorem Dh:MtR X "str.split" (GD X):=by
 intro C s σ H x N v us Q I rx rv h;obtain⟨z,c,rfl,rfl,h1,h2,h3,h4,q⟩:=h;obtain⟨t,rfl⟩:=rx;obtain⟨u,rfl,ru⟩:=rv.one;obtain⟨t2,rfl⟩:=ru;refine vX (by rw[h2];rfl) (λl k hl=>?_) (by rw[qca];lia) (by rw[qca];lia);refine⟨.ref s.heap.objs.size,_,I.laid (t':=k) (o:=.lst ((qef z c).map V.str)) (λb ob q=>qaj _ q) (qaw _) ⟨by rw[qan,qca];lia,qfS l,0,?_,qaV _ U⟩,U,q _ (I.hok.fresh (qaw _))⟩;rw[<-hl];exact nJ l
theorem uV {H:Hp}{φ:List Addr}:∀ (N:List Str),Rls K H φ (N.map D.str) (N.map V.str)
 |[]=>rfl
 |x::N=>⟨_,_,U,U,uV N⟩
theorem yO {B:Pos} (ho:IE K X a fa) (ha:IA K X [e] af) (F:qcQ a "split" X.env (eval a X.env)=eval a X.env:=by rfl)
  (p:[e].all aN=true:=by rfl) (J:(B.endLine==pos.line)=true:=by rfl) (hK:X.K=K:=by rfl) :
  IE K X (.Call (.Attribute a "split" B) [e] [] pos) (sx fa af):=by
 subst hK;have G:aN e=true:=by rw[qaQ,qao]at p;exact p.1
 refine⟨λenv st r m=>?_⟩;simp only[sx,qab]at m;obtain⟨⟨x,s1⟩,hx,⟨ws,s2⟩,hw,m⟩:=m
 match x,ws,m with
 |.d (.str z),[.d (.str c)],m=>
  dsimp only at m;split at m
  ·rename_i hp
   cases m;refine (uL qcH qcG PySem.F.type_str_split Dh (ho.run _ _ _ hx) (ha.run _ _ _ hw) F (kG p (by show 1<30;decide)) J (bB G) (cu U)).imp ?_
   rintro σ H Q ⟨φ,T,R,q⟩
   refine⟨φ,T,R,λv' H1 M f1 S1 P=>?_⟩;have P:v'=.str z:=P;subst P;refine⟨U,M,T.fw R f1,S1,λus H2 L f2 S2 w2=>?_⟩;obtain⟨y',us',rfl,O,rfl⟩:=w2;have O:y'=.str c:=O;subst O;refine⟨z,c,U,U,hp.1,hp.2.1,hp.2.2.1,hp.2.2.2,λl hl=>q _ _ L ((f1.trans f2).trans (Fw.new hl)) (S2.new hl) ?_⟩;exact⟨l,_,U,S2.nin hl,.inl bH,uV _⟩
  ·cases m
def xA (st:Sto) (x y:W):Option D:=match x,y with
 |.d (.str a),.d (.str b)=>some (.bl (qgU b a))
 |x,y=>dIn st x y
theorem Dr:OpR X (qa2 .In) (λx y H Q=>∃ a b,x=.str a/\y=.str b/\Q (.bl (qgU b a)) H):=by
 intro C s σ H x y v u Q I rx O h;obtain⟨a,b,rfl,rfl,q⟩:=h;obtain⟨t,rfl⟩:=rx;obtain⟨t',rfl⟩:=O;exact qhx ⟨.bl _,H,I,U,q⟩
theorem vC (hK:X.K=K:=by rfl):OpD K X (qa2 .In) xA:=by
 refine⟨λst x y d h=>?_⟩;unfold xA at h;split at h
 ·rename_i a b
  cases h;refine Dr.imp ?_
  rintro vx vy H Q ⟨φ,S,r1,r2,q⟩
  exact⟨a,b,r1,r2,q _ H (bU.refl H) U⟩
 ·exact (nD hK).run st x y d h
def nv (st:Sto):List W->Option D
 |[.d (.str x)]=>if x.length<=640 then (intText? x).map D.int else none
 |ws=>AB st ws
theorem wm:j6 K X (.type "int") nv:=by
 refine⟨λst ws d h=>?_⟩;unfold nv at h;split at h
 ·rename_i x
  split at h
  ·rename_i hl
   obtain⟨n,hn,rfl⟩:=qac.mp h;intro C s σ H N us Q I rv q;obtain⟨φ,S,⟨v,r,rfl,r1,rfl⟩,q⟩:=q;have r1:v=.str x:=r1;subst r1;obtain⟨u,rfl,t,rfl⟩:=mG rv;exact qhP hn hl ⟨.int n,H,I.tok _,⟨_,U⟩,q _ H (bU.refl H) U⟩
  ·cases h
 ·exact CD.run st _ d h
end
section
variable {K:qad}{X:Cx}
end
section
variable {X:Cx}{e:Expr}{ty:TE}{j i d k b c a:Pos}{g f l h:Nat}
end
section
variable {K:qad}{X:Cx}{e:Expr}{f:Ef}
end
section
variable {K:qad}{X:Cx}
def eG (st:Sto):List W->Option (List D)
 |[.d (.str x)]=>if x.cps.size<=1000000 then some (rW x) else none
 |_=>none
theorem uU {H:Hp}{φ:List Addr}:∀ (cs:List Nat),Rls K H φ (cs.map λc=>D.str (cK c)) (cs.map λc=>V.str (cK c))
 |[]=>rfl
 |c::cs=>⟨_,_,U,U,uU cs⟩
theorem qj:∀ (cs:List Nat) (vs:List Value),vs.length=cs.length->(∀ (j:Nat) (v:Value),vs[j]?=some v->∃ c u,cs[j]?=some c/\v=.str ⟨#[c]⟩ u)->bn (cs.map λc=>V.str (cK c)) vs
 |[],[],_,_=>.nil
 |c::cs,v::vs,f,h=>by
  obtain⟨C,u,l,rfl⟩:=h 0 v U;cases l;exact .cons ⟨u,U⟩ (qj cs vs (by simpa using f) λj y g=>h (j+1) y g)
theorem lS {k:Nat} (n:ez k X.A):BR K X (.type "list") eG:=by
 refine⟨λst ws d h=>?_⟩
 match ws,h with
 |[.d (.str x)],h=>
  dsimp only[eG]at h;by_cases f:x.cps.size<=1000000
  case neg=>rw[iFN f]at h;cases h
  rw[iFP f]at h;cases h;intro m s E H B A Q I p q;obtain⟨φ,S,⟨v,r,rfl,i,rfl⟩,q⟩:=q;have i:v=.str x:=i;subst i;obtain⟨u,rfl,t,rfl⟩:=mG p;refine call_list_str n.hd x t (λo z b c kp e a=>?_) (by rw[qca];lia);have w:bn (x.cps.toList.map λc=>V.str (cK c)) b.toList:=qj _ _ (by rw[qbS,qbS,a.1]) λj v g=>by
   obtain⟨c,u,l,e⟩:=a.2 j v (by simpa using g);exact⟨c,u,by simpa using l,e⟩
  refine⟨.ref s.heap.objs.size,_,I.laid (t':=z) kp (qaw _) (show gm X.prog X.w _ o _ (.lst (x.cps.toList.map λc=>V.str (cK c))) from ⟨by rw[qan,qbS,qca];lia,b.toList,c,w,by simpa using e⟩),U,?_⟩;exact q _ _ H (bU.refl H) (I.hok.fresh (qaw _)) (uU _)
end
def ExT (N:Addr->Prop) (H:Hp) (h:Heap) (C:Value) (e:Addr):Prop:=
 N e/\H e=none/\∃ a vs T c b fl,h.get? e=some a/\a.cls=C/\a.data=.fields vs/\vs[1]?=some (.ref T)/\N T/\H T=none/\T≠e/\h.get? T=some c/\c.data=.fields b/\b[3]?=some fl
def Ex (N:Addr->Prop) (H:Hp) (h:Heap) (C:Value) (e:Addr):Prop:=
 (N e/\H e=none/\∃ a vs,h.get? e=some a/\a.cls=C/\a.data=.fields vs/\vs[1]?=some .none)\/ExT N H h C e
theorem ExT.ex {N:Addr->Prop}{H:Hp}{h:Heap}{C:Value}{e:Addr} (x:ExT N H h C e):Ex N H h C e:=.inr x
theorem ExT.imp {N N':Addr->Prop}{H:Hp}{h:Heap}{C:Value}{e:Addr} (f:∀ a,N a->N' a) (x:ExT N H h C e):ExT N' H h C e:=by
 obtain⟨a,b,l,vs,T,m,c,fl,d,j,n,k,i,g⟩:=x;exact⟨f _ a,b,l,vs,T,m,c,fl,d,j,n,k,f _ i,g⟩
theorem Ex.imp {N N':Addr->Prop}{H:Hp}{h:Heap}{C:Value}{e:Addr} (f:∀ a,N a->N' a) (x:Ex N H h C e):Ex N' H h C e:=by
 rcases x with⟨a,b,x⟩|x
 ·exact .inl ⟨f _ a,b,x⟩
 ·exact .inr (x.imp f)
structure Chg (N:Addr->Prop) (H:Hp) (fs:List Addr) (h h':Heap):Prop where
 keep:∀ b o,h.get? b=some o->b∉fs->(N b->(∀ vs,o.data≠.fields vs)\/H b≠none)->h'.get? b=some o
 slot:∀ b o,h.get? b=some o->b∈fs->∃ sl,h'.get? b=some { o with slots:=sl }
 there:∀ b o,h.get? b=some o->∃ o',h'.get? b=some o'
theorem Chg.refl {N:Addr->Prop}{H:Hp}{fs:List Addr}{h:Heap}:Chg N H fs h h:=⟨λ_ _ e _ _=>e,λ_ o e _=>⟨o.slots,e⟩,λ_ o e=>⟨o,e⟩⟩
theorem Chg.trans {N:Addr->Prop}{H:Hp}{fs:List Addr}{h i j:Heap} (a:Chg N H fs h i) (b:Chg N H fs i j):Chg N H fs h j:=
 ⟨λc o e d hn=>b.keep c o (a.keep c o e d hn) d hn,λc o e d=>by
  obtain⟨m,g⟩:=a.slot c o e d;obtain⟨f,l⟩:=b.slot c _ g d;exact⟨f,l⟩,λc o e=>by
  obtain⟨k,g⟩:=a.there c o e
  exact b.there c k g⟩
section
variable {M:Model}{A:qaS}{E:Value->qag->Prop}{s:qag}{N:Addr->Prop}{H:Hp}{C:Value}{e:Addr}{fs:List Addr}
theorem kQ {fr:Option Addr}{Q:Unit->qag->Prop} (Y:∀ b∈fs,∃ o,s.heap.get? b=some o/\∀ vs,o.data≠.fields vs) (x:ExT N H s.heap C e)
  (hQ:∀ l,Chg N H fs s.heap l->ExT N H l C e->Q () { s with heap:=l }):wpAny M A (qfT (.ref e) fr) Q E s:=by
 obtain⟨J,I,t,vs,T,oT,V,fl,p,R,hd,F,nT,tT,k,r,hdT,h3⟩:=x;have m:3<V.size:=(qbV.mp h3).1;unfold qfT;refine qam (qb9 p hd F ?_);rw[iFP (show (Value.ref T != Value.none)=true from by simp)];generalize (fr.elim Value.none λf=>qfp f)=fv;refine qdv r hdT m (hQ _ ⟨λb o g S hn=>?_,λb o g S=>?_,λb o g=>?_⟩ ?_)
 ·have:b≠T:=λz=>by
   subst z;rw[r]at g;cases g;rcases hn nT with q|q
   ·exact q V hdT
   ·exact q tT
  rw[qa7 _ _ (qb5 this)];exact g
 ·have:b≠T:=λz=>by
   subst z;obtain⟨o',e1,e2⟩:=Y b S;rw[r]at e1;cases e1;exact e2 V hdT
  exact⟨o.slots,by rw[qa7 _ _ (qb5 this)];exact g⟩
 ·by_cases w:b=T
  ·subst w
   exact⟨_,qbY _ r (qco (qb1 hdT _))⟩
  ·exact⟨o,by rw[qa7 _ _ (qb5 w)];exact g⟩
 ·refine⟨J,I,t,vs,T,_,_,fv,by rw[qa7 _ _ k];exact p,R,hd,F,nT,tT,k,qbY _ r (qco (qb1 hdT _)),qb1 hdT _,?_⟩
  simp[m]
theorem sM {env:Env}{outer:List Env}{base:Heap}{L:Addr}{Q:Unit->qag->Prop} (hfr:A.frames=some (env::outer)) (hl:s.heap.FunFrames base (env::outer)) (S:env.frame=some L)
  (hN:∀ a,s.heap.get? a=none->N a) (hH:H s.heap.objs.size=none) (x:Ex N H s.heap C e)
  (hQ:∀ l,Chg N H (frs (env::outer)) s.heap l->ExT N H l C e->Q () { s with heap:=l }):wpAny M A (qdj (.ref e) env) Q E s:=by
 have Y:∀ b∈frs (env::outer),∃ o,s.heap.get? b=some o/\∀ vs,o.data≠.fields vs:=λb g=>(hl.mem g).2
 -- a new n of the trace
 have go:∀ (W:qag) (n:Value) (hn:Bool) (t:Obj) (vs:Array Value),W.heap.FunFrames base (env::outer)->W.heap.objs.size=s.heap.objs.size->Chg N H (frs (env::outer)) s.heap W.heap->{ W with heap:=s.heap }=s->N e->H e=none->
   W.heap.get? e=some t->t.cls=C->t.data=.fields vs->1<vs.size->
   wpAny M A (do let a <-frameOf env;let pl <-entryPlaceOf L hn;let b <-qeT n a .none (qfp L) .none pl;setField (.ref e) 1 b) Q E W:=by
  intro W n hn t vs hl1 hsz0 c1 hs1 J I p R hd m;refine qam (wpAny_frameOf_fun hfr hl1 S λc i=>?_);refine qam (wpAny_entryPlaceOf λpl hpl=>?_);unfold qeT newFields;refine qam (qcv ?_ (hpl.sizeOk5 _ _ _ _ _));have X:e∉(env::outer).filterMap (·.frame):=λhm=>by
   obtain⟨_,o,ho,u⟩:=hl1.mem hm;rw[p]at ho;cases ho;exact u vs hd
  have D:c.get? e=some t:=(i.2.1 e X).trans p;have P:c.objs.size=s.heap.objs.size:=i.1.trans hsz0;generalize O:({ cls:=.type "traceback",dict:=none,data:=.fields ([n,.ref L,.none,qfp L,.none]++(if pl.isEmpty then qax 6 Value.none else pl)).toArray }:Obj)=ob
  have y:=qaj (h:=c) ob D;refine qdv y hd m ?_;have k:c.objs.size≠e:=qcd (qaB D);have B:=qb1 hd (·.setIfInBounds 1 (Value.ref c.objs.size));have v:=qbY (qeg (·.setIfInBounds 1 (Value.ref c.objs.size))) y (qco B);have hT₃:((c.push ob).update e (qeg (·.setIfInBounds 1 (Value.ref c.objs.size)))).get? c.objs.size=some ob:=by
   rw[qa7 _ _ (qb5 k)];exact qaV c (by rw[<-O];rfl)
  have d:∀ b o,b≠e->c.get? b=some o->((c.push ob).update e (qeg (·.setIfInBounds 1 (Value.ref c.objs.size)))).get? b=some o:=λb o K g=>by
   rw[qa7 _ _ (qb5 K)];exact qaj _ g
  have hTn:s.heap.get? c.objs.size=none:=by
   rw[P];cases q:s.heap.get? s.heap.objs.size with
   |none=>rfl
   |some o=>exact absurd (qaB q) (qbD _)
  have hst:∀ l,{ W with heap:=l }={ s with heap:=l }:=λl=>by rw[<-hs1]
  rw[hst];refine hQ _ ⟨λb o g j G=>?_,λb o g j=>?_,λb o g=>?_⟩ ⟨J,I,_,_,c.objs.size,_,_,qfp L,v,by rw[qf4];exact R,B,by simp[m],hN _ hTn,by rw[P];exact hH,k,hT₃,by rw[<-O],?_⟩
  ·have b1:=c1.keep b o g j G
   refine d b o (λz=>?_) ((i.2.1 b j).trans b1);subst z;rw[p]at b1;cases b1;rcases G J with q|q
   ·exact q vs hd
   ·exact q I
  ·obtain⟨sl,b1⟩:=c1.slot b o g j
   obtain⟨sl',b2⟩:=i.2.2 b _ b1;exact⟨sl',d b _ (λz=>X (z ▸ j)) b2⟩
  ·obtain⟨o1,b1⟩:=c1.there b o g
   obtain⟨sl',b2⟩:=i.2.2 b _ b1;by_cases K:b=e
   ·subst K;exact⟨_,v⟩
   ·exact⟨_,d b _ K b2⟩
  ·first|(simp;done)|(rcases hpl with rfl|⟨_,_,_,_,_,_,_,rfl⟩<;>simp)
 rcases x with⟨J,I,t,vs,p,R,hd,F⟩|⟨J,I,t,vs,T,oT,V,fl,p,R,hd,F,nT,tT,k,r,hdT,h3⟩
 ·unfold qdj
  simp only[S];refine qam (qb9 p hd F ?_);rw[iFN (by decide)];exact go s _ _ t vs hl U .refl U J I p R hd (qbV.mp F).1
 ·have m:3<V.size:=(qbV.mp h3).1
  unfold qdj;simp only[S];refine qam (qb9 p hd F ?_);rw[iFP (show (Value.ref T != Value.none)=true from by simp)];refine qam (qb9 r hdT h3 ?_);by_cases hfl:(fl==qfp L)=true
  ·rw[iFP hfl]
   exact qa4 (hQ _ .refl ⟨J,I,t,vs,T,oT,V,fl,p,R,hd,F,nT,tT,k,r,hdT,h3⟩)
  ·rw[iFN hfl]
   refine qam (qdv r hdT m ?_);have d:∀ b,b≠T->(s.heap.update T (qeg (·.setIfInBounds 3 Value.none))).get? b=s.heap.get? b:=λb g=>qa7 _ _ (qb5 g);have nfT:∀ b o,s.heap.get? b=some o->(∀ vs,o.data≠.fields vs)->b≠T:=λb o g u z=>by
    subst z;rw[r]at g;cases g;exact u V hdT
   refine go _ _ _ t vs (hl.of_keeps λb o g u=>⟨o,(d b (nfT b o g u)).trans g,U⟩) ?_ ⟨λb o g j G=>?_,λb o g j=>?_,λb o g=>?_⟩ U J I ((d e (qb5 k)).trans p) R hd (qbV.mp F).1
   ·exact Heap.size_after_update ..
   ·refine (d b λz=>?_).trans g
    subst z;rw[r]at g;cases g;rcases G nT with q|q
    ·exact q V hdT
    ·exact q tT
   ·obtain⟨o',e1,e2⟩:=Y b j
    rw[g]at e1;cases e1;exact⟨o.slots,(d b (nfT b o g e2)).trans g⟩
   ·by_cases w:b=T
    ·subst w
     exact⟨_,qbY _ r (qco (qb1 hdT _))⟩
    ·exact⟨o,(d b w).trans g⟩
theorem y7 {env:Env}{outer:List Env}{base:Heap}{L:Addr}{Q:Unit->qag->Prop} (hfr:A.frames=some (env::outer)) (hl:s.heap.FunFrames base (env::outer)) (S:env.frame=some L)
  (hN:∀ a,s.heap.get? a=none->N a) (hH:H s.heap.objs.size=none) (x:Ex N H s.heap C e)
  (hQ:∀ l,Chg N H (frs (env::outer)) s.heap l->ExT N H l C e->Q () { s with heap:=l }):wpAny M A (qhK env (.ref e)) Q E s:=by
 unfold qhK;refine qam (sM hfr hl S hN hH x λF c1 x1=>?_);refine kQ (s:={ s with heap:=F }) (fs:=frs (env::outer)) (λb g=>?_) x1 λh2 c2 x2=>hQ h2 (c1.trans c2) x2;obtain⟨o,ho,hd⟩:=(hl.mem g).2;obtain⟨sl,e1⟩:=c1.slot b o ho g;exact⟨_,e1,hd⟩
end
def oq (X:Cx) (a:Addr):Prop:=(X.s₀.heap.get? a=none\/a∈X.ex)/\∀ p∈X.pn,p.1≠a
theorem Inv.new {X:Cx}{b:List (Addr×Obj)}{f:St}{H:Hp}{s:qag} (I:Inv X b f H s) {a:Addr} (h:s.heap.get? a=none):oq X a:=by
 refine⟨?_,λp d z=>?_⟩
 ·by_cases c:a∈X.ex
  ·exact .inr c
  ·refine .inl ?_
   cases q:X.s₀.heap.get? a with
   |none=>rfl
   |some o=>
    obtain⟨g,e⟩:=I.base.there a o q c;rw[h]at e;cases e
 ·have:=(I.pin p (qaW _ d)).1
  rw[z,h]at this;cases this
def XE (X:Cx) (C:Value) (H':Hp):Prop:=∀ e a b s',Inv X a b H' s'->Ex (oq X) H' s'.heap C e->X.xe (.ref e) s'
def CX1 (P:qaH) (w:World) (C:Value):CXT:=λouter H s E e s'=>∃ a H',e=.ref a/\s'.os=s.os/\qeb s'.gens/\Un (frs outer) [] H H' s.heap s'.heap/\HOk P w H' s'.heap/\Ex (λb=>s.heap.get? b=none) H' s'.heap C a/\E e none H'
def EX (X:Cx) (C:Value):XK:=λ_ _ H'=>XE X C H'
theorem B8 {X:Cx}{C:Value}:ot (CX1 X.prog X.w C) X (EX X C):=λc d H s e s' I h=>by
 obtain⟨a,H',rfl,os,bare,un,hok,x,q⟩:=h;exact q a c d s' (I.call' (ch:=[]) os un hok bare (λb z=>absurd z (by simp))) (x.imp λb f=>I.new f)
theorem Chg.hok {P:qaH}{w:World}{N:Addr->Prop}{H:Hp}{fs:List Addr}{h f:Heap} (x:HOk P w H h) (g:∀ b∈fs,H b=none) (c:Chg N H fs h f):HOk P w H f:=λa o e=>by
 refine (x a o e).stay (λb u d q=>c.keep b u q (λz=>?_) λ_=>.inr ?_) (λ_ q=>q) λ_ _ q=>q
 ·have:=g b z
  rcases d with rfl|d
  ·rw[e]at this;cases this
  ·rw[d]at this;cases this
 ·rcases d with rfl|d
  ·rw[e];intro z;cases z
  ·rw[d];intro z;cases z
theorem FY {P:qaH}{w:World}{K:qad}{mg:Str->Option Value}{base:Heap}{N:List Str}{g:Str}{d:Scope}{f:Addr}{j:Value}{A:qaS}{outer:List Env}{s:qag}{H H':Hp}{E:XK}{C:Value}
  (D:∀ a,E (.ref a) none H'):XE (lU (CX1 P w C) P w K mg base N g d f j A outer s H E) C H':=by
 intro e t F s' I x;show wpAny (model P w) (A.deeper (qds g d s.heap.objs.size f j)) (qhK (qds g d s.heap.objs.size f j) (.ref e)) _ _ s';refine y7 (base:=base) I.ok.frames I.stack U (λa h=>I.new h) (I.hok.fresh (qaw _)) x λL c B=>?_;have l:∀ b o,s.heap.get? b=some o->¬ oq (lU (CX1 P w C) P w K mg base N g d f j A outer s H E) b:=λb o q z=>by
  rcases z.1 with z|z
  ·have u:s.heap.get? b=none:=z
   rw[q]at u;cases u
  ·exact absurd (show b∈([]:List Addr) from z) (by simp)
 have y:∀ b o,s.heap.get? b=some o->b∉frs outer->b∉frs (qds g d s.heap.objs.size f j::outer):=λb o q i z=>by
  unfold frs at z;rw[qcB]at z;rcases qat.mp z with z|z
  ·exact absurd (qaB q) (by rw[z];exact qbD _)
  ·exact i z
 have m:∀ b,b∈frs outer->b∈frs (qds g d s.heap.objs.size f j::outer):=λb i=>by
  unfold frs;rw[qcB];exact qah _ i
 refine⟨e,H',U,I.os,I.bare,⟨λb o q n i k=>?_,λb o q n i k=>?_,I.base.free,λb o q k=>?_,I.base.tups,I.base.frzs,I.base.tbls⟩,c.hok I.hok I.stkFree,B.ex.imp λa z=>?_,D e⟩
 ·exact c.keep b o (I.base.keep b o q n i k) (y b o q i) λz=>absurd z (l b o q)
 ·obtain⟨J,r⟩:=I.base.slot b o q n i k
  obtain⟨p,G⟩:=c.slot b _ r (m b i);exact⟨p,G⟩
 ·obtain⟨v,r⟩:=I.base.there b o q k
  exact c.there b v r
 ·rcases z.1 with z|z
  ·exact z
  ·exact absurd (show a∈([]:List Addr) from z) (by simp)
abbrev Rf:=Ev->Sto->Option Sto
abbrev Rn:=List W->Sto->Option Sto
def tX (K:qad) (X:Cx) (C:Value) (env:Ev) (st b:Sto) (c:St) (H:Hp):Prop:=∃ φ,Er K H φ env c/\Sr K H φ st/\∀ H' a,Fw φ a H H'->Sr K H' a b->XE X C H'
structure RE (K:qad) (X:Cx) (C:Value) (e:Expr) (f:Rf):Prop where
 run:∀ env st st',f env st=some st'->PE X e (λσ H _=>tX K X C env st st' σ H)
structure RA (K:qad) (X:Cx) (C:Value) (es:List Expr) (f:Rf):Prop where
 run:∀ env st st',f env st=some st'->PA X es (λσ H _=>tX K X C env st st' σ H)
structure RS (K:qad) (X:Cx) (C:Value) (s:Stmt) (f:Rf):Prop where
 run:∀ env st st',f env st=some st'->PS X s (λ_ σ H=>tX K X C env st st' σ H)
structure RSs (K:qad) (X:Cx) (C:Value) (s:List Stmt) (f:Rf):Prop where
 run:∀ env st st',f env st=some st'->PSs X s (λ_ σ H=>tX K X C env st st' σ H)
def xNo:Rf
 |_,_=>none
def di (c:Rf) (a:Sf) (b:Rf):Rf
 |env,st=>match c env st with
 |some s=>some s
 |none=>(a env st).bind λr=>match r with
  |.nx e s=>b e s
  |_=>none
def xIf (c:Tf) (b a:Rf):Rf
 |env,st=>(c env st).bind λr=>if r.1=true then b env r.2 else a env r.2
def gY (m:Rn) (a:Af):Rf
 |env,st=>(a env st).bind λr=>m r.1 r.2
def gE (a:Ef) (b:Rf):Rf
 |env,st=>(a env st).bind λr=>b env r.2
def fF (c:Tf) (b:Sf) (a:Rf):Nat->Ev->Sto->Option Sto
 |0,_,_=>none
 | n+1,env,st=>(c env st).bind λk=>if k.1=true then (match a env k.2 with
   |some s=>some s
   |none=>(b env k.2).bind λr=>match r with
    |.nx e s=>fF c b a n e s
    |.ct e s=>fF c b a n e s
    |_=>none)
  else none
def tY (n:Nat) (c:Tf) (b:Sf) (a:Rf):Rf
 |env,st=>fF c b a n env st
def nj (n k:Nat) (b:Rf):Rn
 |ws,st=>if ws.length=k then (b (ws.map some++qax (n - k) none) st).map λs=>s.take st.length else none
def spX (K:qad) (m:Rn):Sp:=λvs H _ E=>∃ φ st ws b,m ws st=some b/\Rws K H φ ws vs/\Sr K H φ st/\∀ e H' a,Fw φ a H H'->Sr K H' a b->E (.ref e) none H'
section
variable {K:qad}{X:Cx}{C:Value}{e a b c:Expr}{M:List Expr}{s:Stmt}{S O:List Stmt}{pos:Pos}{f fa fb:Rf}{af:Af}{ef:Ef}{sf:Sf}{tc:Tf}
theorem PA.nox {t:TA} (h:PA X.nox M t):PA X M t:=λpos d s l H Q I hw=>
 qbc (h pos d s l H Q (I.wish _) hw) (λ_ _ ⟨v,H',I',r,q⟩=>⟨v,H',I'.unwish,r,q⟩) λ_ _ z=>qbp z
theorem PS.nox {t:TS} (h:PS X.nox s t):PS X s t:=λd s l H D I hw=>
 qbc (h d s l H D (I.wish _) hw) (λ_ _ q=>q.unwish) λ_ _ z=>qbp z
theorem PI.nox {tg iter:Expr}{wi:TI} (h:PI X.nox tg iter wi):PI X tg iter wi:=λd s l H R I hw=>
 qbc (h d s l H R (I.wish _) hw) (λ_ _ q=>qbc q (λ_ _ ⟨it,fp,tn,J,H',e,I',T,st,fp',r⟩=>⟨it,fp,tn,J,H',e,I'.unwish,T,st,fp',r⟩) λ_ _ z=>qbp z) λ_ _ z=>qbp z
theorem zo:PA X M (λ_ _ _=>False):=λ_ _ _ _ _ _ _ q=>q.elim
theorem Fy:RE K X C e xNo:=⟨λ_ _ _ h=>nomatch h⟩
theorem iI:RS K X C s xNo:=⟨λ_ _ _ h=>nomatch h⟩
theorem dy:RSs K X C S xNo:=⟨λ_ _ _ h=>nomatch h⟩
theorem iX {x:Str}{k j:Nat}{ff:Addr}{fd:qaZ}{ps:List Str}{m:Rn}{p:Pos} (F:bv X.prog X.w X.K X.mg X.base (CX1 X.prog X.w C) j ff fd ps (spX K m)) (hjk:j<=k) (hr:ez k X.A) (hg:Gl X x) (hm:X.mg x=some (.ref ff)) (hk:qay X.K (.ref ff)=true) (hb:bP X.K fd ps [])
  (Y:IA K X.nox (e::M) af) (hdb:(x==("__debug__" : Str))=false:=by decide) (hs:aN e=true:=by rfl) (hp:M.all aN=true:=by rfl) :
  RE K X C (.Call (.Name x p) (e::M) [] pos) (gY m af):=by
 refine⟨λenv st o h=>?_⟩;simp only[gY,qab]at h;obtain⟨y,hy,h⟩:=h;refine (wU (F.mono hjk) hr hg hm hk hb .nil B8 (Y.run _ _ _ hy).nox hdb (bB hs) (cu hp)).imp ?_
 rintro l H Q ⟨φ,G,E,q⟩
 refine⟨φ,G,E,λvs H1 B f1 L w1=>?_⟩;show spX K m (vs++[]) H1 Q (EX X C);rw[qa5];exact⟨B,y.2,y.1,o,h,w1,L,λ_ H2 g f2 s2=>q H2 g (f1.trans f2) s2⟩
theorem mz (h:RE K X C e f) (hs:aN e=true:=by rfl):RA K X C (e::M) f:=
 ⟨λenv st o A=>(kW (h.run _ _ _ A) zo (bB hs)).imp λl H Q q=>q⟩
theorem uS (h:IE K X.nox e ef) (hr:RA K X C M f) (hs:aN e=true:=by rfl):RA K X C (e::M) (gE ef f):=by
 refine⟨λenv st o A=>?_⟩;simp only[gE,qab]at A;obtain⟨y,hy,A⟩:=A;refine (kW (h.run _ _ _ hy).nox (hr.run _ _ _ A) (bB hs)).imp ?_
 rintro l H Q ⟨φ,G,E,q⟩
 exact⟨φ,G,E,λv H1 B f1 L w1=>⟨B,G.fw E f1,L,λH2 g f2 s2=>q H2 g (f1.trans f2) s2⟩⟩
theorem zU {x1} (h:RA K X C M f):RE K X C (.Tuple M x1 pos) f:=⟨λenv st o A=>(zy (h.run _ _ _ A)).imp λl H Q q=>q⟩
theorem D6 (h:RA K X C M f):RE K X C (.List M pos) f:=⟨λenv st o A=>(tj (h.run _ _ _ A)).imp λl H Q q=>q⟩
theorem Cm {x:Str}{T:String}{p:Pos} (hg:Gl X x) (hm:X.mg x=none) (hv:qb6 x=some (.type T)) (Y:RA K X C (e::M) f)
  (hn:x≠"__name__":=by decide) (hdb:(x==("__debug__" : Str))=false:=by decide) (hs:aN e=true:=by rfl) (hp:M.all aN=true:=by rfl) :
  RE K X C (.Call (.Name x p) (e::M) [] pos) f:=
 ⟨λenv st o A=>(ng (r:=λ_ _ _=>False) (λ_ _ _ _ _ _ _ _ _ q=>q.elim) hg hm hv (Y.run _ _ _ A) hn hdb (bB hs) (cu hp)).imp λl H Q q=>q⟩
theorem Fx (hc:IT K X.nox c tc) (Y:RE K X C a fa) (hb:RE K X C b fb):RE K X C (.IfExp c a b pos) (xIf tc fa fb):=by
 refine⟨λenv st o A=>?_⟩;simp only[xIf,qab]at A;obtain⟨⟨k,L⟩,N,A⟩:=A;cases k with
 |true=>
  rw[iFP U]at A;refine (mv (hc.run _ _ _ N).nox (Y.run _ _ _ A) gX).imp ?_
  rintro l H Q ⟨φ,G,E,q⟩
  refine⟨φ,G,E,λH1 B f1 L=>?_⟩;refine vq ?_;exact⟨B,G.fw E f1,L,λH2 g f2 s2=>q H2 g (f1.trans f2) s2⟩
 |false=>
  rw[iFN qaR]at A;refine (mv (hc.run _ _ _ N).nox gX (hb.run _ _ _ A)).imp ?_
  rintro l H Q ⟨φ,G,E,q⟩
  refine⟨φ,G,E,λH1 B f1 L=>?_⟩;refine xM ?_;exact⟨B,G.fw E f1,L,λH2 g f2 s2=>q H2 g (f1.trans f2) s2⟩
theorem lN {i:Nat}{x:Str}{pos':Pos} (hN:X.N.Nodup) (hi:X.N[i]?=some x) (N:Loc X.env.scope x) (he:RE K X C e f) (hs:qd3 e (some (.Name x pos')) pos.line X.env=pure false:=by rfl) (A:X.fn x=true\/X.env.scope.names.lookup x=some .local:=by first|exact .inl U|exact .inr U|assumption) :
  RS K X C (.Assign [.Name x pos'] e pos) f:=⟨λenv st o h=>(zF hN hi N (he.run _ _ _ h) hs A).imp λD l H q=>q⟩
theorem zZ (he:RE K X C e f):RS K X C (.Return (some e) pos) f:=⟨λenv st o h=>(vO (he.run _ _ _ h)).imp λD l H q=>q⟩
theorem jS (hc:IT K X.nox c tc) (Y:RSs K X C S fa) (hb:RSs K X C O fb):RS K X C (.If c S O pos) (xIf tc fa fb):=by
 refine⟨λenv st o A=>?_⟩;simp only[xIf,qab]at A;obtain⟨⟨k,L⟩,N,A⟩:=A;cases k with
 |true=>
  rw[iFP U]at A;refine (w6 (hc.run _ _ _ N).nox (Y.run _ _ _ A) fM).imp ?_
  rintro D l H ⟨φ,G,E,q⟩
  refine⟨φ,G,E,λH1 B f1 L=>?_⟩;refine vq ?_;exact⟨B,G.fw E f1,L,λH2 g f2 s2=>q H2 g (f1.trans f2) s2⟩
 |false=>
  rw[iFN qaR]at A;refine (w6 (hc.run _ _ _ N).nox fM (hb.run _ _ _ A)).imp ?_
  rintro D l H ⟨φ,G,E,q⟩
  refine⟨φ,G,E,λH1 B f1 L=>?_⟩;refine xM ?_;exact⟨B,G.fw E f1,L,λH2 g f2 s2=>q H2 g (f1.trans f2) s2⟩
theorem dW (h:RS K X C s f):RSs K X C [s] f:=⟨λenv st o A=>(tq (h.run _ _ _ A)).imp λD l H q=>q⟩
theorem aY (N:RS K X C s fa) (h:IS K X.nox s sf) (hr:RSs K X C O fb):RSs K X C (s::O) (di fa sf fb):=by
 refine⟨λenv st o A=>?_⟩;simp only[di]at A;cases Y:fa env st with
 |some L=>
  rw[Y]at A;cases A;exact (jo (N.run _ _ _ Y) fM).imp λD l H q=>q
 |none=>
  rw[Y]at A;obtain⟨r,h1,A⟩:=qab.mp A;cases r with
  |nx e1 L=>
   refine (jo (h.run _ _ _ h1).nox (hr.run _ _ _ A)).imp ?_
   rintro D l H ⟨φ,G,E,q⟩
   exact⟨φ,G,E,λσ' H' φ' f' e' s'=>⟨φ',e',s',λH2 g f2 s2=>q H2 g (f'.trans f2) s2⟩⟩
  |rt w L=>cases A
  |bk w L=>cases A
  |ct w L=>cases A
theorem PSs.or {t u:TS} (h:PSs X S t) (h':PSs X S u):PSs X S (λD l H=>t D l H\/u D l H):=λd s l H D I q=>q.elim (h d s l H D I) (h' d s l H D I)
theorem PE.or {t u:TE} (h:PE X e t) (h':PE X e u):PE X e (λl H Q=>t l H Q\/u l H Q):=λd s l H Q I q=>q.elim (h d s l H Q I) (h' d s l H Q I)
def tXa (K:qad) (X:Cx) (C:Value) (x:Rf) (l:St) (H:Hp):Prop:=∃ env st o,x env st=some o/\tX K X C env st o l H
theorem RSs.any (h:RSs K X C S f):PSs X S (λ_ l H=>tXa K X C f l H):=λd s l H D I ⟨env,st,o,e,q⟩=>h.run env st o e d s l H D I q
theorem RE.any (h:RE K X C e f):PE X e (λl H _=>tXa K X C f l H):=λd s l H D I ⟨env,st,o,e,q⟩=>h.run env st o e d s l H D I q
theorem z3 (n:Nat) (hc:IT K X.nox c tc) (hb:ISs K X.nox S sf) (N:RSs K X C S f) (hp:qe9 (model X.prog X.w) X.A X.env X.xe):RS K X C (.While c S [] pos) (tY n tc sf f):=by
 refine⟨λenv st o hr=>?_⟩;refine (uP hp hc.any.nox (hb.any.nox.or N.any)).imp ?_
 rintro D l H ⟨φ,G,E,q⟩
 refine⟨λm l H'=>∃ env st g,Fw φ g H H'/\Er K H' g env l/\Sr K H' g st/\fF tc sf f m env st=some o,⟨n,env,st,φ,Fw.refl _ _,G,E,hr⟩,?_⟩
 rintro m l H2 ⟨P,st2,g,f2,e2,S2,V⟩
 cases m with
 |zero=>cases V
 |succ m=>
  simp only[fF,qab]at V;obtain⟨⟨k,s3⟩,hk,V⟩:=V;refine⟨P,st2,_,hk,g,e2,S2,λH3 φ3 f3 S3=>?_⟩;cases k with
  |false=>
   rw[iFN qaR]at V;cases V
  |true=>
   rw[iFP U]at V;have f3':=f2.trans f3;refine vq ⟨λσ' H'=>∃ env st g,Fw φ g H H'/\Er K H' g env σ'/\Sr K H' g st/\fF tc sf f m env st=some o,λσ' H' p'=>⟨m,qbI _,p'⟩,?_⟩;cases N:f P s3 with
   |some s4=>
    rw[N]at V;cases V;exact .inr ⟨P,s3,_,N,φ3,e2.fw S2 f3,S3,λH4 W f4 S4=>q H4 W (f3'.trans f4) S4⟩
   |none=>
    rw[N]at V;obtain⟨r3,hr3,h3⟩:=qab.mp V;refine .inl ⟨P,s3,r3,hr3,φ3,e2.fw S2 f3,S3,?_⟩;cases r3 with
    |nx e4 s4=>exact λσ4 H4 W f4 e4' s4'=>⟨e4,s4,W,f3'.trans f4,e4',s4',h3⟩
    |ct e4 s4=>exact λσ4 H4 W f4 e4' s4'=>⟨e4,s4,W,f3'.trans f4,e4',s4',h3⟩
    |bk e4 s4=>cases h3
    |rt w s4=>cases h3
end
theorem sq {P:qaH}{w:World}{K:qad}{mg:Str->Option Value}{base:Heap}{C:Value}{x c:Str}{st:Stmt}{f:Addr}{fd:qaZ}{N ps:List Str}{k:Nat}{b:Rf} (F:Fun K x c st f fd) (S:aZ N ps (ak st))
  (u:∀ (d:Value) (A:qaS) (outer:List Env) (s:qag) (H:Hp) (E:XK),ez k (A.deeper (qds c (ak st) s.heap.objs.size f d))->RSs K (lU (CX1 P w C) P w K mg base N c (ak st) f d A outer s H E) C (aP st) b) :
  bv P w K mg base (CX1 P w C) (k+1) f fd ps (spX K (nj N.length ps.length b)):=by
 obtain⟨y,D,kV,l,G,z,d,ct,t,rfl,m,i⟩:=F.ex;refine BX m i S (λvs H Q E h=>?_) λA outer s H vs Q E o h=>?_
 ·obtain⟨φ,st,ws,r,e,rw,_⟩:=h
  rw[nj]at e;by_cases g:ws.length=ps.length
  ·rw[<-rw.length,g]
  ·rw[iFN g]at e;cases e
 ·obtain⟨φ,p,ws,r,e,rw,S',q⟩:=h
  rw[nj]at e;by_cases g:ws.length=ps.length
  ·rw[iFP g]at e
   obtain⟨I,v,rfl⟩:=qac.mp e;refine⟨_,(u d A outer s H E o).run _ _ _ v,φ,o0 rw g,S',λH' n j s'=>FY λa=>?_⟩;refine q a H' φ j.less ?_;obtain⟨B,rfl,_⟩:=j.ext;rw[<-S'.len];exact s'.less
  ·rw[iFN g]at e;cases e
theorem gm.there {P:qaH}{w:World}{H:Hp}{h:Heap}{a:Addr}{o:HO} (x:gm P w H h a o):∃ ob,h.get? a=some ob:=by
 cases o with
 |lst b=>obtain⟨_,_,_,_,e⟩:=x;exact⟨_,e⟩
 |tup b=>obtain⟨_,_,_,_,e,_⟩:=x;exact⟨_,e⟩
 |dK kvs=>obtain⟨_,_,_,_,o,_,_,e,_⟩:=x;exact⟨_,e⟩
 |dT kvs=>obtain⟨_,_,_,_,o,_,_,e,_⟩:=x;exact⟨_,e⟩
 |set S n=>obtain⟨o,_,_,_,e,_⟩:=x;exact⟨_,e⟩
 |ins C c fs=>obtain⟨_,_,_,e,_⟩:=x;exact⟨_,e⟩
 |own y=>obtain⟨_,e⟩:=x;exact⟨_,e⟩
 |xd fs=>obtain⟨_,⟨_,_,_,e,_⟩,_⟩:=x;exact⟨_,e⟩
 |rng lo hi=>obtain⟨_,_,_,e⟩:=x;exact⟨_,e⟩
 |frz ob u=>obtain⟨e,_⟩:=x;exact⟨_,e⟩
 |tbl ps=>exact⟨_,show h.get? a=some _ from x⟩
 |met f y=>exact⟨_,show h.get? a=some _ from x⟩
 |ext φ=>obtain⟨_,⟨_,e⟩,_⟩:=x;exact⟨_,e⟩
theorem HOk.none_of {P:qaH}{w:World}{H:Hp}{h:Heap}{a:Addr} (x:HOk P w H h) (e:h.get? a=none):H a=none:=by
 cases q:H a with
 |none=>rfl
 |some o=>
  obtain⟨ob,z⟩:=(x a o q).there;rw[e]at z;cases z
def eR (a:Af):Rf
 |env,st=>(a env st).bind λr=>if r.1.length<=1000 then some r.2 else none
section
variable {K:qad}{X:Cx}{C:Addr}{e:Expr}{m:List Expr}{pos S f:Pos}{n:Af}
theorem zY {x:Str}{B a c:String}{bm:List Value} (O:OwnCls x C bm a X.mg X.base) (FB:ExcBaseFacts B a c bm) (G:X.calm=true) (M:Gl X x) (ha:IA K X.nox (e::m) n)
  (hd:(x==("__debug__" : Str))=false:=by decide) (p:aN e=true:=by rfl) (R:m.all aN=true:=by rfl) :
  RS K X (.ref C) (.Raise (some (.Call (.Name x S) (e::m) [] f)) none pos) (eR n):=by
 refine⟨λenv st Y g=>?_⟩;simp only[eR,qab]at g;obtain⟨y,W,g⟩:=g;by_cases h:¬ y.1.length<=1000
 ·rw[iFN h]at g;cases g
 have v:y.1.length<=1000:=Decidable.not_not.mp h;rw[iFP v]at g;cases g
 rintro d s u H D I ⟨φ,hE,A,q⟩
 obtain⟨tl,N,nm,L,bs,hdct,sn,sub,ab,col,dd,k0,k1,k2,k3,k5,mN,P,J,j,T⟩:=O.obj;refine wpAny_Raise_call_subT (C:=C) (nm:=nm) (q:=L) (N:=N) (bs:=bs) (bm:=tl) (hdct:=hdct) (sn:=sn) (sub:=sub) (ab:=ab) (col:=col) (dd:=dd) (k0:=k0) (k1:=k1) (k2:=k2) (k3:=k3) (k5:=k5)
  FB (mN:=mN) (T.hasType FB.hasBase) (I.ok.hd G) (cu (by rw[qaQ,p,R];rfl)) j (oi I M O.bound ⟨U,?_⟩ hd)
 have r:=(ha.run _ _ _ W).nox f d s u H (λvs H1=>y.1.length=vs.length/\XE X (.ref C) H1) I ⟨φ,hE,A,λvs H1 l f1 i V=>⟨V.length,q H1 l f1 i⟩⟩;rw[bB p]at r ⊢;refine qfg (thn r λE i ⟨vs,H1,I1,F,w⟩=>?_);have k:∀ b o,X.base.get? b=some o->i.heap.get? b=some o:=I1.bk;refine⟨U,?_,k _ _ P,J.keeps k,T.keeps k,λQ ex hm=>?_⟩
 ·show E.length<=qaK
  rw[<-F.length,<-w.1];exact qdO (rf v)
 ·obtain⟨t,z,_⟩:=hm.there
  exact w.2 ex d u { i with heap:=Q } (I1.kept (t':=i.toks) hm.keeps) (.inl ⟨I1.new hm.new,I1.hok.none_of hm.new,_,_,z,U,U,U⟩)
end
theorem jV {prog:qaH}{w:World}{A:qaS}{R:qhM->qag->Prop}{s:qag}{k a iter:Expr}{c:Scope}{pos:Pos}{u l:Value}{env:Env} (I:Nat->qag->Prop)
  (turn:∀ n s,I n s->wpAny (model prog w) A (pyNext u) (λr g=>match r with
    |none=>False
    | some v=>wpAny (model prog w) A (qd4 a u v) (λ_ b=>wpAny (model prog w) A (qew a env v) (λ_ j=>
       wpAny (model prog w) A (eval k env) (λx f=>
        wpAny (model prog w) A (call (.builtin "list.append") [l,x]) (λ_ e=>∃ m,m<n/\I m e) (λ_ _=>False) f) (notedBy (model prog w) A env λx s'=>R (.error x) s') j) (λ_ _=>False) b) (λ_ _=>False) g) (λ_ _=>False) s)
  (n:Nat) (h:I n s) :
  qd6 (model prog w) A (.compLoop (.ListComp k [⟨a,iter,[],0⟩] c pos) 0 u l env) R s:=by
 refine codeAny_loop U I (λn s y=>?_) n h;show wpAny _ A ((compTurn (.ListComp k [⟨a,iter,[],0⟩] c pos) 0 u l env).onRaise (λx=>do qdj x env;theTreesLotGoes x)) _ _ s;refine wpAny_noted ?_;rw[compTurn_list];refine qam (qdJ (qam (qbc (turn n s y) (λr g i=>?_) λ_ _ d=>d.elim)));cases r with
 |none=>exact i.elim
 |some v=>
  refine qam (qbc i (λ_ b o=>?_) λ_ _ d=>d.elim);refine qam (qbc o (λ_ j p=>qam (qhI ?_)) λ_ _ d=>d.elim);exact qam (qam (qbc p (λx f t=>qam (qbc t (λ_ e q=>qa4 (qa4 ⟨U,q⟩)) λ_ _ d=>d.elim)) λ_ _ d=>d))
abbrev Cx.zx (X:Cx) (C:Value) (Zq:Hp->Prop):Cx:=X.wish (λu s'=>∃ e H' a b,u=.ref e/\Inv X a b H' s'/\Ex (oq X) H' s'.heap C e/\Zq H')
theorem FZ {X:Cx}{C:Value}{Zq:Hp->Prop}{H':Hp} (c:Zq H'):XE (X.zx C Zq) C H':=λe a b s' I x=>⟨e,H',a,b,U,I.unwish,x,c⟩
theorem nZ {e:Value}{env env':Env} (h:env.frame=env'.frame):qdj e env=qdj e env':=by
 unfold qdj PySem.frameOf;rw[h]
def Cr (J:It) (b:St) (g:TG) (te:TE) (H1:Hp):Prop:=∃ W:Nat->Nat->List V->Hp->Prop,(∃ m,W 0 m [] H1)/\∀ i m d H,W i m d H->
 J.go i H/\d.length<qaK/\∃ N:List V->Hp->Prop,(∀ c H',N c H'->∃ e,e<m/\W (i+1) e c H')/\∀ x H',J.yld i H x H'->g x b H' λa H2=>Sub b a/\te a H2 λv H4=>N (d++[v]) H4
section
variable {X:Cx}{d:Scope}{Nc:List Str}{emb:St->St}{P iter tg:Expr}{pos:Pos}{wi:TI}{g:TG}{te:TE}{Cv:Value}
theorem DG (S:fP X d Nc emb) (hc:X.calm=true) (M:X.stack=X.env::X.outer) (hi:PI X tg iter wi)
  (hg:∀ f s H C A,PG (lcX X d f Nc s H C A) tg g) (he:∀ f s H C A,PE ((lcX X d f Nc s H C A).zx Cv (XE X Cv)) P te)
  (hs:∀ x,qbO iter X.env x=pure x:=by intro _;rfl):PE X (.ListComp P [⟨tg,iter,[],0⟩] d pos) (λσ H _=>wi σ H λJ H1=>Cr J (emb σ) g te H1):=by
 intro F s σ H Q I h;rw[eval_ListComp];refine qdB (use:=none) U hs (i5 (S.clos I.ok)) S.kind (λx Y hl=>fT S.nd (by rw[<-hl];exact Y)) ?_;refine thn (hi F s σ H _ I h) λv s1 h1=>thn h1 λitv s2 h2=>?_;obtain⟨it,A,tn,J,H2,e,I2,T,st2,f2,W,⟨m0,w0⟩,turn⟩:=h2;subst e;refine qcv (jB ?_);rw[show (s2.heap.push { cls:=.type "list",dict:=none,data:=.seq ([]:List Value).toArray }).objs.size=s2.heap.objs.size+1 from qbR ..]
 generalize hD:s2.heap.objs.size=D;generalize hlo:({ cls:=.type "list",dict:=none,data:=.seq ([]:List Value).toArray }:Obj)=lo
 have fplt:∀ b∈A,b<s2.heap.objs.size:=λb l=>by obtain⟨o,e,_⟩:=T.obj _ _ st2 b l;exact qaB e
 have I3:=pz (lo:=lo) S I2 f2 (λb l=>by obtain⟨o,e,_⟩:=T.obj _ _ st2 b l;exact⟨o,e⟩) (by rw[<-hlo];intro v z;cases z) (by rw[<-hlo];rfl);rw[hD]at I3;generalize hcells:qbX (D+2) d.names (eY X.env.cells d.names [])=f at I3;generalize j:lcX X d f Nc s2 H2 (D+1) A=X' at I3;have hfpX:∀ {H':Hp}{ps:List (Addr×Obj)},(∀ b∈A,H' b=none)->(∀ p∈ps,p.1=D)->∀ b∈A,j7 X' ps H' b:=λ{H' ps} hn hps b l=>by
  have ok:=I3.ok;refine⟨hn b l,?_,?_,.inl (by rw[<-j];exact l),?_,λp L=>?_⟩
  ·exact (ok.exf b (by rw[<-j];exact l)).1
  ·exact ok.exfs b (by rw[<-j];exact l)
  ·exact (ok.exf b (by rw[<-j];exact l)).2
  ·have hp':p∈([]:List (Addr×Obj))++ps:=by rw[<-j]at L;exact L
   have e:p.1=D:=hps p (by simpa using hp');rw[e,<-hD];exact qcd (fplt b l)
 have Dex:D∈X'.ex\/X'.s₀.heap.objs.size<=D:=.inr (by rw[<-j,<-hD];exact qaw _);have Dloc:D≠X'.env.locals:=by rw[<-j];exact qaO (qbI _)
 have pD:=I3.pin (D,lo) (by rw[<-j];exact qap _ qae);have Dfs:D∉X'.fs:=pD.2.2.2.1;have Dcell:∀ x c,X'.env.cells.lookup x=some c->c≠D:=λx c hc' e=>by
  obtain⟨v,o,ho,hd⟩:=I3.cell x c hc';rw[e,pD.1]at ho;cases ho;exact pD.2.2.2.2 v hd
 have hA:X'.A=X.A:=by rw[<-j];rfl
 have hP:X'.prog=X.prog:=by rw[<-j];rfl
 have hw:X'.w=X.w:=by rw[<-j];rfl
 have hE:X'.env=qc8 d f (D+1) X.env:=by rw[<-j];rfl
 have hxe:X'.xe=λ_ _=>False:=by rw[<-j];rfl
 have eC:X'.env.locals=D+1:=by rw[hE];rfl
 have hfr:X.env.frame=some X.env.locals:=by
  rcases I.ok.stk with q|q
  ·rw[M]at q
   exact absurd (congrArg qb3 q) (by rw[qaf];exact qdz _)
  ·exact q.2
 have t:∀ b o,s2.heap.get? b=some o->b≠D/\b≠D+1:=λb o e=>by
  have q:=qaB e;rw[hD]at q;exact⟨qaO q,qaO (qbl q)⟩
 have newN:∀ a,oq X' a->oq X a:=λa hn=>by
  have hn1:s2.heap.get? a=none\/a∈A:=by have:=hn.1;rw[<-j]at this;exact this
  rcases hn1 with q|q
  ·exact I2.new q
  ·obtain⟨_,_,_,O,_,q5⟩:=f2 a q
   refine⟨?_,λp L=>q5 p (qaW _ L)⟩;rcases O with O|O
   ·exact .inr O
   ·exact .inl (qfo O)
 -- the exception goes out of the block
 have out:∀ (m:qag) (u:Value),(X'.zx Cv (XE X Cv)).xe u m->notedBy (model X.prog X.w) X.A (qc8 d f (D+1) X.env) (λx s'=>qgq (model X.prog X.w) X.A X.xe none (EP X F σ Q) (.ref D) (D+1) (.error x) s') u m:=by
  rintro m u ⟨e,H9,pins9,σ9,rfl,I9,x9,z9⟩
  show wpAny (model X.prog X.w) X.A (qdj (.ref e) (qc8 d f (D+1) X.env)) _ _ m;rw[nZ (env:=qc8 d f (D+1) X.env) (env':=X.env) U];have fr9:X.A.frames=some (X.env::X.outer):=by rw[I.ok.frames,M]
  have ff9:m.heap.FunFrames X.base (X.env::X.outer):=by
   have q:=I9.stack;rw[<-j]at q;have q':m.heap.FunFrames X.base X.stack:=q
   rwa [M]at q'
  have E:Un (frs X.stack) A H2 H9 s2.heap m.heap:=by have q:=I9.base;rw[<-j]at q;exact q
  have stkF:∀ b∈frs X.stack,H9 b=none:=by have q:=I9.stkFree;rw[<-j]at q;exact q
  have hok9:HOk X.prog X.w H9 m.heap:=by have q:=I9.hok;rw[<-j]at q;exact q
  obtain⟨m9,⟨oC,es9,ep9,hoC,hdC,hrC⟩,_⟩:=id I9.loc;rw[eC]at hoC;have CnF:D+1∉frs X.stack:=λz=>by
   obtain⟨_,o,ho,_⟩:=I2.stack.mem z;exact (t _ o ho).2 U
  refine sM (base:=X.base) fr9 ff9 hfr (λa ha=>I9.new ha) (hok9.fresh (qaw _)) x9 λh1 c1 x1=>?_;rw[<-M]at c1;have hC1:h1.get? (D+1)=some oC:=c1.keep _ _ hoC CnF λ_=>.inl (by rw[hdC];intro vs z;cases z);refine⟨m9,⟨oC,es9,ep9,hC1,hdC,hrC⟩,λh2 B cenv hcl=>?_⟩;have neC:∀ b,H9 b≠none->b≠D+1:=λb l z=>by
   have q:=I9.free;rw[eC,<-z]at q;exact l q
  have eT:∀ a o vs,h1.get? a=some o->o.data=.fields vs->a≠D+1:=λa o vs ha hd z=>by
   rw[z,hC1]at ha;cases ha;rw[hdC]at hd;cases hd
  have x2:ExT (oq X') H9 h2 Cv e:=by
   obtain⟨nE,tE,oe,vs,T',oT,ts,fl,q1,q2,O,q4,q5,q6,q7,q8,q9,q10⟩:=x1;exact⟨nE,tE,oe,vs,T',oT,ts,fl,(B.2 _ (eT _ _ _ q1 O)).trans q1,q2,O,q4,q5,q6,q7,(B.2 _ (eT _ _ _ q8 q9)).trans q8,q9,q10⟩
  have fs2:∀ b∈frs X.stack,∃ o,h2.get? b=some o/\∀ vs,o.data≠.fields vs:=λb l=>by
   rw[M]at l;obtain⟨_,o,ho,hd⟩:=ff9.mem l;rw[<-M]at l;have hb':b∈frs X.stack:=l;obtain⟨sl,q⟩:=c1.slot b o ho hb';exact⟨_,(B.2 b λz=>CnF (z ▸ hb')).trans q,hd⟩
  unfold PySem.passOn;obtain⟨nE,tE,oe,vs,T',oT,ts,fl,q1,q2,O,q4,q5⟩:=id x2;refine qam (qb9 q1 O q4 ?_);rw[iFN (show ¬ ((Value.ref T'==Value.none)=true) from by simp)];have step:∀ h3,Chg (oq X') H9 (frs X.stack) h2 h3->ExT (oq X') H9 h3 Cv e->X.xe (.ref e) { m with heap:=h3 }:=λh3 c3 x3=>by
   have keepT:∀ b o,m.heap.get? b=some o->H9 b≠none->h3.get? b=some o:=λb o l hn=>by
    have nb:b∉frs X.stack:=λz=>hn (stkF b z);exact c3.keep b o ((B.2 b (neC b hn)).trans (c1.keep b o l nb λ_=>.inr hn)) nb λ_=>.inr hn
   have oldN:∀ b o,s2.heap.get? b=some o->b∉A->¬ oq X' b:=λb o q l z=>by
    have z1:s2.heap.get? b=none\/b∈A:=by have:=z.1;rw[<-j]at this;exact this
    rcases z1 with z1|z1
    ·rw[q]at z1;cases z1
    ·exact l z1
   have hok3:HOk X.prog X.w H9 h3:=λa o q=>by
    refine (hok9 a o q).stay (λb u l r=>keepT b u r ?_) (λ_ r=>r) λ_ _ r=>r;rcases l with rfl|l
    ·rw[q];intro z;cases z
    ·rw[l];intro z;cases z
   refine z9 e F σ _ (I2.call' (s':={ m with heap:=h3 }) (ch:=A) ?_ ⟨λb o q nb l Y=>?_,λb o q nb l Y=>?_,E.free,λb o q Y=>?_,E.tups,E.frzs,E.tbls⟩ hok3 I9.bare λb l=>?_) (x3.ex.imp newN)
   ·have:=I9.os
    rw[<-j]at this;exact this
   ·have q9:=E.keep b o q nb l Y
    exact c3.keep b o ((B.2 b (t b o q).2).trans (c1.keep b o q9 l λz=>absurd z (oldN b o q Y))) l λz=>absurd z (oldN b o q Y)
   ·obtain⟨sl,q9⟩:=E.slot b o q nb l Y
    obtain⟨sl1,r1⟩:=c1.slot b _ q9 l;obtain⟨sl3,r3⟩:=c3.slot b _ ((B.2 b (t b o q).2).trans r1) l;exact⟨sl3,r3⟩
   ·obtain⟨o9,q9⟩:=E.there b o q Y
    obtain⟨o1,r1⟩:=c1.there b _ q9;exact c3.there b o1 ((B.2 b (t b o q).2).trans r1)
   ·obtain⟨q0,q1,q2,O,q4,q5⟩:=f2 b l
    exact⟨O,q1,q4,q5⟩
  have fly:wpAny (model X.prog X.w) X.A (qfT (.ref e) cenv.frame >>= λ_=>(throw (Value.ref e):Sem Value)) (λ_ _=>False) X.xe { m with heap:=h2 }:=
   qam (kQ (s:={ m with heap:=h2 }) (fs:=frs X.stack) fs2 x2 λh3 c3 x3=>wpAny_throw (step h3 c3 x3))
  first
   |exact fly
   |exact qam (qa4 fly)
 -- the V
 have V:∀ s3:qag,s3={ s2 with heap:=qdE ((s2.heap.push lo).push { cls:=.type "dict",data:=.dict #[] }) d.names }->
   qd6 (model X.prog X.w) X.A (.compLoop (.ListComp P [⟨tg,iter,[],0⟩] d pos) 0 (.ref it) (.ref D) (qc8 d f (D+1) X.env))
    (qgq (model X.prog X.w) X.A X.xe none (EP X F σ Q) (.ref D) (D+1)) s3:=by
  rintro s3 rfl
  refine jV (λn s'=>∃ i ys w k H',Inv X' [(D,{ cls:=.type "list",data:=.seq w.toArray k })] (emb σ) H' s'/\bn ys w/\tn i s'.heap/\(∀ b∈A,H' b=none)/\ys.length<=qaK/\W i n ys H') ?_ m0
   ⟨0,[],[],0,H2,?_,.nil,?_,λb l=>(f2 b l).1,qbs _,w0⟩
  ·rintro n s4 ⟨i,ys,w,k,H4,I4,rv,st4,fr4,hlen,w4⟩
   have hps:∀ p∈[(D,({ cls:=.type "list",data:=.seq w.toArray k }:Obj))],p.1=D:=λp L=>by
    have:=qaz.mp L
    rw[this]
   obtain⟨go,hlt,N,hN,step⟩:=turn i n ys H4 w4;have TI':=T.item X' hP hw (by rw[<-j];rfl) (by rw[<-j];exact hc) i _ s4 (emb σ) H4 (λ_ _=>False) I4 (hfpX fr4 hps) st4 go;rw[hA]at TI';refine thn TI' λr s5 ⟨u,hr,h5⟩=>?_;subst hr;refine thn h5 λ_ s6 ⟨x,H6,I6,r6,y6,st6,fr6⟩=>?_;have I6':=I6.pinned (hfpX fr6 hps) (T.obj _ _ st6);have G:=hg f s2 H2 (D+1) A;have EE:=he f s2 H2 (D+1) A;rw[j]at G EE;have G':=G _ s6 (emb σ) H6 x u _ I6' r6 (step x H6 y6);rw[hA,hP,hw,hE,hxe]at G';refine thn G' λ_ s7 ⟨σ7,H7,I7,sb7,q7⟩=>?_
   -- what is pinned
   have K:∀ {σ9:St}{H9:Hp}{m:qag},Inv X' ([(D,({ cls:=.type "list",data:=.seq w.toArray k }:Obj))]++lJ A s6.heap) σ9 H9 m->tn (i+1) m.heap/\∀ b∈A,H9 b=none:=λ{σ9 H9 m} I9=>
    ⟨T.keep _ _ _ st6 λb l o e=>(I9.pin (b,o) (qap _ (qap _ (dR l e)))).1,λb l=>by
     obtain⟨o,e,_⟩:=T.obj _ _ st6 b l
     exact (I9.pin (b,o) (qap _ (qap _ (dR l e)))).2.1⟩
   have E':wpAny (model X.prog X.w) X.A (eval P (qc8 d f (D+1) X.env)) (EP (X'.zx Cv (XE X Cv)) ([(D,({ cls:=.type "list",data:=.seq w.toArray k }:Obj))]++lJ A s6.heap) σ7 λv H4=>N (ys++[v]) H4) (X'.zx Cv (XE X Cv)).xe s7:=by
    have q:=EE _ s7 σ7 H7 _ (I7.wish _) q7;have q':wpAny (model X'.prog X'.w) X'.A (eval P X'.env) _ (X'.zx Cv (XE X Cv)).xe s7:=q;rw[hA,hP,hw,hE]at q';exact q'
   refine qbc E' (λy m ⟨v9,H9,I9z,r9,n9⟩=>?_) λu m Y=>out m u Y;have I9:=I9z.unwish;obtain⟨m',hm,w9⟩:=hN _ _ n9;have R:=I9.pin (D,{ cls:=.type "list",data:=.seq w.toArray k }) (qap _ (qaW _ qae))
   have hl:=rv.length;have I9n:Inv X' [] σ7 H9 m:=I9.pins_of λp L=>nomatch L
   refine qcl qdo ⟨_,R.1,U⟩ qdd (qc2 _ _) (qdk D w.toArray k y (by rw[qaG];lia)) ⟨R.1,?_⟩;have up:∃ k':Nat,(m.heap.update D (qcR λxs=>xs.push y)).get? D=some { cls:=.type "list",data:=.seq (w++[y]).toArray k' }:=by
    have q:=qde R.1 (λxs:Array Value=>xs.push y);simp only[qek]at q;exact⟨_,q⟩
   obtain⟨k',up⟩:=up;have hoth:∀ b o,b≠D->m.heap.get? b=some o->(m.heap.update D (qcR λxs=>xs.push y)).get? b=some o:=λb o l e=>(qa7 m.heap _ (qb5 l)).trans e;have I10:=I9n.turned (t':=m.toks) hoth R.2.1 Dloc Dex Dcell (λp L=>absurd (show p∈([]:List (Addr×Obj)) by rw[<-j]at L;exact L) (by simp));refine⟨m',hm,i+1,ys++[v9],w++[y],k',H9,(I10.weak sb7.1 sb7.2).pins_of (λp L=>?_),rv.append (.cons r9 .nil),T.keep _ _ _ (K I9).1 (λb l o e=>hoth b o (by rw[<-hD];exact qaO (fplt b l)) e),(K I9).2,?_,w9⟩
   ·have:=qaz.mp L
    subst this;exact⟨up,R.2.1,Dloc,Dfs,λv z=>by cases z⟩
   ·rw[qai,qaY]
    lia
  ·have q:lo={ cls:=.type "list",data:=.seq ([]:List Value).toArray 0 }:=hlo.symm
   rw[<-q];exact I3
  ·exact T.keep _ _ _ st2 λb l o e=>qbW _ _ b o (qaj _ (qaj _ e))
 refine qdU ?_ ?_
 ·exact V _ U
 ·refine T.self X.A 0 _ _ _ (T.keep _ _ _ st2 λb l o e=>qbW _ _ b o (qaj _ (qaj _ e))) ?_
  exact V _ U
end
def j0 (g:Tg) (te:Ef) (xe:Rf) (env:Ev):List D->Sto->Option Sto
 |[],_=>none
 |d::ds,st=>(dC g (.d d) env).bind λe=>match xe e st with
  |some s=>some s
  |none=>(te e st).bind λx=>(fz [x.1]).bind λ_=>j0 g te xe env ds x.2
def xLc (k:Nat) (js:List Nat) (a:Lf) (g:Tg) (te:Ef) (xe:Rf):Rf
 |env,st=>(a env st).bind λr=>if r.1.length<=1000000 then j0 g te xe (jx k js env) r.1 r.2 else none
section
variable {K:qad}{X:Cx}{b:Scope}{Nc:List Str}{k:Nat}{js:List Nat}{n iter I:Expr}{pos:Pos}{Y:Lf}{g:Tg}{te:Ef}{xe:Rf}{C:Value}
theorem Cn (S:fP X b Nc (iD k js)) (hc:X.calm=true) (V:∀ j∈vm g,j<k) (N:X.stack=X.env::X.outer) (hi:II K X.nox I iter Y)
  (hg:∀ a s H Ca l,PG (lcX X b a Nc s H Ca l) I (tG K g)) (he:∀ a s H Ca l,IE K (lcX X b a Nc s H Ca l) n te)
  (hx:∀ a s H Ca l,RE K ((lcX X b a Nc s H Ca l).zx C (XE X C)) C n xe)
  (hs:∀ x,qbO iter X.env x=pure x:=by intro _;rfl):RE K X C (.ListComp n [⟨I,iter,[],0⟩] b pos) (xLc k js Y g te xe):=by
 refine⟨λenv st w E=>?_⟩;simp only[xLc,qab]at E;obtain⟨⟨ds,s1⟩,hy,E⟩:=E;have o:(if ds.length<=1000000 then j0 g te xe (jx k js env) ds s1 else none)=some w:=E;by_cases W:¬ ds.length<=1000000
 ·rw[iFN W]at o;cases o
 have hdl:ds.length<=1000000:=by lia
 rw[iFP hdl]at o;refine (DG (Cv:=C) (te:=λD H Q=>u3 K te D H Q\/∃ env st s',xe env st=some s'/\∃ φ,Er K H φ env D/\Sr K H φ st/\∀ H' p,Fw φ p H H'->Sr K H' p s'->XE X C H') S hc N (hi.run _ _ _ hy).nox hg (λa s H Ca l=>?_) hs).imp ?_
 ·have n1:PE ((lcX X b a Nc s H Ca l).zx C (XE X C)) n (u3 K te):=PE.nox (X:=(lcX X b a Nc s H Ca l).zx C (XE X C)) (he a s H Ca l).any
  refine n1.or ((hx a s H Ca l).any.imp ?_)
  rintro D H Q ⟨env,st,s',e,φ,F,B,q⟩
  exact⟨env,st,s',e,φ,F,B,λH' p f' S'=>FZ (q H' p f' S')⟩
 rintro D H Q ⟨φ,F,B,q⟩
 refine⟨φ,F,B,λJ H1 t f1 S1 yl=>?_⟩;have M:=(F.fw B f1).emb k js;refine⟨λi m R H2=>m=ds.length - i/\i<=ds.length/\R.length<=i/\∃ st c,Fw t c H1 H2/\Sr K H2 c st/\j0 g te xe (jx k js env) (ds.drop i) st=some w,⟨ds.length,by simp,qbs _,qaw _,s1,t,Fw.refl _ _,S1,o⟩,?_⟩
 rintro i m R H2 ⟨rfl,hi,hle,f,c,f2,S2,z⟩
 obtain⟨y1,y2⟩:=yl H2 c f i f2 S2;have u:i<ds.length:=by
  rcases Nat.lt_or_ge i ds.length with h|h
  ·exact h
  ·rw[qcM h]at z;cases z
 obtain⟨go,yld⟩:=y1 ds[i] (qa6 u);rw[qct u]at z;simp only[j0,qab]at z;obtain⟨G,T,r⟩:=z;have hz:R.length<qaK:=by
  have:qaK=16777216:=qca
  lia
 refine⟨go,hz,λA H'=>i+1<=ds.length/\A.length<=i+1/\∃ st c,Fw t c H1 H'/\Sr K H' c st/\j0 g te xe (jx k js env) (ds.drop (i+1)) st=some w,λA H' ⟨hn,p'⟩=>⟨ds.length - (i+1),by lia,U,hn,p'⟩,λx H' y=>?_⟩;obtain⟨sm,rx⟩:=yld x H' y;have S3:=S2.same sm;have f3:=f2.trans (Fw.same (φ:=c) sm);refine⟨c,f,jx k js env,.d ds[i],G,M.fw S1 f3,S3,rx,T,λσ' e' stay=>⟨Sub.stay stay V,?_⟩⟩;cases hxx:xe G f with
 |some s4=>
  rw[hxx]at r;cases r;exact .inr ⟨G,f,_,hxx,c,e',S3,λH4 O f4 S4=>q H4 O (f1.trans (f3.trans f4)) S4⟩
 |none=>
  rw[hxx]at r;obtain⟨x5,P,r⟩:=qab.mp r;obtain⟨zs,hzs,r⟩:=qab.mp r;refine .inl ⟨G,f,x5,P,c,e',S3,λv H5 L f5 S5 w5=>?_⟩;exact⟨u,by rw[qai,qaY];lia,x5.2,L,f3.trans f5,S5,r⟩
end
end L2
namespace L2
open PySem PySem.Spec PyProof.Rows PySem.W Builtin Builtin.ObjectAttr Builtin.Getset_descriptor
section
variable {prog:qaH}{w:World}{A:qaS}{E:Value->qag->Prop}{K:Frag}{h:Heap}{g:Array qe6}{d:Drawn}{t:Nat}{os:OsState}{a C:Addr}{o:Obj}{vs:Array Value}
end
end L2
namespace L2
open PySem PySem.Spec PyProof.Rows PySem.W
section
variable {X:Cx}{a:List (Addr×Obj)}{G:St}{H:Hp}{s:qag}{A:Heap}
theorem Inv.chg {N:Addr->Prop} (I:Inv X a G H s) (c:Chg N H (frs X.stack) s.heap A) (J:∀ b,N b->(X.s₀.heap.get? b=none\/b∈X.ex)/\∀ p∈X.pn++a,p.1≠b):Inv X a G H { s with heap:=A }:=by
 have any:∀ b o,s.heap.get? b=some o->(∀ vs,o.data≠.fields vs)->∃ y,A.get? b=some { o with slots:=y }:=λb o e d=>by
  by_cases j:b∈frs X.stack
  ·exact c.slot b o e j
  ·exact⟨o.slots,c.keep b o e j λ_=>.inl d⟩
 have w:∀ b o,X.s₀.heap.get? b=some o->b∉X.ex->¬ N b:=λb o e h z=>by
  rcases (J b z).1 with q|q
  ·rw[e]at q;cases q
  ·exact h q
 have E:∀ b o,X.s₀.heap.get? b=some o->b≠X.env.locals:=λb o e=>qaO (qaD (qaB e) I.ok.above);have f:∀ g v,s.heap.IsCell g v->A.IsCell g v:=λg v ⟨o,D,hd⟩=>by
  obtain⟨y,q⟩:=any g o D (λvs z=>by rw[hd]at z;cases z);exact⟨_,q,hd⟩
 refine⟨I.ok,I.os,I.bare,⟨λb o e n j h=>?_,λb o e n j h=>?_,I.base.free,λb o e h=>?_,I.base.tups,I.base.frzs,I.base.tbls⟩,?_,λx g e=>?_,I.free,I.freeC,λp K=>?_,c.hok I.hok I.stkFree,I.len⟩
 ·refine c.keep b o (I.base.keep b o e n j h) (λz=>?_) λz=>absurd z (w b o e h)
  rcases qat.mp (I.stkSub b z) with q|q
  ·exact E b o e q
  ·exact j q
 ·obtain⟨y,t⟩:=I.base.slot b o e n j h
  by_cases F:b∈frs X.stack
  ·obtain⟨B,C⟩:=c.slot b _ t F
   exact⟨B,C⟩
  ·exact⟨y,c.keep b _ t F λz=>absurd z (w b o e h)⟩
 ·obtain⟨M,t⟩:=I.base.there b o e h
  exact c.there b M t
 ·obtain⟨m,⟨o,R,O,D,hd,P⟩,Q⟩:=I.loc
  obtain⟨y,q⟩:=any _ o D (λvs z=>by rw[hd]at z;cases z);refine⟨m,⟨_,R,O,q,hd,P⟩,λi x v t C S=>?_⟩;obtain⟨u,r,l⟩:=Q i x v t C S;refine⟨u,r,?_⟩;rcases l with l|⟨k,g,e,z⟩
  ·exact .inl l
  ·exact .inr ⟨k,g,e,f g _ z⟩
 ·obtain⟨v,z⟩:=I.cell x g e
  exact⟨v,f g v z⟩
 ·obtain⟨e,n,ne,L,d⟩:=I.pin p K
  refine⟨c.keep p.1 p.2 e (λz=>?_) (λz=>absurd U ((J p.1 z).2 p K)),n,ne,L,d⟩;rcases qat.mp (I.stkSub p.1 z) with q|q
  ·exact ne q
  ·exact L q
end
theorem ul {M:Model}{A:qaS}{E:Value->qag->Prop}{K:Frag}{h:Heap}{g:Array qe6}{d:Drawn}{t:Nat}{os:OsState}{e C S:Addr}{i:Obj}{Q:Bool->qag->Prop} (X:K.In h)
  (j:h.get? e=some i) (b:i.cls=.ref C) (c:typeIn K (.ref S)=some (.type "type")) (a:(clsIn K S).isSome=true) (p:subIn K (.ref S) (.type "BaseException")=some true) (o:subIn K (.ref C) (.ref S)=some true)
  (m:Q true ⟨h,g,d,t,os⟩):wpAny M A (excMatches (.ref e) (.ref S)) Q E ⟨h,g,d,t,os⟩:=by
 have f:=tc_notTuple;have L1:=looks_typeIn (M:=M) X c;have LC:Looks M h (isType (.ref S)) true:=by
  unfold clsIn at a;split at a
  ·rename_i u s n l r
   intro A' Q' E' s' k q;unfold isType loadHead;exact qam (wpAny_loadPart (k _ _ (X _ _ r)) (qa4 q))
  ·cases a
 have L0:Looks M h (typeOf (.ref e)) (.ref C):=b ▸ (Looks.ld j).andThen .now;have LB:=looks_subIn (M:=M) X p;have LS:=looks_subIn (M:=M) X o;unfold excMatches isInstance isExcClass
 repeat (first|with_reducible refine L1.at ?_|with_reducible refine L0.at ?_|with_reducible refine LC.at ?_|with_reducible refine LB.at ?_|with_reducible refine LS.at ?_|wp_step)
 exact m
abbrev Cx.pw (X:Cx) (pn:List (Addr×Obj)) (E:Value->qag->Prop):Cx:={ X with pn:=pn,xe:=E }
abbrev Cx.hdl (X:Cx) (e:Addr) (a:Obj):Cx:={ X with A:=X.A.mark (some (.ref e)),calm:=false,pn:=X.pn++[(e,a)],xe:=λ_ _=>False }
theorem Cx.Ok.pw {X:Cx} (ok:X.Ok) (pn:List (Addr×Obj)) (E:Value->qag->Prop):(X.pw pn E).Ok:=
 ⟨ok.mod,ok.kind,ok.glob,ok.blt,ok.above,ok.inj,ok.has,ok.cab,ok.hd,ok.frames,ok.stk,ok.exf,ok.bs,ok.bsz,ok.noex,ok.exfs,ok.funs,ok.frf⟩
theorem Cx.Ok.hdl {X:Cx} (ok:X.Ok) (e:Addr) (a:Obj):(X.hdl e a).Ok:=
 ⟨ok.mod,ok.kind,ok.glob,ok.blt,ok.above,ok.inj,ok.has,ok.cab,(λz=>nomatch z),ok.frames,ok.stk,ok.exf,ok.bs,ok.bsz,ok.noex,ok.exfs,ok.funs,ok.frf⟩
theorem Inv.pw {X:Cx}{a:List (Addr×Obj)}{b:St}{H:Hp}{s:qag} (I:Inv X a b H s) (E:Value->qag->Prop):Inv (X.pw (X.pn++a) E) [] b H s:=
 ⟨I.ok.pw _ E,I.os,I.bare,I.base,I.loc,I.cell,I.free,I.freeC,λp c=>I.pin p (by simpa using c),I.hok,I.len⟩
theorem Inv.unpw {X:Cx}{a ps:List (Addr×Obj)}{b:St}{H:Hp}{s:qag}{E:Value->qag->Prop} (I:Inv (X.pw (X.pn++a) E) ps b H s) (ok:X.Ok):Inv X a b H s:=
 ⟨ok,I.os,I.bare,I.base,I.loc,I.cell,I.free,I.freeC,λp c=>I.pin p (qaW _ c),I.hok,I.len⟩
theorem Inv.hdl {X:Cx}{b:List (Addr×Obj)}{d:St}{H:Hp}{s:qag} (I:Inv X b d H s) {e:Addr}{c:Obj} (f:s.heap.get? e=some c) (h:H e=none) (j:e≠X.env.locals) (i:e∉X.fs) (g:∀ v,c.data≠.cell v):Inv (X.hdl e c) b d H s:=
 ⟨I.ok.hdl e c,I.os,I.bare,I.base,I.loc,I.cell,I.free,I.freeC,λp a=>by
  rcases qba.mp a with a|a
  ·rcases qba.mp a with a|a
   ·exact I.pin p (qaW _ a)
   ·have:=qaz.mp a
    subst this;exact⟨f,h,j,i,g⟩
  ·exact I.pin p (qap _ a),I.hok,I.len⟩
theorem Inv.unhdl {X:Cx}{a:List (Addr×Obj)}{c:St}{H:Hp}{s:qag}{e:Addr}{d:Obj} (I:Inv (X.hdl e d) a c H s) (ok:X.Ok):Inv X a c H s:=
 ⟨ok,I.os,I.bare,I.base,I.loc,I.cell,I.free,I.freeC,λp b=>I.pin p (by
  rcases qba.mp b with b|b
  ·exact qaW _ (qaW _ b)
  ·exact qap _ b),I.hok,I.len⟩
def AQ (K:Frag) (C S:Addr):Bool:=typeIn K (.ref S)==some (.type "type")&&(clsIn K S).isSome&&subIn K (.ref S) (.type "BaseException")==some true&&subIn K (.ref C) (.ref S)==some true
section
variable {K:Frag}{X:Cx}{C S:Addr}{x n:Str}{i:Nat}{e c pos:Pos}{body a:List Stmt}{b:Stmt}{f:Sf}{d:Rf}{w:D}{v:V}
end
section
variable {X:Cx}{e C L O:Addr}{a:Obj}{vs:Array Value}{i:Nat}{b:Bool}
end
theorem AE {K:Frag}{h:Heap}{mg:Str->Option Value}{x:Str}{C:Addr}{d:List Value}{a:String} (X:K.In h) (hm:mg x=some (.ref C)) (q:excIn K C d a=true):OwnCls x C d a mg h:=by
 refine⟨hm,?_⟩;unfold excIn at q;split at q
 ·rename_i dd i f p
  split at q
  ·rename_i C' bm k0 k1 k2 k3 n k5 hm g
   simp only[qao,beq_iff_eq,Bool.not_eq_true']at q;obtain⟨⟨⟨⟨⟨rfl,rfl⟩,b⟩,j⟩,hok⟩,c⟩:=q;obtain⟨nm,bs,o,ns,m,hd,sn,sub,ab,col,k⟩:=i;dsimp only at hm b hok c;subst hm b;have e:f=#[k0,k1,k2,k3,some (.builtin n),k5]:=by
    obtain⟨l⟩:=f
    simp only at g
    rw[g]
   subst e;exact⟨bm,ns,nm,m,bs,hd,sn,sub,ab,col,dd,k0,k1,k2,k3,k5,_,X _ _ p,.of_isNs (isNs_of_in X hok),nsMap_none_of_in X hok c,tail_of_in X j⟩
  ·cases q
 ·cases q
abbrev CC:List Value:=[.type "ValueError",.type "Exception",.type "BaseException",.type "object"]
theorem cQ {K:Frag}{X:Cx}{C:Addr}{e:Expr}{d:List Expr}{pos i a:Pos}{f:Af}{x:Str} (o:excIn X.K C CC "ValueError.__new__" = true) (hm:X.mg x=some (.ref C)) (k:X.calm=true) (p:Gl X x) (j:IA K X.nox (e::d) f)
  (hd:(x==("__debug__" : Str))=false:=by decide) (m:aN e=true:=by rfl) (g:d.all aN=true:=by rfl) :
  RS K X (.ref C) (.Raise (some (.Call (.Name x i) (e::d) [] a)) none pos) (eR f):=
 ⟨λenv st c n b s l H D I h=>(zY (AE I.ok.mod.kin hm o) PySem.F.excBase_ValueError k p j hd m g).run env st c n b s l H D I h⟩
def pc (b:Sf) (a:Rf):Sf
 |env,st=>match b env st with
 |some r=>some r
 |none=>(a env st).map λs=>.rt (.d (.lst [])) s
section
variable {K:Frag}{X:Cx}{C S:Addr}{x:Str}{np k pos lp rp:Pos}{body:List Stmt}{gb:Sf}{xb:Rf}
theorem AZ (n:X.stack=X.env::X.outer) (P:ISs K X.nox body gb) (hx:∀ pn E,RSs K (X.pw pn E) (.ref C) body xb)
  (hg:Gl X x) (hm:X.mg x=some (.ref S)) (hk:AQ X.K C S=true)
  (hd:(x==("__debug__" : Str))=false:=by decide) :
  IS K X (.Try body [.ExceptHandler (some (.Name x np)) none [.Return (some (.List [] lp)) rp] k] [] [] pos) (pc gb xb):=by
 refine⟨λenv st r N=>?_⟩;simp only[pc]at N
 rintro c s σ H D I ⟨φ,hE,hS,q⟩
 refine wpAny_Try_except ?_;cases hgb:gb env st with
 |some r0=>
  rw[hgb]at N;cases N;refine qbc (P.run _ _ _ hgb c s σ H D (I.wish _) ⟨φ,hE,hS,q⟩) (λf g z=>?_) λ_ _ z=>qbp z;cases f with
  |next=>exact qdh (SP.unwish (f:=.next) z)
  |brk=>exact SP.unwish (f:=.brk) z
  |cont=>exact SP.unwish (f:=.cont) z
  |ret u=>exact SP.unwish (f:=.ret u) z
 |none=>
  rw[hgb]at N;obtain⟨st',hxb,rfl⟩:=qac.mp N;generalize hEE:(λ(u:Value) (g:qag)=>wpAny (model X.prog X.w) X.A (qdj u X.env) (λ_ M=>wpAny (model X.prog X.w) X.A (qfT u none) (λ_ O=>wpAny (model X.prog X.w) X.A (handleBy u X.env [.ExceptHandler (some (.Name x np)) none [.Return (some (.List [] lp)) rp] k]) (SP X c D) X.xe O) X.xe M) X.xe g)=EE;refine qbc ((hx (X.pn++c) EE).run _ _ _ hxb [] s σ H { nx:=λ_ _=>False,rt:=λ_ _=>False } (I.pw EE) ⟨φ,hE,hS,λH' φ' f' S'=>?_⟩) (λf g z=>?_) λu g z=>?_
  ·intro e W i g I1 x1
   show EE (.ref e) g;rw[<-hEE];have IX:=I1.unpw I.ok;have hfr:X.env.frame=some X.env.locals:=by
    rcases I.ok.stk with z|z
    ·rw[n]at z
     exact absurd (congrArg qb3 z) (by rw[qaf];exact qdz _)
    ·exact z.2
   have fr9:X.A.frames=some (X.env::X.outer):=by rw[I.ok.frames,n]
   have Y:g.heap.FunFrames X.base (X.env::X.outer):=by have z:=IX.stack;rwa [n]at z
   have w:∀ b,oq (X.pw (X.pn++c) EE) b->(X.s₀.heap.get? b=none\/b∈X.ex)/\∀ p∈X.pn++c,p.1≠b:=λb z=>z;refine sM (base:=X.base) fr9 Y hfr (λa ha=>I1.new ha) (IX.hok.fresh (qaw _)) x1 λh2 c2 x2=>?_;rw[<-n]at c2;have I2:=IX.chg c2 w;refine kQ (s:={ g with heap:=h2 }) (fs:=frs X.stack) (λb P=>(I2.stack.mem P).2) x2 λQ c3 x3=>?_;have I3:Inv X c i H' { g with heap:=Q }:=I2.chg c3 w;unfold AQ at hk;simp only[qao,beq_iff_eq]at hk;obtain⟨⟨⟨k1,k2⟩,k3⟩,k4⟩:=hk;have j:∀ {h:Heap}{A:Obj}{vs:Array Value},Inv X c i H' { g with heap:=h }->h.get? e=some A->A.data=.fields vs->e≠X.env.locals/\e∉X.fs:=λ{h A vs} J B y=>by
    constructor
    ·rintro rfl
     obtain⟨m,⟨o,es,ep,ho,hdd,_⟩,_⟩:=J.loc;have l:h.get? X.env.locals=some o:=ho;rw[B]at l;cases l;rw[hdd]at y;cases y
    ·intro z
     obtain⟨_,o,ho,V⟩:=J.funs.mem z;have l:h.get? e=some o:=ho;rw[B]at l;cases l;exact V vs y
   have x3':=x3;obtain⟨nE,tE,A,vs,T,oT,ts,fl,B,hc,G,hrest⟩:=x3';have ap:=j I3 B G;have I3h:Inv (X.hdl e A) c i H' { g with heap:=Q }:=I3.hdl B tE ap.1 ap.2 (by intro v z;rw[G]at z;cases z);refine wpAny_handleBy_cons (codeAny_handlers_test (oi (X:=X.hdl e A) I3h hg hm ?_ hd)) (by intro z;cases z);have KX:X.K.In Q:=I3.kIn;refine ul (K:=X.K) KX B hc k1 k2 k3 k4 ?_;show qd6 (model X.prog X.w) (X.A.mark (some (.ref e))) (.handlers (.ref e) [.ExceptHandler none none [.Return (some (.List [] lp)) rp] k] X.env) _ _;refine codeAny_handlers_suite ?_;refine kQ (s:={ g with heap:=Q }) (fs:=frs X.stack) (λb P=>(I3.stack.mem P).2) x3 λh4 c4 x4=>?_;have I4:Inv X c i H' { g with heap:=h4 }:=I3.chg c4 w;obtain⟨nE4,tE4,oe4,vs4,T4,oT4,ts4,fl4,L,hc4,t,R⟩:=x4;have F:=j I4 L t;have I4h:Inv (X.hdl e oe4) c i H' { g with heap:=h4 }:=I4.hdl L tE4 F.1 F.2 (by intro v z;rw[t]at z;cases z);refine qbc ((tq (vO (tj vK))) c { g with heap:=h4 } i H' { nx:=λ_ _=>False,rt:=D.rt } I4h ⟨by show 0<=qaK;exact qbs _,λp hp=>q _ _ φ' (f'.trans (Fw.new hp)) (S'.new hp) ⟨p,[],U,S'.nin hp,.inl bH,U⟩⟩) (λf s6 z=>?_) λ_ _ z=>qbp z;cases f with
   |next=>obtain⟨d,H6,I6,z⟩:=z;exact qbp z
   |brk=>obtain⟨d,H6,I6,z⟩:=z;exact qbp z
   |cont=>obtain⟨d,H6,I6,z⟩:=z;exact qbp z
   |ret u=>obtain⟨v6,d,H6,I6,r6,z⟩:=z;exact⟨v6,_,H6,I6.unhdl I.ok,r6,z⟩
  ·cases f with
   |next=>obtain⟨d,H6,I6,z⟩:=z;exact z.elim
   |brk=>obtain⟨d,H6,I6,z⟩:=z;exact qbp z
   |cont=>obtain⟨d,H6,I6,z⟩:=z;exact qbp z
   |ret u=>obtain⟨v6,d,H6,I6,r6,z⟩:=z;exact z.elim
  ·exact z
end
theorem vh (a b:Expr) (p pos:Pos) (args:List Expr) (c:List qfH) (env:Env):eval ((Expr.Subscript a b p).Call args c pos) env=(do let f <-eval (Expr.Subscript a b p) env;callWith pos f [] (qd7 pos (qbE args env)) (qfA pos (qel c env))):=by
 rw[eval];exact λ_ _ _ z=>nomatch z
structure PkF (K:Frag) (X:Cx) (CX:CXT) (k:Nat) (x:Str) (f:Addr) (sp:Sp):Prop where
 ex:∃ j fd ps,bv X.prog X.w X.K X.mg X.base CX j f fd ps sp/\j<=k/\bP X.K fd ps []
 g:Gl X x
 m:X.mg x=some (.ref f)
 kp:keepIn X.K (.ref f)=true
 db:(x==("__debug__" : Str))=false
section
variable {K:Frag}{X:Cx}{C:Value}{CX:CXT}{k:Nat}{D S N:Str}{f0 f1 f2:Addr}{m l g:Sp}{E:XK}{a0 a1 a2 a3 a4 pos:Pos}{w e:Expr}{R:List Expr}{t:TA}{i:Int}
theorem wW {env:Ev}{st n:Sto}{fw:Ef} (P0:PkF K X CX k D f0 m) (P1:PkF K X CX k S f1 l) (P2:PkF K X CX k N f2 g) (P:ez k X.A) (M:ot CX X E) (hw:IE K X w fw) (G:fw env st=some (.d (.int i),n)) (O:kC w=true)
  (T:PA X (e::R) t) (B:aN e=true) (f:R.all aN=true) :
  PE X (.Call (.Subscript (.List [.Name D a0,.Name S a1,.Name N a2] a3) w a4) (e::R) [] pos)
   (λb H Q=>∃ φ,Er K H φ env b/\Sr K H φ st/\∀ H1 c,Fw φ c H H1->Sr K H1 c n->
     (i=0/\t b H1 λvs H2=>m vs H2 Q E)\/(i=1/\t b H1 λvs H2=>l vs H2 Q E)\/(i=2/\t b H1 λvs H2=>g vs H2 Q E)):=by
 rintro a s b H Q I ⟨φ,hE,J,h⟩
 rw[vh];have W:PE X (.Name D a0) _:=iU (v:=.ref f0) P0.g P0.m U P0.db;have Y:PE X (.Name S a1) _:=iU (v:=.ref f1) P1.g P1.m U P1.db;have n2:PE X (.Name N a2) _:=iU (v:=.ref f2) P2.g P2.m U P2.db;refine qam (thn ((B9 wI (tj (kW W (kW Y (kW n2 vK)))) (hw.run _ _ _ G) (px O)) a s b H (λv H1=>(v=.ref f0/\t b H1 λvs H2=>m vs H2 Q E)\/(v=.ref f1/\t b H1 λvs H2=>l vs H2 Q E)\/(v=.ref f2/\t b H1 λvs H2=>g vs H2 Q E)) I ?_) λu n z=>?_)
 ·refine⟨by show 3<=qaK;rw[qca];decide,λp f=>⟨φ,hE.fw J (Fw.new f),J.new f,λv H1 c g1 S1 y=>?_⟩⟩
  have L:SqL X.K H1 p [.ref f0,.ref f1,.ref f2]:=.inl (.inl (g1.keep p _ (J.nin f) bH));have z:=h H1 c ((Fw.new f).trans g1) S1;have y:v=.int i:=y;rcases z with⟨rfl,z⟩|⟨rfl,z⟩|⟨rfl,z⟩
  ·exact⟨p,_,0,.ref f0,U,y,L,U,.inl ⟨U,z⟩⟩
  ·exact⟨p,_,1,.ref f1,U,y,L,U,.inr (.inl ⟨U,z⟩)⟩
  ·exact⟨p,_,2,.ref f2,U,y,L,U,.inr (.inr ⟨U,z⟩)⟩
 ·obtain⟨v,H1,I1,r,z⟩:=z
  rcases z with⟨rfl,z⟩|⟨rfl,z⟩|⟨rfl,z⟩
  all_goals cases (show u=_ from r)
  ·obtain⟨j,fd,ps,F,x,A⟩:=P0.ex
   exact qgF (h₀:=X.base) I1.ok.mod.kin P0.kp (thn (T pos a n b H1 _ I1 z) λV s2 ⟨vs,H2,I2,o,q⟩=>⟨I2.kIn,tF (F.mono x) P A .nil M I2 o (by rw[qa5];exact q)⟩) (bB B) (cu f)
  ·obtain⟨j,fd,ps,F,x,A⟩:=P1.ex
   exact qgF (h₀:=X.base) I1.ok.mod.kin P1.kp (thn (T pos a n b H1 _ I1 z) λV s2 ⟨vs,H2,I2,o,q⟩=>⟨I2.kIn,tF (F.mono x) P A .nil M I2 o (by rw[qa5];exact q)⟩) (bB B) (cu f)
  ·obtain⟨j,fd,ps,F,x,A⟩:=P2.ex
   exact qgF (h₀:=X.base) I1.ok.mod.kin P2.kp (thn (T pos a n b H1 _ I1 z) λV s2 ⟨vs,H2,I2,o,q⟩=>⟨I2.kIn,tF (F.mono x) P A .nil M I2 o (by rw[qa5];exact q)⟩) (bB B) (cu f)
end
def iW {α:Type} (a b c:α) (w:W):Option α:=match w with
 |.d (.int i)=>if i=0 then some a else if i=1 then some b else if i=2 then some c else none
 |_=>none
theorem pT {α:Type}{a b c m:α}{w:W} (h:iW a b c w=some m):∃ i,w=.d (.int i)/\((i=0/\m=a)\/(i=1/\m=b)\/(i=2/\m=c)):=by
 unfold iW at h;split at h
 ·rename_i i
  refine⟨i,U,?_⟩;split at h
  ·cases h;exact .inl ⟨by assumption,U⟩
  ·split at h
   ·cases h;exact .inr (.inl ⟨by assumption,U⟩)
   ·split at h
    ·cases h;exact .inr (.inr ⟨by assumption,U⟩)
    ·cases h
 ·cases h
def jc (m0 m1 m2:Fn) (fw:Ef) (a:Af):Ef
 |env,st=>(fw env st).bind λx=>(iW m0 m1 m2 x.1).bind λm=>(a env x.2).bind λr=>m r.1 r.2
def qk (m0 m1 m2:Rn) (fw:Ef) (a:Af):Rf
 |env,st=>(fw env st).bind λx=>(iW m0 m1 m2 x.1).bind λm=>(a env x.2).bind λr=>m r.1 r.2
section
variable {K:Frag}{X:Cx}{C:Value}{k:Nat}{s u t:Str}{f0 f1 f2:Addr}{a0 a1 a2 a3 a4 pos:Pos}{w e:Expr}{l:List Expr}{fw:Ef}{p:Af}
theorem pd {m0 m1 m2:Fn} (P0:PkF K X CX0 k s f0 (spI K m0)) (P1:PkF K X CX0 k u f1 (spI K m1)) (P2:PkF K X CX0 k t f2 (spI K m2)) (E:ez k X.A) (hw:IE K X w fw) (I:IA K X (e::l) p) (j:kC w=true:=by rfl) (z:aN e=true:=by rfl) (D:l.all aN=true:=by rfl) :
  IE K X (.Call (.Subscript (.List [.Name s a0,.Name u a1,.Name t a2] a3) w a4) (e::l) [] pos) (jc m0 m1 m2 fw p):=by
 refine⟨λenv st r h=>?_⟩;simp only[jc,qab]at h;obtain⟨⟨x,G⟩,A,m,hm,y,F,h⟩:=h;obtain⟨i,rfl,hi⟩:=pT hm;refine (wW P0 P1 P2 E B7 hw A j (I.run _ _ _ F) z D).imp ?_
 rintro B H Q ⟨φ,o,n,q⟩
 refine⟨φ,o,n,λH1 d f1 S1=>?_⟩;have go:∀ {g:Fn},m=g->tIA K env G y B H1 λvs H2=>spI K g vs H2 Q E0:=by
  rintro g rfl
  exact⟨d,o.fw n f1,S1,λvs H2 c f2 S2 w2=>⟨c,y.2,y.1,r,h,w2,S2,λv H3 f f3 S3 J=>q v H3 f ((f1.trans f2).trans f3) S3 J⟩⟩
 rcases hi with⟨a,b⟩|⟨a,b⟩|⟨a,b⟩
 ·exact .inl ⟨a,go b⟩
 ·exact .inr (.inl ⟨a,go b⟩)
 ·exact .inr (.inr ⟨a,go b⟩)
theorem zT {m0 m1 m2:Rn} (P0:PkF K X (CX1 X.prog X.w C) k s f0 (spX K m0)) (P1:PkF K X (CX1 X.prog X.w C) k u f1 (spX K m1)) (P2:PkF K X (CX1 X.prog X.w C) k t f2 (spX K m2)) (E:ez k X.A) (hw:IE K X w fw) (I:IA K X.nox (e::l) p) (j:kC w=true:=by rfl) (z:aN e=true:=by rfl) (D:l.all aN=true:=by rfl) :
  RE K X C (.Call (.Subscript (.List [.Name s a0,.Name u a1,.Name t a2] a3) w a4) (e::l) [] pos) (qk m0 m1 m2 fw p):=by
 refine⟨λenv st r h=>?_⟩;simp only[qk,qab]at h;obtain⟨⟨x,G⟩,A,m,hm,y,F,h⟩:=h;obtain⟨i,rfl,hi⟩:=pT hm;refine (wW P0 P1 P2 E B8 hw A j (I.run _ _ _ F).nox z D).imp ?_
 rintro B H Q ⟨φ,o,n,q⟩
 refine⟨φ,o,n,λH1 d f1 S1=>?_⟩;have go:∀ {g:Rn},m=g->tIA K env G y B H1 λvs H2=>spX K g vs H2 Q (EX X C):=by
  rintro g rfl
  exact⟨d,o.fw n f1,S1,λvs H2 c f2 S2 w2=>⟨c,y.2,y.1,r,h,w2,S2,λ_ H3 f f3 S3=>q H3 f ((f1.trans f2).trans f3) S3⟩⟩
 rcases hi with⟨a,b⟩|⟨a,b⟩|⟨a,b⟩
 ·exact .inl ⟨a,go b⟩
 ·exact .inr (.inl ⟨a,go b⟩)
 ·exact .inr (.inr ⟨a,go b⟩)
end
end L2
namespace L2
open PySem PySem.Spec PyProof.Rows
def xG (a b:Ef):Ef
 |env,st=>(a env st).bind λx=>(bG x.2 x.1).bind λk=>if k=true then some x else b env x.2
def GL (K:qad) (c b:TE):TE:=λa H Q=>c a H λx H1=>∃ k,yk K x H1 k/\if k=true then Q x H1 else b a H1 Q
section
variable {K:qad}{X:Cx}{a b:Expr}{w o:TE}{t z:Ef}{pos:Pos}
theorem zw {c:List Expr} (m:PE X a w) (p:PE X (.BoolOp .Or (b::c) pos) o):PE X (.BoolOp .Or (a::b::c) pos) (GL X.K w o):=by
 intro d s f H Q I h;refine BoolOp_or (thn (m d s f H _ I h) λv B ⟨x,H1,I1,A,k,F,G⟩=>?_);refine thn (Al d B f H1 x v (λk H'=>if k=true then Q x H' else o f H' Q) I1 A ⟨k,F,G⟩) λk s2 ⟨H2,I2,D⟩=>?_;cases k with
 |true=>exact⟨x,H2,I2,A,D⟩
 |false=>exact p d s2 f H2 Q I2 D
theorem CV {c:List Expr} (m:IE K X a t) (p:IE K X (.BoolOp .Or (b::c) pos) z) (E:X.K=K:=by rfl):IE K X (.BoolOp .Or (a::b::c) pos) (xG t z):=by
 subst E;refine⟨λenv st r g=>?_⟩;simp only[xG,qab]at g;obtain⟨⟨x,B⟩,y,k,C,g⟩:=g;cases k with
 |true=>
  cases g;refine (zw (m.run _ _ _ y) gX).imp ?_
  rintro f H Q ⟨φ,l,i,q⟩
  exact⟨φ,l,i,λv H1 e f1 S1 j=>⟨true,tV S1 j C,q _ H1 e f1 S1 j⟩⟩
 |false=>
  refine (zw (m.run _ _ _ y) (p.run _ _ _ g)).imp ?_
  rintro f H Q ⟨φ,l,i,q⟩
  exact⟨φ,l,i,λv H1 e f1 S1 j=>⟨false,tV S1 j C,e,l.fw i f1,S1,λu H2 n f2 S2 w2=>q u H2 n (f1.trans f2) S2 w2⟩⟩
end
end L2
namespace HT
open PySem PyProof.Rows
def lexLe:List Int->List Int->Bool
 |[],[]=>true
 |[],_::_=>true
 |_::_,[]=>false
 |x::b,y::a=>if x=y then lexLe b a else decide (x<=y)
theorem lexLe_cons (x y:Int) (b a:List Int):lexLe (x::b) (y::a)=if x=y then lexLe b a else decide (x<=y):=rfl
theorem qA:lexLe [] []=true:=rfl
theorem pE (y:Int) (a:List Int):lexLe [] (y::a)=true:=rfl
theorem pA (x:Int) (a:List Int):lexLe (x::a) []=false:=rfl
theorem zN (A:qaS) (s:qag) (a:Int) (t:Tok) (c:Int) (u:Tok) (prog:qaH) (w:World) (E:Value->qag->Prop) (Q:Value->qag->Prop) (h:Q (.bool (decide (a<=c))) s) :
  wpAny (model prog w) A (richCompare .LtE (.int a t) (.int c u)) Q E s:=
 (qhw h:wpAny (model prog w) A (qa2 .LtE (.int a t) (.int c u)) Q E s)
section
open PySem.SeqAt
open PySem.AutoSeq1 (wpAny_loadPart')
open PySem.MeetsSeq PySem.MeetsSeq2 PySem.MeetsSeq3
theorem qH (l b:Addr) (i f:Array Value) (n W:Nat) (dd K:Option Addr) (P M:Array (Option Value)) (ns G:List Int) (hi:qc5 i.toList ns) (N:qc5 f.toList G) :
  Meets (qeP.«tuple.__le__» ⟨[.ref l,.ref b],[]⟩)
   (λ_ R s=>s.heap.get? l=some { cls:=.type "tuple",dict:=dd,data:=.seq i n,slots:=P }/\s.heap.get? b=some { cls:=.type "tuple",dict:=K,data:=.seq f W,slots:=M }/\
     R (.ok (.ret (.bool (lexLe ns G)))) s):=
 .of_wp λprog w A R s h=>by
  obtain⟨H,g,d,I,os⟩:=s;obtain⟨T,X,h⟩:=h;have f2:=AutoSeq1.sub_tuple_tuple;have z1:i.size=ns.length:=by rw[<-hi.length];simp
  have Y:f.size=G.length:=by rw[<-N.length];simp
  wp_walk using wpAny_loadPart' T,wpAny_loadPart' X,wpAny_forIn_list _ (λv b s'=>b.1=none/\s'=⟨H,g,d,I,os⟩/\∃ (vs ws:List Value) (m k:List Int),v=vs.zip ws/\
   qc5 vs m/\qc5 ws k/\m.length+f.size=k.length+i.size/\R (.ok (.ret (.bool (lexLe m k)))) ⟨H,g,d,I,os⟩) _
  case turn=>
   rintro⟨y,x⟩ v b s' ⟨D,rfl,vs,ws,m,k,o,C,p,j,z⟩
   cases C with
   |nil=>rw[List.zip_nil_left]at o;cases o
   |cons a t F=>
    cases p with
    |nil=>rw[List.zip_nil_right]at o;cases o
    |cons c u E=>
     rw[qfE]at o;injection o with J B;injection J with S Q;subst S Q;rw[lexLe_cons]at z;simp only[qaf]at j;obtain⟨e,V,r⟩:=yz A.in1 ⟨H,g,d,I,os⟩ a t c u;refine qam (V prog w _ _ ?_);cases e with
     |true=>
      rw[iFP (r.mp U)]at z
      wp_walk
      exact⟨U,U,_,_,_,_,B,F,E,by lia,z⟩
     |false=>
      rw[iFN (λq=>absurd (r.mpr q) qaR)]at z;have L:=zN A.in1 ⟨H,g,d,I,os⟩ a t c u prog w
      wp_walk using L
      exact⟨_,U,by simpa using z⟩
  case fin=>
   rintro⟨b1,b2⟩ s' ⟨D,rfl,vs,ws,m,k,o,C,p,j,z⟩
   simp only at D
   subst D;have O:lexLe m k=decide (i.size<=f.size):=by
    cases C with
    |nil=>
     cases p with
     |nil=>
      simp only[qaN]at j;rw[qA];exact (decide_eq_true (by lia)).symm
     |cons c u hw=>
      simp only[qaN,qaf]at j;rw[pE];exact (decide_eq_true (by lia)).symm
    |cons a t O=>
     cases p with
     |nil=>
      simp only[qaN,qaf]at j;rw[pA];exact (decide_eq_false (by lia)).symm
     |cons c u hw=>
      rw[qfE]at o;cases o
   rw[O]at z
   wp_walk
   exact⟨_,U,by simpa [qgP] using z⟩
  case h=>
   exact⟨U,U,i.toList,f.toList,ns,G,U,hi,N,by lia,h⟩
end
section
variable {prog:qaH}{w:World}{A:qaS}{E:Value->qag->Prop}{s:qag}
theorem le_tupInts {l b:Addr}{c a:Array Value}{ns d:List Int}{Q:Value->qag->Prop} (p:IsTup s.heap l c) (u:IsTup s.heap b a) (hi:qc5 c.toList ns) (t:qc5 a.toList d)
  (q:A.units<cLine) (h:Q (.bool (lexLe ns d)) s):wpAny (model prog w) A (qa2 .LtE (.ref l) (.ref b)) Q E s:=by
 obtain⟨⟨cls,dd,data,r⟩,o,m,n,hd⟩:=id p;obtain⟨⟨k,j,data2,i⟩,g,e,v,f⟩:=id u
 simp only at m hd e f
 subst m hd e f;exact richCompare_meets_room (op:=.LtE) ⟨_,o,U⟩ ⟨_,g,U⟩ PySem.F.slot_tuple_le PySem.F.entry_tuple_le (PySem.F.args_tuple_le_2 _ _) (qH l b c a n v dd j r i ns d hi t)
  ⟨o,g,show Value.bool (lexLe ns d)≠Value.notImplemented/\Q (.bool (lexLe ns d)) s from ⟨(λx=>nomatch x),h⟩⟩ q
end
end HT
namespace PySem
open Sem (wp)
namespace F
end F
namespace F
end F
end PySem
namespace L2
open PySem PySem.Spec PyProof.Rows
section
variable {X:Cx}{a:List (Addr×Obj)}{b:St}{H:Hp}{s:qag}{A:qaS}{E:Value->qag->Prop}
end
section
variable {K:qad}{X:Cx}{pos:Pos}{e a b o f:Expr}{g i d c h:Ef}
end
section
variable {K:qad}{X:Cx}{pos:Pos}{e a b:Expr}{L fa:Ef}
def Gz (K:qad):R2:=λx y H Q=>∃ a b ns i,x=.ref a/\y=.ref b/\SqT K H a (ns.map V.int)/\SqT K H b (i.map V.int)/\Q (.bl (HT.lexLe ns i)) H
theorem Dt (A:X.A.units<cLine):OpR X (qa2 .LtE) (Gz X.K):=by
 intro J s σ H x y v u Q I rx P h;obtain⟨a,b,ns,i,rfl,rfl,E,F,q⟩:=h;cases rx;cases P;obtain⟨o,Y,n,_⟩:=I.tuple E;obtain⟨l,R,B,_⟩:=I.tuple F;have i1:qc5 o.toArray.toList ns:=pj Y;have M:qc5 l.toArray.toList i:=pj R;exact HT.le_tupInts n B i1 M A ⟨.bl (HT.lexLe ns i),H,I,U,q⟩
def vg (st:Sto):W->W->Option D
 |.d (.tup a),.d (.tup b)=>(ko a).bind λns=>(ko b).map λi=>.bl (HT.lexLe ns i)
 |x,y=>dLe st x y
theorem Dl {k:Nat} (c:ez k X.A) (t:X.K=K:=by rfl):OpD K X (qa2 .LtE) vg:=by
 subst t;refine⟨λst x y d h=>?_⟩;by_cases G:∃ a b,x=.d (.tup a)/\y=.d (.tup b)
 ·obtain⟨a,b,rfl,rfl⟩:=G
  simp only[vg,qab,qac]at h;obtain⟨ns,h1,i,N,rfl⟩:=h;have A:X.A.units<cLine:=by have:=c.un;lia
  refine (Dt A).imp ?_
  rintro vx vy H Q ⟨φ,S,⟨p,vs,rfl,g1,g2⟩,⟨B,vs2,rfl,g3,g4⟩,q⟩
  cases kq h1;cases kq N;cases g2.ints;cases g4.ints;exact⟨p,B,ns,i,U,U,SqT.of g1,SqT.of g3,q _ H (bU.refl H) U⟩
 ·have e:vg st x y=dLe st x y:=by
   unfold vg;split
   ·rename_i a b
    exact absurd ⟨a,b,U,U⟩ G
   ·rfl
  rw[e]at h;exact uG.run st x y d h
def ur (k:Bool) (ds:List D) (f:Ef):Ef
 |env,st=>(f env st).bind λr=>match r.1 with
 |.d x=>if bZ x=true then some (.d (.bl (k != inD x ds)),r.2) else none
 |_=>none
theorem CW {k:Bool}{op:CmpOp}{x:Str}{p:Addr}{n:Pos}{ds:List D} (ho:OpR X (qa2 op) (rIn X.K k)) (hg:Gl X x) (hm:X.mg x=some (.ref p)) (g:KTp K p ds) (E:IE K X e L) (hd:(x==("__debug__" : Str))=false:=by decide) (F:qch op (.Name x n)=false:=by rfl) (t:X.K=K:=by rfl) :
  IE K X (.Compare e [op] [.Name x n] pos) (ur k ds L):=by
 subst t;refine⟨λenv st r c=>?_⟩;simp only[ur,qab]at c;obtain⟨⟨w,s1⟩,T,c⟩:=c
 match w,c with
 |.d z,c=>
  dsimp only at c;by_cases m:bZ z=true
  case neg=>rw[iFN m]at c;cases c
  rw[iFP m]at c;cases c;refine (wV ho (E.run _ _ _ T) (iU (v:=.ref p) hg hm U hd) F).imp ?_
  rintro σ H Q ⟨φ,hE,O,q⟩
  refine⟨φ,hE,O,λy H1 j f1 S1 w1=>?_⟩;obtain⟨e1,e2⟩:=io m w1;have e4:(ds.map vOf).all h9=true:=(kE (K:=X.K) (H:=H1) (φ:=j) g.1 (kF g.1)).2;refine⟨p,ds.map vOf,U,.inr (g.2 H1),e2,e4,?_⟩;rw[e1,md m g.1];have C:(if k=true then !inD z ds else inD z ds)=(k != inD z ds):=by cases k<;>cases inD z ds<;>rfl
  rw[C];exact q _ H1 j f1 S1 U
end
end L2
@[reducible]def Z(x:L2.D):Option L2.W:=some (.d x)
namespace Own
open PySem L2
noncomputable section
def ju:Sf:=(aW (du (iCB cC (ae (iV 0) (ae (iC (.ty "int")) ah))) (wC (iCB cC (ae (iV 0) (ae (iC (.ty "bool")) ah))))))
def iG:Fn:=bR 1 1 ju
def gO:Sf:=(aW (du (au iG (ae (iV 0) ah)) (mO dLe dLe (iV 1) (iV 0) (iV 2))))
def cW:Fn:=bR 3 3 gO
def fq:Ef:=(CT (iOp xB (iV 0) (iC .non)) (au cW (ae (iV 0) (ae (iC (.int 0)) (ae (iC (.int 1)) ah)))))
def de:Sf:=(av (bd (dv (ba (bJ bG (iCB cC (ae (iV 0) (ae (iC (.ty "tuple")) ah))))) (pb true [(.int 1),(.int 2),(.int 4),(.int 8),(.int 16),(.int 32),(.int 64)] (iCB bN (ae (iV 0) ah)))) (aW (iC (.bl false))) aL) (aW (iCB qx (ae (ay (iLc 1 [] (bh (iV 0)) (.nm 0) bg fq)) ah))))
def bV:Fn:=bR 1 1 de
def gT:Sf:=(av (bd (ba (bJ bG (au cW (ae (iV 2) (ae (iOp aU (iV 1) (iC (.int 1))) (ae (iC (.int 5)) ah)))))) (aW (iC (.bl false))) aL) (aK (.nm 1) (iV 2)))
def jm:Sf:=(av (bd (ba (bJ bG (iCB cC (ae (iV 0) (ae (iC (.ty "tuple")) ah))))) (aW (iC (.bl false))) aL) (av (aK (.nm 1) (iUn jX (iC (.int 1)))) (av (qy (bh (iV 0)) (.nm 2) gT) (aW (iC (.bl true))))))
def mW:Fn:=bR 3 1 jm
def jj:Sf:=(av (bd (dv (ba (bJ bG (iCB cC (ae (iV 0) (ae (iC (.ty "tuple")) ah))))) (aC dNe (iCB bN (ae (iV 0) ah)) (iC (.int 2)))) (aW (iC (.bl false))) aL) (aW (du (au mW (ae (iOp dIx (iV 0) (iC (.int 0))) ah)) (du (au iG (ae (iOp dIx (iV 0) (iC (.int 1))) ah)) (iOp dNe (iOp dIx (iV 0) (iC (.int 1))) (iC (.int 0)))))))
def kT:Fn:=bR 1 1 jj
def d3:Sf:=(av (bd (dv (ba (bJ bG (au kT (ae (iV 2) ah)))) (kh (aC oX (iV 1) (iC .non)) (aC vg (iOp dIx (iV 2) (iC (.int 0))) (iV 1)))) (aW (iC (.bl false))) aL) (aK (.nm 1) (iOp dIx (iV 2) (iC (.int 0)))))
def gN:Sf:=(av (bd (ba (bJ bG (iCB cC (ae (iV 0) (ae (iC (.ty "tuple")) ah))))) (aW (iC (.bl false))) aL) (av (aK (.nm 1) (iC .non)) (av (qy (bh (iV 0)) (.nm 2) d3) (aW (iC (.bl true))))))
def kt:Fn:=bR 3 1 gN
def jk:Sf:=(av (bd (dv (ba (bJ bG (iCB cC (ae (iV 0) (ae (iC (.ty "tuple")) ah))))) (aC dNe (iCB bN (ae (iV 0) ah)) (iC (.int 2)))) (aW (iC (.bl false))) aL) (aW (du (iCB cC (ae (iOp dIx (iV 0) (iC (.int 0))) (ae (iC (.ty "str")) ah))) (du (ur false [(.str "both"),(.str "odd")] (iOp dIx (iV 0) (iC (.int 0)))) (au kt (ae (iOp dIx (iV 0) (iC (.int 1))) ah))))))
def dw:Fn:=bR 1 1 jk
def eg:Sf:=(aW (du (iCB cC (ae (iV 0) (ae (iC (.ty "tuple")) ah))) (iOp dLe (iCB bN (ae (iV 0) ah)) (iC (.int 6)))))
def cV:Fn:=bR 1 1 eg
def dU:Sf:=(av (bd (aC dEq (iV 1) (iC (.str "switch"))) (aW (au cW (ae (iOp dIx (iV 0) (iC (.int 1))) (ae (iC (.int 0)) (ae (iC (.int 5)) ah))))) aL) (av (bd (aC dEq (iV 1) (iC (.str "not"))) (aW (iC (.bl true))) aL) (aW (du (iOp dIn (iV 1) (aQ (ae (iC (.str "all")) (ae (iC (.str "any")) (ae (iC (.str "odd")) ah))))) (au cV (ae (iOp dIx (iV 0) (iC (.int 1))) ah))))))
def dN:Sf:=(av (bd (dv (ba (bJ bG (iCB cC (ae (iV 0) (ae (iC (.ty "tuple")) ah))))) (dv (aC dQ (iCB bN (ae (iV 0) ah)) (aQ (ae (iC (.int 2)) (ae (iC (.int 3)) ah)))) (ba (bJ bG (iCB cC (ae (iOp dIx (iV 0) (iC (.int 0))) (ae (iC (.ty "str")) ah))))))) (aW (iC (.bl false))) aL) (av (aK (.nm 1) (iOp dIx (iV 0) (iC (.int 0)))) (av (bd (aC dEq (iV 1) (iC (.str "least"))) (aW (du (iOp dEq (iCB bN (ae (iV 0) ah)) (iC (.int 3))) (du (au cW (ae (iOp dIx (iV 0) (iC (.int 1))) (ae (iC (.int 0)) (ae (iC (.int 9)) ah)))) (au cV (ae (iOp dIx (iV 0) (iC (.int 2))) ah))))) aL) (av (bd (aC dNe (iCB bN (ae (iV 0) ah)) (iC (.int 2))) (aW (iC (.bl false))) aL) dU))))
def cy:Fn:=bR 2 1 dN
def dO:Sf:=(av (bd (aC dEq (iOp dIx (iV 0) (iC (.int 0))) (iC (.str "switch"))) (aW (aQ ah)) aL) (av (bd (aC dEq (iOp dIx (iV 0) (iC (.int 0))) (iC (.str "not"))) (aW (aQ (ae (iOp dIx (iV 0) (iC (.int 1))) ah))) aL) (aW (iOp dIx (iV 0) (iUn jX (iC (.int 1)))))))
def cg:Fn:=bR 1 1 dO
def cU (self:Fn):Sf:=(av (aK (.nm 4) (au self (ae (iV 3) (ae (iOp jY (iV 1) (iC (.int 1))) ah)))) (av (bd (aC xB (iV 4) (iC .non)) (aW (iC .non)) aL) (aK (.nm 2) (iOp aU (iV 2) (iV 4)))))
def gv (self:Fn):Sf:=(av (bd (dv (aC dEq (iV 1) (iC (.int 0))) (ba (bJ bG (au cy (ae (iV 0) ah))))) (aW (iC .non)) aL) (av (aK (.nm 2) (iC (.int 1))) (av (qy (bh (au cg (ae (iV 0) ah))) (.nm 3) (cU self)) (aW (iV 2)))))
def cf:Nat->Fn
 |0=>λ_ _=>none
 |n+1=>bR 5 2 (gv (cf n))
def kO:Sf:=(av (aK (.nm 1) (au (cf 7) (ae (iV 0) (ae (iC (.int 6)) ah)))) (aW (du (iOp oX (iV 1) (iC .non)) (iOp dLe (iV 1) (iC (.int 40))))))
def d5:Fn:=bR 2 1 kO
def eu:Ef:=(gj (aC xB (iV 0) (iC .non)) (iC (.str "-")) (iCB nW (ae (iV 0) ah)))
def fm:Sf:=(aW (fJ (iC (.str "")) (ae (ay (iLc 1 [] (bh (iV 0)) (.nm 0) bg eu)) ah)))
def dZ:Fn:=bR 1 1 fm
def lm (self:Fn):Ef:=(au self (ae (iV 0) ah))
def gR (self:Fn):Sf:=(av (bd (aC dEq (iOp dIx (iV 0) (iC (.int 0))) (iC (.str "switch"))) (aW (iOp dIx (iC (.str "abcdef")) (iOp dIx (iV 0) (iC (.int 1))))) aL) (av (bd (aC dEq (iOp dIx (iV 0) (iC (.int 0))) (iC (.str "not"))) (aW (iOp aU (iC (.str "!")) (au self (ae (iOp dIx (iV 0) (iC (.int 1))) ah)))) aL) (av (aK (.nm 1) (gj (aC dEq (iOp dIx (iV 0) (iC (.int 0))) (iC (.str "least"))) (iCB nW (ae (iOp dIx (iV 0) (iC (.int 1))) ah)) (qz [("all",(.str "&")),("any",(.str "|")),("odd",(.str "^"))] (iOp dIx (iV 0) (iC (.int 0)))))) (aW (iOp aU (iOp aU (iOp aU (iV 1) (iC (.str "("))) (fJ (iC (.str " ")) (ae (ay (iLc 1 [] (bh (iOp dIx (iV 0) (iUn jX (iC (.int 1))))) (.nm 0) bg (lm self))) ah))) (iC (.str ")")))))))
def bS:Nat->Fn
 |0=>λ_ _=>none
 |n+1=>bR 2 1 (gR (bS n))
def gD:Tf:=(aC dGe (iV 2) (iC (.int 1000000000000000000)))
def jT:Sf:=(av (aK (.nm 1) (iOp aU (iZf (iCB nW (ae (iOp jW (iV 2) (iC (.int 1000000000000000000))) ah)) (ae (iC (.int 18)) ah)) (iV 1))) (aK (.nm 2) (iOp yw (iV 2) (iC (.int 1000000000000000000)))))
def gG:Sf:=(av (aK (.nm 1) (iC (.str ""))) (av (aK (.nm 2) (iCB oV (ae (iV 0) ah))) (av (kl 1000 gD jT) (aW (iOp aU (iOp aU (gj (aC dLt (iV 0) (iC (.int 0))) (iC (.str "-")) (iC (.str ""))) (iCB nW (ae (iV 2) ah))) (iV 1))))))
def jf:Fn:=bR 3 1 gG
def lj:Ef:=(iOp dIx (iC (.str "abcdef")) (iV 0))
def gP:Sf:=(av (aK (.nm 2) (fJ (iC (.str "")) (ae (ay (iLc 1 [] (bh (iV 0)) (.nm 0) bg lj)) ah))) (av (bd (kh (aC dNe (iV 2) (iC (.str ""))) (aC dEq (iCB oV (ae (iV 1) ah)) (iC (.int 1)))) (aW (iOp aU (gj (aC dLt (iV 1) (iC (.int 0))) (iC (.str "-")) (iC (.str ""))) (iV 2))) aL) (aW (iOp aU (au jf (ae (iV 1) ah)) (iV 2)))))
def ku:Fn:=bR 3 2 gP
def gI:Ef:=(au ku (ae (iV 0) (ae (iV 1) ah)))
def gQ:Sf:=(av (bd (aC dEq (iCB bN (ae (iOp dIx (iV 0) (iC (.int 1))) ah)) (iC (.int 0))) (aW (iOp aU (iOp dIx (iV 0) (iC (.int 0))) (iC (.str " 0")))) aL) (aW (fJ (iC (.str " ")) (ae (iOp aU (ay (cL (ae (iOp dIx (iV 0) (iC (.int 0))) ah))) (ay (iLc 2 [] (bh (iOp dIx (iV 0) (iC (.int 1)))) (.tp [0,1]) bg gI))) ah))))
def cp:Fn:=bR 1 1 gQ
def eD:Sf:=(av (bd (jQ true [("1",(.int 1)),("0",(.int 0)),("-",.non)] (iV 0)) gk aL) (aW (qz [("1",(.int 1)),("0",(.int 0)),("-",.non)] (iV 0))))
def cM:Fn:=bR 1 1 eD
def fO:Rf:=(di (xIf (jQ true [("1",(.int 1)),("0",(.int 0)),("-",.non)] (iV 0)) (eR (ae (iC (.str "no value of a function is written so")) ah)) xNo) (bd (jQ true [("1",(.int 1)),("0",(.int 0)),("-",.non)] (iV 0)) gk aL) xNo)
def fG:Rn:=nj 1 1 fO
def ek:Ef:=(au cM (ae (iV 0) ah))
def dY:Sf:=(av (bd (ba (bJ bG (iCB cC (ae (iV 0) (ae (iC (.ty "str")) ah))))) gk aL) (av (aK (.nm 1) (iCB jZ (ae (ay (iLc 1 [] (cO (iV 0)) (.nm 0) bg ek)) ah))) (av (bd (ba (bJ bG (au bV (ae (iV 1) ah)))) gk aL) (aW (iV 1)))))
def cz:Fn:=bR 2 1 dY
def ci:Ef:=(au cM (ae (iV 0) ah))
def bY:Rf:=(gY fG (ae (iV 0) ah))
def iL:Ef:=(au cM (ae (iV 0) ah))
def dA:Rf:=(di (xIf (ba (bJ bG (iCB cC (ae (iV 0) (ae (iC (.ty "str")) ah))))) (eR (ae (iC (.str "no text")) ah)) xNo) (bd (ba (bJ bG (iCB cC (ae (iV 0) (ae (iC (.ty "str")) ah))))) gk aL) (di (xLc 1 [] (cO (iV 0)) (.nm 0) ci bY) (aK (.nm 1) (iCB jZ (ae (ay (iLc 1 [] (cO (iV 0)) (.nm 0) bg iL)) ah))) (di (xIf (ba (bJ bG (au bV (ae (iV 1) ah)))) (eR (ae (iC (.str "no function has so many values")) ah)) xNo) (bd (ba (bJ bG (au bV (ae (iV 1) ah)))) gk aL) xNo)))
def d2:Rn:=nj 2 1 dA
def kN:Sf:=(av (bd (jQ false [("&",(.str "all")),("|",(.str "any")),("^",(.str "odd"))] (iV 0)) (aW (aQ (ae (qz [("&",(.str "all")),("|",(.str "any")),("^",(.str "odd"))] (iV 0)) ah))) aL) (av (bd (aC dIn (iV 0) (ay (iCL eG (ae (iC (.str "0123456789")) ah)))) (aW (aQ (ae (iC (.str "least")) (ae (iTm ic (iC (.str "0123456789")) (ae (iV 0) ah)) ah)))) aL) gk))
def d4:Fn:=bR 1 1 kN
def jM:Rf:=(di xNo (bd (jQ false [("&",(.str "all")),("|",(.str "any")),("^",(.str "odd"))] (iV 0)) (aW (aQ (ae (qz [("&",(.str "all")),("|",(.str "any")),("^",(.str "odd"))] (iV 0)) ah))) aL) (di xNo (bd (aC dIn (iV 0) (ay (iCL eG (ae (iC (.str "0123456789")) ah)))) (aW (aQ (ae (iC (.str "least")) (ae (iTm ic (iC (.str "0123456789")) (ae (iV 0) ah)) ah)))) aL) (eR (ae (iC (.str "no rule begins so")) ah))))
def gF:Rn:=nj 1 1 jM
def bO (self:Fn):Tf:=(aC dNe (iV 3) (iC (.str ")")))
def bX (self:Fn):Sf:=(av (aK (.nm 5) (au self (ae (iV 0) (ae (iOp aU (iV 1) (iC (.int 1))) (ae (iV 2) ah))))) (av (lq (ki fS (iV 4) (ae (iOp dIx (iV 5) (iC (.int 0))) ah))) (av (aK (.nm 1) (iOp dIx (iV 5) (iC (.int 1)))) (av (aK (.nm 3) (dk (iV 0) (iPs (iV 1)) (iPs (iOp aU (iV 1) (iC (.int 1)))))) (bd (aC dQ (iV 3) (aQ (ae (iC (.str " ")) (ae (iC (.str ")")) ah)))) gk aL)))))
def dP (self:Fn):Sf:=(av (bd (aC dEq (dk (iV 0) (iPs (iV 1)) (iPs (iOp aU (iV 1) (iC (.int 2))))) (iC (.str "()"))) (aW (aQ (ae (aQ ah) (ae (iOp aU (iV 1) (iC (.int 2))) ah)))) aL) (av (aK (.nm 3) (dk (iV 0) (iPs (iV 1)) (iPs (iOp aU (iV 1) (iC (.int 1)))))) (av (bd (aC dNe (iV 3) (iC (.str "("))) gk aL) (av (aK (.nm 4) (mP (cL ah))) (av (kl 1000 (bO self) (bX self)) (aW (aQ (ae (iCB jZ (ae (iV 4) ah)) (ae (iOp aU (iV 1) (iC (.int 1))) ah)))))))))
def cD (self:Fn):Fn:=vR 6 3 (dP self)
def nn (self:Fn) (a:Rn):Tf:=(aC dNe (iV 3) (iC (.str ")")))
def n5 (self:Fn) (a:Rn):Sf:=(av (aK (.nm 5) (au self (ae (iV 0) (ae (iOp aU (iV 1) (iC (.int 1))) (ae (iV 2) ah))))) (av (lq (ki fS (iV 4) (ae (iOp dIx (iV 5) (iC (.int 0))) ah))) (av (aK (.nm 1) (iOp dIx (iV 5) (iC (.int 1)))) (av (aK (.nm 3) (dk (iV 0) (iPs (iV 1)) (iPs (iOp aU (iV 1) (iC (.int 1)))))) (bd (aC dQ (iV 3) (aQ (ae (iC (.str " ")) (ae (iC (.str ")")) ah)))) gk aL)))))
def cj (self:Fn) (a:Rn):Rf:=(di (gY a (ae (iV 0) (ae (iOp aU (iV 1) (iC (.int 1))) (ae (iV 2) ah)))) (aK (.nm 5) (au self (ae (iV 0) (ae (iOp aU (iV 1) (iC (.int 1))) (ae (iV 2) ah))))) (di xNo (lq (ki fS (iV 4) (ae (iOp dIx (iV 5) (iC (.int 0))) ah))) (di xNo (aK (.nm 1) (iOp dIx (iV 5) (iC (.int 1)))) (di xNo (aK (.nm 3) (dk (iV 0) (iPs (iV 1)) (iPs (iOp aU (iV 1) (iC (.int 1)))))) (xIf (aC dQ (iV 3) (aQ (ae (iC (.str " ")) (ae (iC (.str ")")) ah)))) (eR (ae (iC (.str "behind a rule in brackets stands neither a blank nor a bracket")) ah)) xNo)))))
def nq (self:Fn) (a:Rn):Tf:=(aC dNe (iV 3) (iC (.str ")")))
def n6 (self:Fn) (a:Rn):Sf:=(av (aK (.nm 5) (au self (ae (iV 0) (ae (iOp aU (iV 1) (iC (.int 1))) (ae (iV 2) ah))))) (av (lq (ki fS (iV 4) (ae (iOp dIx (iV 5) (iC (.int 0))) ah))) (av (aK (.nm 1) (iOp dIx (iV 5) (iC (.int 1)))) (av (aK (.nm 3) (dk (iV 0) (iPs (iV 1)) (iPs (iOp aU (iV 1) (iC (.int 1)))))) (bd (aC dQ (iV 3) (aQ (ae (iC (.str " ")) (ae (iC (.str ")")) ah)))) gk aL)))))
def fk (self:Fn) (a:Rn):Rf:=(di xNo (bd (aC dEq (dk (iV 0) (iPs (iV 1)) (iPs (iOp aU (iV 1) (iC (.int 2))))) (iC (.str "()"))) (aW (aQ (ae (aQ ah) (ae (iOp aU (iV 1) (iC (.int 2))) ah)))) aL) (di xNo (aK (.nm 3) (dk (iV 0) (iPs (iV 1)) (iPs (iOp aU (iV 1) (iC (.int 1)))))) (di (xIf (aC dNe (iV 3) (iC (.str "("))) (eR (ae (iC (.str "no bracket begins where one is asked for")) ah)) xNo) (bd (aC dNe (iV 3) (iC (.str "("))) gk aL) (di xNo (aK (.nm 4) (mP (cL ah))) (di (tY 1000 (nn self a) (n5 self a) (cj self a)) (kl 1000 (nq self a) (n6 self a)) xNo)))))
def ge (self:Fn) (a:Rn):Rn:=nj 6 3 (fk self a)
def qF (self:Fn):Sf:=(av (aK (.nm 5) (au d4 (ae (iV 3) ah))) (av (aK (.nm 4) (au (cD self) (ae (iV 0) (ae (iOp aU (iV 1) (iC (.int 1))) (ae (iOp jY (iV 2) (iC (.int 1))) ah))))) (aW (aQ (ae (iOp aU (iV 5) (aQ (ae (iOp dIx (iV 4) (iC (.int 0))) ah))) (ae (iOp dIx (iV 4) (iC (.int 1))) ah))))))
def cS (self:Fn):Sf:=(av (bd (aC dEq (iV 2) (iC (.int 0))) gk aL) (av (aK (.nm 3) (dk (iV 0) (iPs (iV 1)) (iPs (iOp aU (iV 1) (iC (.int 1)))))) (av (bd (aC dIn (iV 3) (ay (iCL eG (ae (iC (.str "abcdef")) ah)))) (aW (aQ (ae (aQ (ae (iC (.str "switch")) (ae (iTm ic (iC (.str "abcdef")) (ae (iV 3) ah)) ah))) (ae (iOp aU (iV 1) (iC (.int 1))) ah)))) aL) (av (bd (aC dEq (iV 3) (iC (.str "!"))) (av (aK (.nm 4) (au self (ae (iV 0) (ae (iOp aU (iV 1) (iC (.int 1))) (ae (iOp jY (iV 2) (iC (.int 1))) ah))))) (aW (aQ (ae (aQ (ae (iC (.str "not")) (ae (iOp dIx (iV 4) (iC (.int 0))) ah))) (ae (iOp dIx (iV 4) (iC (.int 1))) ah))))) aL) (qF self)))))
def aG:Nat->Fn
 |0=>λ_ _=>none
 |n+1=>bR 6 3 (cS (aG n))
def da (self:Fn) (a:Rn):Rf:=(di (xIf (aC dEq (iV 2) (iC (.int 0))) (eR (ae (iC (.str "rules nested too deep")) ah)) xNo) (bd (aC dEq (iV 2) (iC (.int 0))) gk aL) (di xNo (aK (.nm 3) (dk (iV 0) (iPs (iV 1)) (iPs (iOp aU (iV 1) (iC (.int 1)))))) (di xNo (bd (aC dIn (iV 3) (ay (iCL eG (ae (iC (.str "abcdef")) ah)))) (aW (aQ (ae (aQ (ae (iC (.str "switch")) (ae (iTm ic (iC (.str "abcdef")) (ae (iV 3) ah)) ah))) (ae (iOp aU (iV 1) (iC (.int 1))) ah)))) aL) (di (xIf (aC dEq (iV 3) (iC (.str "!"))) (di (gY a (ae (iV 0) (ae (iOp aU (iV 1) (iC (.int 1))) (ae (iOp jY (iV 2) (iC (.int 1))) ah)))) (aK (.nm 4) (au self (ae (iV 0) (ae (iOp aU (iV 1) (iC (.int 1))) (ae (iOp jY (iV 2) (iC (.int 1))) ah))))) xNo) xNo) (bd (aC dEq (iV 3) (iC (.str "!"))) (av (aK (.nm 4) (au self (ae (iV 0) (ae (iOp aU (iV 1) (iC (.int 1))) (ae (iOp jY (iV 2) (iC (.int 1))) ah))))) (aW (aQ (ae (aQ (ae (iC (.str "not")) (ae (iOp dIx (iV 4) (iC (.int 0))) ah))) (ae (iOp dIx (iV 4) (iC (.int 1))) ah))))) aL) (di (gY gF (ae (iV 3) ah)) (aK (.nm 5) (au d4 (ae (iV 3) ah))) (di (gY (ge self a) (ae (iV 0) (ae (iOp aU (iV 1) (iC (.int 1))) (ae (iOp jY (iV 2) (iC (.int 1))) ah)))) (aK (.nm 4) (au (cD self) (ae (iV 0) (ae (iOp aU (iV 1) (iC (.int 1))) (ae (iOp jY (iV 2) (iC (.int 1))) ah))))) xNo))))))
def bK:Nat->Rn
 |0=>λ_ _=>none
 |n+1=>nj 6 3 (da (aG n) (bK n))
def iQ:Sf:=(av (bd (ba (bJ bG (iCB cC (ae (iV 0) (ae (iC (.ty "str")) ah))))) gk aL) (av (aK (.nm 1) (au (aG 7) (ae (iV 0) (ae (iC (.int 0)) (ae (iC (.int 6)) ah))))) (av (bd (dv (aC dNe (iOp dIx (iV 1) (iC (.int 1))) (iCB bN (ae (iV 0) ah))) (ba (bJ bG (au d5 (ae (iOp dIx (iV 1) (iC (.int 0))) ah))))) gk aL) (aW (iOp dIx (iV 1) (iC (.int 0)))))))
def dE:Fn:=bR 2 1 iQ
def gg:Rf:=(di (xIf (ba (bJ bG (iCB cC (ae (iV 0) (ae (iC (.ty "str")) ah))))) (eR (ae (iC (.str "no text")) ah)) xNo) (bd (ba (bJ bG (iCB cC (ae (iV 0) (ae (iC (.ty "str")) ah))))) gk aL) (di (gY (bK 7) (ae (iV 0) (ae (iC (.int 0)) (ae (iC (.int 6)) ah)))) (aK (.nm 1) (au (aG 7) (ae (iV 0) (ae (iC (.int 0)) (ae (iC (.int 6)) ah))))) (di (xIf (dv (aC dNe (iOp dIx (iV 1) (iC (.int 1))) (iCB bN (ae (iV 0) ah))) (ba (bJ bG (au d5 (ae (iOp dIx (iV 1) (iC (.int 0))) ah))))) (eR (ae (iC (.str "more than a rule")) ah)) xNo) (bd (dv (aC dNe (iOp dIx (iV 1) (iC (.int 1))) (iCB bN (ae (iV 0) ah))) (ba (bJ bG (au d5 (ae (iOp dIx (iV 1) (iC (.int 0))) ah))))) gk aL) xNo)))
def gZ:Rn:=nj 2 1 gg
def i9:Ef:=(iOp xA (iV 0) (iC (.str "0123456789")))
def eB:Sf:=(av (bd (aC dIn (iV 0) (aQ (ae (iC (.str "")) (ae (iC (.str "-")) ah)))) (aW (gj (aC dEq (iV 0) (iC (.str "-"))) (iUn jX (iC (.int 1))) (iC (.int 1)))) aL) (av (aK (.nm 1) (gj (aC dEq (dk (iV 0) iPn (iPs (iC (.int 1)))) (iC (.str "-"))) (dk (iV 0) (iPs (iC (.int 1))) iPn) (iV 0))) (av (bd (dv (aC dGt (iCB bN (ae (iV 1) ah)) (iC (.int 60))) (ba (bJ bG (iCB qx (ae (ay (iLc 1 [] (cO (iV 1)) (.nm 0) bg i9)) ah))))) gk aL) (aW (iCB nv (ae (iV 0) ah))))))
def cX:Fn:=bR 2 1 eB
def kK:Ef:=(iOp xA (iV 0) (iC (.str "0123456789")))
def kL:Ef:=(iOp xA (iV 0) (iC (.str "0123456789")))
def iu:Rf:=(di xNo (bd (aC dIn (iV 0) (aQ (ae (iC (.str "")) (ae (iC (.str "-")) ah)))) (aW (gj (aC dEq (iV 0) (iC (.str "-"))) (iUn jX (iC (.int 1))) (iC (.int 1)))) aL) (di xNo (aK (.nm 1) (gj (aC dEq (dk (iV 0) iPn (iPs (iC (.int 1)))) (iC (.str "-"))) (dk (iV 0) (iPs (iC (.int 1))) iPn) (iV 0))) (di (xIf (dv (aC dGt (iCB bN (ae (iV 1) ah)) (iC (.int 60))) (ba (bJ bG (iCB qx (ae (ay (iLc 1 [] (cO (iV 1)) (.nm 0) bg kK)) ah))))) (eR (ae (iC (.str "no number is written so")) ah)) xNo) (bd (dv (aC dGt (iCB bN (ae (iV 1) ah)) (iC (.int 60))) (ba (bJ bG (iCB qx (ae (ay (iLc 1 [] (cO (iV 1)) (.nm 0) bg kL)) ah))))) gk aL) xNo)))
def eS:Rn:=nj 2 1 iu
def fI:Ef:=(iTm ic (iC (.str "abcdef")) (ae (iV 0) ah))
def iw:Sf:=(av (aK (.nm 1) (iTm ft (iV 0) (ae (iC (.str "abcdef")) ah))) (aW (aQ (ae (iCB jZ (ae (ay (iLc 1 [] (cO (dk (iV 0) (iPs (iCB bN (ae (iV 1) ah))) iPn)) (.nm 0) bg fI)) ah)) (ae (au cX (ae (iV 1) ah)) ah)))))
def cw:Fn:=bR 2 1 iw
def gh:Ef:=(iTm ic (iC (.str "abcdef")) (ae (iV 0) ah))
def jN:Rf:=(di xNo (aK (.nm 1) (iTm ft (iV 0) (ae (iC (.str "abcdef")) ah))) (gE (iCB jZ (ae (ay (iLc 1 [] (cO (dk (iV 0) (iPs (iCB bN (ae (iV 1) ah))) iPn)) (.nm 0) bg gh)) ah)) (gY eS (ae (iV 1) ah))))
def jt:Rn:=nj 2 1 jN
def cm:Ef:=(au cw (ae (iV 0) ah))
def fH:Sf:=(av (bd (ba (bJ bG (iCB cC (ae (iV 0) (ae (iC (.ty "str")) ah))))) gk aL) (av (aK (.nm 1) (sx (iV 0) (ae (iC (.str " ")) ah))) (av (aK (.nm 2) (iSl (iV 1) (iPs (iC (.int 1))) iPn)) (av (aK (.nm 3) (aQ (ae (iOp dIx (iV 1) (iC (.int 0))) (ae (gj (aC dEq (iV 2) (ay (cL (ae (iC (.str "0")) ah)))) (aQ ah) (iCB jZ (ae (ay (iLc 1 [] (bh (iV 2)) (.nm 0) bg cm)) ah))) ah)))) (av (bd (dv (ba (bJ bG (au dw (ae (iV 3) ah)))) (aC dNe (au cp (ae (iV 3) ah)) (iV 0))) gk aL) (aW (iV 3)))))))
def cb:Fn:=bR 4 1 fH
def dB:Ef:=(au cw (ae (iV 0) ah))
def cB:Rf:=(gY jt (ae (iV 0) ah))
def kM:Ef:=(au cw (ae (iV 0) ah))
def gf:Rf:=(di (xIf (ba (bJ bG (iCB cC (ae (iV 0) (ae (iC (.ty "str")) ah))))) (eR (ae (iC (.str "no text")) ah)) xNo) (bd (ba (bJ bG (iCB cC (ae (iV 0) (ae (iC (.ty "str")) ah))))) gk aL) (di xNo (aK (.nm 1) (sx (iV 0) (ae (iC (.str " ")) ah))) (di xNo (aK (.nm 2) (iSl (iV 1) (iPs (iC (.int 1))) iPn)) (di (gE (iOp dIx (iV 1) (iC (.int 0))) (xIf (aC dEq (iV 2) (ay (cL (ae (iC (.str "0")) ah)))) xNo (xLc 1 [] (bh (iV 2)) (.nm 0) dB cB))) (aK (.nm 3) (aQ (ae (iOp dIx (iV 1) (iC (.int 0))) (ae (gj (aC dEq (iV 2) (ay (cL (ae (iC (.str "0")) ah)))) (aQ ah) (iCB jZ (ae (ay (iLc 1 [] (bh (iV 2)) (.nm 0) bg kM)) ah))) ah)))) (di (xIf (dv (ba (bJ bG (au dw (ae (iV 3) ah)))) (aC dNe (au cp (ae (iV 3) ah)) (iV 0))) (eR (ae (iC (.str "no polynomial is written so")) ah)) xNo) (bd (dv (ba (bJ bG (au dw (ae (iV 3) ah)))) (aC dNe (au cp (ae (iV 3) ah)) (iV 0))) gk aL) xNo)))))
def dM:Rn:=nj 4 1 gf
def gL:Sf:=(av (aK (.nm 2) (iC (.int 0))) (av (bd (aC dLt (iV 1) (iCB bN (ae (iV 0) ah))) (aK (.nm 2) (iOp dIx (iV 0) (iV 1))) aL) (av (aK (.nm 3) (iOp kf (iOp kf (iOp kf (iOp uh (iC (.int 10)) (iC (.int 60))) (iOp uh (iC (.int 10)) (iC (.int 60)))) (iOp uh (iC (.int 10)) (iC (.int 60)))) (iOp uh (iC (.int 10)) (iC (.int 60))))) (av (aK (.nm 4) (iOp jW (iOp kf (iOp aU (iOp aU (iOp jW (iV 2) (iC (.int 2147483629))) (iOp kf (iC (.int 7919)) (iV 1))) (iC (.int 11))) (iC (.int 48271))) (iC (.int 2147483647)))) (aW (mP (cL (ae (iOp kf (iOp jW (iCB oV (ae (iV 2) ah)) (iV 3)) (iCB nv (ae (iOp dGe (iCB oV (ae (iV 2) ah)) (iOp uh (iC (.int 10)) (iC (.int 18)))) ah))) (ae (iV 4) (ae (iC (.int 0)) ah))))))))))
def fL:Fn:=bR 5 2 gL
def gM:Sf:=(av (bd (aC dGt (iOp dIx (iV 0) (iC (.int 0))) (iC (.int 0))) (av (aK (.nm 2) (iOp jW (iOp dIx (iV 0) (iC (.int 0))) (iV 1))) (av (lE (iV 0) (iC (.int 0)) (iOp oW (iOp dIx (iV 0) (iC (.int 0))) (iV 1))) (aW (iV 2)))) aL) (av (lE (iV 0) (iC (.int 2)) (iOp aU (iOp dIx (iV 0) (iC (.int 2))) (iC (.int 1)))) (av (lE (iV 0) (iC (.int 1)) (iOp jW (iOp aU (iOp aU (iOp kf (iOp dIx (iV 0) (iC (.int 1))) (iC (.int 39373))) (iC (.int 12345))) (iOp kf (iC (.int 31)) (iOp dIx (iV 0) (iC (.int 2))))) (iC (.int 2147483647)))) (aW (iOp jW (iOp oW (iOp jW (iOp kf (iOp dIx (iV 0) (iC (.int 1))) (iOp aU (iOp jW (iOp dIx (iV 0) (iC (.int 1))) (iC (.int 40009))) (iC (.int 3)))) (iC (.int 2147483629))) (iC (.int 64))) (iV 1))))))
def bC:Fn:=bR 3 2 gM
def iO:Sf:=(aW (iOp dIx (iV 1) (au bC (ae (iV 0) (ae (iCB bN (ae (iV 1) ah)) ah)))))
def bo:Fn:=bR 2 2 iO
def eA:Sf:=(pc (aW (ay (cL (ae (jc cz dE cb (iV 1) (ae (iV 0) ah)) ah)))) (qk d2 gZ dM (iV 1) (ae (iV 0) ah)))
def dD:Fn:=bR 2 2 eA
def fR:Sf:=(av (aK (.nm 3) (au dD (ae (iV 0) (ae (iV 2) ah)))) (bd (aC dNe (iV 3) (ay (cL ah))) (av (aK (.nm 1) (iOp aU (iV 1) (iC (.int 1)))) (av (aK (.nm 4) (jc dZ (bS 7) cp (iV 2) (ae (iOp dIx (iV 3) (iC (.int 0))) ah))) (av (bd (dv (aC ww (jc bV d5 dw (iV 2) (ae (iOp dIx (iV 3) (iC (.int 0))) ah)) (iC (.bl true))) (aC dNe (iV 4) (iV 0))) (aW (iC (.bl false))) aL) (bd (aC dNe (au dD (ae (iV 4) (ae (iV 2) ah))) (iV 3)) (aW (iC (.bl false))) aL)))) aL))
def ii:Sf:=(av (aK (.nm 1) (iC (.int 0))) (av (qy (fA (ae (iC (.int 3)) ah)) (.nm 2) fR) (aW (iOp dLt (iV 1) (iC (.int 2))))))
def jz:Fn:=bR 5 1 ii
def i8:Ef:=(au bo (ae (iV 1) (ae (iV 2) ah)))
def iP:Sf:=(av (aK (.nm 1) (ay (cL (ae (iC (.str "0")) (ae (iC (.str "1")) (ae (iC (.str "-")) (ae (iC (.str "01-0")) (ae (iC (.str "a")) (ae (iC (.str "b")) (ae (iC (.str "f")) (ae (iC (.str "!")) (ae (iC (.str "&(")) (ae (iC (.str "|(")) (ae (iC (.str "^(")) (ae (iC (.str "2(")) (ae (iC (.str ")")) (ae (iC (.str " ")) (ae (iC (.str "odd ")) (ae (iC (.str "both ")) (ae (iC (.str "-a")) (ae (iC (.str "3ab")) ah))))))))))))))))))))) (av (aK (.nm 2) (fJ (iC (.str "")) (ae (ay (iLc 1 [0,1] (fA (ae (au bC (ae (iV 0) (ae (iC (.int 10)) ah))) ah)) (.nm 0) bg i8)) ah))) (aW (iOp aU (iV 2) (iOp dIx (ay (cL (ae (iC (.str "")) (ae (iC (.str "\n")) ah)))) (iOp oW (au bC (ae (iV 0) (ae (iC (.int 9)) ah))) (iC (.int 8))))))))
def kr:Fn:=bR 3 1 iP
def gH:Ef:=(iV 0)
def fj:Tf:=(aC dEq (au bC (ae (iV 1) (ae (iC (.int 2)) ah))) (iC (.int 1)))
def i6:Ef:=(au bo (ae (iV 1) (ae (ay (cL (ae (iC (.str "a")) (ae (iC (.str "!b")) (ae (iC (.str "&(c d)")) (ae (iC (.str "2(a b f)")) (ae (iC (.str "|()")) (ae (iC (.str "^(e)")) ah)))))))) ah)))
def i7:Ef:=(au bo (ae (iV 1) (ae (ay (cL (ae (iC (.str "0")) (ae (iC (.str "1")) (ae (iC (.str "-")) ah))))) ah)))
def iN:Sf:=(av (aK (.nm 1) (fJ (iC (.str "")) (ae (ay (iLc 1 [0] (fA (ae (iOp AC (iC (.int 1)) (au bC (ae (iV 0) (ae (iC (.int 5)) ah)))) ah)) (.nm 0) bg i7)) ah))) (av (aK (.nm 2) (ay (iLc 1 [0] (fA (ae (au bC (ae (iV 0) (ae (iC (.int 7)) ah))) ah)) (.nm 0) bg i6))) (av (aK (.nm 3) (iOp aU (iOp aU (au bo (ae (iV 0) (ae (ay (cL (ae (iC (.str "&(")) (ae (iC (.str "|(")) (ae (iC (.str "^(")) (ae (iC (.str "0(")) (ae (iC (.str "9(")) (ae (iC (.str "!3(")) ah)))))))) ah))) (fJ (iC (.str " ")) (ae (iV 2) ah))) (iC (.str ")")))) (av (aK (.nm 4) (ay (iLc 1 [0] (bh (ay (cL (ae (iC (.str "-7")) (ae (iC (.str "a")) (ae (iC (.str "2ab")) (ae (iC (.str "-abc")) (ae (iC (.str "12b")) (ae (iC (.str "-c")) (ae (iC (.str "40f")) ah)))))))))) (.nm 0) fj gH))) (aW (ay (cL (ae (iV 1) (ae (iV 3) (ae (fJ (iC (.str " ")) (ae (iOp aU (ay (cL (ae (au bo (ae (iV 0) (ae (ay (cL (ae (iC (.str "odd")) (ae (iC (.str "both")) ah)))) ah))) ah))) (xG (iV 4) (ay (cL (ae (iC (.str "0")) ah))))) ah)) ah))))))))))
def iT:Fn:=bR 5 1 iN
def lW:Ef:=(au jz (ae (iV 0) ah))
def sE:Sf:=(av (aK (.nm 6) (au bC (ae (iV 2) (ae (iOp aU (iCB bN (ae (iV 5) ah)) (iC (.int 1))) ah)))) (av (lq (ki fS (iV 4) (ae (iOp aU (iOp aU (dk (iV 5) iPn (iPs (iV 6))) (au bo (ae (iV 2) (ae (ay (cL (ae (iC (.str "")) (ae (iC (.str "0")) (ae (iC (.str "a")) (ae (iC (.str " ")) (ae (iC (.str "-")) (ae (iC (.str ")")) ah)))))))) ah)))) (dk (iV 5) (iPs (iOp aU (iV 6) (iC (.int 1)))) iPn)) ah))) (lq (ki fS (iV 4) (ae (iOp aU (iOp aU (iV 5) (au bo (ae (iV 2) (ae (ay (cL (ae (iC (.str "")) (ae (iC (.str " ")) ah)))) ah)))) (au bo (ae (iV 2) (ae (iV 3) ah)))) ah)))))
def lX:Ef:=(au kr (ae (iV 1) ah))
def lY:Ef:=(iCB bN (ae (au dD (ae (iV 1) (ae (iV 0) ah))) ah))
def sF:Sf:=(av (aK (.nm 2) (au fL (ae (iV 0) (ae (iV 1) ah)))) (av (aK (.nm 3) (au iT (ae (iV 2) ah))) (av (bd (aC dNe (ay (iLc 2 [] (sv (ae (iV 3) ah)) (.tp [0,1]) bg lY)) (ay (cL (ae (iC (.int 1)) (ae (iC (.int 1)) (ae (iC (.int 1)) ah)))))) (aW (iC (.bl false))) aL) (av (aK (.nm 4) (mP (yM yX (ay (iLc 1 [2] (fA (ae (iC (.int 40)) ah)) (.nm 0) bg lX)) (iV 3)))) (av (qy (bh (iV 3)) (.nm 5) sE) (bd (ba (bJ bG (iCB qx (ae (ay (vj 1 [] (iV 4) (.nm 0) bg lW)) ah)))) (aW (iC (.bl false))) aL))))))
def wj:Sf:=(av (qy (fA (ae (iOp aU (iC (.int 1)) (iCB CH (ae (iC (.int 6)) (ae (iCB bN (ae (iV 0) ah)) ah)))) ah)) (.nm 1) sF) (aW (iC (.bl true))))
def uB:Fn:=vR 7 1 wj
end
end Own
section
set_option maxHeartbeats 2000000
namespace Own
open PySem L2
def top (i:Nat):Stmt:=PySem.Challenge.pw_signpoly_k81_whole_texts_there_and_back.main.body.getD i (.Pass ⟨0,0,0,0⟩)
abbrev fC:Stmt:=top 5
abbrev eO:Stmt:=top 6
abbrev cI:Stmt:=top 9
abbrev gC:Stmt:=top 12
abbrev gz:Stmt:=top 13
abbrev eN:Stmt:=top 14
abbrev gA:Stmt:=top 15
abbrev bW:Stmt:=top 21
abbrev fB:Stmt:=top 22
abbrev fD:Stmt:=top 23
abbrev eX:Stmt:=top 24
abbrev gB:Stmt:=top 25
abbrev ce:Stmt:=top 30
abbrev cJ:Stmt:=top 31
abbrev dh:Stmt:=top 32
abbrev dI:Stmt:=top 33
abbrev dJ:Stmt:=top 34
abbrev eP:Stmt:=top 40
abbrev bt:Stmt:=top 41
abbrev fN:Stmt:=top 42
abbrev cZ:Stmt:=top 43
abbrev dH:Stmt:=top 44
abbrev dG:Stmt:=top 45
abbrev cq:Stmt:=top 46
abbrev d6:Stmt:=top 47
abbrev cr:Stmt:=top 48
abbrev eJ:Stmt:=top 50
abbrev eM:Stmt:=top 51
abbrev eK:Stmt:=top 52
abbrev eL:Stmt:=top 53
abbrev dX:Stmt:=top 54
abbrev dF:Stmt:=top 55
abbrev cH:Stmt:=top 56
abbrev ly:Stmt:=top 57
theorem uX:aZ ["thing"] ["thing"] (ak fC):=⟨U,U,U,by decide +kernel,U,by decide +kernel,by decide +kernel⟩
theorem tK:aZ ["thing","low","high"] ["thing","low","high"] (ak eO):=⟨U,U,U,by decide +kernel,U,by decide +kernel,by decide +kernel⟩
theorem p8:aZ ["thing"] ["thing"] (ak cI):=⟨U,U,U,by decide +kernel,U,by decide +kernel,by decide +kernel⟩
theorem jJ:aZ ["thing","ahead","k"] ["thing"] (ak gC):=⟨U,U,U,by decide +kernel,U,by decide +kernel,by decide +kernel⟩
theorem vT:aZ ["thing"] ["thing"] (ak gz):=⟨U,U,U,by decide +kernel,U,by decide +kernel,by decide +kernel⟩
theorem ip:aZ ["thing","ahead","part"] ["thing"] (ak eN):=⟨U,U,U,by decide +kernel,U,by decide +kernel,by decide +kernel⟩
theorem vU:aZ ["thing"] ["thing"] (ak gA):=⟨U,U,U,by decide +kernel,U,by decide +kernel,by decide +kernel⟩
theorem lO:aZ ["thing"] ["thing"] (ak bW):=⟨U,U,U,by decide +kernel,U,by decide +kernel,by decide +kernel⟩
theorem nH:aZ ["thing","word"] ["thing"] (ak fB):=⟨U,U,U,by decide +kernel,U,by decide +kernel,by decide +kernel⟩
theorem uY:aZ ["rule"] ["rule"] (ak fD):=⟨U,U,U,by decide +kernel,U,by decide +kernel,by decide +kernel⟩
theorem iJ:aZ ["thing","deep","many","part","within"] ["thing","deep"] (ak eX):=⟨U,U,U,by decide +kernel,U,by decide +kernel,by decide +kernel⟩
theorem p9:aZ ["thing","many"] ["thing"] (ak gB):=⟨U,U,U,by decide +kernel,U,by decide +kernel,by decide +kernel⟩
theorem nk:aZ ["f"] ["f"] (ak ce):=⟨U,U,U,by decide +kernel,U,by decide +kernel,by decide +kernel⟩
theorem mD:aZ ["rule","ahead"] ["rule"] (ak cJ):=⟨U,U,U,by decide +kernel,U,by decide +kernel,by decide +kernel⟩
theorem eQ:aZ ["number","figures","rest"] ["number"] (ak dh):=⟨U,U,U,by decide +kernel,U,by decide +kernel,by decide +kernel⟩
theorem mC:aZ ["term","number","letters"] ["term","number"] (ak dI):=⟨U,U,U,by decide +kernel,U,by decide +kernel,by decide +kernel⟩
theorem tL:aZ ["poly"] ["poly"] (ak dJ):=⟨U,U,U,by decide +kernel,U,by decide +kernel,by decide +kernel⟩
theorem nI:aZ ["sign"] ["sign"] (ak eP):=⟨U,U,U,by decide +kernel,U,by decide +kernel,by decide +kernel⟩
theorem dz:aZ ["thing","f"] ["thing"] (ak bt):=⟨U,U,U,by decide +kernel,U,by decide +kernel,by decide +kernel⟩
theorem p7:aZ ["sign"] ["sign"] (ak fN):=⟨U,U,U,by decide +kernel,U,by decide +kernel,by decide +kernel⟩
theorem aT:aZ ["text","place","deep","ahead","rules","told"] ["text","place","deep"] (ak cZ):=⟨U,U,U,by decide +kernel,U,by decide +kernel,by decide +kernel⟩
theorem bA:aZ ["text","place","deep","sign","told","head"] ["text","place","deep"] (ak dH):=⟨U,U,U,by decide +kernel,U,by decide +kernel,by decide +kernel⟩
theorem gc:aZ ["thing","told"] ["thing"] (ak dG):=⟨U,U,U,by decide +kernel,U,by decide +kernel,by decide +kernel⟩
theorem iq:aZ ["text","figures"] ["text"] (ak cq):=⟨U,U,U,by decide +kernel,U,by decide +kernel,by decide +kernel⟩
theorem jK:aZ ["word","ahead"] ["word"] (ak d6):=⟨U,U,U,by decide +kernel,U,by decide +kernel,by decide +kernel⟩
theorem cF:aZ ["thing","words","parts","poly"] ["thing"] (ak cr):=⟨U,U,U,by decide +kernel,U,by decide +kernel,by decide +kernel⟩
theorem fZ:aZ ["_law_script","_law_k","_law_cell","_law_far","_law_seed"] ["_law_script","_law_k"] (ak eJ):=⟨U,U,U,by decide +kernel,U,by decide +kernel,by decide +kernel⟩
theorem mB:aZ ["_law_hand_here","_law_many","_law_digit"] ["_law_hand_here","_law_many"] (ak eM):=⟨U,U,U,by decide +kernel,U,by decide +kernel,by decide +kernel⟩
theorem tH:aZ ["_law_hand_here","_law_some"] ["_law_hand_here","_law_some"] (ak eK):=⟨U,U,U,by decide +kernel,U,by decide +kernel,by decide +kernel⟩
theorem tJ:aZ ["_law_text_here","_law_way"] ["_law_text_here","_law_way"] (ak eL):=⟨U,U,U,by decide +kernel,U,by decide +kernel,by decide +kernel⟩
theorem d7:aZ ["_law_text_here","_law_readers","_law_way","_law_found","_law_shown"] ["_law_text_here"] (ak dX):=⟨U,U,U,by decide +kernel,U,by decide +kernel,by decide +kernel⟩
theorem jI:aZ ["_law_hand_here","_law_some","_law_text_here"] ["_law_hand_here"] (ak dF):=⟨U,U,U,by decide +kernel,U,by decide +kernel,by decide +kernel⟩
theorem fY:aZ ["_law_hand_here","_law_values","_law_inner","_law_rule","_law_parts"] ["_law_hand_here"] (ak cH):=⟨U,U,U,by decide +kernel,U,by decide +kernel,by decide +kernel⟩
theorem lP:aZ ["_law_script","_law_k","_law_hand_here","_law_good_here","_law_texts","_law_text_here","_law_at"] ["_law_script"] (ak ly):=⟨U,U,U,by decide +kernel,U,by decide +kernel,by decide +kernel⟩
set_option genSizeOf false in
set_option genInjectivity false in
structure Adr where
 f0:Addr
 g0:qaZ
 f1:Addr
 g1:qaZ
 f2:Addr
 g2:qaZ
 f3:Addr
 g3:qaZ
 f4:Addr
 g4:qaZ
 f5:Addr
 g5:qaZ
 f6:Addr
 g6:qaZ
 f7:Addr
 g7:qaZ
 f8:Addr
 g8:qaZ
 f9:Addr
 g9:qaZ
 f10:Addr
 g10:qaZ
 f11:Addr
 g11:qaZ
 f12:Addr
 g12:qaZ
 f13:Addr
 g13:qaZ
 f14:Addr
 g14:qaZ
 f15:Addr
 g15:qaZ
 f16:Addr
 g16:qaZ
 f17:Addr
 g17:qaZ
 f18:Addr
 g18:qaZ
 f19:Addr
 g19:qaZ
 f20:Addr
 g20:qaZ
 f21:Addr
 g21:qaZ
 f22:Addr
 g22:qaZ
 f23:Addr
 g23:qaZ
 f24:Addr
 g24:qaZ
 f25:Addr
 g25:qaZ
 f26:Addr
 g26:qaZ
 f27:Addr
 g27:qaZ
 f28:Addr
 g28:qaZ
 f29:Addr
 g29:qaZ
 f30:Addr
 g30:qaZ
 f31:Addr
 g31:qaZ
 f32:Addr
 g32:qaZ
 f33:Addr
 g33:qaZ
 ga_BLOCK:Tok
 ga_FIGURES:Tok
 ga_GREATEST_LEAST:Tok
 ga_LAST_SWITCH:Tok
 ga_LETTERS:Tok
 ga_MOST_DEEP:Tok
 ga_MOST_FIGURES:Tok
 ga_MOST_PARTS:Tok
 ga_MOST_RULES:Tok
 ga_KINDS:Addr
 ga_LENGTHS:Addr
 ga_SIGNS:Addr
 ga_VALUES:Addr
 ga_WORDS:Addr
 ca_NoText:Addr
structure Txt (P:qaH) (w:World) (K:qad) (mg:Str->Option Value) (t:Adr):Prop where
 cm_NoText:mg "NoText" = some (.ref t.ca_NoText)
 ck:qfZ K t.ca_NoText CC "ValueError.__new__" = true
 ch:AQ K t.ca_NoText t.ca_NoText=true
 F0:Fun K "is_whole" "is_whole" fC t.f0 t.g0
 m0:mg "is_whole" = some (.ref t.f0)
 b0:bP K t.g0 ["thing"] []
 F1:Fun K "is_within" "is_within" eO t.f1 t.g1
 m1:mg "is_within" = some (.ref t.f1)
 b1:bP K t.g1 ["thing","low","high"] []
 F2:Fun K "is_function" "is_function" cI t.f2 t.g2
 m2:mg "is_function" = some (.ref t.f2)
 b2:bP K t.g2 ["thing"] []
 F3:Fun K "is_term" "is_term" gC t.f3 t.g3
 m3:mg "is_term" = some (.ref t.f3)
 b3:bP K t.g3 ["thing"] []
 F4:Fun K "is_part" "is_part" gz t.f4 t.g4
 m4:mg "is_part" = some (.ref t.f4)
 b4:bP K t.g4 ["thing"] []
 F5:Fun K "are_parts" "are_parts" eN t.f5 t.g5
 m5:mg "are_parts" = some (.ref t.f5)
 b5:bP K t.g5 ["thing"] []
 F6:Fun K "is_poly" "is_poly" gA t.f6 t.g6
 m6:mg "is_poly" = some (.ref t.f6)
 b6:bP K t.g6 ["thing"] []
 F7:Fun K "is_row_of_parts" "is_row_of_parts" bW t.f7 t.g7
 m7:mg "is_row_of_parts" = some (.ref t.f7)
 b7:bP K t.g7 ["thing"] []
 F8:Fun K "has_form" "has_form" fB t.f8 t.g8
 m8:mg "has_form" = some (.ref t.f8)
 b8:bP K t.g8 ["thing"] []
 F9:Fun K "parts_of" "parts_of" fD t.f9 t.g9
 m9:mg "parts_of" = some (.ref t.f9)
 b9:bP K t.g9 ["rule"] []
 F10:Fun K "counted" "counted" eX t.f10 t.g10
 m10:mg "counted" = some (.ref t.f10)
 b10:bP K t.g10 ["thing","deep"] []
 F11:Fun K "is_rule" "is_rule" gB t.f11 t.g11
 m11:mg "is_rule" = some (.ref t.f11)
 b11:bP K t.g11 ["thing"] []
 F12:Fun K "show_function" "show_function" ce t.f12 t.g12
 m12:mg "show_function" = some (.ref t.f12)
 b12:bP K t.g12 ["f"] []
 F13:Fun K "show_rule" "show_rule" cJ t.f13 t.g13
 m13:mg "show_rule" = some (.ref t.f13)
 b13:bP K t.g13 ["rule"] []
 F14:Fun K "show_number" "show_number" dh t.f14 t.g14
 m14:mg "show_number" = some (.ref t.f14)
 b14:bP K t.g14 ["number"] []
 F15:Fun K "show_part" "show_part" dI t.f15 t.g15
 m15:mg "show_part" = some (.ref t.f15)
 b15:bP K t.g15 ["term","number"] []
 F16:Fun K "show_poly" "show_poly" dJ t.f16 t.g16
 m16:mg "show_poly" = some (.ref t.f16)
 b16:bP K t.g16 ["poly"] []
 F17:Fun K "value_by" "value_by" eP t.f17 t.g17
 m17:mg "value_by" = some (.ref t.f17)
 b17:bP K t.g17 ["sign"] []
 F18:Fun K "read_function" "read_function" bt t.f18 t.g18
 m18:mg "read_function" = some (.ref t.f18)
 b18:bP K t.g18 ["thing"] []
 F19:Fun K "head_by" "head_by" fN t.f19 t.g19
 m19:mg "head_by" = some (.ref t.f19)
 b19:bP K t.g19 ["sign"] []
 F20:Fun K "rules_from" "rules_from" cZ t.f20 t.g20
 m20:mg "rules_from" = some (.ref t.f20)
 b20:bP K t.g20 ["text","place","deep"] []
 F21:Fun K "rule_from" "rule_from" dH t.f21 t.g21
 m21:mg "rule_from" = some (.ref t.f21)
 b21:bP K t.g21 ["text","place","deep"] []
 F22:Fun K "read_rule" "read_rule" dG t.f22 t.g22
 m22:mg "read_rule" = some (.ref t.f22)
 b22:bP K t.g22 ["thing"] []
 F23:Fun K "number_by" "number_by" cq t.f23 t.g23
 m23:mg "number_by" = some (.ref t.f23)
 b23:bP K t.g23 ["text"] []
 F24:Fun K "part_by" "part_by" d6 t.f24 t.g24
 m24:mg "part_by" = some (.ref t.f24)
 b24:bP K t.g24 ["word"] []
 F25:Fun K "read_poly" "read_poly" cr t.f25 t.g25
 m25:mg "read_poly" = some (.ref t.f25)
 b25:bP K t.g25 ["thing"] []
 F26:Fun K "_law_hand" "_law_hand" eJ t.f26 t.g26
 m26:mg "_law_hand" = some (.ref t.f26)
 b26:bP K t.g26 ["_law_script","_law_k"] []
 F27:Fun K "_law_take" "_law_take" eM t.f27 t.g27
 m27:mg "_law_take" = some (.ref t.f27)
 b27:bP K t.g27 ["_law_hand_here","_law_many"] []
 F28:Fun K "_law_pick" "_law_pick" eK t.f28 t.g28
 m28:mg "_law_pick" = some (.ref t.f28)
 b28:bP K t.g28 ["_law_hand_here","_law_some"] []
 F29:Fun K "_law_read" "_law_read" eL t.f29 t.g29
 m29:mg "_law_read" = some (.ref t.f29)
 b29:bP K t.g29 ["_law_text_here","_law_way"] []
 F30:Fun K "_law_right" "_law_right" dX t.f30 t.g30
 m30:mg "_law_right" = some (.ref t.f30)
 b30:bP K t.g30 ["_law_text_here"] []
 F31:Fun K "_law_text" "_law_text" dF t.f31 t.g31
 m31:mg "_law_text" = some (.ref t.f31)
 b31:bP K t.g31 ["_law_hand_here"] []
 F32:Fun K "_law_good" "_law_good" cH t.f32 t.g32
 m32:mg "_law_good" = some (.ref t.f32)
 b32:bP K t.g32 ["_law_hand_here"] []
 F33:Fun K "law" "law" ly t.f33 t.g33
 m33:mg "law" = some (.ref t.f33)
 b33:bP K t.g33 ["_law_script"] []
 z_abs:mg "abs" = none
 z_all:mg "all" = none
 z_bool:mg "bool" = none
 z_enumerate:mg "enumerate" = none
 z_int:mg "int" = none
 z_isinstance:mg "isinstance" = none
 z_len:mg "len" = none
 z_list:mg "list" = none
 z_min:mg "min" = none
 z_range:mg "range" = none
 z_str:mg "str" = none
 z_tuple:mg "tuple" = none
 g_BLOCK:mg "BLOCK" = some (.int 1000000000000000000 t.ga_BLOCK)
 gq_BLOCK:∀ H φ,Rl K H φ (.int 1000000000000000000) (.int 1000000000000000000)
 g_FIGURES:mg "FIGURES" = some (.str "0123456789" t.ga_FIGURES)
 gq_FIGURES:∀ H φ,Rl K H φ (.str "0123456789") (.str "0123456789")
 g_GREATEST_LEAST:mg "GREATEST_LEAST" = some (.int 9 t.ga_GREATEST_LEAST)
 gq_GREATEST_LEAST:∀ H φ,Rl K H φ (.int 9) (.int 9)
 g_LAST_SWITCH:mg "LAST_SWITCH" = some (.int 5 t.ga_LAST_SWITCH)
 gq_LAST_SWITCH:∀ H φ,Rl K H φ (.int 5) (.int 5)
 g_LETTERS:mg "LETTERS" = some (.str "abcdef" t.ga_LETTERS)
 gq_LETTERS:∀ H φ,Rl K H φ (.str "abcdef") (.str "abcdef")
 g_MOST_DEEP:mg "MOST_DEEP" = some (.int 6 t.ga_MOST_DEEP)
 gq_MOST_DEEP:∀ H φ,Rl K H φ (.int 6) (.int 6)
 g_MOST_FIGURES:mg "MOST_FIGURES" = some (.int 60 t.ga_MOST_FIGURES)
 gq_MOST_FIGURES:∀ H φ,Rl K H φ (.int 60) (.int 60)
 g_MOST_PARTS:mg "MOST_PARTS" = some (.int 6 t.ga_MOST_PARTS)
 gq_MOST_PARTS:∀ H φ,Rl K H φ (.int 6) (.int 6)
 g_MOST_RULES:mg "MOST_RULES" = some (.int 40 t.ga_MOST_RULES)
 gq_MOST_RULES:∀ H φ,Rl K H φ (.int 40) (.int 40)
 g_KINDS:mg "KINDS" = some (.ref t.ga_KINDS)
 gk_KINDS:KTp K t.ga_KINDS [(.str "both"),(.str "odd")]
 g_LENGTHS:mg "LENGTHS" = some (.ref t.ga_LENGTHS)
 gk_LENGTHS:KTp K t.ga_LENGTHS [(.int 1),(.int 2),(.int 4),(.int 8),(.int 16),(.int 32),(.int 64)]
 g_SIGNS:mg "SIGNS" = some (.ref t.ga_SIGNS)
 gk_SIGNS:KDc K P w t.ga_SIGNS [("all",(.str "&")),("any",(.str "|")),("odd",(.str "^"))]
 g_VALUES:mg "VALUES" = some (.ref t.ga_VALUES)
 gk_VALUES:KDc K P w t.ga_VALUES [("1",(.int 1)),("0",(.int 0)),("-",.non)]
 g_WORDS:mg "WORDS" = some (.ref t.ga_WORDS)
 gk_WORDS:KDc K P w t.ga_WORDS [("&",(.str "all")),("|",(.str "any")),("^",(.str "odd"))]
abbrev Bdy (P:qaH) (w:World) (K:qad) (mg:Str->Option Value) (base:Heap) (k:Nat) (N:List Str) (x:Str) (j:Stmt) (f:Addr) (b:Sf):Prop:=∀ (d:Value) (A:qaS) (outer:List Env) (s:qag) (H:Hp) (E:XK),ez k (A.deeper (qcO x (ak j) s.heap.objs.size f d))->ISs K (lU CX0 P w K mg base N x (ak j) f d A outer s H E).nox (aP j) b
abbrev rC (P:qaH) (w:World) (K:qad) (mg:Str->Option Value) (base:Heap) (C:Value) (k:Nat) (N:List Str) (x:Str) (j:Stmt) (f:Addr) (b:Rf):Prop:=∀ (d:Value) (A:qaS) (outer:List Env) (s:qag) (H:Hp) (E:XK),ez k (A.deeper (qcO x (ak j) s.heap.objs.size f d))->RSs K (lU (CX1 P w C) P w K mg base N x (ak j) f d A outer s H E) C (aP j) b
section
variable {P:qaH}{w:World}{K:qad}{mg:Str->Option Value}{base:Heap}{t:Adr}
theorem qp (T:Txt P w K mg t):Bdy P w K mg base 0 ["thing"] "is_whole" fC t.f0 ju:=
 λ_ _ _ _ _ _ a=>(ar (aH (iF (br (dr U) U T.z_isinstance qav (ag (iv 0) (ag (fK U T.z_int qdf (by decide) (by decide)) ai U) U) (by decide) (by decide) U U) (jd (CU (br (dr U) U T.z_isinstance qav (ag (iv 0) (ag (fK U T.z_bool qhB (by decide) (by decide)) ai U) U) (by decide) (by decide) U U))))))
theorem nF (T:Txt P w K mg t):bv P w K mg base CX0 1 t.f0 t.g0 ["thing"] (spI K iG):=
 e9 (N:=["thing"]) (b:=ju) T.F0 uX (qp T)
theorem oH (T:Txt P w K mg t):Bdy P w K mg base 1 ["thing","low","high"] "is_within" eO t.f1 gO:=
 λ_ _ _ _ _ _ a=>(ar (aH (iF (aw (nF T) (by decide) a U T.m0 T.F0.kp T.b0 (ag (iv 0) ai U) (by decide) U U) (jd (yN uG uG (iv 1) (iv 0) (iv 2) (by with_unfolding_all rfl))))))
theorem ij (T:Txt P w K mg t):bv P w K mg base CX0 2 t.f1 t.g1 ["thing","low","high"] (spI K cW):=
 e9 (N:=["thing","low","high"]) (b:=gO) T.F1 tK (oH T)
theorem mH (T:Txt P w K mg t):Bdy P w K mg base 2 ["thing"] "is_function" cI t.f2 de:=
 λ_ _ _ _ _ _ a=>(am (bf (d9 (eF (bL (bM (br (dr U) U T.z_isinstance qav (ag (iv 0) (ag (fK U T.z_tuple qaL (by decide) (by decide)) ai U) U) (by decide) (by decide) U U) U U)) (dm (C5 mq U T.g_LENGTHS T.gk_LENGTHS (br (df U) U T.z_len qa3 (ag (iv 0) ai U) (by decide) (by decide) U U) (by decide) U U)))) (ar (aH gp)) az) (ar (aH (br (oU U U) U T.z_all qcc (ag (aV (gq (eH (ak cI).names ["thing"] ["value"] 1 [] U U U (by decide +kernel)) U (by decide) (gy (iv 0) U) (λ_ _ _ _ _=>(bF (bp (i:=0) (show qbk (α:=Str) ["value"] by decide +kernel) U (by first|exact Or.inl U|exact Or.inr U)))) (λ_ _ _ _ _=>cv) (λ_ _ _ _ _=>(EJ (hM vD (iv 0) km (aJ _)) (jd (aw (ij T) (by decide) a U T.m1 T.F1.kp T.b1 (ag (iv 0) (ag aj (ag aj ai U) U) U) (by decide) U U)))) (λ_=>rfl))) ai U) (by decide) (by decide) U U))))
theorem fU (T:Txt P w K mg t):bv P w K mg base CX0 3 t.f2 t.g2 ["thing"] (spI K bV):=
 e9 (N:=["thing"]) (b:=de) T.F2 p8 (mH T)
theorem rO (T:Txt P w K mg t):Bdy P w K mg base 2 ["thing","ahead","k"] "is_term" gC t.f3 jm:=
 λ_ _ _ _ _ _ a=>(am (bf (bL (bM (br (dr U) U T.z_isinstance qav (ag (iv 0) (ag (fK U T.z_tuple qaL (by decide) (by decide)) ai U) U) (by decide) (by decide) U U) U U)) (ar (aH gp)) az) (am (aE (i:=1) jJ.nd U (by first|exact Or.inl U|exact Or.inr U) (pe aj) U (by first|exact .inl U|exact .inr U)) (am (mQ (gy (iv 0) U) (bF (bp (i:=2) jJ.nd U (by first|exact Or.inl U|exact Or.inr U))) (am (bf (bL (bM (aw (ij T) (by decide) a U T.m1 T.F1.kp T.b1 (ag (iv 2) (ag (aD (aO U) (iv 1) aj) (ag (cG (v:=.int 5) U T.g_LAST_SWITCH ⟨_,U⟩ T.gq_LAST_SWITCH (by decide)) ai U) U) U) (by decide) U U) U U)) (ar (aH gp)) az) (ar (aE (i:=1) jJ.nd U (by first|exact Or.inl U|exact Or.inr U) (iv 2) U (by first|exact .inl U|exact .inr U)))) qbQ U (λ_=>rfl)) (ar (aH gp)))))
theorem vH (T:Txt P w K mg t):bv P w K mg base CX0 3 t.f3 t.g3 ["thing"] (spI K mW):=
 e9 (N:=["thing","ahead","k"]) (b:=jm) T.F3 jJ (rO T)
theorem rK (T:Txt P w K mg t):Bdy P w K mg base 3 ["thing"] "is_part" gz t.f4 jj:=
 λ_ _ _ _ _ _ a=>(am (bf (d9 (eF (bL (bM (br (dr U) U T.z_isinstance qav (ag (iv 0) (ag (fK U T.z_tuple qaL (by decide) (by decide)) ai U) U) (by decide) (by decide) U U) U U)) (dm (aF (fg a U) (br (df U) U T.z_len qa3 (ag (iv 0) ai U) (by decide) (by decide) U U) aj (aJ _))))) (ar (aH gp)) az) (ar (aH (iF (aw (vH T) (by decide) a U T.m3 T.F3.kp T.b3 (ag (aX (iv 0) aj U U) ai U) (by decide) U U) (iF (aw (nF T) (by decide) a U T.m0 T.F0.kp T.b0 (ag (aX (iv 0) aj U U) ai U) (by decide) U U) (jd (hM (fg a U) (aX (iv 0) aj U U) aj (aJ _))))))))
theorem vG (T:Txt P w K mg t):bv P w K mg base CX0 4 t.f4 t.g4 ["thing"] (spI K kT):=
 e9 (N:=["thing"]) (b:=jj) T.F4 vT (rK T)
theorem oG (T:Txt P w K mg t):Bdy P w K mg base 4 ["thing","ahead","part"] "are_parts" eN t.f5 gN:=
 λ_ _ _ _ _ _ a=>(am (bf (bL (bM (br (dr U) U T.z_isinstance qav (ag (iv 0) (ag (fK U T.z_tuple qaL (by decide) (by decide)) ai U) U) (by decide) (by decide) U U) U U)) (ar (aH gp)) az) (am (aE (i:=1) ip.nd U (by first|exact Or.inl U|exact Or.inr U) km U (by first|exact .inl U|exact .inr U)) (am (mQ (gy (iv 0) U) (bF (bp (i:=2) ip.nd U (by first|exact Or.inl U|exact Or.inr U))) (am (bf (d9 (eF (bL (bM (aw (vG T) (by decide) a U T.m4 T.F4.kp T.b4 (ag (iv 2) ai U) (by decide) U U) U U)) (dm (d9 (wG (aF wQ (iv 1) km (aJ _)) (uy (aF (Dl a U) (aX (iv 2) aj U U) (iv 1) (aJ _)))))))) (ar (aH gp)) az) (ar (aE (i:=1) ip.nd U (by first|exact Or.inl U|exact Or.inr U) (aX (iv 2) aj U U) U (by first|exact .inl U|exact .inr U)))) qbQ U (λ_=>rfl)) (ar (aH gp)))))
theorem sT (T:Txt P w K mg t):bv P w K mg base CX0 5 t.f5 t.g5 ["thing"] (spI K kt):=
 e9 (N:=["thing","ahead","part"]) (b:=gN) T.F5 ip (oG T)
theorem rM (T:Txt P w K mg t):Bdy P w K mg base 5 ["thing"] "is_poly" gA t.f6 jk:=
 λ_ _ _ _ _ _ a=>(am (bf (d9 (eF (bL (bM (br (dr U) U T.z_isinstance qav (ag (iv 0) (ag (fK U T.z_tuple qaL (by decide) (by decide)) ai U) U) (by decide) (by decide) U U) U U)) (dm (aF (fg a U) (br (df U) U T.z_len qa3 (ag (iv 0) ai U) (by decide) (by decide) U U) aj (aJ _))))) (ar (aH gp)) az) (ar (aH (iF (br (dr U) U T.z_isinstance qav (ag (aX (iv 0) aj U U) (ag (fK U T.z_str qaT (by decide) (by decide)) ai U) U) (by decide) (by decide) U U) (iF (CW qZ U T.g_KINDS T.gk_KINDS (aX (iv 0) aj U U) (by decide) U U) (jd (aw (sT T) (by decide) a U T.m5 T.F5.kp T.b5 (ag (aX (iv 0) aj U U) ai U) (by decide) U U)))))))
theorem jF (T:Txt P w K mg t):bv P w K mg base CX0 6 t.f6 t.g6 ["thing"] (spI K dw):=
 e9 (N:=["thing"]) (b:=jk) T.F6 vU (rM T)
theorem kc (T:Txt P w K mg t):Bdy P w K mg base 0 ["thing"] "is_row_of_parts" bW t.f7 eg:=
 λ_ _ _ _ _ _ a=>(ar (aH (iF (br (dr U) U T.z_isinstance qav (ag (iv 0) (ag (fK U T.z_tuple qaL (by decide) (by decide)) ai U) U) (by decide) (by decide) U U) (jd (hM uG (br (df U) U T.z_len qa3 (ag (iv 0) ai U) (by decide) (by decide) U U) (cG (v:=.int 6) U T.g_MOST_PARTS ⟨_,U⟩ T.gq_MOST_PARTS (by decide)) (aJ _))))))
theorem iH (T:Txt P w K mg t):bv P w K mg base CX0 1 t.f7 t.g7 ["thing"] (spI K cV):=
 e9 (N:=["thing"]) (b:=eg) T.F7 lO (kc T)
theorem qo (T:Txt P w K mg t):Bdy P w K mg base 2 ["thing","word"] "has_form" fB t.f8 dN:=
 λ_ _ _ _ _ _ a=>(am (bf (d9 (eF (bL (bM (br (dr U) U T.z_isinstance qav (ag (iv 0) (ag (fK U T.z_tuple qaL (by decide) (by decide)) ai U) U) (by decide) (by decide) U U) U U)) (eF (aF (kz U) (br (df U) U T.z_len qa3 (ag (iv 0) ai U) (by decide) (by decide) U U) (bE (ag aj (ag aj ai U) U)) U) (dm (bL (bM (br (dr U) U T.z_isinstance qav (ag (aX (iv 0) aj U U) (ag (fK U T.z_str qaT (by decide) (by decide)) ai U) U) (by decide) (by decide) U U) U U)))))) (ar (aH gp)) az) (am (aE (i:=1) nH.nd U (by first|exact Or.inl U|exact Or.inr U) (aX (iv 0) aj U U) U (by first|exact .inl U|exact .inr U)) (am (bf (aF (dj a U) (iv 1) aq (aJ _)) (ar (aH (iF (hM (dj a U) (br (df U) U T.z_len qa3 (ag (iv 0) ai U) (by decide) (by decide) U U) aj (aJ _)) (iF (aw (ij T) (by decide) a U T.m1 T.F1.kp T.b1 (ag (aX (iv 0) aj U U) (ag aj (ag (cG (v:=.int 9) U T.g_GREATEST_LEAST ⟨_,U⟩ T.gq_GREATEST_LEAST (by decide)) ai U) U) U) (by decide) U U) (jd (aw (iH T) (by decide) a U T.m7 T.F7.kp T.b7 (ag (aX (iv 0) aj U U) ai U) (by decide) U U)))))) az) (am (bf (aF (fg a U) (br (df U) U T.z_len qa3 (ag (iv 0) ai U) (by decide) (by decide) U U) aj (aJ _)) (ar (aH gp)) az) (am (bf (aF (dj a U) (iv 1) aq (aJ _)) (ar (aH (aw (ij T) (by decide) a U T.m1 T.F1.kp T.b1 (ag (aX (iv 0) aj U U) (ag aj (ag (cG (v:=.int 5) U T.g_LAST_SWITCH ⟨_,U⟩ T.gq_LAST_SWITCH (by decide)) ai U) U) U) (by decide) U U))) az) (am (bf (aF (dj a U) (iv 1) aq (aJ _)) (ar (aH gp)) az) (ar (aH (iF (hM (nD U) (iv 1) (bE (ag aq (ag aq (ag aq ai U) U) U)) U) (jd (aw (iH T) (by decide) a U T.m7 T.F7.kp T.b7 (ag (aX (iv 0) aj U U) ai U) (by decide) U U)))))))))))
theorem uH (T:Txt P w K mg t):bv P w K mg base CX0 3 t.f8 t.g8 ["thing"] (spI K cy):=
 e9 (N:=["thing","word"]) (b:=dN) T.F8 nH (qo T)
theorem qq (T:Txt P w K mg t):Bdy P w K mg base 0 ["rule"] "parts_of" fD t.f9 dO:=
 λ_ _ _ _ _ _ a=>(am (bf (aF (dj a U) (aX (iv 0) aj U U) aq (aJ _)) (ar (aH (bE ai))) az) (am (bf (aF (dj a U) (aX (iv 0) aj U U) aq (aJ _)) (ar (aH (bE (ag (aX (iv 0) aj U U) ai U)))) az) (ar (aH (aX (iv 0) (pe aj) U U)))))
theorem uI (T:Txt P w K mg t):bv P w K mg base CX0 1 t.f9 t.g9 ["rule"] (spI K cg):=
 e9 (N:=["rule"]) (b:=dO) T.F9 uY (qq T)
theorem rH (T:Txt P w K mg t) (n:Nat) (e:bv P w K mg base CX0 (3+n) t.f10 t.g10 ["thing","deep"] (spI K (cf n))) (d:Value) (A:qaS) (outer:List Env) (s:qag) (H:Hp) (E:XK) (a:ez (3+n) (A.deeper (qcO "counted" (ak eX) s.heap.objs.size t.f10 d))):ISs K (lU CX0 P w K mg base ["thing","deep","many","part","within"] "counted" (ak eX) t.f10 d A outer s H E).nox (aP eX) (gv (cf n)):=
 (am (bf (d9 (eF (aF (dj a U) (iv 1) aj (aJ _)) (dm (bL (bM (aw (uH T) (by omega) a U T.m8 T.F8.kp T.b8 (ag (iv 0) ai U) (by decide) U U) U U))))) (ar (aH km)) az) (am (aE (i:=2) iJ.nd U (by first|exact Or.inl U|exact Or.inr U) aj U (by first|exact .inl U|exact .inr U)) (am (mQ (gy (aw (uI T) (by omega) a U T.m9 T.F9.kp T.b9 (ag (iv 0) ai U) (by decide) U U) U) (bF (bp (i:=3) iJ.nd U (by first|exact Or.inl U|exact Or.inr U))) (am (aE (i:=4) iJ.nd U (by first|exact Or.inl U|exact Or.inr U) (aw e (qaw _) a U T.m10 T.F10.kp T.b10 (ag (iv 3) (ag (aD kA (iv 1) aj) ai U) U) (by decide) U U) U (by first|exact .inl U|exact .inr U)) (am (bf (aF vD (iv 4) km (aJ _)) (ar (aH km)) az) (ar (aE (i:=2) iJ.nd U (by first|exact Or.inl U|exact Or.inr U) (aD (aO U) (iv 2) (iv 4)) U (by first|exact .inl U|exact .inr U))))) qbQ U (λ_=>rfl)) (ar (aH (iv 2))))))
theorem pJ (T:Txt P w K mg t):∀ n:Nat,bv P w K mg base CX0 (3+n) t.f10 t.g10 ["thing","deep"] (spI K (cf n))
 |0=>⟨λ_ _ _ _ ⟨_,_,_,_,h,_⟩=>(nomatch h),λ_ _ _ _ _ _ _ _ _ _ _ _ _ ⟨_,_,_,_,h,_⟩=>(nomatch h)⟩
 |n+1=>show bv P w K mg base CX0 (3+n+1) t.f10 t.g10 ["thing","deep"] (spI K (bR (qb3 (α:=Str) ["thing","deep","many","part","within"]) (qb3 (α:=Str) ["thing","deep"]) (gv (cf n)))) from e9 (N:=["thing","deep","many","part","within"]) (ps:=["thing","deep"]) (k:=3+n) (b:=gv (cf n)) T.F10 iJ (λd A outer s H E a=>rH T n (pJ T n) d A outer s H E a)
theorem rN (T:Txt P w K mg t):Bdy P w K mg base 11 ["thing","many"] "is_rule" gB t.f11 kO:=
 λ_ _ _ _ _ _ a=>(am (aE (i:=1) p9.nd U (by first|exact Or.inl U|exact Or.inr U) (aw (pJ T 7) (by decide) a U T.m10 T.F10.kp T.b10 (ag (iv 0) (ag (cG (v:=.int 6) U T.g_MOST_DEEP ⟨_,U⟩ T.gq_MOST_DEEP (by decide)) ai U) U) (by decide) U U) U (by first|exact .inl U|exact .inr U)) (ar (aH (iF (hM wQ (iv 1) km (aJ _)) (jd (hM uG (iv 1) (cG (v:=.int 40) U T.g_MOST_RULES ⟨_,U⟩ T.gq_MOST_RULES (by decide)) (aJ _)))))))
theorem jG (T:Txt P w K mg t):bv P w K mg base CX0 12 t.f11 t.g11 ["thing"] (spI K d5):=
 e9 (N:=["thing","many"]) (b:=kO) T.F11 p9 (rN T)
theorem lA (T:Txt P w K mg t):Bdy P w K mg base 0 ["f"] "show_function" ce t.f12 fm:=
 λ_ _ _ _ _ _ a=>(ar (aH (iS aq (ag (aV (gq (eH (ak ce).names ["f"] ["value"] 1 [] U U U (by decide +kernel)) U (by decide) (gy (iv 0) U) (λ_ _ _ _ _=>(bF (bp (i:=0) (show qbk (α:=Str) ["value"] by decide +kernel) U (by first|exact Or.inl U|exact Or.inr U)))) (λ_ _ _ _ _=>cv) (λ_ _ _ _ _=>(lr (aF vD (iv 0) km (aJ _)) aq (jn rV U T.z_str qaT (ag (iv 0) ai U) (by decide) (by decide) U U))) (λ_=>rfl))) ai U) U U U U)))
theorem nc (T:Txt P w K mg t):bv P w K mg base CX0 1 t.f12 t.g12 ["f"] (spI K dZ):=
 e9 (N:=["f"]) (b:=fm) T.F12 nk (lA T)
theorem oP (T:Txt P w K mg t) (n:Nat) (e:bv P w K mg base CX0 (0+n) t.f13 t.g13 ["rule"] (spI K (bS n))) (d:Value) (A:qaS) (outer:List Env) (s:qag) (H:Hp) (E:XK) (a:ez (0+n) (A.deeper (qcO "show_rule" (ak cJ) s.heap.objs.size t.f13 d))):ISs K (lU CX0 P w K mg base ["rule","ahead"] "show_rule" (ak cJ) t.f13 d A outer s H E).nox (aP cJ) (gR (bS n)):=
 (am (bf (aF (dj a U) (aX (iv 0) aj U U) aq (aJ _)) (ar (aH (aX (cG (v:=.str "abcdef") U T.g_LETTERS ⟨_,U⟩ T.gq_LETTERS (by decide)) (aX (iv 0) aj U U) U U))) az) (am (bf (aF (dj a U) (aX (iv 0) aj U U) aq (aJ _)) (ar (aH (aD (aO U) aq (aw e (qaw _) a U T.m13 T.F13.kp T.b13 (ag (aX (iv 0) aj U U) ai U) (by decide) U U)))) az) (am (aE (i:=1) mD.nd U (by first|exact Or.inl U|exact Or.inr U) (lr (aF (dj a U) (aX (iv 0) aj U U) aq (aJ _)) (jn rV U T.z_str qaT (ag (aX (iv 0) aj U U) ai U) (by decide) (by decide) U U) (sy U T.g_SIGNS T.gk_SIGNS (aX (iv 0) aj U U) U (by decide))) U (by first|exact .inl U|exact .inr U)) (ar (aH (aD (aO U) (aD (aO U) (aD (aO U) (iv 1) aq) (iS aq (ag (aV (gq (eH (ak cJ).names ["rule","ahead"] ["part"] 1 [] U U U (by decide +kernel)) U (by decide) (gy (aX (iv 0) (pe aj) U U) U) (λ_ _ _ _ _=>(bF (bp (i:=0) (show qbk (α:=Str) ["part"] by decide +kernel) U (by first|exact Or.inl U|exact Or.inr U)))) (λ_ _ _ _ _=>cv) (λ_ _ _ _ _=>(aw e (qaw _) a U T.m13 T.F13.kp T.b13 (ag (iv 0) ai U) (by decide) U U)) (λ_=>rfl))) ai U) U U U U)) aq))))))
theorem mn (T:Txt P w K mg t):∀ n:Nat,bv P w K mg base CX0 (0+n) t.f13 t.g13 ["rule"] (spI K (bS n))
 |0=>⟨λ_ _ _ _ ⟨_,_,_,_,h,_⟩=>(nomatch h),λ_ _ _ _ _ _ _ _ _ _ _ _ _ ⟨_,_,_,_,h,_⟩=>(nomatch h)⟩
 |n+1=>show bv P w K mg base CX0 (0+n+1) t.f13 t.g13 ["rule"] (spI K (bR (qb3 (α:=Str) ["rule","ahead"]) (qb3 (α:=Str) ["rule"]) (gR (bS n)))) from e9 (N:=["rule","ahead"]) (ps:=["rule"]) (k:=0+n) (b:=gR (bS n)) T.F13 mD (λd A outer s H E a=>oP T n (mn T n) d A outer s H E a)
theorem mI (T:Txt P w K mg t):Bdy P w K mg base 0 ["number","figures","rest"] "show_number" dh t.f14 gG:=
 λ_ _ _ _ _ _ a=>(am (aE (i:=1) eQ.nd U (by first|exact Or.inl U|exact Or.inr U) aq U (by first|exact .inl U|exact .inr U)) (am (aE (i:=2) eQ.nd U (by first|exact Or.inl U|exact Or.inr U) (br rT U T.z_abs qcD (ag (iv 0) ai U) (by decide) (by decide) U U) U (by first|exact .inl U|exact .inr U)) (am (pq 1000 (aF B5 (iv 2) (cG (v:=.int 1000000000000000000) U T.g_BLOCK ⟨_,U⟩ T.gq_BLOCK (by decide)) (aJ _)) (am (aE (i:=1) eQ.nd U (by first|exact Or.inl U|exact Or.inr U) (aD (aO U) (EK (jn rV U T.z_str qaT (ag (aD jC (iv 2) (cG (v:=.int 1000000000000000000) U T.g_BLOCK ⟨_,U⟩ T.gq_BLOCK (by decide))) ai U) (by decide) (by decide) U U) (ag aj ai U) U U U U) (iv 1)) U (by first|exact .inl U|exact .inr U)) (ar (aE (i:=2) eQ.nd U (by first|exact Or.inl U|exact Or.inr U) (aD Dk (iv 2) (cG (v:=.int 1000000000000000000) U T.g_BLOCK ⟨_,U⟩ T.gq_BLOCK (by decide))) U (by first|exact .inl U|exact .inr U)))) qbQ) (ar (aH (aD (aO U) (aD (aO U) (lr (aF wP (iv 0) aj (aJ _)) aq aq) (jn rV U T.z_str qaT (ag (iv 2) ai U) (by decide) (by decide) U U)) (iv 1)))))))
theorem pM (T:Txt P w K mg t):bv P w K mg base CX0 1 t.f14 t.g14 ["number"] (spI K jf):=
 e9 (N:=["number","figures","rest"]) (b:=gG) T.F14 eQ (mI T)
theorem oN (T:Txt P w K mg t):Bdy P w K mg base 1 ["term","number","letters"] "show_part" dI t.f15 gP:=
 λ_ _ _ _ _ _ a=>(am (aE (i:=2) mC.nd U (by first|exact Or.inl U|exact Or.inr U) (iS aq (ag (aV (gq (eH (ak dI).names ["term","number","letters"] ["k"] 1 [] U U U (by decide +kernel)) U (by decide) (gy (iv 0) U) (λ_ _ _ _ _=>(bF (bp (i:=0) (show qbk (α:=Str) ["k"] by decide +kernel) U (by first|exact Or.inl U|exact Or.inr U)))) (λ_ _ _ _ _=>cv) (λ_ _ _ _ _=>(aX (cG (v:=.str "abcdef") U T.g_LETTERS ⟨_,U⟩ T.gq_LETTERS (by decide)) (iv 0) U U)) (λ_=>rfl))) ai U) U U U U) U (by first|exact .inl U|exact .inr U)) (am (bf (d9 (wG (aF (fg a U) (iv 2) aq (aJ _)) (uy (aF (dj a U) (br rT U T.z_abs qcD (ag (iv 1) ai U) (by decide) (by decide) U U) aj (aJ _))))) (ar (aH (aD (aO U) (lr (aF wP (iv 1) aj (aJ _)) aq aq) (iv 2)))) az) (ar (aH (aD (aO U) (aw (pM T) (by decide) a U T.m14 T.F14.kp T.b14 (ag (iv 1) ai U) (by decide) U U) (iv 2))))))
theorem sX (T:Txt P w K mg t):bv P w K mg base CX0 2 t.f15 t.g15 ["term","number"] (spI K ku):=
 e9 (N:=["term","number","letters"]) (b:=gP) T.F15 mC (oN T)
theorem oO (T:Txt P w K mg t):Bdy P w K mg base 2 ["poly"] "show_poly" dJ t.f16 gQ:=
 λ_ _ _ _ _ _ a=>(am (bf (aF (dj a U) (br (df U) U T.z_len qa3 (ag (aX (iv 0) aj U U) ai U) (by decide) (by decide) U U) aj (aJ _)) (ar (aH (aD (aO U) (aX (iv 0) aj U U) aq))) az) (ar (aH (iS aq (ag (aD (aO U) (aV (cP (ag (aX (iv 0) aj U U) ai U))) (aV (gq (eH (ak dJ).names ["poly"] ["term","number"] 2 [] U U U (by decide +kernel)) U (by decide) (gy (aX (iv 0) aj U U) U) (λ_ _ _ _ _=>(yP (ma (bp (i:=0) (show qbk (α:=Str) ["term","number"] by decide +kernel) U (by first|exact Or.inl U|exact Or.inr U)) (ma (bp (i:=1) (show qbk (α:=Str) ["term","number"] by decide +kernel) U (by first|exact Or.inl U|exact Or.inr U)) wD)) U U U U U)) (λ_ _ _ _ _=>cv) (λ_ _ _ _ _=>(aw (sX T) (by decide) a U T.m15 T.F15.kp T.b15 (ag (iv 0) (ag (iv 1) ai U) U) (by decide) U U)) (λ_=>rfl)))) ai U) U U U U))))
theorem il (T:Txt P w K mg t):bv P w K mg base CX0 3 t.f16 t.g16 ["poly"] (spI K cp):=
 e9 (N:=["poly"]) (b:=gQ) T.F16 tL (oO T)
theorem qr (T:Txt P w K mg t):Bdy P w K mg base 0 ["sign"] "value_by" eP t.f17 eD:=
 λ_ _ _ _ _ _ a=>(am (bf (pv sZ U T.g_VALUES T.gk_VALUES (iv 0) (by decide) U) (ar bT) az) (ar (aH (sy U T.g_VALUES T.gk_VALUES (iv 0) U (by decide)))))
theorem kB (T:Txt P w K mg t):bv P w K mg base CX0 1 t.f17 t.g17 ["sign"] (spI K cM):=
 e9 (N:=["sign"]) (b:=eD) T.F17 nI (qr T)
theorem oQ (T:Txt P w K mg t):rC P w K mg base (.ref t.ca_NoText) 0 ["sign"] "value_by" eP t.f17 fO:=
 λ_ _ _ _ _ _ a=>(aY (jS (pv sZ U T.g_VALUES T.gk_VALUES (iv 0) (by decide) U) (dW (cQ T.ck T.cm_NoText U U (ag aq ai U) (by decide) U U)) dy) (bf (pv sZ U T.g_VALUES T.gk_VALUES (iv 0) (by decide) U) (ar bT) az) dy)
theorem sY (T:Txt P w K mg t):bv P w K mg base (CX1 P w (.ref t.ca_NoText)) 1 t.f17 t.g17 ["sign"] (spX K fG):=
 sq (N:=["sign"]) (b:=fO) T.F17 nI (oQ T)
theorem lz (T:Txt P w K mg t):Bdy P w K mg base 3 ["thing","f"] "read_function" bt t.f18 dY:=
 λ_ _ _ _ _ _ a=>(am (bf (bL (bM (br (dr U) U T.z_isinstance qav (ag (iv 0) (ag (fK U T.z_str qaT (by decide) (by decide)) ai U) U) (by decide) (by decide) U U) U U)) (ar bT) az) (am (aE (i:=1) dz.nd U (by first|exact Or.inl U|exact Or.inr U) (jn (lB U) U T.z_tuple qaL (ag (aV (gq (eH (ak bt).names ["thing","f"] ["sign"] 1 [] U U U (by decide +kernel)) U (by decide) (kn (iv 0)) (λ_ _ _ _ _=>(bF (bp (i:=0) (show qbk (α:=Str) ["sign"] by decide +kernel) U (by first|exact Or.inl U|exact Or.inr U)))) (λ_ _ _ _ _=>cv) (λ_ _ _ _ _=>(aw (kB T) (by decide) a U T.m17 T.F17.kp T.b17 (ag (iv 0) ai U) (by decide) U U)) (λ_=>rfl))) ai U) (by decide) (by decide) U U) U (by first|exact .inl U|exact .inr U)) (am (bf (bL (bM (aw (fU T) (by decide) a U T.m2 T.F2.kp T.b2 (ag (iv 1) ai U) (by decide) U U) U U)) (ar bT) az) (ar (aH (iv 1))))))
theorem mZ (T:Txt P w K mg t):bv P w K mg base CX0 4 t.f18 t.g18 ["thing"] (spI K cz):=
 e9 (N:=["thing","f"]) (b:=dY) T.F18 dz (lz T)
theorem kZ (T:Txt P w K mg t):rC P w K mg base (.ref t.ca_NoText) 3 ["thing","f"] "read_function" bt t.f18 dA:=
 λ_ _ _ _ _ _ a=>(aY (jS (bL (bM (br (dr U) U T.z_isinstance qav (ag (iv 0) (ag (fK U T.z_str qaT (by decide) (by decide)) ai U) U) (by decide) (by decide) U U) U U)) (dW (cQ T.ck T.cm_NoText U U (ag aq ai U) (by decide) U U)) dy) (bf (bL (bM (br (dr U) U T.z_isinstance qav (ag (iv 0) (ag (fK U T.z_str qaT (by decide) (by decide)) ai U) U) (by decide) (by decide) U U) U U)) (ar bT) az) (aY (lN (i:=1) dz.nd U (by first|exact Or.inl U|exact Or.inr U) (Cm U T.z_tuple qaL (mz (Cn (eH (ak bt).names ["thing","f"] ["sign"] 1 [] U U U (by decide +kernel)) U (by decide) U (kn (iv 0)) (λ_ _ _ _ _=>(bF (bp (i:=0) (show qbk (α:=Str) ["sign"] by decide +kernel) U (by first|exact Or.inl U|exact Or.inr U)))) (λ_ _ _ _ _=>(aw (kB T) (by decide) a U T.m17 T.F17.kp T.b17 (ag (iv 0) ai U) (by decide) U U)) (λ_ _ _ _ _=>(iX (sY T) (by decide) a U T.m17 T.F17.kp T.b17 (ag (iv 0) ai U) (by decide) U U)) (λ_=>rfl)) U) (by decide) (by decide) U U) U (by first|exact .inl U|exact .inr U)) (aE (i:=1) dz.nd U (by first|exact Or.inl U|exact Or.inr U) (jn (lB U) U T.z_tuple qaL (ag (aV (gq (eH (ak bt).names ["thing","f"] ["sign"] 1 [] U U U (by decide +kernel)) U (by decide) (kn (iv 0)) (λ_ _ _ _ _=>(bF (bp (i:=0) (show qbk (α:=Str) ["sign"] by decide +kernel) U (by first|exact Or.inl U|exact Or.inr U)))) (λ_ _ _ _ _=>cv) (λ_ _ _ _ _=>(aw (kB T) (by decide) a U T.m17 T.F17.kp T.b17 (ag (iv 0) ai U) (by decide) U U)) (λ_=>rfl))) ai U) (by decide) (by decide) U U) U (by first|exact .inl U|exact .inr U)) (aY (jS (bL (bM (aw (fU T) (by decide) a U T.m2 T.F2.kp T.b2 (ag (iv 1) ai U) (by decide) U U) U U)) (dW (cQ T.ck T.cm_NoText U U (ag aq ai U) (by decide) U U)) dy) (bf (bL (bM (aw (fU T) (by decide) a U T.m2 T.F2.kp T.b2 (ag (iv 1) ai U) (by decide) U U) U U)) (ar bT) az) dy)))
theorem mo (T:Txt P w K mg t):bv P w K mg base (CX1 P w (.ref t.ca_NoText)) 4 t.f18 t.g18 ["thing"] (spX K d2):=
 sq (N:=["thing","f"]) (b:=dA) T.F18 dz (kZ T)
theorem rJ (T:Txt P w K mg t):Bdy P w K mg base 0 ["sign"] "head_by" fN t.f19 kN:=
 λ_ _ _ _ _ _ a=>(am (bf (pv zj U T.g_WORDS T.gk_WORDS (iv 0) (by decide) U) (ar (aH (bE (ag (sy U T.g_WORDS T.gk_WORDS (iv 0) U (by decide)) ai U)))) az) (am (bf (aF (nD U) (iv 0) (aV (wE (lS a) U T.z_list qcy (ag (cG (v:=.str "0123456789") U T.g_FIGURES ⟨_,U⟩ T.gq_FIGURES (by decide)) ai U) (by decide) (by decide) U U)) U) (ar (aH (bE (ag aq (ag (ny qbL qbU kU iy (cG (v:=.str "0123456789") U T.g_FIGURES ⟨_,U⟩ T.gq_FIGURES (by decide)) (ag (iv 0) ai U) U U U U) ai U) U)))) az) (ar bT)))
theorem pK (T:Txt P w K mg t):bv P w K mg base CX0 1 t.f19 t.g19 ["sign"] (spI K d4):=
 e9 (N:=["sign"]) (b:=kN) T.F19 p7 (rJ T)
theorem qt (T:Txt P w K mg t):rC P w K mg base (.ref t.ca_NoText) 0 ["sign"] "head_by" fN t.f19 jM:=
 λ_ _ _ _ _ _ a=>(aY iI (bf (pv zj U T.g_WORDS T.gk_WORDS (iv 0) (by decide) U) (ar (aH (bE (ag (sy U T.g_WORDS T.gk_WORDS (iv 0) U (by decide)) ai U)))) az) (aY iI (bf (aF (nD U) (iv 0) (aV (wE (lS a) U T.z_list qcy (ag (cG (v:=.str "0123456789") U T.g_FIGURES ⟨_,U⟩ T.gq_FIGURES (by decide)) ai U) (by decide) (by decide) U U)) U) (ar (aH (bE (ag aq (ag (ny qbL qbU kU iy (cG (v:=.str "0123456789") U T.g_FIGURES ⟨_,U⟩ T.gq_FIGURES (by decide)) (ag (iv 0) ai U) U U U U) ai U) U)))) az) (dW (cQ T.ck T.cm_NoText U U (ag aq ai U) (by decide) U U))))
theorem uJ (T:Txt P w K mg t):bv P w K mg base (CX1 P w (.ref t.ca_NoText)) 1 t.f19 t.g19 ["sign"] (spX K gF):=
 sq (N:=["sign"]) (b:=jM) T.F19 p7 (qt T)
theorem nQ (T:Txt P w K mg t) (n:Nat) {self:Fn} (e:bv P w K mg base CX0 (1+2*n) t.f21 t.g21 ["text","place","deep"] (spI K self)):Bdy P w K mg base (1+2*n) ["text","place","deep","ahead","rules","told"] "rules_from" cZ t.f20 (dP self):=
 λ_ _ _ _ _ _ a=>(am (bf (aF (dj a U) (d8 (iv 0) (bu (iv 1)) (bu (aD (aO U) (iv 1) aj)) U) aq (aJ _)) (ar (aH (bE (ag (bE ai) (ag (aD (aO U) (iv 1) aj) ai U) U)))) az) (am (aE (i:=3) aT.nd U (by first|exact Or.inl U|exact Or.inr U) (d8 (iv 0) (bu (iv 1)) (bu (aD (aO U) (iv 1) aj)) U) U (by first|exact .inl U|exact .inr U)) (am (bf (aF (fg a U) (iv 3) aq (aJ _)) (ar bT) az) (am (aE (i:=4) aT.nd U (by first|exact Or.inl U|exact Or.inr U) (sA (cP ai)) U (by first|exact .inl U|exact .inr U)) (am (pq 1000 (aF (fg a U) (iv 3) aq (aJ _)) (am (aE (i:=5) aT.nd U (by first|exact Or.inl U|exact Or.inr U) (aw e (by lia) a U T.m21 T.F21.kp T.b21 (ag (iv 0) (ag (aD (aO U) (iv 1) aj) (ag (iv 2) ai U) U) U) (by decide) U U) U (by first|exact .inl U|exact .inr U)) (am (kS (iz (iv 4) (ag (aX (iv 5) aj U U) ai U) U U (by decide) U U) U) (am (aE (i:=1) aT.nd U (by first|exact Or.inl U|exact Or.inr U) (aX (iv 5) aj U U) U (by first|exact .inl U|exact .inr U)) (am (aE (i:=3) aT.nd U (by first|exact Or.inl U|exact Or.inr U) (d8 (iv 0) (bu (iv 1)) (bu (aD (aO U) (iv 1) aj)) U) U (by first|exact .inl U|exact .inr U)) (ar (bf (aF (kz U) (iv 3) (bE (ag aq (ag aq ai U) U)) U) (ar bT) az)))))) qbQ) (ar (aH (bE (ag (jn (lB U) U T.z_tuple qaL (ag (iv 4) ai U) (by decide) (by decide) U U) (ag (aD (aO U) (iv 1) aj) ai U) U)))))))))
theorem lu (T:Txt P w K mg t) (n:Nat) {self:Fn} (e:bv P w K mg base CX0 (1+2*n) t.f21 t.g21 ["text","place","deep"] (spI K self)):bv P w K mg base CX0 (1+2*n+1) t.f20 t.g20 ["text","place","deep"] (spI K (cD self)):=
 EC (N:=["text","place","deep","ahead","rules","told"]) (b:=dP self) T.F20 aT (nQ T n e)
theorem mJ (T:Txt P w K mg t) (n:Nat) {self:Fn} (e:bv P w K mg base CX0 (1+2*n) t.f21 t.g21 ["text","place","deep"] (spI K self)) {c:Rn} (g:bv P w K mg base (CX1 P w (.ref t.ca_NoText)) (1+2*n) t.f21 t.g21 ["text","place","deep"] (spX K c)):rC P w K mg base (.ref t.ca_NoText) (1+2*n) ["text","place","deep","ahead","rules","told"] "rules_from" cZ t.f20 (fk self c):=
 λ_ _ _ _ _ _ a=>(aY iI (bf (aF (dj a U) (d8 (iv 0) (bu (iv 1)) (bu (aD (aO U) (iv 1) aj)) U) aq (aJ _)) (ar (aH (bE (ag (bE ai) (ag (aD (aO U) (iv 1) aj) ai U) U)))) az) (aY iI (aE (i:=3) aT.nd U (by first|exact Or.inl U|exact Or.inr U) (d8 (iv 0) (bu (iv 1)) (bu (aD (aO U) (iv 1) aj)) U) U (by first|exact .inl U|exact .inr U)) (aY (jS (aF (fg a U) (iv 3) aq (aJ _)) (dW (cQ T.ck T.cm_NoText U U (ag aq ai U) (by decide) U U)) dy) (bf (aF (fg a U) (iv 3) aq (aJ _)) (ar bT) az) (aY iI (aE (i:=4) aT.nd U (by first|exact Or.inl U|exact Or.inr U) (sA (cP ai)) U (by first|exact .inl U|exact .inr U)) (aY (z3 1000 (aF (fg a U) (iv 3) aq (aJ _)) (am (aE (i:=5) aT.nd U (by first|exact Or.inl U|exact Or.inr U) (aw e (by lia) a U T.m21 T.F21.kp T.b21 (ag (iv 0) (ag (aD (aO U) (iv 1) aj) (ag (iv 2) ai U) U) U) (by decide) U U) U (by first|exact .inl U|exact .inr U)) (am (kS (iz (iv 4) (ag (aX (iv 5) aj U U) ai U) U U (by decide) U U) U) (am (aE (i:=1) aT.nd U (by first|exact Or.inl U|exact Or.inr U) (aX (iv 5) aj U U) U (by first|exact .inl U|exact .inr U)) (am (aE (i:=3) aT.nd U (by first|exact Or.inl U|exact Or.inr U) (d8 (iv 0) (bu (iv 1)) (bu (aD (aO U) (iv 1) aj)) U) U (by first|exact .inl U|exact .inr U)) (ar (bf (aF (kz U) (iv 3) (bE (ag aq (ag aq ai U) U)) U) (ar bT) az)))))) (aY (lN (i:=5) aT.nd U (by first|exact Or.inl U|exact Or.inr U) (iX g (by lia) a U T.m21 T.F21.kp T.b21 (ag (iv 0) (ag (aD (aO U) (iv 1) aj) (ag (iv 2) ai U) U) U) (by decide) U U) U (by first|exact .inl U|exact .inr U)) (aE (i:=5) aT.nd U (by first|exact Or.inl U|exact Or.inr U) (aw e (by lia) a U T.m21 T.F21.kp T.b21 (ag (iv 0) (ag (aD (aO U) (iv 1) aj) (ag (iv 2) ai U) U) U) (by decide) U U) U (by first|exact .inl U|exact .inr U)) (aY iI (kS (iz (iv 4) (ag (aX (iv 5) aj U U) ai U) U U (by decide) U U) U) (aY iI (aE (i:=1) aT.nd U (by first|exact Or.inl U|exact Or.inr U) (aX (iv 5) aj U U) U (by first|exact .inl U|exact .inr U)) (aY iI (aE (i:=3) aT.nd U (by first|exact Or.inl U|exact Or.inr U) (d8 (iv 0) (bu (iv 1)) (bu (aD (aO U) (iv 1) aj)) U) U (by first|exact .inl U|exact .inr U)) (dW (jS (aF (kz U) (iv 3) (bE (ag aq (ag aq ai U) U)) U) (dW (cQ T.ck T.cm_NoText U U (ag aq ai U) (by decide) U U)) dy)))))) PassesOwn.leaving) (pq 1000 (aF (fg a U) (iv 3) aq (aJ _)) (am (aE (i:=5) aT.nd U (by first|exact Or.inl U|exact Or.inr U) (aw e (by lia) a U T.m21 T.F21.kp T.b21 (ag (iv 0) (ag (aD (aO U) (iv 1) aj) (ag (iv 2) ai U) U) U) (by decide) U U) U (by first|exact .inl U|exact .inr U)) (am (kS (iz (iv 4) (ag (aX (iv 5) aj U U) ai U) U U (by decide) U U) U) (am (aE (i:=1) aT.nd U (by first|exact Or.inl U|exact Or.inr U) (aX (iv 5) aj U U) U (by first|exact .inl U|exact .inr U)) (am (aE (i:=3) aT.nd U (by first|exact Or.inl U|exact Or.inr U) (d8 (iv 0) (bu (iv 1)) (bu (aD (aO U) (iv 1) aj)) U) U (by first|exact .inl U|exact .inr U)) (ar (bf (aF (kz U) (iv 3) (bE (ag aq (ag aq ai U) U)) U) (ar bT) az)))))) qbQ) dy)))))
theorem pN (T:Txt P w K mg t) (n:Nat) {self:Fn} (e:bv P w K mg base CX0 (1+2*n) t.f21 t.g21 ["text","place","deep"] (spI K self)) {c:Rn} (g:bv P w K mg base (CX1 P w (.ref t.ca_NoText)) (1+2*n) t.f21 t.g21 ["text","place","deep"] (spX K c)):bv P w K mg base (CX1 P w (.ref t.ca_NoText)) (1+2*n+1) t.f20 t.g20 ["text","place","deep"] (spX K (ge self c)):=
 sq (N:=["text","place","deep","ahead","rules","told"]) (b:=fk self c) T.F20 aT (mJ T n e g)
theorem oM (T:Txt P w K mg t) (n:Nat) {self:Fn} (e:bv P w K mg base CX0 (1+2*n) t.f21 t.g21 ["text","place","deep"] (spI K self)):Bdy P w K mg base (1+2*n+1) ["text","place","deep","sign","told","head"] "rule_from" dH t.f21 (cS self):=
 λ_ _ _ _ _ _ a=>(am (bf (aF (dj a U) (iv 2) aj (aJ _)) (ar bT) az) (am (aE (i:=3) bA.nd U (by first|exact Or.inl U|exact Or.inr U) (d8 (iv 0) (bu (iv 1)) (bu (aD (aO U) (iv 1) aj)) U) U (by first|exact .inl U|exact .inr U)) (am (bf (aF (nD U) (iv 3) (aV (wE (lS a) U T.z_list qcy (ag (cG (v:=.str "abcdef") U T.g_LETTERS ⟨_,U⟩ T.gq_LETTERS (by decide)) ai U) (by decide) (by decide) U U)) U) (ar (aH (bE (ag (bE (ag aq (ag (ny qbL qbU kU iy (cG (v:=.str "abcdef") U T.g_LETTERS ⟨_,U⟩ T.gq_LETTERS (by decide)) (ag (iv 3) ai U) U U U U) ai U) U)) (ag (aD (aO U) (iv 1) aj) ai U) U)))) az) (am (bf (aF (dj a U) (iv 3) aq (aJ _)) (am (aE (i:=4) bA.nd U (by first|exact Or.inl U|exact Or.inr U) (aw e (by lia) a U T.m21 T.F21.kp T.b21 (ag (iv 0) (ag (aD (aO U) (iv 1) aj) (ag (aD kA (iv 2) aj) ai U) U) U) (by decide) U U) U (by first|exact .inl U|exact .inr U)) (ar (aH (bE (ag (bE (ag aq (ag (aX (iv 4) aj U U) ai U) U)) (ag (aX (iv 4) aj U U) ai U) U))))) az) (am (aE (i:=5) bA.nd U (by first|exact Or.inl U|exact Or.inr U) (aw (pK T) (by lia) a U T.m19 T.F19.kp T.b19 (ag (iv 3) ai U) (by decide) U U) U (by first|exact .inl U|exact .inr U)) (am (aE (i:=4) bA.nd U (by first|exact Or.inl U|exact Or.inr U) (aw (lu T n e) (by lia) a U T.m20 T.F20.kp T.b20 (ag (iv 0) (ag (aD (aO U) (iv 1) aj) (ag (aD kA (iv 2) aj) ai U) U) U) (by decide) U U) U (by first|exact .inl U|exact .inr U)) (ar (aH (bE (ag (aD (aO U) (iv 5) (bE (ag (aX (iv 4) aj U U) ai U))) (ag (aX (iv 4) aj U U) ai U) U))))))))))
theorem ik (T:Txt P w K mg t):∀ n:Nat,bv P w K mg base CX0 (1+2*n) t.f21 t.g21 ["text","place","deep"] (spI K (aG n))
 |0=>⟨λ_ _ _ _ ⟨_,_,_,_,h,_⟩=>(nomatch h),λ_ _ _ _ _ _ _ _ _ _ _ _ _ ⟨_,_,_,_,h,_⟩=>(nomatch h)⟩
 |n+1=>show bv P w K mg base CX0 (1+2*n+1+1) t.f21 t.g21 ["text","place","deep"] (spI K (bR (qb3 (α:=Str) ["text","place","deep","sign","told","head"]) (qb3 (α:=Str) ["text","place","deep"]) (cS (aG n)))) from e9 (N:=["text","place","deep","sign","told","head"]) (ps:=["text","place","deep"]) (k:=1+2*n+1) (b:=cS (aG n)) T.F21 bA (oM T n (ik T n))
theorem nV (T:Txt P w K mg t) (n:Nat) {self:Fn}{c:Rn} (e:bv P w K mg base CX0 (1+2*n) t.f21 t.g21 ["text","place","deep"] (spI K self)) (g:bv P w K mg base (CX1 P w (.ref t.ca_NoText)) (1+2*n) t.f21 t.g21 ["text","place","deep"] (spX K c)):rC P w K mg base (.ref t.ca_NoText) (1+2*n+1) ["text","place","deep","sign","told","head"] "rule_from" dH t.f21 (da self c):=
 λ_ _ _ _ _ _ a=>(aY (jS (aF (dj a U) (iv 2) aj (aJ _)) (dW (cQ T.ck T.cm_NoText U U (ag aq ai U) (by decide) U U)) dy) (bf (aF (dj a U) (iv 2) aj (aJ _)) (ar bT) az) (aY iI (aE (i:=3) bA.nd U (by first|exact Or.inl U|exact Or.inr U) (d8 (iv 0) (bu (iv 1)) (bu (aD (aO U) (iv 1) aj)) U) U (by first|exact .inl U|exact .inr U)) (aY iI (bf (aF (nD U) (iv 3) (aV (wE (lS a) U T.z_list qcy (ag (cG (v:=.str "abcdef") U T.g_LETTERS ⟨_,U⟩ T.gq_LETTERS (by decide)) ai U) (by decide) (by decide) U U)) U) (ar (aH (bE (ag (bE (ag aq (ag (ny qbL qbU kU iy (cG (v:=.str "abcdef") U T.g_LETTERS ⟨_,U⟩ T.gq_LETTERS (by decide)) (ag (iv 3) ai U) U U U U) ai U) U)) (ag (aD (aO U) (iv 1) aj) ai U) U)))) az) (aY (jS (aF (dj a U) (iv 3) aq (aJ _)) (aY (lN (i:=4) bA.nd U (by first|exact Or.inl U|exact Or.inr U) (iX g (by lia) a U T.m21 T.F21.kp T.b21 (ag (iv 0) (ag (aD (aO U) (iv 1) aj) (ag (aD kA (iv 2) aj) ai U) U) U) (by decide) U U) U (by first|exact .inl U|exact .inr U)) (aE (i:=4) bA.nd U (by first|exact Or.inl U|exact Or.inr U) (aw e (by lia) a U T.m21 T.F21.kp T.b21 (ag (iv 0) (ag (aD (aO U) (iv 1) aj) (ag (aD kA (iv 2) aj) ai U) U) U) (by decide) U U) U (by first|exact .inl U|exact .inr U)) dy) dy) (bf (aF (dj a U) (iv 3) aq (aJ _)) (am (aE (i:=4) bA.nd U (by first|exact Or.inl U|exact Or.inr U) (aw e (by lia) a U T.m21 T.F21.kp T.b21 (ag (iv 0) (ag (aD (aO U) (iv 1) aj) (ag (aD kA (iv 2) aj) ai U) U) U) (by decide) U U) U (by first|exact .inl U|exact .inr U)) (ar (aH (bE (ag (bE (ag aq (ag (aX (iv 4) aj U U) ai U) U)) (ag (aX (iv 4) aj U U) ai U) U))))) az) (aY (lN (i:=5) bA.nd U (by first|exact Or.inl U|exact Or.inr U) (iX (uJ T) (by lia) a U T.m19 T.F19.kp T.b19 (ag (iv 3) ai U) (by decide) U U) U (by first|exact .inl U|exact .inr U)) (aE (i:=5) bA.nd U (by first|exact Or.inl U|exact Or.inr U) (aw (pK T) (by lia) a U T.m19 T.F19.kp T.b19 (ag (iv 3) ai U) (by decide) U U) U (by first|exact .inl U|exact .inr U)) (aY (lN (i:=4) bA.nd U (by first|exact Or.inl U|exact Or.inr U) (iX (pN T n e g) (by lia) a U T.m20 T.F20.kp T.b20 (ag (iv 0) (ag (aD (aO U) (iv 1) aj) (ag (aD kA (iv 2) aj) ai U) U) U) (by decide) U U) U (by first|exact .inl U|exact .inr U)) (aE (i:=4) bA.nd U (by first|exact Or.inl U|exact Or.inr U) (aw (lu T n e) (by lia) a U T.m20 T.F20.kp T.b20 (ag (iv 0) (ag (aD (aO U) (iv 1) aj) (ag (aD kA (iv 2) aj) ai U) U) U) (by decide) U U) U (by first|exact .inl U|exact .inr U)) dy))))))
theorem lx (T:Txt P w K mg t):∀ n:Nat,bv P w K mg base (CX1 P w (.ref t.ca_NoText)) (1+2*n) t.f21 t.g21 ["text","place","deep"] (spX K (bK n))
 |0=>⟨λ_ _ _ _ ⟨_,_,_,_,h,_⟩=>(nomatch h),λ_ _ _ _ _ _ _ _ _ _ _ _ _ ⟨_,_,_,_,h,_⟩=>(nomatch h)⟩
 |n+1=>show bv P w K mg base (CX1 P w (.ref t.ca_NoText)) (1+2*n+1+1) t.f21 t.g21 ["text","place","deep"] (spX K (nj (qb3 (α:=Str) ["text","place","deep","sign","told","head"]) (qb3 (α:=Str) ["text","place","deep"]) (da (aG n) (bK n)))) from sq (N:=["text","place","deep","sign","told","head"]) (ps:=["text","place","deep"]) (k:=1+2*n+1) (b:=da (aG n) (bK n)) T.F21 bA (nV T n (ik T n) (lx T n))
theorem oK (T:Txt P w K mg t):Bdy P w K mg base 15 ["thing","told"] "read_rule" dG t.f22 iQ:=
 λ_ _ _ _ _ _ a=>(am (bf (bL (bM (br (dr U) U T.z_isinstance qav (ag (iv 0) (ag (fK U T.z_str qaT (by decide) (by decide)) ai U) U) (by decide) (by decide) U U) U U)) (ar bT) az) (am (aE (i:=1) gc.nd U (by first|exact Or.inl U|exact Or.inr U) (aw (ik T 7) (by decide) a U T.m21 T.F21.kp T.b21 (ag (iv 0) (ag aj (ag (cG (v:=.int 6) U T.g_MOST_DEEP ⟨_,U⟩ T.gq_MOST_DEEP (by decide)) ai U) U) U) (by decide) U U) U (by first|exact .inl U|exact .inr U)) (am (bf (d9 (eF (aF (fg a U) (aX (iv 1) aj U U) (br (df U) U T.z_len qa3 (ag (iv 0) ai U) (by decide) (by decide) U U) (aJ _)) (dm (bL (bM (aw (jG T) (by decide) a U T.m11 T.F11.kp T.b11 (ag (aX (iv 1) aj U U) ai U) (by decide) U U) U U))))) (ar bT) az) (ar (aH (aX (iv 1) aj U U))))))
theorem sW (T:Txt P w K mg t):bv P w K mg base CX0 16 t.f22 t.g22 ["thing"] (spI K dE):=
 e9 (N:=["thing","told"]) (b:=iQ) T.F22 gc (oK T)
theorem nU (T:Txt P w K mg t):rC P w K mg base (.ref t.ca_NoText) 15 ["thing","told"] "read_rule" dG t.f22 gg:=
 λ_ _ _ _ _ _ a=>(aY (jS (bL (bM (br (dr U) U T.z_isinstance qav (ag (iv 0) (ag (fK U T.z_str qaT (by decide) (by decide)) ai U) U) (by decide) (by decide) U U) U U)) (dW (cQ T.ck T.cm_NoText U U (ag aq ai U) (by decide) U U)) dy) (bf (bL (bM (br (dr U) U T.z_isinstance qav (ag (iv 0) (ag (fK U T.z_str qaT (by decide) (by decide)) ai U) U) (by decide) (by decide) U U) U U)) (ar bT) az) (aY (lN (i:=1) gc.nd U (by first|exact Or.inl U|exact Or.inr U) (iX (lx T 7) (by decide) a U T.m21 T.F21.kp T.b21 (ag (iv 0) (ag aj (ag (cG (v:=.int 6) U T.g_MOST_DEEP ⟨_,U⟩ T.gq_MOST_DEEP (by decide)) ai U) U) U) (by decide) U U) U (by first|exact .inl U|exact .inr U)) (aE (i:=1) gc.nd U (by first|exact Or.inl U|exact Or.inr U) (aw (ik T 7) (by decide) a U T.m21 T.F21.kp T.b21 (ag (iv 0) (ag aj (ag (cG (v:=.int 6) U T.g_MOST_DEEP ⟨_,U⟩ T.gq_MOST_DEEP (by decide)) ai U) U) U) (by decide) U U) U (by first|exact .inl U|exact .inr U)) (aY (jS (d9 (eF (aF (fg a U) (aX (iv 1) aj U U) (br (df U) U T.z_len qa3 (ag (iv 0) ai U) (by decide) (by decide) U U) (aJ _)) (dm (bL (bM (aw (jG T) (by decide) a U T.m11 T.F11.kp T.b11 (ag (aX (iv 1) aj U U) ai U) (by decide) U U) U U))))) (dW (cQ T.ck T.cm_NoText U U (ag aq ai U) (by decide) U U)) dy) (bf (d9 (eF (aF (fg a U) (aX (iv 1) aj U U) (br (df U) U T.z_len qa3 (ag (iv 0) ai U) (by decide) (by decide) U U) (aJ _)) (dm (bL (bM (aw (jG T) (by decide) a U T.m11 T.F11.kp T.b11 (ag (aX (iv 1) aj U U) ai U) (by decide) U U) U U))))) (ar bT) az) dy)))
theorem qE (T:Txt P w K mg t):bv P w K mg base (CX1 P w (.ref t.ca_NoText)) 16 t.f22 t.g22 ["thing"] (spX K gZ):=
 sq (N:=["thing","told"]) (b:=gg) T.F22 gc (nU T)
theorem oI (T:Txt P w K mg t):Bdy P w K mg base 0 ["text","figures"] "number_by" cq t.f23 eB:=
 λ_ _ _ _ _ _ a=>(am (bf (aF (nD U) (iv 0) (bE (ag aq (ag aq ai U) U)) U) (ar (aH (lr (aF (dj a U) (iv 0) aq (aJ _)) (pe aj) aj))) az) (am (aE (i:=1) iq.nd U (by first|exact Or.inl U|exact Or.inr U) (lr (aF (dj a U) (d8 (iv 0) gJ (bu aj) U) aq (aJ _)) (d8 (iv 0) (bu aj) gJ U) (iv 0)) U (by first|exact .inl U|exact .inr U)) (am (bf (d9 (eF (aF wO (br (df U) U T.z_len qa3 (ag (iv 1) ai U) (by decide) (by decide) U U) (cG (v:=.int 60) U T.g_MOST_FIGURES ⟨_,U⟩ T.gq_MOST_FIGURES (by decide)) (aJ _)) (dm (bL (bM (br (oU U U) U T.z_all qcc (ag (aV (gq (eH (ak cq).names ["text","figures"] ["sign"] 1 [] U U U (by decide +kernel)) U (by decide) (kn (iv 1)) (λ_ _ _ _ _=>(bF (bp (i:=0) (show qbk (α:=Str) ["sign"] by decide +kernel) U (by first|exact Or.inl U|exact Or.inr U)))) (λ_ _ _ _ _=>cv) (λ_ _ _ _ _=>(hM (vC U) (iv 0) (cG (v:=.str "0123456789") U T.g_FIGURES ⟨_,U⟩ T.gq_FIGURES (by decide)) U)) (λ_=>rfl))) ai U) (by decide) (by decide) U U) U U))))) (ar bT) az) (ar (aH (jn wm U T.z_int qdf (ag (iv 0) ai U) (by decide) (by decide) U U))))))
theorem sU (T:Txt P w K mg t):bv P w K mg base CX0 1 t.f23 t.g23 ["text"] (spI K cX):=
 e9 (N:=["text","figures"]) (b:=eB) T.F23 iq (oI T)
theorem nR (T:Txt P w K mg t):rC P w K mg base (.ref t.ca_NoText) 0 ["text","figures"] "number_by" cq t.f23 iu:=
 λ_ _ _ _ _ _ a=>(aY iI (bf (aF (nD U) (iv 0) (bE (ag aq (ag aq ai U) U)) U) (ar (aH (lr (aF (dj a U) (iv 0) aq (aJ _)) (pe aj) aj))) az) (aY iI (aE (i:=1) iq.nd U (by first|exact Or.inl U|exact Or.inr U) (lr (aF (dj a U) (d8 (iv 0) gJ (bu aj) U) aq (aJ _)) (d8 (iv 0) (bu aj) gJ U) (iv 0)) U (by first|exact .inl U|exact .inr U)) (aY (jS (d9 (eF (aF wO (br (df U) U T.z_len qa3 (ag (iv 1) ai U) (by decide) (by decide) U U) (cG (v:=.int 60) U T.g_MOST_FIGURES ⟨_,U⟩ T.gq_MOST_FIGURES (by decide)) (aJ _)) (dm (bL (bM (br (oU U U) U T.z_all qcc (ag (aV (gq (eH (ak cq).names ["text","figures"] ["sign"] 1 [] U U U (by decide +kernel)) U (by decide) (kn (iv 1)) (λ_ _ _ _ _=>(bF (bp (i:=0) (show qbk (α:=Str) ["sign"] by decide +kernel) U (by first|exact Or.inl U|exact Or.inr U)))) (λ_ _ _ _ _=>cv) (λ_ _ _ _ _=>(hM (vC U) (iv 0) (cG (v:=.str "0123456789") U T.g_FIGURES ⟨_,U⟩ T.gq_FIGURES (by decide)) U)) (λ_=>rfl))) ai U) (by decide) (by decide) U U) U U))))) (dW (cQ T.ck T.cm_NoText U U (ag aq ai U) (by decide) U U)) dy) (bf (d9 (eF (aF wO (br (df U) U T.z_len qa3 (ag (iv 1) ai U) (by decide) (by decide) U U) (cG (v:=.int 60) U T.g_MOST_FIGURES ⟨_,U⟩ T.gq_MOST_FIGURES (by decide)) (aJ _)) (dm (bL (bM (br (oU U U) U T.z_all qcc (ag (aV (gq (eH (ak cq).names ["text","figures"] ["sign"] 1 [] U U U (by decide +kernel)) U (by decide) (kn (iv 1)) (λ_ _ _ _ _=>(bF (bp (i:=0) (show qbk (α:=Str) ["sign"] by decide +kernel) U (by first|exact Or.inl U|exact Or.inr U)))) (λ_ _ _ _ _=>cv) (λ_ _ _ _ _=>(hM (vC U) (iv 0) (cG (v:=.str "0123456789") U T.g_FIGURES ⟨_,U⟩ T.gq_FIGURES (by decide)) U)) (λ_=>rfl))) ai U) (by decide) (by decide) U U) U U))))) (ar bT) az) dy)))
theorem qC (T:Txt P w K mg t):bv P w K mg base (CX1 P w (.ref t.ca_NoText)) 1 t.f23 t.g23 ["text"] (spX K eS):=
 sq (N:=["text","figures"]) (b:=iu) T.F23 iq (nR T)
theorem rP (T:Txt P w K mg t):Bdy P w K mg base 1 ["word","ahead"] "part_by" d6 t.f24 iw:=
 λ_ _ _ _ _ _ a=>(am (aE (i:=1) jK.nd U (by first|exact Or.inl U|exact Or.inr U) (ny qeK qeJ qV nw (iv 0) (ag (cG (v:=.str "abcdef") U T.g_LETTERS ⟨_,U⟩ T.gq_LETTERS (by decide)) ai U) U U U U) U (by first|exact .inl U|exact .inr U)) (ar (aH (bE (ag (jn (lB U) U T.z_tuple qaL (ag (aV (gq (eH (ak d6).names ["word","ahead"] ["letter"] 1 [] U U U (by decide +kernel)) U (by decide) (kn (d8 (iv 0) (bu (br (df U) U T.z_len qa3 (ag (iv 1) ai U) (by decide) (by decide) U U)) gJ U)) (λ_ _ _ _ _=>(bF (bp (i:=0) (show qbk (α:=Str) ["letter"] by decide +kernel) U (by first|exact Or.inl U|exact Or.inr U)))) (λ_ _ _ _ _=>cv) (λ_ _ _ _ _=>(ny qbL qbU kU iy (cG (v:=.str "abcdef") U T.g_LETTERS ⟨_,U⟩ T.gq_LETTERS (by decide)) (ag (iv 0) ai U) U U U U)) (λ_=>rfl))) ai U) (by decide) (by decide) U U) (ag (aw (sU T) (by decide) a U T.m23 T.F23.kp T.b23 (ag (iv 1) ai U) (by decide) U U) ai U) U)))))
theorem lH (T:Txt P w K mg t):bv P w K mg base CX0 2 t.f24 t.g24 ["word"] (spI K cw):=
 e9 (N:=["word","ahead"]) (b:=iw) T.F24 jK (rP T)
theorem qu (T:Txt P w K mg t):rC P w K mg base (.ref t.ca_NoText) 1 ["word","ahead"] "part_by" d6 t.f24 jN:=
 λ_ _ _ _ _ _ a=>(aY iI (aE (i:=1) jK.nd U (by first|exact Or.inl U|exact Or.inr U) (ny qeK qeJ qV nw (iv 0) (ag (cG (v:=.str "abcdef") U T.g_LETTERS ⟨_,U⟩ T.gq_LETTERS (by decide)) ai U) U U U U) U (by first|exact .inl U|exact .inr U)) (dW (zZ (zU (uS (jn (lB U) U T.z_tuple qaL (ag (aV (gq (eH (ak d6).names ["word","ahead"] ["letter"] 1 [] U U U (by decide +kernel)) U (by decide) (kn (d8 (iv 0) (bu (br (df U) U T.z_len qa3 (ag (iv 1) ai U) (by decide) (by decide) U U)) gJ U)) (λ_ _ _ _ _=>(bF (bp (i:=0) (show qbk (α:=Str) ["letter"] by decide +kernel) U (by first|exact Or.inl U|exact Or.inr U)))) (λ_ _ _ _ _=>cv) (λ_ _ _ _ _=>(ny qbL qbU kU iy (cG (v:=.str "abcdef") U T.g_LETTERS ⟨_,U⟩ T.gq_LETTERS (by decide)) (ag (iv 0) ai U) U U U U)) (λ_=>rfl))) ai U) (by decide) (by decide) U U) (mz (iX (qC T) (by decide) a U T.m23 T.F23.kp T.b23 (ag (iv 1) ai U) (by decide) U U) U) U)))))
theorem uK (T:Txt P w K mg t):bv P w K mg base (CX1 P w (.ref t.ca_NoText)) 2 t.f24 t.g24 ["word"] (spX K jt):=
 sq (N:=["word","ahead"]) (b:=jN) T.F24 jK (qu T)
theorem oJ (T:Txt P w K mg t):Bdy P w K mg base 6 ["thing","words","parts","poly"] "read_poly" cr t.f25 fH:=
 λ_ _ _ _ _ _ a=>(am (bf (bL (bM (br (dr U) U T.z_isinstance qav (ag (iv 0) (ag (fK U T.z_str qaT (by decide) (by decide)) ai U) U) (by decide) (by decide) U U) U U)) (ar bT) az) (am (aE (i:=1) cF.nd U (by first|exact Or.inl U|exact Or.inr U) (yO (iv 0) (ag aq ai U) U U U U) U (by first|exact .inl U|exact .inr U)) (am (aE (i:=2) cF.nd U (by first|exact Or.inl U|exact Or.inr U) (BY (iv 1) (bu aj) gJ U) U (by first|exact .inl U|exact .inr U)) (am (aE (i:=3) cF.nd U (by first|exact Or.inl U|exact Or.inr U) (bE (ag (aX (iv 1) aj U U) (ag (lr (aF (dj a U) (iv 2) (aV (cP (ag aq ai U))) (aJ _)) (bE ai) (jn (lB U) U T.z_tuple qaL (ag (aV (gq (eH (ak cr).names ["thing","words","parts","poly"] ["word"] 1 [] U U U (by decide +kernel)) U (by decide) (gy (iv 2) U) (λ_ _ _ _ _=>(bF (bp (i:=0) (show qbk (α:=Str) ["word"] by decide +kernel) U (by first|exact Or.inl U|exact Or.inr U)))) (λ_ _ _ _ _=>cv) (λ_ _ _ _ _=>(aw (lH T) (by decide) a U T.m24 T.F24.kp T.b24 (ag (iv 0) ai U) (by decide) U U)) (λ_=>rfl))) ai U) (by decide) (by decide) U U)) ai U) U)) U (by first|exact .inl U|exact .inr U)) (am (bf (d9 (eF (bL (bM (aw (jF T) (by decide) a U T.m6 T.F6.kp T.b6 (ag (iv 3) ai U) (by decide) U U) U U)) (dm (aF (fg a U) (aw (il T) (by decide) a U T.m16 T.F16.kp T.b16 (ag (iv 3) ai U) (by decide) U U) (iv 0) (aJ _))))) (ar bT) az) (ar (aH (iv 3))))))))
theorem sV (T:Txt P w K mg t):bv P w K mg base CX0 7 t.f25 t.g25 ["thing"] (spI K cb):=
 e9 (N:=["thing","words","parts","poly"]) (b:=fH) T.F25 cF (oJ T)
theorem nS (T:Txt P w K mg t):rC P w K mg base (.ref t.ca_NoText) 6 ["thing","words","parts","poly"] "read_poly" cr t.f25 gf:=
 λ_ _ _ _ _ _ a=>(aY (jS (bL (bM (br (dr U) U T.z_isinstance qav (ag (iv 0) (ag (fK U T.z_str qaT (by decide) (by decide)) ai U) U) (by decide) (by decide) U U) U U)) (dW (cQ T.ck T.cm_NoText U U (ag aq ai U) (by decide) U U)) dy) (bf (bL (bM (br (dr U) U T.z_isinstance qav (ag (iv 0) (ag (fK U T.z_str qaT (by decide) (by decide)) ai U) U) (by decide) (by decide) U U) U U)) (ar bT) az) (aY iI (aE (i:=1) cF.nd U (by first|exact Or.inl U|exact Or.inr U) (yO (iv 0) (ag aq ai U) U U U U) U (by first|exact .inl U|exact .inr U)) (aY iI (aE (i:=2) cF.nd U (by first|exact Or.inl U|exact Or.inr U) (BY (iv 1) (bu aj) gJ U) U (by first|exact .inl U|exact .inr U)) (aY (lN (i:=3) cF.nd U (by first|exact Or.inl U|exact Or.inr U) (zU (uS (aX (iv 1) aj U U) (mz (Fx (aF (dj a U) (iv 2) (aV (cP (ag aq ai U))) (aJ _)) Fy (Cm U T.z_tuple qaL (mz (Cn (eH (ak cr).names ["thing","words","parts","poly"] ["word"] 1 [] U U U (by decide +kernel)) U (by decide) U (gy (iv 2) U) (λ_ _ _ _ _=>(bF (bp (i:=0) (show qbk (α:=Str) ["word"] by decide +kernel) U (by first|exact Or.inl U|exact Or.inr U)))) (λ_ _ _ _ _=>(aw (lH T) (by decide) a U T.m24 T.F24.kp T.b24 (ag (iv 0) ai U) (by decide) U U)) (λ_ _ _ _ _=>(iX (uK T) (by decide) a U T.m24 T.F24.kp T.b24 (ag (iv 0) ai U) (by decide) U U)) (λ_=>rfl)) U) (by decide) (by decide) U U)) U) U)) U (by first|exact .inl U|exact .inr U)) (aE (i:=3) cF.nd U (by first|exact Or.inl U|exact Or.inr U) (bE (ag (aX (iv 1) aj U U) (ag (lr (aF (dj a U) (iv 2) (aV (cP (ag aq ai U))) (aJ _)) (bE ai) (jn (lB U) U T.z_tuple qaL (ag (aV (gq (eH (ak cr).names ["thing","words","parts","poly"] ["word"] 1 [] U U U (by decide +kernel)) U (by decide) (gy (iv 2) U) (λ_ _ _ _ _=>(bF (bp (i:=0) (show qbk (α:=Str) ["word"] by decide +kernel) U (by first|exact Or.inl U|exact Or.inr U)))) (λ_ _ _ _ _=>cv) (λ_ _ _ _ _=>(aw (lH T) (by decide) a U T.m24 T.F24.kp T.b24 (ag (iv 0) ai U) (by decide) U U)) (λ_=>rfl))) ai U) (by decide) (by decide) U U)) ai U) U)) U (by first|exact .inl U|exact .inr U)) (aY (jS (d9 (eF (bL (bM (aw (jF T) (by decide) a U T.m6 T.F6.kp T.b6 (ag (iv 3) ai U) (by decide) U U) U U)) (dm (aF (fg a U) (aw (il T) (by decide) a U T.m16 T.F16.kp T.b16 (ag (iv 3) ai U) (by decide) U U) (iv 0) (aJ _))))) (dW (cQ T.ck T.cm_NoText U U (ag aq ai U) (by decide) U U)) dy) (bf (d9 (eF (bL (bM (aw (jF T) (by decide) a U T.m6 T.F6.kp T.b6 (ag (iv 3) ai U) (by decide) U U) U U)) (dm (aF (fg a U) (aw (il T) (by decide) a U T.m16 T.F16.kp T.b16 (ag (iv 3) ai U) (by decide) U U) (iv 0) (aJ _))))) (ar bT) az) dy)))))
theorem qD (T:Txt P w K mg t):bv P w K mg base (CX1 P w (.ref t.ca_NoText)) 7 t.f25 t.g25 ["thing"] (spX K dM):=
 sq (N:=["thing","words","parts","poly"]) (b:=gf) T.F25 cF (nS T)
theorem oA (T:Txt P w K mg t):Bdy P w K mg base 0 ["_law_script","_law_k","_law_cell","_law_far","_law_seed"] "_law_hand" eJ t.f26 gL:=
 λ_ _ _ _ _ _ a=>(am (aE (i:=2) fZ.nd U (by first|exact Or.inl U|exact Or.inr U) aj U (by first|exact .inl U|exact .inr U)) (am (bf (aF wP (iv 1) (br (df U) U T.z_len qa3 (ag (iv 0) ai U) (by decide) (by decide) U U) (aJ _)) (ar (aE (i:=2) fZ.nd U (by first|exact Or.inl U|exact Or.inr U) (aX (iv 0) (iv 1) U U) U (by first|exact .inl U|exact .inr U))) az) (am (aE (i:=3) fZ.nd U (by first|exact Or.inl U|exact Or.inr U) (aD (jD U) (aD (jD U) (aD (jD U) (aD pI aj aj) (aD pI aj aj)) (aD pI aj aj)) (aD pI aj aj)) U (by first|exact .inl U|exact .inr U)) (am (aE (i:=4) fZ.nd U (by first|exact Or.inl U|exact Or.inr U) (aD jC (aD (jD U) (aD (aO U) (aD (aO U) (aD jC (iv 2) aj) (aD (jD U) aj (iv 1))) aj) aj) aj) U (by first|exact .inl U|exact .inr U)) (ar (aH (sA (cP (ag (aD (jD U) (aD jC (br rT U T.z_abs qcD (ag (iv 2) ai U) (by decide) (by decide) U U) (iv 3)) (jn wm U T.z_int qdf (ag (hM B5 (br rT U T.z_abs qcD (ag (iv 2) ai U) (by decide) (by decide) U U) (aD pI aj aj) (aJ _)) ai U) (by decide) (by decide) U U)) (ag (iv 4) (ag aj ai U) U) U)))))))))
theorem sR (T:Txt P w K mg t):bv P w K mg base CX0 1 t.f26 t.g26 ["_law_script","_law_k"] (spI K fL):=
 e9 (N:=["_law_script","_law_k","_law_cell","_law_far","_law_seed"]) (b:=gL) T.F26 fZ (oA T)
theorem oE (T:Txt P w K mg t):Bdy P w K mg base 0 ["_law_hand_here","_law_many","_law_digit"] "_law_take" eM t.f27 gM:=
 λ_ _ _ _ _ _ a=>(am (bf (aF wO (aX (iv 0) aj U U) aj (aJ _)) (am (aE (i:=2) mB.nd U (by first|exact Or.inl U|exact Or.inr U) (aD jC (aX (iv 0) aj U U) (iv 1)) U (by first|exact .inl U|exact .inr U)) (am (pp (iv 0) aj (aD sN (aX (iv 0) aj U U) (iv 1)) U U U) (ar (aH (iv 2))))) az) (am (pp (iv 0) aj (aD (aO U) (aX (iv 0) aj U U) aj) U U U) (am (pp (iv 0) aj (aD jC (aD (aO U) (aD (aO U) (aD (jD U) (aX (iv 0) aj U U) aj) aj) (aD (jD U) aj (aX (iv 0) aj U U))) aj) U U U) (ar (aH (aD jC (aD sN (aD jC (aD (jD U) (aX (iv 0) aj U U) (aD (aO U) (aD jC (aX (iv 0) aj U U) aj) aj)) aj) aj) (iv 1)))))))
theorem dS (T:Txt P w K mg t):bv P w K mg base CX0 1 t.f27 t.g27 ["_law_hand_here","_law_many"] (spI K bC):=
 e9 (N:=["_law_hand_here","_law_many","_law_digit"]) (b:=gM) T.F27 mB (oE T)
theorem oB (T:Txt P w K mg t):Bdy P w K mg base 1 ["_law_hand_here","_law_some"] "_law_pick" eK t.f28 iO:=
 λ_ _ _ _ _ _ a=>(ar (aH (aX (iv 1) (aw (dS T) (by decide) a U T.m27 T.F27.kp T.b27 (ag (iv 0) (ag (br (df U) U T.z_len qa3 (ag (iv 1) ai U) (by decide) (by decide) U U) ai U) U) (by decide) U U) U U)))
theorem cY (T:Txt P w K mg t):bv P w K mg base CX0 2 t.f28 t.g28 ["_law_hand_here","_law_some"] (spI K bo):=
 e9 (N:=["_law_hand_here","_law_some"]) (b:=iO) T.F28 tH (oB T)
theorem oD (T:Txt P w K mg t):Bdy P w K mg base 16 ["_law_text_here","_law_way"] "_law_read" eL t.f29 eA:=
 λ_ _ _ _ _ _ a=>(ar (AZ (x:="NoText") U (ar (aH (aV (cP (ag (pd ⟨⟨_,_,_,(mZ T),(by decide),T.b18⟩,U,T.m18,T.F18.kp,(by decide)⟩ ⟨⟨_,_,_,(sW T),(by decide),T.b22⟩,U,T.m22,T.F22.kp,(by decide)⟩ ⟨⟨_,_,_,(sV T),(by decide),T.b25⟩,U,T.m25,T.F25.kp,(by decide)⟩ a (iv 1) (ag (iv 0) ai U) U U U) ai U))))) (λ_ _=>(dW (zZ (D6 (mz (zT ⟨⟨_,_,_,(mo T),(by decide),T.b18⟩,U,T.m18,T.F18.kp,(by decide)⟩ ⟨⟨_,_,_,(qE T),(by decide),T.b22⟩,U,T.m22,T.F22.kp,(by decide)⟩ ⟨⟨_,_,_,(qD T),(by decide),T.b25⟩,U,T.m25,T.F25.kp,(by decide)⟩ a (iv 1) (ag (iv 0) ai U) U U U) U))))) U T.cm_NoText T.ch (by decide)))
theorem jE (T:Txt P w K mg t):bv P w K mg base CX0 17 t.f29 t.g29 ["_law_text_here","_law_way"] (spI K dD):=
 e9 (N:=["_law_text_here","_law_way"]) (b:=eA) T.F29 tJ (oD T)
theorem nP (T:Txt P w K mg t):Bdy P w K mg base 17 ["_law_text_here","_law_readers","_law_way","_law_found","_law_shown"] "_law_right" dX t.f30 ii:=
 λ_ _ _ _ _ _ a=>(am (aE (i:=1) d7.nd U (by first|exact Or.inl U|exact Or.inr U) aj U (by first|exact .inl U|exact .inr U)) (am (mQ (kR U T.z_range (ag aj ai U) U) (bF (bp (i:=2) d7.nd U (by first|exact Or.inl U|exact Or.inr U))) (am (aE (i:=3) d7.nd U (by first|exact Or.inl U|exact Or.inr U) (aw (jE T) (by decide) a U T.m29 T.F29.kp T.b29 (ag (iv 0) (ag (iv 2) ai U) U) (by decide) U U) U (by first|exact .inl U|exact .inr U)) (ar (bf (aF (fg a U) (iv 3) (aV (cP ai)) (aJ _)) (am (aE (i:=1) d7.nd U (by first|exact Or.inl U|exact Or.inr U) (aD (aO U) (iv 1) aj) U (by first|exact .inl U|exact .inr U)) (am (aE (i:=4) d7.nd U (by first|exact Or.inl U|exact Or.inr U) (pd ⟨⟨_,_,_,(nc T),(by decide),T.b12⟩,U,T.m12,T.F12.kp,(by decide)⟩ ⟨⟨_,_,_,(mn T 7),(by decide),T.b13⟩,U,T.m13,T.F13.kp,(by decide)⟩ ⟨⟨_,_,_,(il T),(by decide),T.b16⟩,U,T.m16,T.F16.kp,(by decide)⟩ a (iv 2) (ag (aX (iv 3) aj U U) ai U) U U U) U (by first|exact .inl U|exact .inr U)) (am (bf (d9 (eF (aF Be (pd ⟨⟨_,_,_,(fU T),(by decide),T.b2⟩,U,T.m2,T.F2.kp,(by decide)⟩ ⟨⟨_,_,_,(jG T),(by decide),T.b11⟩,U,T.m11,T.F11.kp,(by decide)⟩ ⟨⟨_,_,_,(jF T),(by decide),T.b6⟩,U,T.m6,T.F6.kp,(by decide)⟩ a (iv 2) (ag (aX (iv 3) aj U U) ai U) U U U) gp (aJ _)) (dm (aF (fg a U) (iv 4) (iv 0) (aJ _))))) (ar (aH gp)) az) (ar (bf (aF (fg a U) (aw (jE T) (by decide) a U T.m29 T.F29.kp T.b29 (ag (iv 4) (ag (iv 2) ai U) U) (by decide) U U) (iv 3) (aJ _)) (ar (aH gp)) az))))) az))) qbQ U (λ_=>rfl)) (ar (aH (hM wP (iv 1) aj (aJ _))))))
theorem qB (T:Txt P w K mg t):bv P w K mg base CX0 18 t.f30 t.g30 ["_law_text_here"] (spI K jz):=
 e9 (N:=["_law_text_here","_law_readers","_law_way","_law_found","_law_shown"]) (b:=ii) T.F30 d7 (nP T)
theorem oF (T:Txt P w K mg t):Bdy P w K mg base 2 ["_law_hand_here","_law_some","_law_text_here"] "_law_text" dF t.f31 iP:=
 λ_ _ _ _ _ _ a=>(am (aE (i:=1) jI.nd U (by first|exact Or.inl U|exact Or.inr U) (aV (cP (ag aq (ag aq (ag aq (ag aq (ag aq (ag aq (ag aq (ag aq (ag aq (ag aq (ag aq (ag aq (ag aq (ag aq (ag aq (ag aq (ag aq (ag aq ai U) U) U) U) U) U) U) U) U) U) U) U) U) U) U) U) U) U))) U (by first|exact .inl U|exact .inr U)) (am (aE (i:=2) jI.nd U (by first|exact Or.inl U|exact Or.inr U) (iS aq (ag (aV (gq (eH (ak dF).names ["_law_hand_here","_law_some","_law_text_here"] ["_law_turn","_law_hand_here","_law_some"] 1 [0,1] U U U (by decide +kernel)) U (by decide) (kR U T.z_range (ag (aw (dS T) (by decide) a U T.m27 T.F27.kp T.b27 (ag (iv 0) (ag aj ai U) U) (by decide) U U) ai U) U) (λ_ _ _ _ _=>(bF (bp (i:=0) (show qbk (α:=Str) ["_law_turn","_law_hand_here","_law_some"] by decide +kernel) U (by first|exact Or.inl U|exact Or.inr U)))) (λ_ _ _ _ _=>cv) (λ_ _ _ _ _=>(aw (cY T) (by decide) a U T.m28 T.F28.kp T.b28 (ag (iv 1) (ag (iv 2) ai U) U) (by decide) U U)) (λ_=>rfl))) ai U) U U U U) U (by first|exact .inl U|exact .inr U)) (ar (aH (aD (aO U) (iv 2) (aX (aV (cP (ag aq (ag aq ai U) U))) (aD sN (aw (dS T) (by decide) a U T.m27 T.F27.kp T.b27 (ag (iv 0) (ag aj ai U) U) (by decide) U U) aj) U U))))))
theorem sS (T:Txt P w K mg t):bv P w K mg base CX0 3 t.f31 t.g31 ["_law_hand_here"] (spI K kr):=
 e9 (N:=["_law_hand_here","_law_some","_law_text_here"]) (b:=iP) T.F31 jI (oF T)
theorem oz (T:Txt P w K mg t):Bdy P w K mg base 2 ["_law_hand_here","_law_values","_law_inner","_law_rule","_law_parts"] "_law_good" cH t.f32 iN:=
 λ_ _ _ _ _ _ a=>(am (aE (i:=1) fY.nd U (by first|exact Or.inl U|exact Or.inr U) (iS aq (ag (aV (gq (eH (ak cH).names ["_law_hand_here","_law_values","_law_inner","_law_rule","_law_parts"] ["_law_turn","_law_hand_here"] 1 [0] U U U (by decide +kernel)) U (by decide) (kR U T.z_range (ag (aD Dm aj (aw (dS T) (by decide) a U T.m27 T.F27.kp T.b27 (ag (iv 0) (ag aj ai U) U) (by decide) U U)) ai U) U) (λ_ _ _ _ _=>(bF (bp (i:=0) (show qbk (α:=Str) ["_law_turn","_law_hand_here"] by decide +kernel) U (by first|exact Or.inl U|exact Or.inr U)))) (λ_ _ _ _ _=>cv) (λ_ _ _ _ _=>(aw (cY T) (by decide) a U T.m28 T.F28.kp T.b28 (ag (iv 1) (ag (aV (cP (ag aq (ag aq (ag aq ai U) U) U))) ai U) U) (by decide) U U)) (λ_=>rfl))) ai U) U U U U) U (by first|exact .inl U|exact .inr U)) (am (And.left (BZ (i0:=2) fY.nd U (by first|exact Or.inl U|exact Or.inr U) (eH (ak cH).names ["_law_hand_here","_law_values","_law_inner","_law_rule","_law_parts"] ["_law_turn","_law_hand_here"] 1 [0] U U U (by decide +kernel)) U (by decide) (kR U T.z_range (ag (aw (dS T) (by decide) a U T.m27 T.F27.kp T.b27 (ag (iv 0) (ag aj ai U) U) (by decide) U U) ai U) U) (λ_ _ _ _ _=>(bF (bp (i:=0) (show qbk (α:=Str) ["_law_turn","_law_hand_here"] by decide +kernel) U (by first|exact Or.inl U|exact Or.inr U)))) (λ_ _ _ _ _=>cv) (λ_ _ _ _ _=>(aw (cY T) (by decide) a U T.m28 T.F28.kp T.b28 (ag (iv 1) (ag (aV (cP (ag aq (ag aq (ag aq (ag aq (ag aq (ag aq ai U) U) U) U) U) U))) ai U) U) (by decide) U U)) U (by first|exact .inl U|exact .inr U) (λ_=>rfl))) (am (aE (i:=3) fY.nd U (by first|exact Or.inl U|exact Or.inr U) (aD (aO U) (aD (aO U) (aw (cY T) (by decide) a U T.m28 T.F28.kp T.b28 (ag (iv 0) (ag (aV (cP (ag aq (ag aq (ag aq (ag aq (ag aq (ag aq ai U) U) U) U) U) U))) ai U) U) (by decide) U U) (iS aq (ag (iv 2) ai U) U U U U)) aq) U (by first|exact .inl U|exact .inr U)) (am (And.left (BZ (i0:=4) fY.nd U (by first|exact Or.inl U|exact Or.inr U) (eH (ak cH).names ["_law_hand_here","_law_values","_law_inner","_law_rule","_law_parts"] ["_law_part","_law_hand_here"] 1 [0] U U U (by decide +kernel)) U (by decide) (gy (aV (cP (ag aq (ag aq (ag aq (ag aq (ag aq (ag aq (ag aq ai U) U) U) U) U) U) U))) U) (λ_ _ _ _ _=>(bF (bp (i:=0) (show qbk (α:=Str) ["_law_part","_law_hand_here"] by decide +kernel) U (by first|exact Or.inl U|exact Or.inr U)))) (λ_ _ _ _ _=>(A1 (aF (dj a U) (aw (dS T) (by decide) a U T.m27 T.F27.kp T.b27 (ag (iv 1) (ag aj ai U) U) (by decide) U U) aj (aJ _)))) (λ_ _ _ _ _=>(iv 0)) U (by first|exact .inl U|exact .inr U) (λ_=>rfl))) (ar (aH (aV (cP (ag (iv 1) (ag (iv 3) (ag (iS aq (ag (aD (aO U) (aV (cP (ag (aw (cY T) (by decide) a U T.m28 T.F28.kp T.b28 (ag (iv 0) (ag (aV (cP (ag aq (ag aq ai U) U))) ai U) U) (by decide) U U) ai U))) (CV (iv 4) (jd (aV (cP (ag aq ai U)))))) ai U) U U U U) ai U) U) U)))))))))
theorem sQ (T:Txt P w K mg t):bv P w K mg base CX0 3 t.f32 t.g32 ["_law_hand_here"] (spI K iT):=
 e9 (N:=["_law_hand_here","_law_values","_law_inner","_law_rule","_law_parts"]) (b:=iN) T.F32 fY (oz T)
theorem yr (T:Txt P w K mg t):Bdy P w K mg base 18 ["_law_script","_law_k","_law_hand_here","_law_good_here","_law_texts","_law_text_here","_law_at"] "law" ly t.f33 wj:=
 λ_ _ _ _ _ _ a=>(am (mQ (kR U T.z_range (ag (aD (aO U) aj (br (CF U) U T.z_min qhA (ag aj (ag (br (df U) U T.z_len qa3 (ag (iv 0) ai U) (by decide) (by decide) U U) ai U) U) (by decide) (by decide) U U)) ai U) U) (bF (bp (i:=1) lP.nd U (by first|exact Or.inl U|exact Or.inr U))) (am (aE (i:=2) lP.nd U (by first|exact Or.inl U|exact Or.inr U) (aw (sR T) (by decide) a U T.m26 T.F26.kp T.b26 (ag (iv 0) (ag (iv 1) ai U) U) (by decide) U U) U (by first|exact .inl U|exact .inr U)) (am (aE (i:=3) lP.nd U (by first|exact Or.inl U|exact Or.inr U) (aw (sQ T) (by decide) a U T.m32 T.F32.kp T.b32 (ag (iv 2) ai U) (by decide) U U) U (by first|exact .inl U|exact .inr U)) (am (bf (aF (fg a U) (aV (gq (eH (ak ly).names ["_law_script","_law_k","_law_hand_here","_law_good_here","_law_texts","_law_text_here","_law_at"] ["_law_way","_law_text_here"] 2 [] U U U (by decide +kernel)) U (by decide) (AR U T.z_enumerate (ag (iv 3) ai U) U U) (λ_ _ _ _ _=>(yP (ma (bp (i:=0) (show qbk (α:=Str) ["_law_way","_law_text_here"] by decide +kernel) U (by first|exact Or.inl U|exact Or.inr U)) (ma (bp (i:=1) (show qbk (α:=Str) ["_law_way","_law_text_here"] by decide +kernel) U (by first|exact Or.inl U|exact Or.inr U)) wD)) U U U U U)) (λ_ _ _ _ _=>cv) (λ_ _ _ _ _=>(br (df U) U T.z_len qa3 (ag (aw (jE T) (by decide) a U T.m29 T.F29.kp T.b29 (ag (iv 1) (ag (iv 0) ai U) U) (by decide) U U) ai U) (by decide) (by decide) U U)) (λ_=>rfl))) (aV (cP (ag aj (ag aj (ag aj ai U) U) U))) (aJ _)) (ar (aH gp)) az) (am (aE (i:=4) lP.nd U (by first|exact Or.inl U|exact Or.inr U) (sA (EL Dp (aV (gq (eH (ak ly).names ["_law_script","_law_k","_law_hand_here","_law_good_here","_law_texts","_law_text_here","_law_at"] ["_law_turn","_law_hand_here"] 1 [2] U U U (by decide +kernel)) U (by decide) (kR U T.z_range (ag aj ai U) U) (λ_ _ _ _ _=>(bF (bp (i:=0) (show qbk (α:=Str) ["_law_turn","_law_hand_here"] by decide +kernel) U (by first|exact Or.inl U|exact Or.inr U)))) (λ_ _ _ _ _=>cv) (λ_ _ _ _ _=>(aw (sS T) (by decide) a U T.m31 T.F31.kp T.b31 (ag (iv 1) ai U) (by decide) U U)) (λ_=>rfl))) (iv 3))) U (by first|exact .inl U|exact .inr U)) (am (mQ (gy (iv 3) U) (bF (bp (i:=5) lP.nd U (by first|exact Or.inl U|exact Or.inr U))) (am (aE (i:=6) lP.nd U (by first|exact Or.inl U|exact Or.inr U) (aw (dS T) (by decide) a U T.m27 T.F27.kp T.b27 (ag (iv 2) (ag (aD (aO U) (br (df U) U T.z_len qa3 (ag (iv 5) ai U) (by decide) (by decide) U U) aj) ai U) U) (by decide) U U) U (by first|exact .inl U|exact .inr U)) (am (kS (iz (iv 4) (ag (aD (aO U) (aD (aO U) (d8 (iv 5) gJ (bu (iv 6)) U) (aw (cY T) (by decide) a U T.m28 T.F28.kp T.b28 (ag (iv 2) (ag (aV (cP (ag aq (ag aq (ag aq (ag aq (ag aq (ag aq ai U) U) U) U) U) U))) ai U) U) (by decide) U U)) (d8 (iv 5) (bu (aD (aO U) (iv 6) aj)) gJ U)) ai U) U U (by decide) U U) U) (ar (kS (iz (iv 4) (ag (aD (aO U) (aD (aO U) (iv 5) (aw (cY T) (by decide) a U T.m28 T.F28.kp T.b28 (ag (iv 2) (ag (aV (cP (ag aq (ag aq ai U) U))) ai U) U) (by decide) U U)) (aw (cY T) (by decide) a U T.m28 T.F28.kp T.b28 (ag (iv 2) (ag (iv 3) ai U) U) (by decide) U U)) ai U) U U (by decide) U U) U)))) qbQ U (λ_=>rfl)) (ar (bf (bL (bM (br (oU U U) U T.z_all qcc (ag (aV (CZ (eH (ak ly).names ["_law_script","_law_k","_law_hand_here","_law_good_here","_law_texts","_law_text_here","_law_at"] ["_law_text_here"] 1 [] U U U (by decide +kernel)) U (by decide) (iv 4) U (λ_ _ _ _ _=>(bF (bp (i:=0) (show qbk (α:=Str) ["_law_text_here"] by decide +kernel) U (by first|exact Or.inl U|exact Or.inr U)))) (λ_ _ _ _ _=>cv) (λ_ _ _ _ _=>(aw (qB T) (by decide) a U T.m30 T.F30.kp T.b30 (ag (iv 0) ai U) (by decide) U U)) (λ_=>rfl))) ai U) (by decide) (by decide) U U) U U)) (ar (aH gp)) az))))))) qbQ U (λ_=>rfl)) (ar (aH gp)))
theorem Do (T:Txt P w K mg t):bv P w K mg base CX0 19 t.f33 t.g33 ["_law_script"] (spI K uB):=
 EC (N:=["_law_script","_law_k","_law_hand_here","_law_good_here","_law_texts","_law_text_here","_law_at"]) (b:=wj) T.F33 lP (yr T)
end
end Own
end
namespace L2
open PySem
def Trm (n:Nat) (t:List Int):Prop:=t.Pairwise (·<·)/\∀ k∈t,0<=k/\k<n
theorem tU {n:Nat}{t:List Int} (h:Trm n t):t.length<=n:=by
 have b:∀ (t:List Int) (a:Int),t.Pairwise (·<·)->(∀ k∈t,a<=k/\k<n)->(t.length)<=max 0 ((n) - a):=by
  intro t
  induction t with
  |nil=>intro a _ _;simp;lia
  |cons x t e=>
   intro a c hm;have f:=hm x qae
   have:=e _ (qci.mp c).2 λk d=>⟨(qci.mp c).1 k d,(hm k (qah _ d)).2⟩
   rw[qaf];lia
 have:=b t 0 h.1 h.2
 lia
abbrev Prt:=List Int×Int
def bw (p:Prt):D:=.tup [dL p.1,.int p.2]
def ie (kd:Str) (ps:List Prt):D:=.tup [.str kd,.tup (ps.map bw)]
inductive Gw where|all|any|odd|least
inductive Ru where
 |sw (k:Int)
 |nt (r:Ru)
 |gr (g:Gw) (k:Int) (rs:List Ru)
def Gw.wd:Gw->Str
 |.all=>"all"
 |.any=>"any"
 |.odd=>"odd"
 |.least=>"least"
def grD (g:Gw) (k:Int) (ds:List D):D:=match g with
 |.least=>.tup [.str "least",.int k,.tup ds]
 |.all=>.tup [.str "all",.tup ds]
 |.any=>.tup [.str "any",.tup ds]
 |.odd=>.tup [.str "odd",.tup ds]
mutual
def toD:Ru->D
 |.sw k=>.tup [.str "switch",.int k]
 |.nt r=>.tup [.str "not",toD r]
 |.gr g k rs=>grD g k (cA rs)
def cA:List Ru->List D
 |[]=>[]
 |r::rs=>toD r::cA rs
end
mutual
def dep:Ru->Nat
 |.sw _=>1
 |.nt r=>dep r+1
 |.gr _ _ rs=>lD rs+1
def lD:List Ru->Nat
 |[]=>0
 |r::rs=>max (dep r) (lD rs)
end
mutual
def cnt:Ru->Int
 |.sw _=>1
 |.nt r=>1+cnt r
 |.gr _ _ rs=>1+fQ rs
def fQ:List Ru->Int
 |[]=>0
 |r::rs=>cnt r+fQ rs
end
mutual
def lc (m:Int):Ru->Prop
 |.sw k=>0<=k/\k<m
 |.nt r=>lc m r
 |.gr _ k rs=>0<=k/\k<=9/\rs.length<=6/\o8 m rs
def o8 (m:Int):List Ru->Prop
 |[]=>True
 |r::rs=>lc m r/\o8 m rs
end
theorem kI:∀ rs:List Ru,cA rs=rs.map toD
 |[]=>by rw[cA];rfl
 |r::rs=>by rw[cA,kI rs];rfl
theorem lV:∀ {rs:List Ru}{n:Nat},lD rs<=n->∀ r∈rs,dep r<=n
 |[],n,_,r,h=>by cases h
 |x::rs,n,hd,r,h=>by
  rw[lD]at hd;rcases qat.mp h with rfl|h
  ·lia
  ·exact lV (rs:=rs) (by lia) r h
theorem qT:∀ {m:Int}{rs:List Ru},o8 m rs->∀ r∈rs,lc m r
 |m,[],_,r,h=>by cases h
 |m,x::rs,a,r,h=>by
  rw[o8]at a;rcases qat.mp h with rfl|h
  ·exact a.1
  ·exact qT (rs:=rs) a.2 r h
theorem aI {g:Sto->W->W->Option D}{a b:Ef}{env:Ev}{st c s2:Sto}{x y:W}{d:D} (e:a env st=some (x,c)) (f:b env c=some (y,s2)) (h:g s2 x y=some d):iOp g a b env st=some (.d d,s2):=by
 simp only[iOp,e,f,h,qaa,qak]
theorem aS {g:Sto->W->W->Option D}{a b:Ef}{env:Ev}{st c s2:Sto}{x y:W}{k:Bool} (d:a env st=some (x,c)) (e:b env c=some (y,s2)) (f:g s2 x y=some (.bl k)):aC g a b env st=some (k,s2):=by
 simp only[aC,d,e,f,qaa,iM,qak]
theorem be {a b:Sf}{env e:Ev}{st s:Sto}{r:Fl} (d:a env st=some (.nx e s)) (c:b e s=some r):av a b env st=some r:=by
 simp only[av,d,c,qaa]
theorem eW {a b:Sf}{env:Ev}{st s:Sto}{w:W} (c:a env st=some (.rt w s)):av a b env st=some (.rt w s):=by
 simp only[av,c,qaa]
theorem aM {i:Nat}{f:Ef}{env:Ev}{st s:Sto}{w:W} (h:f env st=some (w,s)):aK (.nm i) f env st=some (.nx (env.set i (some w)) s):=by
 simp only[aK,h,qaa,dC,qak]
theorem aA {m:Fn}{a:Af}{env:Ev}{st s:Sto}{ws:List W}{r:W×Sto} (b:a env st=some (ws,s)) (hm:m ws s=some r):au m a env st=some r:=by
 simp only[au,b,hm,qaa]
theorem bQ {g:Sto->List W->Option D}{a:Af}{env:Ev}{st s:Sto}{ws:List W}{d:D} (b:a env st=some (ws,s)) (hm:g s ws=some d):iCB g a env st=some (.d d,s):=by
 simp only[iCB,b,hm,qaa,qak]
theorem ao {a:Ef}{b:Af}{env:Ev}{st c s2:Sto}{x:W}{y:List W} (e:a env st=some (x,c)) (d:b env c=some (y,s2)):ae a b env st=some (x::y,s2):=by
 simp only[ae,e,d,qaa,qak]
theorem im {a:Lf}{g:Tg}{b:Sf}{env:Ev}{st s:Sto}{ds:List D}{r:Fl} (h:a env st=some (ds,s)) (c:gx g b ds env s=some r):qy a g b env st=some r:=by
 simp only[qy,h,c,qaa]
theorem aR {f:Ef}{env:Ev}{st s:Sto}{w:W} (h:f env st=some (w,s)):aW f env st=some (.rt w s):=by
 simp only[aW,h,qak]
theorem jR {c:Tf}{a b:Sf}{env:Ev}{st s:Sto}{r:Option Fl} (h:c env st=some (true,s)) (d:a env s=r):bd c a b env st=r:=by
 simp only[bd,h,qaa,if_true,d]
theorem fV {c:Tf}{a b:Sf}{env:Ev}{st s:Sto}{r:Option Fl} (h:c env st=some (false,s)) (d:b env s=r):bd c a b env st=r:=by
 simp only[bd,h,qaa,qaE,if_false,d]
theorem eI {k:Nat}{js:List Nat}{b:Lf}{g:Tg}{tt:Tf}{te:Ef}{env:Ev}{st s s2:Sto}{ds a:List D} (h:b env st=some (ds,s)) (c:ds.length<=1000000) (d:lcI g tt te (jx k js env) ds s=some (a,s2)):iLc k js b g tt te env st=some (a,s2):=by
 simp only[iLc,h,d,c,qaa,if_true]
theorem bx {a:Lf}{env:Ev}{st s:Sto}{ds:List D} (h:a env st=some (ds,s)):ay a env st=some (.d (.lst ds),s):=by
 simp only[ay,h,qak]
theorem bz {n k:Nat}{b:Sf}{ws:List W}{st s:Sto}{w:W} (a:ws.length=k) (h:b (ws.map some++qax (n - k) none) st=some (.rt w s)):bR n k b ws st=some (w,s):=by
 simp only[bR,a,if_true,h,qaa]
theorem uR {n k:Nat}{b:Sf}{ws:List W}{st s:Sto}{x:D} (a:ws.length=k) (h:b (ws.map some++qax (n - k) none) st=some (.rt (.d x) s)):vR n k b ws st=some (.d x,s.take st.length):=by
 simp only[vR,a,if_true,h,qaa,AI]
end L2
set_option maxHeartbeats 1000000
namespace Own
open PySem L2
def S (l:List Nat):Str:=⟨l.toArray⟩
theorem jO (a b:List Nat):S a++S b=S (a++b):=by
 show (⟨a.toArray++b.toArray⟩:Str)=⟨(a++b).toArray⟩
 congr 1
 simp
theorem cn (a:List Nat):(S a).length=a.length:=by show a.toArray.size=_;simp
theorem rE (a:List Nat):(S a).cps.toList=a:=rfl
theorem BU {a b:List Nat} (h:S a=S b):a=b:=by
 have:(S a).cps.toList=(S b).cps.toList:=by rw[h]
 exact this
theorem hZ (a b:List Nat):(S a==S b)=decide (a=b):=by
 by_cases h:a=b
 ·subst h;simp
 ·have:¬ S a=S b:=λq=>h (BU q)
  simp[h,this]
theorem jL {st:Sto}{n:Nat}{m:Int} (h:dc st n) (m0:0<m) (m1:m<1073741824):∃ r a,0<=r/\r<m/\Stp n st a/\bC [.h n,.d (.int m)] st=some (.d (.int r),a):=by
 have hn:=h.lt;obtain⟨x,y,z,c,h⟩:=h;by_cases b:0<x
 ·refine⟨x%m,st.set n (.l [.int (x / m),.int y,.int z]),qc6 _ (by lia),qeh _ m0,⟨⟨_,U⟩,_,_,_,Int.ediv_nonneg c (by lia),sr hn⟩,?_⟩
  simp only[bC,gM,iV,iC,iOp,aC,aL,av,aK,u1,lE,aW,bd,bR,dC,iM,e8,lsD,dIx,aU,kf,oW,jW,dGt,qaa,qak,qaJ,qbb,qby,qbz,qal,qbf,qaf,qaN,qa9,qaM,qa0,qaI,qbN,qbg,if_true,nO,EO,qa8,and_self,decide_true,lg,qb2,h,b,m0,m1,decide_true,and_self]
 ·have f:0<=(y*39373+12345+31*(z+1))%2147483647:=qc6 _ (by decide)
  have e:(y*39373+12345+31*(z+1))%2147483647<2147483647:=qeh _ (by decide);have k1:qcf y 39373:=sL (by decide);have k2:qcf 31 (z+1):=sK (by decide);have k3:∀ q,qcf ((y*39373+12345+31*(z+1))%2147483647) q:=λq=>sK (by lia);refine⟨(y*39373+12345+31*(z+1))%2147483647*((y*39373+12345+31*(z+1))%2147483647%40009+3)%2147483629 / 64%m,st.set n (.l [.int x,.int ((y*39373+12345+31*(z+1))%2147483647),.int (z+1)]),qc6 _ (by lia),qeh _ m0,⟨⟨_,U⟩,_,_,_,c,sr hn⟩,?_⟩;simp only[bC,gM,iV,iC,iOp,aC,aL,av,aK,u1,lE,aW,bd,bR,dC,iM,e8,lsD,dIx,aU,kf,oW,jW,dGt,qaa,qak,qaJ,qbb,qby,qbz,qal,qbf,qaf,qaN,qa9,qaM,qa0,qaI,qbN,qbg,if_true,if_false,qaE,nO,t9,Et,EO,Gp,Gq,qa8,and_self,decide_false,lg,qb2,h,b,m0,m1,decide_false,and_self,sr hn,qgM,k1,k2,k3,show (0:Int)<2147483647 by decide,show (0:Int)<40009 by decide,show (0:Int)<2147483629 by decide,show (0:Int)<64 by decide,show (64:Int)<1073741824 by decide]
theorem AM {st:Sto}{ns:List Int}{k:Nat}:∃ x y:Int,0<=x/\fL [.d (.scr ns),.d (.int k)] st=some (.h st.length,st++[.l [.int x,.int y,.int 0]]):=by
 have a:ql 10 60:=p60;have c:ql 10 18:=p18;have k1:∀ q,qcf 7919 q:=λq=>sK (by decide);have k2:∀ q,qcf q 48271:=λq=>sL (by decide);have k3:∀ (q:Int) (b:Bool),qcf q (if b=true then 1 else 0):=λq b=>sL ⟨Ew b,Eu b⟩;have i:=so;by_cases g:(k:Int)<((ns.map D.int).length:Nat)
 ·have f:k<ns.length:=by rw[qan]at g;lia
  have e:atI (ns.map D.int) (k:Int)=some (.int ns[k]):=lR (by rw[qbu,qa6 f];rfl);refine⟨(if ns[k]<0 then -ns[k] else ns[k])%(10^qbA 60*10^qbA 60*10^qbA 60*10^qbA 60)*(if decide (10^qbA 18<=(if ns[k]<0 then -ns[k] else ns[k]))=true then 1 else 0),(ns[k]%2147483629+7919*(k:Int)+11)*48271%2147483647,qgu (qc6 _ (qhG so)) (BV _),?_⟩
  ·simp only[fL,gL,iV,iC,iOp,aC,ah,ae,iCB,cL,mP,aL,av,aK,aW,bd,bR,dC,fz,iM,e8,lsD,dIx,aU,kf,jW,uh,dLt,dGe,bN,oV,AB,qaa,qak,qaJ,qbb,qby,qbz,qal,qbf,qaf,qaN,qa9,qaM,qa0,qaI,qbN,qbg,if_true,qa8,decide_true,lg,qb2,nv,g,e,decide_true,a,c,k1,k2,k3,EW,EY,EZ,i,show (0:Int)<2147483647 by decide,show (0:Int)<2147483629 by decide,show (3:Nat)<=1000 by decide]
 ·refine⟨(if (0:Int)<0 then -0 else 0)%(10^qbA 60*10^qbA 60*10^qbA 60*10^qbA 60)*(if decide (10^qbA 18<=(if (0:Int)<0 then -0 else (0:Int)))=true then 1 else 0),(0%2147483629+7919*(k:Int)+11)*48271%2147483647,qgu (qc6 _ (qhG so)) (BV _),?_⟩
  ·simp only[fL,gL,iV,iC,iOp,aC,ah,ae,iCB,cL,mP,aL,av,aK,aW,bd,bR,dC,fz,iM,e8,lsD,dIx,aU,kf,jW,uh,dLt,dGe,bN,oV,AB,qaa,qak,qaJ,qbb,qby,qbz,qal,qbf,qaf,qaN,qa9,qaM,qa0,qaI,qbN,qbg,if_true,if_false,qaE,qa8,decide_false,lg,Int.reduceLT,qb2,nv,g,decide_false,a,c,k1,k2,k3,EW,EY,EZ,i,show (0:Int)<2147483647 by decide,show (0:Int)<2147483629 by decide,show (3:Nat)<=1000 by decide]
theorem kX {st:Sto}{n:Nat}{ds:List D} (h:dc st n) (g:ds≠[]) (l:ds.length<1000000):∃ d a,d∈ds/\Stp n st a/\bo [.h n,.d (.lst ds)] st=some (.d d,a):=by
 have p:0<ds.length:=qc1.mpr g;obtain⟨r,c,k,o,f,i⟩:=jL h (m:=(ds.length:Int)) (by lia) (by lia);obtain⟨j,rfl⟩:=qdx k;have b:j<ds.length:=by lia
 have e:atI ds (j:Int)=some ds[j]:=lR (qa6 b);refine⟨ds[j],c,qet b,f,?_⟩;simp only[bo,iO,iV,iOp,ah,ae,iCB,au,aW,bR,e8,dIx,bN,qaa,qak,qaJ,qbb,qal,qbf,qaf,qaN,qaM,qa0,qaI,qbN,qbg,if_true,qa8,lg,i,e]
theorem pH:(("switch" : Str)==("least" : Str))=false:=by decide +kernel
theorem jA:(("not" : Str)==("switch" : Str))=false:=by decide +kernel
theorem uD:(("not" : Str)==("least" : Str))=false:=by decide +kernel
theorem mf:(("all" : Str)==("switch" : Str))=false:=by decide +kernel
theorem qW:(("all" : Str)==("not" : Str))=false:=by decide +kernel
theorem nA:(("all" : Str)==("least" : Str))=false:=by decide +kernel
theorem mh:(("any" : Str)==("switch" : Str))=false:=by decide +kernel
theorem qX:(("any" : Str)==("not" : Str))=false:=by decide +kernel
theorem nB:(("any" : Str)==("least" : Str))=false:=by decide +kernel
theorem mj:(("odd" : Str)==("switch" : Str))=false:=by decide +kernel
theorem qY:(("odd" : Str)==("not" : Str))=false:=by decide +kernel
theorem nC:(("odd" : Str)==("least" : Str))=false:=by decide +kernel
theorem pG:(("least" : Str)==("switch" : Str))=false:=by decide +kernel
theorem uC:(("least" : Str)==("not" : Str))=false:=by decide +kernel
theorem ni {e:Ef}{z:Int}{m:Nat}{env:Ev}{st s:Sto} (a:e env st=some (.d (.int z),s)) (f:0<=z) (c:z<=1000) (hm:z.toNat=m):fA (ae e ah) env st=some (lM 0 m,s):=by
 have g:-(2^62)<=z/\z<2^62:=⟨Int.le_trans (by decide) f,Int.lt_of_le_of_lt c (by decide)⟩;simp only[fA,(ao (b:=ah) a U),qaa,g,and_self,if_true,hm]
theorem mR {f:Ef}{env:Ev}{st s:Sto}{ds:List D} (h:f env st=some (.d (.lst ds),s)):bh f env st=some (ds,s):=by
 simp only[bh,h,qaa]
theorem eV {f:Ef}{env:Ev}{st s:Sto}{ds:List D} (h:f env st=some (.d (.tup ds),s)):bh f env st=some (ds,s):=by
 simp only[bh,h,qaa]
theorem pY {c:Tf}{a b:Ef}{env:Ev}{st s:Sto}{r:Option (W×Sto)} (h:c env st=some (true,s)) (d:a env s=r):gj c a b env st=r:=by
 simp only[gj,h,qaa,if_true,d]
theorem kD {c:Tf}{a b:Ef}{env:Ev}{st s:Sto}{r:Option (W×Sto)} (h:c env st=some (false,s)) (d:b env s=r):gj c a b env st=r:=by
 simp only[gj,h,qaa,qaE,if_false,d]
theorem oZ (s:Sto) (a b:Int):dEq s (.d (.int a)) (.d (.int b))=some (.bl (a==b)):=by
 rfl
theorem BW (s:Sto) (a b:Str):dEq s (.d (.str a)) (.d (.str b))=some (.bl (a==b)):=by
 rfl
theorem yo (s:Sto) {a b:List D} (h:a.length+b.length<=1000000):aU s (.d (.lst a)) (.d (.lst b))=some (.lst (a++b)):=iFP h
theorem Cz (s:Sto) {a b:List D} (h:a.length+b.length<=1000000):aU s (.d (.tup a)) (.d (.tup b))=some (.tup (a++b)):=iFP h
theorem dq {b c:Rf}{a:Sf}{env:Ev}{st s:Sto} (h:b env st=some s):di b a c env st=some s:=by simp only[di,h]
theorem ax {c b:Rf}{a:Sf}{env e:Ev}{st s:Sto}{r:Option Sto} (h:c env st=none) (d:a env st=some (.nx e s)) (f:b e s=r):di c a b env st=r:=by simp only[di,h,d,qaa,f]
theorem my {b c:Rf}{a:Sf}{env:Ev}{st s:Sto}{w:W} (h:b env st=none) (d:a env st=some (.rt w s)):di b a c env st=none:=by simp only[di,h,d,qaa]
theorem jh {c:Tf}{a b:Rf}{env:Ev}{st s:Sto}{r:Option Sto} (h:c env st=some (true,s)) (d:a env s=r):xIf c a b env st=r:=by simp only[xIf,h,qaa,if_true,d]
theorem cN {c:Tf}{b a:Rf}{env:Ev}{st s:Sto}{r:Option Sto} (h:c env st=some (false,s)) (d:a env s=r):xIf c b a env st=r:=by simp only[xIf,h,qaa,qaE,if_false,d]
theorem eZ {m:Rn}{a:Af}{env:Ev}{st s:Sto}{ws:List W}{r:Option Sto} (h:a env st=some (ws,s)) (hm:m ws s=r):gY m a env st=r:=by simp only[gY,h,qaa,hm]
theorem dn {a b:Sf}{env:Ev}{st:Sto} (h:a env st=none):av a b env st=none:=by simp only[av,h,qbi]
theorem nG {a b:Sf}{env:Ev}{st s:Sto}{w:W} (h:a env st=some (.rt w s)):av a b env st=some (.rt w s):=by simp only[av,h,qaa]
theorem aB {a b:Sf}{env e:Ev}{st s:Sto}{r:Option Fl} (h:a env st=some (.nx e s)) (c:b e s=r):av a b env st=r:=by simp only[av,h,qaa,c]
theorem jg {c:Tf}{a b:Sf}{env:Ev}{st s:Sto}{r:Option Fl} (h:c env st=some (true,s)) (d:a env s=r):bd c a b env st=r:=by simp only[bd,h,qaa,if_true,d]
theorem bq {c:Tf}{a b:Sf}{env:Ev}{st s:Sto}{r:Option Fl} (h:c env st=some (false,s)) (d:b env s=r):bd c a b env st=r:=by simp only[bd,h,qaa,qaE,if_false,d]
end Own
set_option maxHeartbeats 1000000
namespace Own
open PySem L2
def hX (c:Nat):Option D:=if 49=c then some (.int 1) else if 48=c then some (.int 0) else if 45=c then some .non else none
def d0:List Nat->Option (List D)
 |[]=>some []
 |c::l=>(hX c).bind λd=>(d0 l).map λr=>d::r
def okV (d:D):Prop:=d=.non\/d=.int 0\/d=.int 1
theorem BQ {c:Nat}{d:D} (h:hX c=some d):okV d:=by
 unfold hX at h;split at h
 ·cases h;exact .inr (.inr U)
 ·split at h
  ·cases h;exact .inr (.inl U)
  ·split at h
   ·cases h;exact .inl U
   ·cases h
theorem jr:∀ {l:List Nat}{f:List D},d0 l=some f->f.length=l.length/\∀ d∈f,okV d
 |[],f,h=>by cases h;exact⟨U,λd hd=>nomatch hd⟩
 |c::l,f,h=>by
  unfold d0 at h;obtain⟨d,hd,h⟩:=qab.mp h;obtain⟨r,e,rfl⟩:=qac.mp h;obtain⟨g,b⟩:=jr e;refine⟨by rw[qaf,qaf,g],λx a=>?_⟩;rcases qat.mp a with rfl|a
  ·exact BQ hd
  ·exact b x a
theorem AA {a b:Nat}:cK a=cK b↔a=b:=⟨λh=>by
 have:=congrArg (λs:Str=>s.cps.toList) h
 simpa [cK] using this,λh=>by rw[h]⟩
theorem wg (c:Nat):atS (cK c) [("1",(.int 1)),("0",(.int 0)),("-",.non)]=hX c:=by
 have b:("1" : Str)=cK 49:=rfl
 have a:("0" : Str)=cK 48:=rfl
 have em:("-" : Str)=cK 45:=rfl
 simp only[atS,b,a,em,AA,hX]
theorem Aq {c:Nat}{st:Sto}:jQ true [("1",(.int 1)),("0",(.int 0)),("-",.non)] (iV 0) [Z (.str (cK c))] st=some (!(hX c).isSome,st):=by
 have a:iV 0 [Z (.str (cK c))] st=some (.d (.str (cK c)),st):=rfl;simp only[jQ,a,qaa,wg];cases (hX c).isSome<;>rfl
theorem FT {c:Nat}{st:Sto}:qz [("1",(.int 1)),("0",(.int 0)),("-",.non)] (iV 0) [Z (.str (cK c))] st=(hX c).map λd=>(.d d,st):=by
 have a:iV 0 [Z (.str (cK c))] st=some (.d (.str (cK c)),st):=rfl;simp only[qz,a,qaa,wg]
theorem Cp {c:Nat}{st:Sto}:cM [.d (.str (cK c))] st=(hX c).map λd=>(.d d,st):=by
 show bR 1 1 eD [.d (.str (cK c))] st=_;have e:eD [Z (.str (cK c))] st=(hX c).map λd=>Fl.rt (.d d) st:=by
  cases h:hX c with
  |none=>
   have hi:=Aq (c:=c) (st:=st);rw[h]at hi;simp only[eD,av,bd,hi,qaa];rfl
  |some d=>
   have hi:=Aq (c:=c) (st:=st);have a:=FT (c:=c) (st:=st);rw[h]at hi a;exact be (fV hi U) (aR a)
 have b:bR 1 1 eD [.d (.str (cK c))] st=(eD [some (.d (.str (cK c)))] st).bind λr=>match r with|.nx _ s=>some (.d .non,s)|.rt w s=>some (w,s)|_=>none:=rfl
 rw[b,e];cases hX c<;>rfl
theorem Ei {c:Nat}{st:Sto}:fG [.d (.str (cK c))] st=if (hX c).isSome=true then none else some st:=by
 have b:fO [Z (.str (cK c))] st=if (hX c).isSome=true then none else some st:=by
  simp only[fO,di,xIf,bd,Aq,qaa];cases h:(hX c).isSome<;>rfl
 have a:fG [.d (.str (cK c))] st=(fO [Z (.str (cK c))] st).map λs=>s.take st.length:=rfl;rw[a,b];cases (hX c).isSome
 ·show some (st.take st.length)=_
  rw[qbd];rfl
 ·rfl
def chs (l:List Nat):List D:=l.map λc=>D.str (cK c)
theorem lcR (st:Sto):∀ l:List Nat,lcI (.nm 0) bg ek [none] (chs l) st=(d0 l).map λr=>(r,st)
 |[]=>rfl
 |c::l=>by
  have a:=lcR st l;have f:ek [Z (.str (cK c))] st=(hX c).map λd=>(.d d,st):=by
   show au cM (ae (iV 0) ah) _ st=_;rw[show au cM (ae (iV 0) ah) [Z (.str (cK c))] st=cM [.d (.str (cK c))] st from U,Cp]
  have g:dC (.nm 0) (.d (.str (cK c))) [none]=some [Z (.str (cK c))]:=rfl;have b:∀ e,bg e st=some (true,st):=λ_=>rfl;show lcI (.nm 0) bg ek [none] (D.str (cK c)::chs l) st=_;simp only[lcI,g,b,f,qaa,if_true,d0];cases hX c with
  |none=>rfl
  |some d=>
   simp only[qak,qaa,fz,a];cases d0 l<;>rfl
theorem EU (st:Sto):∀ l:List Nat,j0 (.nm 0) ci bY [none] (chs l) st=if (d0 l).isSome=true then none else some st
 |[]=>rfl
 |c::l=>by
  have h:=EU st l;have f:ci [Z (.str (cK c))] st=(hX c).map λd=>(.d d,st):=by
   show au cM (ae (iV 0) ah) _ st=_;rw[show au cM (ae (iV 0) ah) [Z (.str (cK c))] st=cM [.d (.str (cK c))] st from U,Cp]
  have a:bY [Z (.str (cK c))] st=if (hX c).isSome=true then none else some st:=by
   show gY fG (ae (iV 0) ah) _ st=_;rw[show gY fG (ae (iV 0) ah) [Z (.str (cK c))] st=fG [.d (.str (cK c))] st from U,Ei]
  have g:dC (.nm 0) (.d (.str (cK c))) [none]=some [Z (.str (cK c))]:=rfl;show j0 (.nm 0) ci bY [none] (D.str (cK c)::chs l) st=_;cases hv:hX c with
  |none=>
   rw[hv]at a;simp only[j0,g,a,qaa,d0,hv];rfl
  |some d=>
   rw[hv]at a f;have b:bY [Z (.str (cK c))] st=none:=a;have e:ci [Z (.str (cK c))] st=some (.d d,st):=f;simp only[j0,g,b,e,qaa,d0,hv,fz,qak,h];cases d0 l<;>rfl
def mU (n:Nat):Bool:=inD (.int (n:Nat)) [(.int 1),(.int 2),(.int 4),(.int 8),(.int 16),(.int 32),(.int 64)]
theorem Go {st:Sto}{d:D} (h:okV d):fq [Z d] st=some (.d (.bl true),st):=by
 rcases h with rfl|rfl|rfl<;>rfl
theorem qO:∀ f:List D,jv (f.map λ_=>D.bl true)=some (f.map λ_=>true)
 |[]=>rfl
 |d::f=>by rw[qal,jv,qO f];rfl
theorem t8:∀ f:List D,(f.map λ_=>true).all id=true
 |[]=>rfl
 |d::f=>by rw[qal,qaQ,t8 f];rfl
theorem yU {st:Sto}{f:List D} (l:∀ d∈f,okV d) (i:f.length<=1000000):bV [.d (.tup f)] st=some (.d (.bl (mU f.length)),st):=by
 have k:lcI (.nm 0) bg fq [none] f st=some (f.map λ_=>D.bl true,st):=jy (λ_=>D.bl true) λd hd=>⟨_,U,Go (l d hd)⟩;have hd:iCB qx (ae (ay (iLc 1 [] (bh (iV 0)) (.nm 0) bg fq)) ah) [Z (.tup f)] st=some (.d (.bl true),st):=by
  refine bQ (ao (bx (eI (eV U) i k)) U) ?_;show (jv (f.map λ_=>D.bl true)).map (λns=>D.bl (ns.all id))=_;rw[qO,qak,t8]
 have c:iCB bN (ae (iV 0) ah) [Z (.tup f)] st=some (.d (.int (f.length:Nat)),st):=rfl;have h:pb true [(.int 1),(.int 2),(.int 4),(.int 8),(.int 16),(.int 32),(.int 64)] (iCB bN (ae (iV 0) ah)) [Z (.tup f)] st=some (!mU f.length,st):=by
  have e:∀ z:Int,bZ (.int z)=true:=λ_=>rfl;simp only[pb,c,qaa,e,if_true];show some (true != mU f.length,st)=_;cases mU f.length<;>rfl
 have g:ba (bJ bG (iCB cC (ae (iV 0) (ae (iC (.ty "tuple")) ah)))) [Z (.tup f)] st=some (false,st):=rfl
 have a:dv (ba (bJ bG (iCB cC (ae (iV 0) (ae (iC (.ty "tuple")) ah))))) (pb true [(.int 1),(.int 2),(.int 4),(.int 8),(.int 16),(.int 32),(.int 64)] (iCB bN (ae (iV 0) ah))) [Z (.tup f)] st=some (!mU f.length,st):=by
  simp only[dv,g,h,qaa];rfl
 cases hb:mU f.length with
 |true=>
  rw[hb]at a;exact bz (n:=1) (k:=1) (b:=de) U (be (fV a U) (aR hd))
 |false=>
  rw[hb]at a;have m:bd (dv (ba (bJ bG (iCB cC (ae (iV 0) (ae (iC (.ty "tuple")) ah))))) (pb true [(.int 1),(.int 2),(.int 4),(.int 8),(.int 16),(.int 32),(.int 64)] (iCB bN (ae (iV 0) ah)))) (aW (iC (.bl false))) aL [Z (.tup f)] st=some (.rt (.d (.bl false)) st):=jR a U
  have j:de [Z (.tup f)] st=some (.rt (.d (.bl false)) st):=by
   simp only[de,av,m,qaa]
  exact bz (n:=1) (k:=1) (b:=de) U j
def fW (l:List Nat):Option (List D):=(d0 l).bind λf=>if mU f.length=true then some f else none
theorem wn {l:List Nat}{st:Sto}{x:Option W} (a:asc (S l)=true):cO (iV 0) [Z (.str (S l)),x] st=some (chs l,st):=by
 have b:iV 0 [Z (.str (S l)),x] st=some (.d (.str (S l)),st):=rfl;simp only[cO,b,qaa,a,if_true];rfl
theorem wo (l:List Nat):(chs l).length=l.length:=by unfold chs;rw[qan]
theorem zc {l:List Nat}{st:Sto}{x:Option W}:ba (bJ bG (iCB cC (ae (iV 0) (ae (iC (.ty "str")) ah)))) [Z (.str (S l)),x] st=some (false,st):=rfl
theorem FC {l:List Nat}{st:Sto} (b:asc (S l)=true) (g:l.length<=1000000) {te:Ef} (c:lcI (.nm 0) bg te [none] (chs l) st=(d0 l).map λr=>(r,st)):aK (.nm 1) (iCB jZ (ae (ay (iLc 1 [] (cO (iV 0)) (.nm 0) bg te)) ah)) [Z (.str (S l)),none] st=(d0 l).map λf=>.nx [Z (.str (S l)),Z (.tup f)] st:=by
 have e:=wn (st:=st) (x:=none) b;have a:iLc 1 [] (cO (iV 0)) (.nm 0) bg te [Z (.str (S l)),none] st=(d0 l).map λr=>(r,st):=by
  simp only[iLc,e,qaa];rw[iFP (by rw[wo];exact g)];exact c
 simp only[aK,iCB,ae,ay,a];cases d0 l<;>rfl
theorem isn {l:List Nat}{f:List D}{st:Sto} (a:∀ d∈f,okV d) (b:f.length<=1000000):ba (bJ bG (au bV (ae (iV 1) ah))) [Z (.str (S l)),Z (.tup f)] st=some (!mU f.length,st):=by
 have hi:au bV (ae (iV 1) ah) [Z (.str (S l)),Z (.tup f)] st=some (.d (.bl (mU f.length)),st):=aA (ws:=[.d (.tup f)]) U (yU a b);simp only[ba,bJ,hi,qaa];rfl
theorem yG {l:List Nat}{st:Sto} (g:asc (S l)=true) (i:l.length<=1000000):cz [.d (.str (S l))] st=(fW l).map λf=>(.d (.tup f),st):=by
 have a:dY [Z (.str (S l)),none] st=(fW l).map λf=>Fl.rt (.d (.tup f)) st:=by
  have b:=FC (st:=st) g i (lcR st l);unfold fW;have c:bd (ba (bJ bG (iCB cC (ae (iV 0) (ae (iC (.ty "str")) ah))))) gk aL [Z (.str (S l)),none] st=some (.nx [Z (.str (S l)),none] st):=bq zc U
  cases hv:d0 l with
  |none=>
   rw[hv]at b;exact aB c (dn b)
  |some f=>
   rw[hv]at b;obtain⟨j,h⟩:=jr hv;have hi:=isn (l:=l) (st:=st) h (by lia);refine aB c (aB b ?_);cases a:mU f.length with
   |true=>
    rw[a]at hi;rw[qaa,a];exact aB (bq hi U) U
   |false=>
    rw[a]at hi;rw[qaa,a];exact dn (jg hi U)
 have e:cz [.d (.str (S l))] st=(dY [some (.d (.str (S l))),none] st).bind λr=>match r with|.nx _ s=>some (.d .non,s)|.rt w s=>some (w,s)|_=>none:=rfl
 rw[e,a];cases fW l<;>rfl
theorem xC {l:List Nat}{st:Sto} (e:asc (S l)=true) (i:l.length<=1000000):d2 [.d (.str (S l))] st=if (fW l).isSome=true then none else some st:=by
 have a:dA [Z (.str (S l)),none] st=if (fW l).isSome=true then none else some st:=by
  have c:=FC (st:=st) e i (te:=iL) (lcR st l);have m:=wn (st:=st) (x:=none) e;have b:xLc 1 [] (cO (iV 0)) (.nm 0) ci bY [Z (.str (S l)),none] st=if (d0 l).isSome=true then none else some st:=by
   simp only[xLc,m,qaa];rw[iFP (by rw[wo];exact i)];exact EU st l
  have g:xIf (ba (bJ bG (iCB cC (ae (iV 0) (ae (iC (.ty "str")) ah))))) (eR (ae (iC (.str "no text")) ah)) xNo [Z (.str (S l)),none] st=none:=cN zc U
  have h:bd (ba (bJ bG (iCB cC (ae (iV 0) (ae (iC (.ty "str")) ah))))) gk aL [Z (.str (S l)),none] st=some (.nx [Z (.str (S l)),none] st):=bq zc U
  unfold fW;cases hv:d0 l with
  |none=>
   rw[hv]at b;exact ax g h (dq b)
  |some f=>
   rw[hv]at c b;obtain⟨n,k⟩:=jr hv;have hi:=isn (l:=l) (st:=st) k (by lia);refine ax g h (ax b c ?_);cases a:mU f.length with
   |true=>
    rw[a]at hi;rw[qaa,a];exact ax (cN hi U) (bq hi U) U
   |false=>
    rw[a]at hi;rw[qaa,a];exact dq (jh hi U)
 have j:d2 [.d (.str (S l))] st=(dA [Z (.str (S l)),none] st).map λs=>s.take st.length:=rfl;rw[j,a];cases (fW l).isSome
 ·show some (st.take st.length)=_
  rw[qbd];rfl
 ·rfl
end Own
set_option maxHeartbeats 1000000
namespace Own
open PySem L2
theorem ix0 (s:Sto) (a:D) (l:List D):dIx s (.d (.tup (a::l))) (.d (.int 0))=some a:=by simp only[dIx,e8,qaa,nO]
theorem ix1 (s:Sto) (a b:D) (l:List D):dIx s (.d (.tup (a::b::l))) (.d (.int 1))=some b:=by simp only[dIx,e8,qaa,t9]
theorem xN (s:Sto) (a b:D):dIx s (.d (.tup [a,b])) (.d (.int (-1)))=some b:=by simp only[dIx,e8,qaa];exact ub [a] b
theorem EQ (s:Sto) (a b c:D):dIx s (.d (.tup [a,b,c])) (.d (.int (-1)))=some c:=by simp only[dIx,e8,qaa];exact ub [a,b] c
theorem se:∀ r:Ru,1<=dep r
 |.sw _=>by rw[dep];lia
 |.nt _=>by rw[dep];lia
 |.gr _ _ _=>by rw[dep];lia
theorem xI (n:Nat):inD (.int (n:Int)) [.int 2,.int 3]=(decide (n=2)||decide (n=3)):=by
 unfold inD;simp only[qcp,qff,eqD,qb0]
 congr 1
 ·rw[qbH];simp;lia
 ·rw[qbH];simp;lia
theorem ne2 (n:Nat):((n:Int)==2)=decide (n=2):=by rw[qbH];simp;lia
theorem ne3 (n:Nat):((n:Int)==3)=decide (n=3):=by rw[qbH];simp;lia
theorem FP:inD (.str "all") [.str "all",.str "any",.str "odd"]=true:=by decide +kernel
theorem FQ:inD (.str "any") [.str "all",.str "any",.str "odd"]=true:=by decide +kernel
theorem FR:inD (.str "odd") [.str "all",.str "any",.str "odd"]=true:=by decide +kernel
theorem rA {st:Sto}{i lo hi:Int} (b:lo<=i) (a:i<=hi):cW [.d (.int i),.d (.int lo),.d (.int hi)] st=some (.d (.bl true),st):=by
 simp only[cW,gO,iG,ju,iV,iC,mO,wC,du,ah,ae,iCB,au,aW,bR,iM,blW,dLe,cC,ji,uw,sB,qaa,qak,qaJ,qbb,qal,qbf,qaf,qaN,qaM,qa0,qaI,qbN,qbg,if_true,qeU,qa8,decide_true,lg,b,a]
theorem FA {st:Sto}{ds:List D}:cV [.d (.tup ds)] st=some (.d (.bl (decide (ds.length<=6))),st):=by
 have e:decide ((ds.length:Int)<=6)=decide (ds.length<=6):=by rw[qbH];simp;lia
 simp only[cV,eg,iV,iC,iOp,du,ah,ae,iCB,aW,bR,blW,e8,dLe,bN,cC,ji,cx,qaa,qak,qaJ,qal,qbf,qaf,qaN,qaM,qa0,qaI,qbg,if_true,qa8,lg,e]
mutual
def wid:Ru->Bool
 |.sw _=>true
 |.nt r=>wid r
 |.gr _ _ rs=>decide (rs.length<=6)&&kJ rs
def kJ:List Ru->Bool
 |[]=>true
 |r::rs=>wid r&&kJ rs
end
mutual
def gi:Ru->Prop
 |.sw k=>0<=k/\k<6
 |.nt r=>gi r
 |.gr _ k rs=>0<=k/\k<=9/\gis rs
def gis:List Ru->Prop
 |[]=>True
 |r::rs=>gi r/\gis rs
end
mutual
theorem su:∀ r:Ru,gi r->wid r=true->lc 6 r
 |.sw k,h,_=>by rw[gi]at h;rw[lc];exact h
 |.nt r,h,w=>by rw[gi]at h;rw[wid]at w;rw[lc];exact su r h w
 |.gr g k rs,h,w=>by
  rw[gi]at h;rw[wid,qao]at w;rw[lc];exact⟨h.1,h.2.1,of_decide_eq_true w.1,uo rs h.2.2 w.2⟩
theorem uo:∀ rs:List Ru,gis rs->kJ rs=true->o8 6 rs
 |[],_,_=>by rw[o8];trivial
 |r::rs,h,w=>by
  rw[gis]at h;rw[kJ,qao]at w;rw[o8];exact⟨su r h.1 w.1,uo rs h.2 w.2⟩
end
theorem wz:∀ {rs:List Ru},gis rs->∀ r∈rs,gi r
 |[],_,r,h=>by cases h
 |x::rs,a,r,h=>by
  rw[gis]at a;rcases qat.mp h with rfl|h
  ·exact a.1
  ·exact wz (rs:=rs) a.2 r h
def u5:Ru->Bool
 |.gr _ _ rs=>decide (rs.length<=6)
 |_=>true
theorem AJ {st:Sto}:∀ (r:Ru),gi r->cy [.d (toD r)] st=some (.d (.bl (u5 r)),st)
 |.sw k,b=>by
  rw[gi]at b;rw[toD];have hw:=rA (st:=st) (i:=k) (lo:=0) (hi:=5) b.1 (by lia);simp only[cy,dN,dU,iV,iC,iOp,aC,du,ba,dv,bJ,ah,ae,iCB,au,aQ,aL,av,aK,aW,bd,bR,dC,fz,iM,blW,e8,dIx,dIn,dQ,dEq,dNe,gu,eqK,eqD,bN,cC,ji,eE,cx,bG,bZ,qaa,qak,qaJ,qbb,qby,qbz,qal,qbf,qaf,qaN,qa9,qaM,qa0,qaI,qbN,qbg,if_true,if_false,qaE,qcJ,nO,t9,qa8,qaQ,qcT,qcK,qb0,and_self,decide_true,decide_false,lg,qga,xI,ne2,ne3,pH,beq_self_eq_true,hw,show (2:Nat)<=1000 by decide,qcA,u5]
 |.nt r,b=>by
  rw[toD];generalize toD r=x;simp only[cy,dN,dU,iV,iC,iOp,aC,du,ba,dv,bJ,ah,ae,iCB,au,aQ,aL,av,aK,aW,bd,bR,dC,fz,iM,blW,e8,dIx,dIn,dQ,dEq,dNe,gu,eqK,eqD,bN,cC,ji,eE,cx,bG,bZ,qaa,qak,qaJ,qbb,qby,qbz,qal,qbf,qaf,qaN,qa9,qaM,qa0,qaI,qbN,qbg,if_true,if_false,qaE,qcJ,nO,t9,qa8,qaQ,qcT,qcK,qb0,and_self,decide_true,decide_false,lg,qga,xI,ne2,ne3,jA,uD,beq_self_eq_true,show (2:Nat)<=1000 by decide,qcA,u5]
 |.gr g k rs,b=>by
  rw[gi]at b;have a:=FA (st:=st) (ds:=cA rs);rw[kI,qan,<-kI]at a;show _=some (W.d (.bl (decide (rs.length<=6))),st);generalize decide (rs.length<=6)=B at a ⊢;have hw:=rA (st:=st) (i:=k) (lo:=0) (hi:=9) b.1 b.2.1;rw[toD];generalize cA rs=ds at a ⊢;cases g with
  |all=>simp only[grD,cy,dN,dU,iV,iC,iOp,aC,du,ba,dv,bJ,ah,ae,iCB,au,aQ,aL,av,aK,aW,bd,bR,dC,fz,iM,blW,e8,dIx,dIn,dQ,dEq,dNe,gu,eqK,eqD,bN,cC,ji,eE,cx,bG,bZ,qaa,qak,qaJ,qbb,qby,qbz,qal,qbf,qaf,qaN,qa9,qaM,qa0,qaI,qbN,qbg,if_true,if_false,qaE,qcJ,nO,t9,qa8,qaQ,qcT,qcK,qb0,and_self,decide_true,decide_false,lg,xI,ne2,ne3,mf,qW,nA,FP,a,show (2:Nat)<=1000 by decide,show (3:Nat)<=1000 by decide,qcA]
  |any=>simp only[grD,cy,dN,dU,iV,iC,iOp,aC,du,ba,dv,bJ,ah,ae,iCB,au,aQ,aL,av,aK,aW,bd,bR,dC,fz,iM,blW,e8,dIx,dIn,dQ,dEq,dNe,gu,eqK,eqD,bN,cC,ji,eE,cx,bG,bZ,qaa,qak,qaJ,qbb,qby,qbz,qal,qbf,qaf,qaN,qa9,qaM,qa0,qaI,qbN,qbg,if_true,if_false,qaE,qcJ,nO,t9,qa8,qaQ,qcT,qcK,qb0,and_self,decide_true,decide_false,lg,xI,ne2,ne3,mh,qX,nB,FQ,a,show (2:Nat)<=1000 by decide,show (3:Nat)<=1000 by decide,qcA]
  |odd=>simp only[grD,cy,dN,dU,iV,iC,iOp,aC,du,ba,dv,bJ,ah,ae,iCB,au,aQ,aL,av,aK,aW,bd,bR,dC,fz,iM,blW,e8,dIx,dIn,dQ,dEq,dNe,gu,eqK,eqD,bN,cC,ji,eE,cx,bG,bZ,qaa,qak,qaJ,qbb,qby,qbz,qal,qbf,qaf,qaN,qa9,qaM,qa0,qaI,qbN,qbg,if_true,if_false,qaE,qcJ,nO,t9,qa8,qaQ,qcT,qcK,qb0,and_self,decide_true,decide_false,lg,xI,ne2,ne3,mj,qY,nC,FR,a,show (2:Nat)<=1000 by decide,show (3:Nat)<=1000 by decide,qcA]
  |least=>simp only[grD,cy,dN,dU,iV,iC,iOp,aC,du,ba,dv,bJ,ah,ae,iCB,au,aQ,aL,av,aK,aW,bd,bR,dC,fz,iM,blW,e8,dIx,dIn,dQ,dEq,dNe,gu,eqK,eqD,bN,cC,ji,eE,cx,bG,bZ,qaa,qak,qaJ,qbb,qby,qbz,qal,qbf,qaf,qaN,qa9,qaM,qa0,qaI,qbN,qbg,if_true,if_false,qaE,qcJ,nO,t9,Et,qa8,qaQ,qcT,qcK,Bool.or_true,and_self,decide_true,decide_false,lg,xI,ne3,a,hw,beq_self_eq_true,show (2:Nat)<=1000 by decide,show (3:Nat)<=1000 by decide,qcA]
theorem zt {st:Sto}{k:Int}:cg [.d (.tup [.str "switch",.int k])] st=some (.d (.tup []),st):=by
 simp only[cg,dO,iV,iC,iOp,aC,iUn,ah,ae,aQ,aL,av,aW,bd,bR,fz,iM,dEq,gu,eqK,eqD,jX,qaa,qak,qaJ,qal,qbf,qaf,qaN,qaM,qa0,qaI,qbg,if_true,qa8,lg,qb2,ix0,beq_self_eq_true,show (0:Nat)<=1000 by decide]
theorem zr {st:Sto}{x:D}:cg [.d (.tup [.str "not",x])] st=some (.d (.tup [x]),st):=by
 simp only[cg,dO,iV,iC,iOp,aC,iUn,ah,ae,aQ,aL,av,aW,bd,bR,fz,iM,dEq,gu,eqK,eqD,jX,qaa,qak,qaJ,qal,qbf,qaf,qaN,qaM,qa0,qaI,qbg,if_true,if_false,qaE,qa8,lg,qbs,qb2,ix0,ix1,jA,beq_self_eq_true,show (1:Nat)<=1000 by decide]
theorem zq {st:Sto}{g:Gw}{k:Int}{ds:List D}:cg [.d (grD g k ds)] st=some (.d (.tup ds),st):=by
 cases g with
 |all=>simp only[grD,cg,dO,iV,iC,iOp,aC,iUn,ah,ae,aQ,aL,av,aW,bd,bR,fz,iM,dEq,gu,eqK,eqD,jX,qaa,qak,qaJ,qal,qbf,qaf,qaN,qaM,qa0,qaI,qbg,if_true,if_false,qaE,qa8,lg,qbs,qb2,ix0,xN,mf,qW]
 |any=>simp only[grD,cg,dO,iV,iC,iOp,aC,iUn,ah,ae,aQ,aL,av,aW,bd,bR,fz,iM,dEq,gu,eqK,eqD,jX,qaa,qak,qaJ,qal,qbf,qaf,qaN,qaM,qa0,qaI,qbg,if_true,if_false,qaE,qa8,lg,qbs,qb2,ix0,xN,mh,qX]
 |odd=>simp only[grD,cg,dO,iV,iC,iOp,aC,iUn,ah,ae,aQ,aL,av,aW,bd,bR,fz,iM,dEq,gu,eqK,eqD,jX,qaa,qak,qaJ,qal,qbf,qaf,qaN,qaM,qa0,qaI,qbg,if_true,if_false,qaE,qa8,lg,qbs,qb2,ix0,xN,mj,qY]
 |least=>simp only[grD,cg,dO,iV,iC,iOp,aC,iUn,ah,ae,aQ,aL,av,aW,bd,bR,fz,iM,dEq,gu,eqK,eqD,jX,qaa,qak,qaJ,qal,qbf,qaf,qaN,qaM,qa0,qaI,qbg,if_true,if_false,qaE,qa8,lg,qbs,qb2,ix0,EQ,pG,uC]
def cR (r:Ru):D:=if wid r=true then .int (cnt r) else .non
theorem AV (s:Sto) (i:Int):xB s (.d (.int i)) (.d .non)=some (.bl false):=rfl
theorem AW (s:Sto):xB s (.d .non) (.d .non)=some (.bl true):=rfl
theorem ue {st:Sto}{self:Fn}{x:Option W}{n:Nat}:∀ (rs:List Ru) (c:Int) (f b:Option W),(∀ r∈rs,self [.d (toD r),.d (.int n)] st=some (.d (cR r),st))->
  (kJ rs=true/\∃ l g,gx (.nm 3) (cU self) (cA rs) [x,Z (.int ((n:Int)+1)),Z (.int c),f,b] st=some (.nx [x,Z (.int ((n:Int)+1)),Z (.int (c+fQ rs)),l,g] st))\/
  (kJ rs=false/\gx (.nm 3) (cU self) (cA rs) [x,Z (.int ((n:Int)+1)),Z (.int c),f,b] st=some (.rt (.d .non) st))
 |[],c,f,b,_=>.inl ⟨by rw[kJ],f,b,by rw[cA,fQ,Int.add_zero];rfl⟩
 |r::rs,c,f,b,h=>by
  have hd:=h r qae;have p:(n:Int)+1 - 1=(n:Int):=by lia
  have a:∀ y,au self (ae (iV 3) (ae (iOp jY (iV 1) (iC (.int 1))) ah)) [x,Z (.int ((n:Int)+1)),Z (.int c),Z (toD r),y] st=some (.d (cR r),st):=λy=>by
   refine aA (ao U (ao (aI U U (show jY st _ _=_ from U)) U)) ?_;rw[p];exact hd
  cases hw:wid r with
  |false=>
   refine .inr ⟨by rw[kJ,hw];rfl,?_⟩;have j:cR r=.non:=by unfold cR;rw[hw];rfl
   rw[j]at a;have k:cU self [x,Z (.int ((n:Int)+1)),Z (.int c),Z (toD r),b] st=some (.rt (.d .non) st):=
    aB (aM (a b)) (nG (jg (aS U U (AW st)) U))
   rw[cA];unfold gx;show (cU self [x,Z (.int ((n:Int)+1)),Z (.int c),Z (toD r),b] st).bind _=_;rw[k];rfl
  |true=>
   have j:cR r=.int (cnt r):=by unfold cR;rw[hw];rfl
   rw[j]at a;have k:cU self [x,Z (.int ((n:Int)+1)),Z (.int c),Z (toD r),b] st=some (.nx [x,Z (.int ((n:Int)+1)),Z (.int (c+cnt r)),Z (toD r),Z (.int (cnt r))] st):=
    aB (aM (a b)) (aB (bq (aS U U (AV st _)) U) (aM (aI U U U)))
   have m:gx (.nm 3) (cU self) (cA (r::rs)) [x,Z (.int ((n:Int)+1)),Z (.int c),f,b] st=gx (.nm 3) (cU self) (cA rs) [x,Z (.int ((n:Int)+1)),Z (.int (c+cnt r)),Z (toD r),Z (.int (cnt r))] st:=by
    rw[cA]
    conv=>lhs;unfold gx
    show (cU self [x,Z (.int ((n:Int)+1)),Z (.int c),Z (toD r),b] st).bind _=_;rw[k];rfl
   rcases ue (x:=x) (n:=n) rs (c+cnt r) (Z (toD r)) (Z (.int (cnt r))) λq t=>h q (qah _ t) with⟨i,o,s,e⟩|⟨i,e⟩
   ·refine .inl ⟨by rw[kJ,hw,i];rfl,o,s,?_⟩
    rw[m,e,fQ,Int.add_assoc]
   ·exact .inr ⟨by rw[kJ,hw,i];rfl,by rw[m,e]⟩
theorem rX {st:Sto}{n:Nat}{r:Ru}{rs:List Ru} (t:cy [.d (toD r)] st=some (.d (.bl (u5 r)),st)) (l:cg [.d (toD r)] st=some (.d (.tup (cA rs)),st)) (hw:wid r=(u5 r&&kJ rs)) (s:cnt r=1+fQ rs)
  (j:∀ q∈rs,cf (n+1) [.d (toD q),.d (.int n)] st=some (.d (cR q),st)):cf (n+1+1) [.d (toD r),.d (.int ((n+1:Nat):Int))] st=some (.d (cR r),st):=by
 have o:((n+1:Nat):Int)=(n:Int)+1:=by push_cast;rfl
 have m:(((n:Int)+1)==0)=false:=beq_eq_false_iff_ne.mpr (by lia);rw[o];have g:dv (aC dEq (iV 1) (iC (.int 0))) (ba (bJ bG (au cy (ae (iV 0) ah)))) [Z (toD r),Z (.int ((n:Int)+1)),none,none,none] st=some (!u5 r,st):=by
  have f:aC dEq (iV 1) (iC (.int 0)) [Z (toD r),Z (.int ((n:Int)+1)),none,none,none] st=some (false,st):=aS U U (by rw[oZ,m]);have p:au cy (ae (iV 0) ah) [Z (toD r),Z (.int ((n:Int)+1)),none,none,none] st=some (.d (.bl (u5 r)),st):=aA U t;simp only[dv,f,ba,bJ,p,qaa,bG,qak,qaE,if_false]
 cases ht:u5 r with
 |false=>
  rw[ht]at g hw;have h:cR r=.non:=by unfold cR;rw[hw];rfl
  rw[h];exact bz (n:=5) (k:=2) (b:=gv (cf (n+1))) U (nG (jg g U))
 |true=>
  rw[ht]at g hw;have i:∀ a b c,bh (au cg (ae (iV 0) ah)) [Z (toD r),a,b,c,none] st=some (cA rs,st):=λa b c=>eV (aA U l);rcases ue (st:=st) (self:=cf (n+1)) (x:=some (.d (toD r))) (n:=n) rs 1 none none j with⟨f,u,v,e⟩|⟨f,e⟩
  ·have h:cR r=.int (1+fQ rs):=by unfold cR;rw[hw,f,s];rfl
   rw[h];exact bz (n:=5) (k:=2) (b:=gv (cf (n+1))) U (aB (bq g U) (aB (aM U) (aB (im (i _ _ _) e) (aR U))))
  ·have h:cR r=.non:=by unfold cR;rw[hw,f];rfl
   rw[h];exact bz (n:=5) (k:=2) (b:=gv (cf (n+1))) U (aB (bq g U) (aB (aM U) (nG (im (i _ _ _) e))))
theorem ve {st:Sto}:∀ (n:Nat) (r:Ru),dep r<=n->gi r->cf (n+1) [.d (toD r),.d (.int n)] st=some (.d (cR r),st)
 |0,r,h,_=>by have:=se r;lia
 |n+1,r,hd,a=>by
  have c:=AJ (st:=st) r a;cases r with
  |sw k=>
   refine rX (rs:=[]) c ?_ U (by rw[cnt,fQ];rfl) λq e=>nomatch e
   rw[toD,cA];exact zt
  |nt q=>
   rw[gi]at a;rw[dep]at hd;refine rX (rs:=[q]) c ?_ (by rw[wid,kJ,kJ];show _=(true&&(_&&true));simp) (by rw[cnt,fQ,fQ];lia) λp b=>by rw[qaz.mp b];exact ve n q (by lia) a
   rw[toD,cA,cA];exact zr
  |gr g k rs=>
   rw[gi]at a;rw[dep]at hd;refine rX (rs:=rs) c ?_ (by rw[wid];rfl) (by rw[cnt]) λp b=>ve n p (lV (by lia) p b) (wz a.2.2 p b);rw[toD];exact zq
theorem ux {st:Sto}{r:Ru} (hd:dep r<=6) (a:gi r):d5 [.d (toD r)] st=some (.d (.bl (wid r&&decide (cnt r<=40))),st):=by
 have e:cf 7 [.d (toD r),.d (.int 6)] st=some (.d (cR r),st):=ve 6 r hd a;refine bz (n:=2) (k:=1) (b:=kO) U (aB (aM (aA U e)) (aR ?_));unfold cR;cases wid r with
 |false=>rfl
 |true=>
  show du (iOp oX (iV 1) (iC .non)) (iOp dLe (iV 1) (iC (.int 40))) [Z (toD r),Z (.int (cnt r))] st=_;simp only[iV,iC,iOp,du,blW,dLe,oX,wF,qaa,qak,qaJ,qbb,if_true,qeU,qbZ]
theorem B3 {te:Ef}{l:Ev}{st:Sto} (F:Ru->D):∀ {rs:List Ru},(∀ r∈rs,te (Z (toD r)::l) st=some (.d (F r),st))->lcI (.nm 0) bg te (none::l) (cA rs) st=some (rs.map F,st)
 |[],_=>by rw[cA];rfl
 |r::rs,h=>by
  have b:=B3 (te:=te) (l:=l) (st:=st) F (rs:=rs) λx a=>h x (qah _ a);have c:=h r qae;rw[cA,qal];unfold lcI;rw[show dC (.nm 0) (.d (toD r)) (none::l)=some (Z (toD r)::l) from U,qaa,show bg (Z (toD r)::l) st=some (true,st) from U,qaa,iFP U,c,qaa,b];rfl
end Own
set_option maxHeartbeats 1000000
namespace Own
open PySem L2
def hdC (c:Nat):Option (Gw×Int):=if c=38 then some (.all,0) else if c=124 then some (.any,0) else if c=94 then some (.odd,0) else if 48<=c/\c<=57 then some (.least,((c - 48:Nat):Int)) else none
abbrev Ps:=List Nat->Option (Ru×Nat)
def pL (self:Ps):Nat->List Nat->Option (List Ru×Nat)
 |0,_=>none
 |m+1,T=>match self T with
  |none=>none
  |some x=>match T.drop x.2 with
   |[]=>none
   |c::u=>if c=32 then (pL self m u).map λy=>(x.1::y.1,x.2+1+y.2) else if c=41 then some ([x.1],x.2+1) else none
def pB (self:Ps) (m:Nat) (T:List Nat):Option (List Ru×Nat):=
 if T.take 2=[40,41] then some ([],2) else if T.take 1=[40] then (pL self m (T.drop 1)).map λy=>(y.1,y.2+1) else none
def pR (m:Nat):Nat->Ps
 |0,_=>none
 |_+1,[]=>none
 |d+1,c::t=>if 97<=c/\c<=102 then some (.sw ((c - 97:Nat):Int),1) else if c=33 then (pR m d t).map λx=>(.nt x.1,x.2+1) else match hdC c with
  |none=>none
  |some g=>(pB (pR m d) m t).map λy=>(.gr g.1 g.2 y.1,y.2+1)
theorem DB (m d:Nat):pR m d []=none:=by cases d<;>rfl
theorem CN {c:Nat}{g:Gw×Int} (h:hdC c=some g):0<=g.2/\g.2<=9:=by
 unfold hdC at h;split at h
 ·cases h;decide
 ·split at h
  ·cases h;decide
  ·split at h
   ·cases h;decide
   ·split at h
    ·cases h;show (0:Int)<=((c - 48:Nat):Int)/\((c - 48:Nat):Int)<=9;lia
    ·cases h
def Fct (d:Nat) (T:List Nat) (x:Ru×Nat):Prop:=dep x.1<=d/\gi x.1/\1<=x.2/\x.2<=T.length
def Em (d:Nat) (T:List Nat) (y:List Ru×Nat):Prop:=lD y.1<=d/\gis y.1/\y.2<=T.length
theorem li {T:List Nat}{n c:Nat}{u:List Nat} (h:T.drop n=c::u):n+1+u.length=T.length:=by
 have e:(T.drop n).length=u.length+1:=by rw[h];rfl
 rw[qbC]at e;lia
theorem zm {self:Ps}{d:Nat} (f:∀ T x,self T=some x->Fct d T x):∀ (m:Nat) (T:List Nat) (y:List Ru×Nat),pL self m T=some y->Em d T y/\y.1≠[]
 |0,T,y,h=>by cases h
 |m+1,T,y,h=>by
  unfold pL at h;cases hx:self T with
  |none=>rw[hx]at h;cases h
  |some x=>
   rw[hx]at h;dsimp only at h;obtain⟨f1,f2,f3,f4⟩:=f T x hx;cases hd:T.drop x.2 with
   |nil=>rw[hd]at h;cases h
   |cons c u=>
    rw[hd]at h;dsimp only at h;have i:=li hd;by_cases b:c=32
    ·rw[iFP b]at h
     obtain⟨a,g,rfl⟩:=qac.mp h;obtain⟨⟨g1,g2,g3⟩,_⟩:=zm f m u a g;refine⟨⟨?_,?_,?_⟩,by simp⟩
     ·show lD (x.1::a.1)<=d;rw[lD];lia
     ·show gis (x.1::a.1);rw[gis];exact⟨f2,g2⟩
     ·show x.2+1+a.2<=T.length;lia
    ·rw[iFN b]at h
     by_cases e:c=41
     ·rw[iFP e]at h
      cases h;refine⟨⟨?_,?_,?_⟩,by simp⟩
      ·show lD [x.1]<=d;rw[lD,lD];lia
      ·show gis [x.1];rw[gis,gis];exact⟨f2,trivial⟩
      ·show x.2+1<=T.length;lia
     ·rw[iFN e]at h;cases h
theorem DA {self:Ps}{d:Nat} (f:∀ T x,self T=some x->Fct d T x) {m:Nat}{T:List Nat}{y:List Ru×Nat} (h:pB self m T=some y):Em d T y:=by
 unfold pB at h;by_cases a:T.take 2=[40,41]
 ·rw[iFP a]at h
  cases h
  have:(T.take 2).length=2:=by rw[a];rfl
  rw[qcg]at this;exact⟨by show lD []<=d;rw[lD];lia,by show gis [];rw[gis];trivial,by show 2<=T.length;lia⟩
 ·rw[iFN a]at h
  by_cases b:T.take 1=[40]
  ·rw[iFP b]at h
   obtain⟨c,e,rfl⟩:=qac.mp h;obtain⟨⟨g1,g2,g3⟩,_⟩:=zm f m _ c e
   have:(T.take 1).length=1:=by rw[b];rfl
   rw[qcg]at this;rw[qbC]at g3;exact⟨g1,g2,by show c.2+1<=T.length;lia⟩
  ·rw[iFN b]at h;cases h
theorem pO (m:Nat):∀ (d:Nat) (T:List Nat) (x:Ru×Nat),pR m d T=some x->Fct d T x
 |0,T,x,h=>by cases h
 |d+1,[],x,h=>by cases h
 |d+1,c::t,x,h=>by
  unfold pR at h;by_cases b:97<=c/\c<=102
  ·rw[iFP b]at h
   cases h;refine⟨?_,?_,qaw _,by show 1<=(c::t).length;rw[qaf];lia⟩
   ·show dep (.sw _)<=d+1;rw[dep];lia
   ·show gi (.sw ((c - 97:Nat):Int));rw[gi];lia
  ·rw[iFN b]at h
   by_cases e:c=33
   ·rw[iFP e]at h
    obtain⟨a,f,rfl⟩:=qac.mp h;obtain⟨f1,f2,f3,f4⟩:=pO m d t a f;refine⟨?_,?_,?_,?_⟩
    ·show dep (.nt a.1)<=d+1;rw[dep];lia
    ·show gi (.nt a.1);rw[gi];exact f2
    ·show 1<=a.2+1;lia
    ·show a.2+1<=(c::t).length;rw[qaf];lia
   ·rw[iFN e]at h
    cases hg:hdC c with
    |none=>rw[hg]at h;cases h
    |some g=>
     rw[hg]at h;obtain⟨y,i,rfl⟩:=qac.mp h;obtain⟨g1,g2,g3⟩:=DA (pO m d) i
     have:=CN hg
     refine⟨?_,?_,?_,?_⟩
     ·show dep (.gr g.1 g.2 y.1)<=d+1;rw[dep];lia
     ·show gi (.gr g.1 g.2 y.1);rw[gi];exact⟨this.1,this.2,g2⟩
     ·show 1<=y.2+1;lia
     ·show y.2+1<=(c::t).length;rw[qaf];lia
end Own
set_option maxHeartbeats 1000000
namespace Own
open PySem L2
theorem CG {T:List Nat}{p k:Nat}:mL (S T) (some (p:Int)) (some (((p+k:Nat):Int)))=S ((T.drop p).take k):=by
 unfold mL;rw[cn,rE];have a:HT.sIx T.length 0 (some (p:Int))=min p T.length:=by unfold HT.sIx;split<;>lia
 have d:HT.sIx T.length T.length (some ((p+k:Nat):Int))=min (p+k) T.length:=by unfold HT.sIx;split<;>lia
 rw[a,d];show S _=S _
 congr 1
 by_cases b:p<=T.length
 ·rw[qdN b]
  by_cases e:p+k<=T.length
  ·rw[qdN e,Nat.add_sub_cancel_left]
  ·rw[qgb (by lia),qcL (by rw[qbC];lia),qcL (by rw[qbC];lia)]
 ·have f:min p T.length=T.length:=by lia
  have c:min (p+k) T.length=T.length:=by lia
  rw[f,c,qdw,qcM (by lia)];simp
theorem qsl {T:List Nat}{p k:Nat}{c:List Nat}{env:Ev}{st:Sto}{f lo hi:Ef} (j:T.length<=1000) (h:f env st=some (.d (.str (S T)),st)) (b:lo env st=some (.d (.int (p:Int)),st)) (a:hi env st=some (.d (.int ((p:Int)+(k:Int))),st)) (g:(T.drop p).take k=c) :
  dk f (iPs lo) (iPs hi) env st=some (.d (.str (S c)),st):=by
 have i:(S T).length<=1000000:=by rw[cn];lia
 have e:((p:Int)+(k:Int))=((p+k:Nat):Int):=by push_cast;rfl
 rw[e]at a;simp only[dk,iPs,h,b,a,qaa,qak,yS,i,if_true,CG,g]
theorem C3:∀ c,c<128->inD (.str (S [c])) (rW "abcdef")=decide (97<=c/\c<=102):=by decide +kernel
theorem C2:∀ c,c<128->inD (.str (S [c])) (rW "0123456789")=decide (48<=c/\c<=57):=by decide +kernel
theorem yE:∀ k,k<6->qfK "abcdef" (S [97+k])=(k:Int):=by decide +kernel
theorem yD:∀ k,k<10->qfK "0123456789" (S [48+k])=(k:Int):=by decide +kernel
theorem qin {g:List D}{w:Str}{c:Nat}{b:Bool}{f:Ef}{env:Ev}{st:Sto} (hw:eG st [.d (.str w)]=some g) (i:g.all bZ=true) (a:f env st=some (.d (.str (S [c])),st)) (h:inD (.str (S [c])) g=b):aC dIn f (ay (iCL eG (ae (iC (.str w)) ah))) env st=some (b,st):=by
 have e:ay (iCL eG (ae (iC (.str w)) ah)) env st=some (.d (.lst g),st):=bx (by simp only[iCL,ae,iC,ah,qaa,qak,hw]);refine aS a e ?_;simp only[dIn,e8,bZ,i,qaa,and_self,if_true,h]
theorem wK (s:Sto):eG s [.d (.str "abcdef")]=some (rW "abcdef"):=rfl
theorem A7 (s:Sto):eG s [.d (.str "0123456789")]=some (rW "0123456789"):=rfl
theorem Cf {w:Str}{c:Nat}{i:Int}{f:Ef}{env:Ev}{st:Sto} (a:f env st=some (.d (.str (S [c])),st)) (h:qfK w (S [c])=i):iTm ic (iC (.str w)) (ae f ah) env st=some (.d (.int i),st):=by
 simp only[iTm,iC,ae,ah,a,qaa,qak,ic,h]
theorem Gy {kvs:List (Str×D)}{f:Ef}{env:Ev}{st:Sto}{z:Str}{b:Bool} (a:f env st=some (.d (.str z),st)) (h:(atS z kvs).isSome=b):jQ false kvs f env st=some (b,st):=by
 simp only[jQ,a,qaa,h,qeV]
theorem nh {a:Af}{env:Ev}{st s:Sto}{ws:List W}{ds:List D} (c:a env st=some (ws,s)) (h:fz ws=some ds) (b:ds.length<=1000):aQ a env st=some (.d (.tup ds),s):=by
 simp only[aQ,c,qaa,h,qak,b,if_true]
def gn (g:Gw) (k:Int):List D:=match g with|.least=>[.str "least",.int k]|g=>[.str g.wd]
theorem yJ (g:Gw) (k:Int) (ds:List D):D.tup (gn g k++[.tup ds])=grD g k ds:=by cases g<;>rfl
theorem DY {o a:Ef}{env:Ev}{st c s2:Sto}{n:Nat}{d:D}{e ds:List D} (i:o env st=some (.h n,c)) (f:a env c=some (.d d,s2)) (g:lg c n=some e) (k:lg s2 n=some ds) (j:ds.length<1000000):lq (ki fS o (ae a ah)) env st=some (.nx env (s2.set n (.l (ds++[d])))):=by
 simp only[lq,ki,i,(ao (b:=ah) f U),g,k,fS,j,if_true,qaa,qak]
theorem z5 (st:Sto) (a b:C):(st++[a]).set st.length b=st++[b]:=by
 simp
theorem zJ {kvs:List (Str×D)}{f:Ef}{env:Ev}{st s:Sto}{z:Str}{d:D} (h:f env st=some (.d (.str z),s)) (a:atS z kvs=some d):qz kvs f env st=some (.d d,s):=by
 simp only[qz,h,qaa,a,qak]
theorem eqS (s:Sto) (a b:List Nat):dEq s (.d (.str (S a))) (.d (.str (S b)))=some (.bl (decide (a=b))):=by
 rw[BW,hZ]
theorem neS (s:Sto) (a b:List Nat):dNe s (.d (.str (S a))) (.d (.str (S b)))=some (.bl (!decide (a=b))):=by
 show some (D.bl (!(S a==S b)))=_;rw[hZ]
theorem yR:∀ c,c<128->(atS (S [c]) [("&",(D.str "all")),("|",(.str "any")),("^",(.str "odd"))]).isSome=decide (c=38\/c=124\/c=94):=by decide +kernel
theorem AO {c:Nat}{st:Sto} (q:c<128):(∃ g,hdC c=some g/\d4 [.d (.str (S [c]))] st=some (.d (.tup (gn g.1 g.2)),st)/\gF [.d (.str (S [c]))] st=none)\/(hdC c=none/\d4 [.d (.str (S [c]))] st=none/\gF [.d (.str (S [c]))] st=some st):=by
 have run:∀ r,kN [some (.d (.str (S [c])))] st=r->d4 [.d (.str (S [c]))] st=r.bind λr=>match r with|.nx _ s=>some (.d .non,s)|.rt w s=>some (w,s)|_=>none:=λr h=>by rw[<-h];rfl
 have a:∀ r,jM [Z (.str (S [c]))] st=r->gF [.d (.str (S [c]))] st=r.map λs=>s.take st.length:=λr h=>by rw[<-h];rfl
 have w:=yR c q;have b:jQ false [("&",(D.str "all")),("|",(.str "any")),("^",(.str "odd"))] (iV 0) [Z (.str (S [c]))] st=some (decide (c=38\/c=124\/c=94),st):=Gy U w
 by_cases f:c=38\/c=124\/c=94
 ·rw[decide_eq_true f]at b
  have e:∀ g,hdC c=some g->atS (S [c]) [("&",(D.str "all")),("|",(.str "any")),("^",(.str "odd"))]=some (.str g.1.wd)->gn g.1 g.2=[.str g.1.wd]->(∃ g,hdC c=some g/\d4 [.d (.str (S [c]))] st=some (.d (.tup (gn g.1 g.2)),st)/\gF [.d (.str (S [c]))] st=none):=λg i n u=>
   ⟨g,i,by rw[u];exact run _ (nG (jg b (aR (nh (ao (zJ U n) U) U (by show 1<=1000;decide))))),a _ (my U (jg b (aR (nh (ao (zJ U n) U) U (by show 1<=1000;decide)))))⟩
  left
  rcases f with rfl|rfl|rfl
  ·exact e (.all,0) U U U
  ·exact e (.any,0) U U U
  ·exact e (.odd,0) U U U
 ·rw[decide_eq_false f]at b
  have p:¬ c=38:=λz=>f (.inl z);have o:¬ c=124:=λz=>f (.inr (.inl z));have l:¬ c=94:=λz=>f (.inr (.inr z));have k:=C2 c q;have w2:aC dIn (iV 0) (ay (iCL eG (ae (iC (.str "0123456789")) ah))) [Z (.str (S [c]))] st=some (decide (48<=c/\c<=57),st):=qin (A7 st) (by decide) U k
  by_cases j:48<=c/\c<=57
  ·rw[decide_eq_true j]at w2
   have t:qcX "0123456789" (S [c])=((c - 48:Nat):Int):=by
    have:=yD (c - 48) (by lia)
    rwa [show 48+(c - 48)=c by lia]at this
   have i:hdC c=some (.least,((c - 48:Nat):Int)):=by unfold hdC;rw[iFN p,iFN o,iFN l,iFP j]
   have m:aW (aQ (ae (iC (.str "least")) (ae (iTm ic (iC (.str "0123456789")) (ae (iV 0) ah)) ah))) [Z (.str (S [c]))] st=some (.rt (.d (.tup [.str "least",.int ((c - 48:Nat):Int)])) st):=aR (nh (ao U (ao (Cf U t) U)) U (by show 2<=1000;decide))
   exact .inl ⟨_,i,run _ (aB (bq b U) (nG (jg w2 m))),a _ (ax U (bq b U) (my U (jg w2 m)))⟩
  ·rw[decide_eq_false j]at w2
   have i:hdC c=none:=by unfold hdC;rw[iFN p,iFN o,iFN l,iFN j]
   refine .inr ⟨i,run none (aB (bq b U) (aB (bq w2 U) U)),?_⟩;rw[a (some st) (ax U (bq b U) (ax U (bq w2 U) U))];show some (st.take st.length)=_;rw[qbd]
theorem wB {st:Sto}:d4 [.d (.str (S []))] st=none/\gF [.d (.str (S []))] st=some st:=by
 refine⟨U,?_⟩;show some (st.take st.length)=_;rw[qbd]
theorem Cg {c:Tf}{b:Sf}{m:Nat}{env:Ev}{st s:Sto} (h:c env st=some (false,s)):fE c b (m+1) env st=some (.nx env s):=by
 simp only[fE,h,qaa,qaE,if_false]
theorem xi {c:Tf}{b:Sf}{m:Nat}{env e:Ev}{st s s2:Sto}{r:Option Fl} (h:c env st=some (true,s)) (d:b env s=some (.nx e s2)) (a:fE c b m e s2=r):fE c b (m+1) env st=r:=by
 simp only[fE,h,qaa,if_true,d,a]
theorem xh {c:Tf}{b:Sf}{m:Nat}{env:Ev}{st s:Sto} (h:c env st=some (true,s)) (a:b env s=none):fE c b (m+1) env st=none:=by
 simp only[fE,h,qaa,if_true,a,qbi]
theorem Fk {c:Tf}{b:Sf}{x:Rf}{m:Nat}{env:Ev}{st s:Sto} (h:c env st=some (false,s)):fF c b x (m+1) env st=none:=by
 simp only[fF,h,qaa,qaE,if_false]
theorem zK {c:Tf}{b:Sf}{x:Rf}{m:Nat}{env e:Ev}{st s s2:Sto}{r:Option Sto} (h:c env st=some (true,s)) (a:x env s=none) (f:b env s=some (.nx e s2)) (d:fF c b x m e s2=r):fF c b x (m+1) env st=r:=by
 simp only[fF,h,qaa,if_true,a,f,d]
theorem xj {c:Tf}{b:Sf}{x:Rf}{m:Nat}{env:Ev}{st s s2:Sto} (h:c env st=some (true,s)) (a:x env s=some s2):fF c b x (m+1) env st=some s2:=by
 simp only[fF,h,qaa,if_true,a]
theorem Cy (s:Sto) (p:Nat):aU s (.d (.int (p:Int))) (.d (.int 1))=some (.int ((p+1:Nat):Int)):=rfl
theorem Gf (s:Sto) (p:Nat):aU s (.d (.int (p:Int))) (.d (.int 2))=some (.int ((p+2:Nat):Int)):=rfl
def vb (self:Fn) (a:Rn) (d:Nat) (P:Ps):Prop:=∀ (T:List Nat) (p:Nat) (st:Sto),(∀ c∈T,c<128)->T.length<=900->
 (∃ x,P (T.drop p)=some x/\self [.d (.str (S T)),.d (.int (p:Int)),.d (.int (d:Int))] st=some (.d (.tup [toD x.1,.int ((p+x.2:Nat):Int)]),st)/\a [.d (.str (S T)),.d (.int (p:Int)),.d (.int (d:Int))] st=none)\/
 (P (T.drop p)=none/\self [.d (.str (S T)),.d (.int (p:Int)),.d (.int (d:Int))] st=none/\a [.d (.str (S T)),.d (.int (p:Int)),.d (.int (d:Int))] st=some st)
theorem xS (s:Sto) (l:List Nat):dQ s (.d (.str (S l))) (.d (.tup [.str " ",.str ")"]))=some (.bl (!(decide (l=[32])||decide (l=[41])))):=by
 have e:inD (.str (S l)) [.str " ",.str ")"]=(decide (l=[32])||decide (l=[41])):=by
  show ((S [32]==S l)||((S [41]==S l)||false))=_;rw[hZ,hZ,qb0,decide_eq_decide.mpr (eq_comm (a:=[32]) (b:=l)),decide_eq_decide.mpr (eq_comm (a:=[41]) (b:=l))]
 simp only[dQ,e8,bZ,qaQ,qcT,qcK,qaa,and_self,if_true,e]
theorem xR {s:Sto}{l:List Nat}{env:Ev}{f:Ef} (a:f env s=some (.d (.str (S l)),s)):aC dQ f (aQ (ae (iC (.str " ")) (ae (iC (.str ")")) ah))) env s=some (!(decide (l=[32])||decide (l=[41])),s):=
 aS a (nh (ds:=[.str " ",.str ")"]) U U (by show 2<=1000;decide)) (xS s l)
section
variable {self:Fn}{e:Rn}{d:Nat}{P:Ps}{T:List Nat}{st:Sto}
abbrev Env (T:List Nat) (d:Nat) (st:Sto) (p:Nat) (a:List Nat) (o:Option W):Ev:=[Z (.str (S T)),Z (.int (p:Int)),Z (.int (d:Int)),Z (.str (S a)),some (.h st.length),o]
theorem oj (st:Sto) (ds:List D):lg (st++[.l ds]) st.length=some ds:=by unfold lg;simp
theorem An (K:vb self e d P) (Y:∀ c∈T,c<128) (L:T.length<=900) {p:Nat}{a:List Nat}{ds:List D}{o:Option W} (hl:ds.length<1000000) :
  (P (T.drop (p+1))=none/\bX self (Env T d st p a o) (st++[.l ds])=none/\cj self e (Env T d st p a o) (st++[.l ds])=some (st++[.l ds]))\/
  ∃ x B,P (T.drop (p+1))=some x/\let l:=(T.drop (p+1+x.2)).take 1;let E':=Env T d st (p+1+x.2) l B;let s':=st++[.l (ds++[toD x.1])];
   ((decide (l=[32])||decide (l=[41]))=true->bX self (Env T d st p a o) (st++[.l ds])=some (.nx E' s')/\cj self e (Env T d st p a o) (st++[.l ds])=none)/\
   ((decide (l=[32])||decide (l=[41]))=false->bX self (Env T d st p a o) (st++[.l ds])=none/\cj self e (Env T d st p a o) (st++[.l ds])=some s'):=by
 have args:ae (iV 0) (ae (iOp aU (iV 1) (iC (.int 1))) (ae (iV 2) ah)) (Env T d st p a o) (st++[.l ds])=some ([.d (.str (S T)),.d (.int ((p+1:Nat):Int)),.d (.int (d:Int))],st++[.l ds]):=ao U (ao (aI U U (Cy _ p)) (ao U U));rcases K T (p+1) (st++[.l ds]) Y L with⟨x,hx,E,V⟩|⟨hx,E,V⟩
 ·right
  have call:aK (.nm 5) (au self (ae (iV 0) (ae (iOp aU (iV 1) (iC (.int 1))) (ae (iV 2) ah)))) (Env T d st p a o) (st++[.l ds])=some (.nx (Env T d st p a (Z (.tup [toD x.1,.int ((p+1+x.2:Nat):Int)]))) (st++[.l ds])):=aM (aA args E);have N:gY e (ae (iV 0) (ae (iOp aU (iV 1) (iC (.int 1))) (ae (iV 2) ah))) (Env T d st p a o) (st++[.l ds])=none:=eZ args V;refine⟨x,Z (.tup [toD x.1,.int ((p+1+x.2:Nat):Int)]),hx,?_⟩;generalize toD x.1=R at *;generalize p+1+x.2=q at *;intro l E' s';have app:=DY (o:=iV 4) (a:=iOp dIx (iV 5) (iC (.int 0))) (env:=Env T d st p a (Z (.tup [R,.int (q:Int)]))) (st:=st++[.l ds]) (n:=st.length) (d:=R) U (aI U U (ix0 _ _ _)) (oj st ds) (oj st ds) hl;rw[z5]at app;have s1:aK (.nm 1) (iOp dIx (iV 5) (iC (.int 1))) (Env T d st p a (Z (.tup [R,.int (q:Int)]))) s'=some (.nx (Env T d st q a (Z (.tup [R,.int (q:Int)]))) s'):=aM (aI U U (ix1 _ _ _ _));have s2:aK (.nm 3) (dk (iV 0) (iPs (iV 1)) (iPs (iOp aU (iV 1) (iC (.int 1))))) (Env T d st q a (Z (.tup [R,.int (q:Int)]))) s'=some (.nx E' s'):=aM (qsl (k:=1) (by lia) U U U U);have t:aC dQ (iV 3) (aQ (ae (iC (.str " ")) (ae (iC (.str ")")) ah))) E' s'=some (!(decide (l=[32])||decide (l=[41])),s'):=xR U
  have pre:∀ r,bd (aC dQ (iV 3) (aQ (ae (iC (.str " ")) (ae (iC (.str ")")) ah)))) gk aL E' s'=r->bX self (Env T d st p a o) (st++[.l ds])=r:=λr h=>aB call (aB app (aB s1 (aB s2 h)))
  have H:∀ r,xIf (aC dQ (iV 3) (aQ (ae (iC (.str " ")) (ae (iC (.str ")")) ah)))) (eR (ae (iC (.str "behind a rule in brackets stands neither a blank nor a bracket")) ah)) xNo E' s'=r->cj self e (Env T d st p a o) (st++[.l ds])=r:=λr h=>ax N call (ax U app (ax U s1 (ax U s2 h)))
  refine⟨λh=>?_,λh=>?_⟩
  ·rw[h]at t
   exact⟨pre _ (bq t U),H _ (cN t U)⟩
  ·rw[h]at t
   exact⟨pre _ (jg t U),H _ (jh t U)⟩
 ·left
  have call:aK (.nm 5) (au self (ae (iV 0) (ae (iOp aU (iV 1) (iC (.int 1))) (ae (iV 2) ah)))) (Env T d st p a o) (st++[.l ds])=none:=by
   simp only[aK,au,args,qaa,E,qbi]
  exact⟨hx,dn call,dq (eZ args V)⟩
theorem r8 {p:Nat}{a:List Nat}{o:Option W}{s:Sto}:bO self (Env T d st p a o) s=some (!decide (a=[41]),s):=aS U U (neS s a [41])
theorem za (hP:P []=none) (K:vb self e d P) (hf:∀ Uu x,P Uu=some x->1<=x.2) (Y:∀ c∈T,c<128) (L:T.length<=900):∀ (M m p:Nat) (a:List Nat) (ds:List D) (o:Option W),(T.drop (p+1)).length<=M->M+2<=m->a≠[41]->ds.length+M<1000000->
  (∃ y B,pL P M (T.drop (p+1))=some y/\fE (bO self) (bX self) m (Env T d st p a o) (st++[.l ds])=some (.nx (Env T d st (p+y.2) [41] B) (st++[.l (ds++cA y.1)]))/\fF (bO self) (bX self) (cj self e) m (Env T d st p a o) (st++[.l ds])=none)\/
  (pL P M (T.drop (p+1))=none/\fE (bO self) (bX self) m (Env T d st p a o) (st++[.l ds])=none/\∃ s,fF (bO self) (bX self) (cj self e) m (Env T d st p a o) (st++[.l ds])=some s/\s.take st.length=st)
 |0,m,p,a,ds,o,hl,hm,J,hd=>by
  obtain⟨m,rfl⟩:∃ k,m=k+1:=⟨m - 1,by lia⟩;have e0:T.drop (p+1)=[]:=qe5.mp (by lia);have c1:bO self (Env T d st p a o) (st++[.l ds])=some (true,st++[.l ds]):=by rw[r8,decide_eq_false J];rfl
  right
  rcases An (st:=st) K Y L (p:=p) (a:=a) (ds:=ds) (o:=o) (by lia) with⟨f,g,h3⟩|⟨x,B,f,_⟩
  ·exact⟨U,xh c1 g,_,xj c1 h3,qdg⟩
  ·rw[e0,hP]at f;cases f
 |M+1,m,p,a,ds,o,hl,hm,J,hd=>by
  obtain⟨m,rfl⟩:∃ k,m=k+1:=⟨m - 1,by lia⟩;have c1:bO self (Env T d st p a o) (st++[.l ds])=some (true,st++[.l ds]):=by rw[r8,decide_eq_false J];rfl
  rcases An (st:=st) K Y L (p:=p) (a:=a) (ds:=ds) (o:=o) (by lia) with⟨f,g,h3⟩|⟨x,B,f,F⟩
  ·exact .inr ⟨by unfold pL;rw[f],xh c1 g,_,xj c1 h3,qdg⟩
  ·have hx1:=hf _ x f
   have j:(T.drop (p+1)).drop x.2=T.drop (p+1+x.2):=qdX ..;dsimp only at F;cases hc:T.drop (p+1+x.2) with
   |nil=>
    rw[hc]at F;obtain⟨w,I⟩:=F.2 U;exact .inr ⟨by unfold pL;rw[f];dsimp only;rw[j,hc],xh c1 w,_,xj c1 I,qdg⟩
   |cons c u=>
    rw[hc]at F;have hul:=li (j.trans hc);have hu:T.drop (p+1+x.2+1)=u:=by rw[<-qdX,hc];rfl
    have v:(c::u).take 1=[c]:=rfl;rw[v]at F;by_cases E:c=32
    ·subst E
     obtain⟨w,I⟩:=F.1 U;have ih:=za hP K hf Y L M m (p+1+x.2) [32] (ds++[toD x.1]) B (by rw[hu];lia) (by lia) (by decide) (by rw[qai,qaY];lia);rw[hu]at ih;rcases ih with⟨y,o2,O,C,Q⟩|⟨O,C,s,Q,i4⟩
     ·refine .inl ⟨(x.1::y.1,x.2+1+y.2),o2,by unfold pL;rw[f];dsimp only;rw[j,hc];dsimp only;rw[iFP U,O];rfl,?_,zK c1 I w Q⟩
      refine xi c1 w ?_;rw[C];show _=some (Fl.nx (Env T d st (p+(x.2+1+y.2)) [41] o2) (st++[.l (ds++cA (x.1::y.1))]));rw[cA,qbK,List.singleton_append,show p+1+x.2+y.2=p+(x.2+1+y.2) by lia]
     ·exact .inr ⟨by unfold pL;rw[f];dsimp only;rw[j,hc];dsimp only;rw[iFP U,O];rfl,xi c1 w C,s,zK c1 I w Q,i4⟩
    ·by_cases V:c=41
     ·subst V
      obtain⟨w,I⟩:=F.1 U;obtain⟨m,rfl⟩:∃ k,m=k+1:=⟨m - 1,by lia⟩;have c2:bO self (Env T d st (p+1+x.2) [41] B) (st++[.l (ds++[toD x.1])])=some (false,st++[.l (ds++[toD x.1])]):=by rw[r8,decide_eq_true U];rfl
      refine .inl ⟨([x.1],x.2+1),B,by unfold pL;rw[f];dsimp only;rw[j,hc];dsimp only;rw[iFN (by decide),iFP U],?_,zK c1 I w (Fk c2)⟩;refine xi c1 w ?_;rw[Cg c2];show _=some (Fl.nx (Env T d st (p+(x.2+1)) [41] B) (st++[.l (ds++cA [x.1])]));rw[cA,cA,show p+1+x.2=p+(x.2+1) by lia]
     ·have hb:(decide ([c]=[32])||decide ([c]=[41]))=false:=by simp[E,V]
      obtain⟨w,I⟩:=F.2 hb;exact .inr ⟨by unfold pL;rw[f];dsimp only;rw[j,hc];dsimp only;rw[iFN E,iFN V],xh c1 w,_,xj c1 I,qdg⟩
theorem BG (hP:P []=none) (K:vb self e d P) (hf:∀ Uu x,P Uu=some x->1<=x.2) (Y:∀ c∈T,c<128) (L:T.length<=900) (p:Nat) (st:Sto) :
  (∃ y,pB P 900 (T.drop p)=some y/\cD self [.d (.str (S T)),.d (.int (p:Int)),.d (.int (d:Int))] st=some (.d (.tup [.tup (cA y.1),.int ((p+y.2:Nat):Int)]),st)/\ge self e [.d (.str (S T)),.d (.int (p:Int)),.d (.int (d:Int))] st=none)\/
  (pB P 900 (T.drop p)=none/\cD self [.d (.str (S T)),.d (.int (p:Int)),.d (.int (d:Int))] st=none/\ge self e [.d (.str (S T)),.d (.int (p:Int)),.d (.int (d:Int))] st=some st):=by
 have fin:∀ x s,dP self [Z (.str (S T)),Z (.int (p:Int)),Z (.int (d:Int)),none,none,none] st=some (.rt (.d x) s)->s.take st.length=st->cD self [.d (.str (S T)),.d (.int (p:Int)),.d (.int (d:Int))] st=some (.d x,st):=λx s f g=>by
  have:=uR (n:=6) (k:=3) (b:=dP self) (ws:=[.d (.str (S T)),.d (.int (p:Int)),.d (.int (d:Int))]) (st:=st) (x:=x) U f
  rw[g]at this;exact this
 have G:dP self [Z (.str (S T)),Z (.int (p:Int)),Z (.int (d:Int)),none,none,none] st=none->cD self [.d (.str (S T)),.d (.int (p:Int)),.d (.int (d:Int))] st=none:=λh=>by
  show (dP self [Z (.str (S T)),Z (.int (p:Int)),Z (.int (d:Int)),none,none,none] st).bind _=none;rw[h];rfl
 have i:∀ r:Option Sto,(∀ s,r=some s->s.take st.length=st)->fk self e [Z (.str (S T)),Z (.int (p:Int)),Z (.int (d:Int)),none,none,none] st=r->ge self e [.d (.str (S T)),.d (.int (p:Int)),.d (.int (d:Int))] st=r.map λ_=>st:=λr f g=>by
  show (fk self e [Z (.str (S T)),Z (.int (p:Int)),Z (.int (d:Int)),none,none,none] st).map _=_;rw[g];cases r with
  |none=>rfl
  |some s=>show some (s.take st.length)=_;rw[f s U];rfl
 have v:aC dEq (dk (iV 0) (iPs (iV 1)) (iPs (iOp aU (iV 1) (iC (.int 2))))) (iC (.str "()")) [Z (.str (S T)),Z (.int (p:Int)),Z (.int (d:Int)),none,none,none] st=some (decide ((T.drop p).take 2=[40,41]),st):=
  aS (qsl (k:=2) (by lia) U U U U) U (eqS st _ [40,41])
 by_cases f:(T.drop p).take 2=[40,41]
 ·rw[decide_eq_true f]at v
  have r1:aW (aQ (ae (aQ ah) (ae (iOp aU (iV 1) (iC (.int 2))) ah))) [Z (.str (S T)),Z (.int (p:Int)),Z (.int (d:Int)),none,none,none] st=some (.rt (.d (.tup [.tup [],.int ((p+2:Nat):Int)])) st):=aR (nh (ao (nh U U (by decide)) (ao (aI U U (Gf _ p)) U)) U (by show 2<=1000;decide));refine .inl ⟨([],2),by unfold pB;rw[iFP f],?_,i none (λs z=>nomatch z) (my U (jg v r1))⟩
  show _=some (W.d (.tup [.tup (cA []),_]),st);rw[cA];exact fin _ st (nG (jg v r1)) qbd
 ·rw[decide_eq_false f]at v
  have X:aK (.nm 3) (dk (iV 0) (iPs (iV 1)) (iPs (iOp aU (iV 1) (iC (.int 1))))) [Z (.str (S T)),Z (.int (p:Int)),Z (.int (d:Int)),none,none,none] st=some (.nx [Z (.str (S T)),Z (.int (p:Int)),Z (.int (d:Int)),Z (.str (S ((T.drop p).take 1))),none,none] st):=aM (qsl (k:=1) (by lia) U U U U);have A:aC dNe (iV 3) (iC (.str "(")) [Z (.str (S T)),Z (.int (p:Int)),Z (.int (d:Int)),Z (.str (S ((T.drop p).take 1))),none,none] st=some (!decide ((T.drop p).take 1=[40]),st):=aS U U (neS st _ [40])
  by_cases g:(T.drop p).take 1=[40]
  ·rw[decide_eq_true g,g]at A
   rw[g]at X;have n4:aK (.nm 4) (mP (cL ah)) [Z (.str (S T)),Z (.int (p:Int)),Z (.int (d:Int)),Z (.str (S [40])),none,none] st=some (.nx (Env T d st p [40] none) (st++[.l []])):=rfl;have E:(T.drop p).drop 1=T.drop (p+1):=qdX ..;have hB:pB P 900 (T.drop p)=(pL P 900 (T.drop (p+1))).map λy=>(y.1,y.2+1):=by unfold pB;rw[iFN f,iFP g,E]
   rw[hB];rcases za (st:=st) hP K hf Y L 900 1000 p [40] [] none (by rw[qbC];lia) (by decide) (by decide) (by decide) with⟨y,B,O,C,Q⟩|⟨O,C,s,Q,i4⟩
   ·rw[qaI]at C
    refine .inl ⟨(y.1,y.2+1),by rw[O];rfl,fin _ (st++[.l (cA y.1)]) (aB (bq v U) (aB X (aB (bq A U) (aB n4 (aB (show kl 1000 _ _ _ _=_ from C) (aR (nh (ao (bQ (ws:=[.h st.length]) U ?_) (ao (aI U U (Cy _ (p+y.2))) U)) U (by show 2<=1000;decide)))))))) qdg,i none (λs z=>nomatch z) (ax U (bq v U) (ax U X (ax (cN A U) (bq A U) (ax U n4 (ax (show tY 1000 _ _ _ _ _=_ from Q) (show kl 1000 _ _ _ _=_ from C) U)))))⟩
    show (lg (st++[.l (cA y.1)]) st.length).map D.tup=_;rw[oj];rfl
   ·refine .inr ⟨by rw[O];rfl,G (aB (bq v U) (aB X (aB (bq A U) (aB n4 (dn (show kl 1000 _ _ _ _=_ from C)))))),?_⟩
    exact i (some s) (λs' z=>by cases z;exact i4) (ax U (bq v U) (ax U X (ax (cN A U) (bq A U) (ax U n4 (dq (show tY 1000 _ _ _ _ _=_ from Q))))))
  ·rw[decide_eq_false g]at A
   refine .inr ⟨by unfold pB;rw[iFN f,iFN g],G (aB (bq v U) (aB X (dn (jg A U)))),?_⟩;exact i (some st) (λs' z=>by cases z;exact qbd) (ax U (bq v U) (ax U X (dq (jh A U))))
end
end Own
set_option maxHeartbeats 1000000
namespace Own
open PySem L2
theorem xg {n k:Nat}{b:Sf}{ws:List W}{st:Sto} (a:ws.length=k) (h:b (ws.map some++qax (n - k) none) st=none):bR n k b ws st=none:=by
 simp only[bR,a,if_true,h,qbi]
theorem AS:inD (.str (S [])) (rW "abcdef")=false:=by decide +kernel
theorem Fi {g:List D}{w:Str}{l:List Nat}{b:Bool}{f:Ef}{env:Ev}{st:Sto} (hw:eG st [.d (.str w)]=some g) (c:g.all bZ=true) (a:f env st=some (.d (.str (S l)),st)) (h:inD (.str (S l)) g=b):aC dIn f (ay (iCL eG (ae (iC (.str w)) ah))) env st=some (b,st):=by
 have e:ay (iCL eG (ae (iC (.str w)) ah)) env st=some (.d (.lst g),st):=bx (by simp only[iCL,ae,iC,ah,qaa,qak,hw]);refine aS a e ?_;simp only[dIn,e8,bZ,c,qaa,and_self,if_true,h]
section
variable {n d:Nat}
theorem BE:vb (aG (n+1)) (bK (n+1)) 0 (pR 900 0):=by
 intro T p st J K;refine .inr ⟨U,?_,?_⟩
 ·exact xg (n:=6) (k:=3) (b:=cS (aG n)) U (dn (jg (s:=st) (aS U U (by rw[oZ];rfl)) U))
 ·show (da (aG n) (bK n) [Z (.str (S T)),Z (.int (p:Int)),Z (.int ((0:Nat):Int)),none,none,none] st).map _=_
  rw[show da (aG n) (bK n) [Z (.str (S T)),Z (.int (p:Int)),Z (.int ((0:Nat):Int)),none,none,none] st=some st from dq (jh (s:=st) (aS U U (by rw[oZ];rfl)) U)];show some (st.take st.length)=_;rw[qbd]
theorem BF (V:vb (aG n) (bK n) d (pR 900 d)):vb (aG (n+1)) (bK (n+1)) (d+1) (pR 900 (d+1)):=by
 intro T p st J K;generalize o:[some (W.d (.str (S T))),some (.d (.int (p:Int))),some (.d (.int ((d+1:Nat):Int))),none,none,none]=E0;have fin:∀ x s,cS (aG n) E0 st=some (.rt (.d x) s)->aG (n+1) [.d (.str (S T)),.d (.int (p:Int)),.d (.int ((d+1:Nat):Int))] st=some (.d x,s):=λx s h=>by
  subst o;exact bz (n:=6) (k:=3) (b:=cS (aG n)) U h
 have m:cS (aG n) E0 st=none->aG (n+1) [.d (.str (S T)),.d (.int (p:Int)),.d (.int ((d+1:Nat):Int))] st=none:=λh=>by
  subst o;exact xg (n:=6) (k:=3) (b:=cS (aG n)) U h
 have a:∀ r:Option Sto,(∀ s,r=some s->s=st)->da (aG n) (bK n) E0 st=r->bK (n+1) [.d (.str (S T)),.d (.int (p:Int)),.d (.int ((d+1:Nat):Int))] st=r:=λr A C=>by
  subst o;show (da (aG n) (bK n) _ st).map _=_;refine (congrArg (λz=>qft _ z) C).trans ?_;cases r with
  |none=>rfl
  |some s=>cases A s U;show some (st.take st.length)=_;rw[qbd]
 have e:aC dEq (iV 2) (iC (.int 0)) E0 st=some (false,st):=by
  subst o;refine aS U U ?_;rw[oZ,beq_eq_false_iff_ne.mpr (by lia)]
 generalize Q:(T.drop p).take 1=l;have j:aK (.nm 3) (dk (iV 0) (iPs (iV 1)) (iPs (iOp aU (iV 1) (iC (.int 1))))) E0 st=some (.nx [some (.d (.str (S T))),some (.d (.int (p:Int))),some (.d (.int ((d+1:Nat):Int))),some (.d (.str (S l))),none,none] st):=by
  subst o;exact aM (qsl (k:=1) (by lia) U U U Q)
 clear o;generalize o:[some (W.d (.str (S T))),some (.d (.int (p:Int))),some (.d (.int ((d+1:Nat):Int))),some (.d (.str (S l))),none,none]=E1 at j;have D:iV 3 E1 st=some (.d (.str (S l)),st):=by subst o;rfl
 have i:aC dEq (iV 3) (iC (.str "!")) E1 st=some (decide (l=[33]),st):=aS D U (eqS st l [33])
 have Y:((d+1:Nat):Int) - 1=(d:Int):=by lia
 have args:ae (iV 0) (ae (iOp aU (iV 1) (iC (.int 1))) (ae (iOp jY (iV 2) (iC (.int 1))) ah)) E1 st=some ([.d (.str (S T)),.d (.int ((p+1:Nat):Int)),.d (.int (d:Int))],st):=by
  subst o
  have:ae (iV 0) (ae (iOp aU (iV 1) (iC (.int 1))) (ae (iOp jY (iV 2) (iC (.int 1))) ah)) [some (W.d (.str (S T))),some (.d (.int (p:Int))),some (.d (.int ((d+1:Nat):Int))),some (.d (.str (S l))),none,none] st=some ([.d (.str (S T)),.d (.int ((p+1:Nat):Int)),.d (.int (((d+1:Nat):Int) - 1))],st):=rfl
  rw[Y]at this;exact this
 cases hU:T.drop p with
 |nil=>
  have P:l=[]:=by rw[<-Q,hU];rfl
  subst P;have tl:aC dIn (iV 3) (ay (iCL eG (ae (iC (.str "abcdef")) ah))) E1 st=some (false,st):=Fi (wK st) (by decide) D AS
  have u:ae (iV 3) ah E1 st=some ([.d (.str (S []))],st):=ao D U;refine .inr ⟨U,m (aB (bq e U) (aB j (aB (bq tl U) (aB (bq i U) (dn ?_))))),?_⟩
  ·simp only[aK,au,u,qaa,wB.1,qbi]
  ·exact a (some st) (λs z=>by cases z;rfl) (ax (cN e U) (bq e U) (ax U j (ax U (bq tl U) (ax (cN i U) (bq i U) (dq (eZ u wB.2))))))
 |cons c t=>
  have G:c<128:=J c (qdS (by rw[hU];exact qae));have R:T.drop (p+1)=t:=by rw[<-qdX,hU];rfl
  have P:l=[c]:=by rw[<-Q,hU];rfl
  subst P;have tl:aC dIn (iV 3) (ay (iCL eG (ae (iC (.str "abcdef")) ah))) E1 st=some (decide (97<=c/\c<=102),st):=Fi (wK st) (by decide) D (C3 c G)
  have v1:iOp aU (iV 1) (iC (.int 1)) E1 st=some (.d (.int ((p+1:Nat):Int)),st):=by subst o;exact aI U U (Cy st p)
  by_cases A:97<=c/\c<=102
  ·rw[decide_eq_true A]at tl
   have hf:qcX "abcdef" (S [c])=((c - 97:Nat):Int):=by
    have:=yE (c - 97) (by lia)
    rwa [show 97+(c - 97)=c by lia]at this
   have v:aW (aQ (ae (aQ (ae (iC (.str "switch")) (ae (iTm ic (iC (.str "abcdef")) (ae (iV 3) ah)) ah))) (ae (iOp aU (iV 1) (iC (.int 1))) ah))) E1 st=some (.rt (.d (.tup [.tup [.str "switch",.int ((c - 97:Nat):Int)],.int ((p+1:Nat):Int)])) st):=
    aR (nh (ao (nh (ao U (ao (Cf D hf) U)) U (by show 2<=1000;decide)) (ao v1 U)) U (by show 2<=1000;decide))
   refine .inl ⟨(.sw ((c - 97:Nat):Int),1),by unfold pR;rw[iFP A],?_,a none (λs z=>nomatch z) (ax (cN e U) (bq e U) (ax U j (my U (jg tl v))))⟩
   show _=some (W.d (.tup [toD (.sw _),_]),st);rw[toD];exact fin _ st (aB (bq e U) (aB j (nG (jg tl v))))
  ·rw[decide_eq_false A]at tl
   by_cases C:c=33
   ·rw[decide_eq_true (by rw[C])]at i
    have M:pR 900 (d+1) (c::t)=(pR 900 d t).map λx=>(.nt x.1,x.2+1):=by conv=>lhs;unfold pR;rw[iFN A,iFP C]
    rw[M];have X:=V T (p+1) st J K;rw[R]at X;rcases X with⟨x,E,B,w⟩|⟨E,B,w⟩
    ·have c4:aK (.nm 4) (au (aG n) (ae (iV 0) (ae (iOp aU (iV 1) (iC (.int 1))) (ae (iOp jY (iV 2) (iC (.int 1))) ah)))) E1 st=some (.nx (E1.set 4 (some (.d (.tup [toD x.1,.int ((p+1+x.2:Nat):Int)])))) st):=aM (aA args B)
     have I:iV 4 (E1.set 4 (some (.d (.tup [toD x.1,.int ((p+1+x.2:Nat):Int)])))) st=some (.d (.tup [toD x.1,.int ((p+1+x.2:Nat):Int)]),st):=by subst o;rfl
     have v:aW (aQ (ae (aQ (ae (iC (.str "not")) (ae (iOp dIx (iV 4) (iC (.int 0))) ah))) (ae (iOp dIx (iV 4) (iC (.int 1))) ah))) (E1.set 4 (some (.d (.tup [toD x.1,.int ((p+1+x.2:Nat):Int)])))) st=some (.rt (.d (.tup [.tup [.str "not",toD x.1],.int ((p+1+x.2:Nat):Int)])) st):=
      aR (nh (ao (nh (ao U (ao (aI I U (ix0 _ _ _)) U)) U (by show 2<=1000;decide)) (ao (aI I U (ix1 _ _ _ _)) U)) U (by show 2<=1000;decide))
     refine .inl ⟨(.nt x.1,x.2+1),by rw[E];rfl,?_,a none (λs z=>nomatch z) (ax (cN e U) (bq e U) (ax U j (ax U (bq tl U) (my (jh i (ax (eZ args w) c4 U)) (jg i (aB c4 v))))))⟩
     show _=some (W.d (.tup [toD (.nt x.1),.int ((p+(x.2+1):Nat):Int)]),st);rw[toD,show p+(x.2+1)=p+1+x.2 by lia];exact fin _ st (aB (bq e U) (aB j (aB (bq tl U) (nG (jg i (aB c4 v))))))
    ·have c4:aK (.nm 4) (au (aG n) (ae (iV 0) (ae (iOp aU (iV 1) (iC (.int 1))) (ae (iOp jY (iV 2) (iC (.int 1))) ah)))) E1 st=none:=by
      simp only[aK,au,args,qaa,B,qbi]
     exact .inr ⟨by rw[E];rfl,m (aB (bq e U) (aB j (aB (bq tl U) (dn (jg i (dn c4)))))),a (some st) (λs z=>by cases z;rfl) (ax (cN e U) (bq e U) (ax U j (ax U (bq tl U) (dq (jh i (dq (eZ args w)))))))⟩
   ·rw[decide_eq_false (by intro z;exact C (List.cons.inj z).1)]at i
    have M:pR 900 (d+1) (c::t)=match hdC c with|none=>none|some g=>(pB (pR 900 d) 900 t).map λy=>(.gr g.1 g.2 y.1,y.2+1):=by
     conv=>lhs;unfold pR;rw[iFN A,iFN C]
     all_goals (cases hdC c<;>rfl)
    rw[M];have u:ae (iV 3) ah E1 st=some ([.d (.str (S [c]))],st):=ao D U;rcases AO (st:=st) G with⟨g,L,N,q⟩|⟨L,N,q⟩
    ·rw[L]
     dsimp only;have c5:aK (.nm 5) (au d4 (ae (iV 3) ah)) E1 st=some (.nx (E1.set 5 (some (.d (.tup (gn g.1 g.2))))) st):=aM (aA u N);have f:ae (iV 0) (ae (iOp aU (iV 1) (iC (.int 1))) (ae (iOp jY (iV 2) (iC (.int 1))) ah)) (E1.set 5 (some (.d (.tup (gn g.1 g.2))))) st=some ([.d (.str (S T)),.d (.int ((p+1:Nat):Int)),.d (.int (d:Int))],st):=by
      subst o;exact args
     have F:=BG (DB 900 d) V (λUu x E=>(pO 900 d Uu x E).2.2.1) J K (p+1) st;rw[R]at F;rcases F with⟨y,O,B,w⟩|⟨O,B,w⟩
     ·have c4:aK (.nm 4) (au (cD (aG n)) (ae (iV 0) (ae (iOp aU (iV 1) (iC (.int 1))) (ae (iOp jY (iV 2) (iC (.int 1))) ah)))) (E1.set 5 (some (.d (.tup (gn g.1 g.2))))) st=some (.nx ((E1.set 5 (some (.d (.tup (gn g.1 g.2))))).set 4 (some (.d (.tup [.tup (cA y.1),.int ((p+1+y.2:Nat):Int)])))) st):=aM (aA f B)
      have I:iV 4 ((E1.set 5 (some (.d (.tup (gn g.1 g.2))))).set 4 (some (.d (.tup [.tup (cA y.1),.int ((p+1+y.2:Nat):Int)])))) st=some (.d (.tup [.tup (cA y.1),.int ((p+1+y.2:Nat):Int)]),st):=by subst o;rfl
      have v5:iV 5 ((E1.set 5 (some (.d (.tup (gn g.1 g.2))))).set 4 (some (.d (.tup [.tup (cA y.1),.int ((p+1+y.2:Nat):Int)])))) st=some (.d (.tup (gn g.1 g.2)),st):=by subst o;rfl
      have H:aU st (.d (.tup (gn g.1 g.2))) (.d (.tup [.tup (cA y.1)]))=some (.tup (gn g.1 g.2++[.tup (cA y.1)])):=by
       refine Cz st ?_
       have:(gn g.1 g.2).length<=2:=by cases g.1<;>simp[gn]
       simp;lia
      have v:aW (aQ (ae (iOp aU (iV 5) (aQ (ae (iOp dIx (iV 4) (iC (.int 0))) ah))) (ae (iOp dIx (iV 4) (iC (.int 1))) ah))) ((E1.set 5 (some (.d (.tup (gn g.1 g.2))))).set 4 (some (.d (.tup [.tup (cA y.1),.int ((p+1+y.2:Nat):Int)])))) st=some (.rt (.d (.tup [.tup (gn g.1 g.2++[.tup (cA y.1)]),.int ((p+1+y.2:Nat):Int)])) st):=
       aR (nh (ao (aI v5 (nh (ao (aI I U (ix0 _ _ _)) U) U (by show 1<=1000;decide)) H) (ao (aI I U (ix1 _ _ _ _)) U)) U (by show 2<=1000;decide))
      refine .inl ⟨(.gr g.1 g.2 y.1,y.2+1),by rw[O];rfl,?_,a none (λs z=>nomatch z) (ax (cN e U) (bq e U) (ax U j (ax U (bq tl U) (ax (cN i U) (bq i U) (ax (eZ u q) c5 (ax (eZ f w) c4 U))))))⟩
      show _=some (W.d (.tup [toD (.gr g.1 g.2 y.1),.int ((p+(y.2+1):Nat):Int)]),st);rw[toD,show p+(y.2+1)=p+1+y.2 by lia,<-yJ];exact fin _ st (aB (bq e U) (aB j (aB (bq tl U) (aB (bq i U) (aB c5 (aB c4 v))))))
     ·have c4:aK (.nm 4) (au (cD (aG n)) (ae (iV 0) (ae (iOp aU (iV 1) (iC (.int 1))) (ae (iOp jY (iV 2) (iC (.int 1))) ah)))) (E1.set 5 (some (.d (.tup (gn g.1 g.2))))) st=none:=by
       simp only[aK,au,f,qaa,B,qbi]
      exact .inr ⟨by rw[O];rfl,m (aB (bq e U) (aB j (aB (bq tl U) (aB (bq i U) (aB c5 (dn c4)))))),a (some st) (λs z=>by cases z;rfl) (ax (cN e U) (bq e U) (ax U j (ax U (bq tl U) (ax (cN i U) (bq i U) (ax (eZ u q) c5 (dq (eZ f w)))))))⟩
    ·rw[L]
     have c5:aK (.nm 5) (au d4 (ae (iV 3) ah)) E1 st=none:=by
      simp only[aK,au,u,qaa,N,qbi]
     exact .inr ⟨U,m (aB (bq e U) (aB j (aB (bq tl U) (aB (bq i U) (dn c5))))),a (some st) (λs z=>by cases z;rfl) (ax (cN e U) (bq e U) (ax U j (ax U (bq tl U) (ax (cN i U) (bq i U) (dq (eZ u q))))))⟩
end
theorem xn:∀ d n,vb (aG (n+d+1)) (bK (n+d+1)) d (pR 900 d)
 |0,n=>BE
 |d+1,n=>BF (xn d n)
def okB (l:List Nat) (x:Ru×Nat):Bool:=decide (x.2=l.length)&&(wid x.1&&decide (cnt x.1<=40))
def rdR (l:List Nat):Option Ru:=match pR 900 6 l with
 |some x=>if okB l x=true then some x.1 else none
 |none=>none
theorem EN {s:Sto}{x:Str}{e:Ev}:ba (bJ bG (iCB cC (ae (iV 0) (ae (iC (.ty "str")) ah)))) (Z (.str x)::e) s=some (false,s):=by
 simp only[iV,iC,ba,bJ,ah,ae,iCB,e8,cC,ji,eE,bG,qaa,qak,qaJ,qcJ,lg]
theorem zX {l:List Nat}{st:Sto} (p:∀ c∈l,c<128) (u:l.length<=900) :
  (∃ x,pR 900 6 l=some x/\okB l x=true/\dE [.d (.str (S l))] st=some (.d (toD x.1),st))\/
  (rdR l=none/\dE [.d (.str (S l))] st=none/\gZ [.d (.str (S l))] st=some st):=by
 have a:=xn 6 0 l 0 st p u;rw[qcS]at a;have args:ae (iV 0) (ae (iC (.int 0)) (ae (iC (.int 6)) ah)) [some (.d (.str (S l))),none] st=some ([.d (.str (S l)),.d (.int ((0:Nat):Int)),.d (.int ((6:Nat):Int))],st):=rfl;have f:=EN (s:=st) (x:=S l) (e:=[none]);have fin:∀ r,iQ [some (.d (.str (S l))),none] st=r->dE [.d (.str (S l))] st=r.bind λr=>match r with|.nx _ s=>some (.d .non,s)|.rt w s=>some (w,s)|_=>none:=λr h=>by rw[<-h];rfl
 have b:gg [Z (.str (S l)),none] st=some st->gZ [.d (.str (S l))] st=some st:=λh=>by
  show (gg [Z (.str (S l)),none] st).map _=_;rw[h];show some (st.take st.length)=_;rw[qbd]
 rcases a with⟨x,g,j,m⟩|⟨g,j,m⟩
 ·rw[qa8 x.2]at j
  obtain⟨f1,f2,f3,f4⟩:=pO 900 6 l x g;have o:=ux (st:=st) f1 f2;have t:bN st [.d (.str (S l))]=some (.int ((l.length:Nat):Int)):=by
   show (if (S l).length<=1000000 then some (D.int ((S l).length:Int)) else none)=_;rw[cn,iFP (by lia)]
  have c1:aK (.nm 1) (au (aG 7) (ae (iV 0) (ae (iC (.int 0)) (ae (iC (.int 6)) ah)))) [Z (.str (S l)),none] st=some (.nx [Z (.str (S l)),Z (.tup [toD x.1,.int ((x.2:Nat):Int)])] st):=aM (aA args j);have i:dv (aC dNe (iOp dIx (iV 1) (iC (.int 1))) (iCB bN (ae (iV 0) ah))) (ba (bJ bG (au d5 (ae (iOp dIx (iV 1) (iC (.int 0))) ah)))) [Z (.str (S l)),Z (.tup [toD x.1,.int ((x.2:Nat):Int)])] st=some (!okB l x,st):=by
   have n:aC dNe (iOp dIx (iV 1) (iC (.int 1))) (iCB bN (ae (iV 0) ah)) [Z (.str (S l)),Z (.tup [toD x.1,.int ((x.2:Nat):Int)])] st=some (!decide (x.2=l.length),st):=by
    refine aS (aI U U (ix1 _ _ _ _)) (bQ (ao U U) t) ?_;show some (D.bl (!(((x.2:Nat):Int)==((l.length:Nat):Int))))=_;rw[show (((x.2:Nat):Int)==((l.length:Nat):Int))=decide (x.2=l.length) by rw[qbH];simp;lia]
   have q:au d5 (ae (iOp dIx (iV 1) (iC (.int 0))) ah) [Z (.str (S l)),Z (.tup [toD x.1,.int ((x.2:Nat):Int)])] st=some (.d (.bl (wid x.1&&decide (cnt x.1<=40))),st):=aA (ao (aI U U (ix0 _ _ _)) U) o;unfold okB;simp only[dv,n,ba,bJ,q,qaa,bG,qak];cases decide (x.2=l.length)<;>simp
  cases hb:okB l x with
  |true=>
   rw[hb]at i;exact .inl ⟨x,g,hb,fin _ (aB (bq f U) (aB c1 (aB (bq i U) (aR (aI U U (ix0 _ _ _))))))⟩
  |false=>
   rw[hb]at i;refine .inr ⟨by unfold rdR;rw[g];show (if okB l x=true then _ else _)=_;rw[hb];rfl,fin none (aB (bq f U) (aB c1 (dn (jg i U)))),b (ax (cN f U) (bq f U) (ax (eZ args m) c1 (dq (jh i U))))⟩
 ·have c1:aK (.nm 1) (au (aG 7) (ae (iV 0) (ae (iC (.int 0)) (ae (iC (.int 6)) ah)))) [Z (.str (S l)),none] st=none:=by
   have k:aG 7 [.d (.str (S l)),.d (.int ((0:Nat):Int)),.d (.int ((6:Nat):Int))] st=none:=j;simp only[aK,au,args,qaa,k,qbi]
  exact .inr ⟨by unfold rdR;rw[g],fin none (aB (bq f U) (dn c1)),b (ax (cN f U) (bq f U) (dq (eZ args m)))⟩
end Own
set_option maxHeartbeats 1000000
namespace Own
open PySem L2
def mkC (g:Gw) (k:Int):Nat:=match g with|.all=>38|.any=>124|.odd=>94|.least=>48+k.toNat
mutual
def tx:Ru->List Nat
 |.sw k=>[97+k.toNat]
 |.nt r=>33::tx r
 |.gr g k rs=>mkC g k::40::(txs rs++[41])
def txs:List Ru->List Nat
 |[]=>[]
 |r::rs=>tx r++tl rs
def tl:List Ru->List Nat
 |[]=>[]
 |r::rs=>32::(tx r++tl rs)
end
theorem A2:∀ rs:List Ru,Txt.join " " (rs.map λr=>S (tx r))=S (txs rs):=by
 intro rs;show qhT " " _=_
 rw[qbP]
 induction rs with
 |nil=>rw[txs];rfl
 |cons r rs a=>
  cases rs with
  |nil=>rw[txs,tl,qa5];rfl
  |cons q rs=>
   rw[txs]at a;rw[txs,tl,qal,qal];show S (tx r)++S [32]++Str.join " " (S (tx q)::rs.map λr=>S (tx r))=_
   rw[qal]at a;rw[a,jO,jO,qbK];rfl
mutual
theorem qi:∀ r:Ru,((tx r).length:Int)+1<=4*cnt r
 |.sw k=>by rw[tx,cnt,qaY];decide
 |.nt r=>by
  have:=qi r
  rw[tx,cnt,qaf];lia
 |.gr g k rs=>by
  have:=xv rs
  rw[tx,cnt,qaf,qaf,qai];simp;lia
theorem xv:∀ rs:List Ru,((txs rs).length:Int)<=4*fQ rs
 |[]=>by rw[txs,fQ];decide
 |r::rs=>by
  have:=qi r
  have:=Ai rs
  rw[txs,fQ,qai];lia
theorem Ai:∀ rs:List Ru,((tl rs).length:Int)<=4*fQ rs
 |[]=>by rw[tl,fQ];decide
 |r::rs=>by
  have:=qi r
  have:=Ai rs
  rw[tl,fQ,qaf,qai];lia
end
mutual
theorem rY:∀ r:Ru,1<=cnt r
 |.sw _=>by rw[cnt];decide
 |.nt r=>by have:=rY r;rw[cnt];lia
 |.gr _ _ rs=>by have:=rZ rs;rw[cnt];lia
theorem rZ:∀ rs:List Ru,0<=fQ rs
 |[]=>by rw[fQ];decide
 |r::rs=>by have:=rY r;have:=rZ rs;rw[fQ];lia
end
theorem Gg (s:Sto) (a b:Str):dEq s (.d (.str a)) (.d (.str b))=some (.bl (a==b)):=by simp only[dEq,gu,eqK,eqD,qaa,qak]
theorem j8 {s:Sto}{a b:List Nat} (h:a.length+b.length<=1000000):aU s (.d (.str (S a))) (.d (.str (S b)))=some (.str (S (a++b))):=by
 show (if (S a).length+(S b).length<=1000000 then some (D.str (S a++S b)) else none)=_;rw[cn,cn,iFP h,jO]
theorem hdT {s:Sto}{x w:Str}{l:List D}{e:Ev}{b:Bool} (h:(x==w)=b):aC dEq (iOp dIx (iV 0) (iC (.int 0))) (iC (.str w)) (Z (.tup (.str x::l))::e) s=some (b,s):=
 aS (aI U U (ix0 s _ l)) U (by rw[Gg,h])
theorem CM (g:Gw) (k:Int) (ds:List D):∃ l,grD g k ds=.tup (.str g.wd::l):=by cases g<;>exact⟨_,U⟩
theorem yH (s:Sto) (g:Gw) (k:Int) (ds:List D):dIx s (.d (grD g k ds)) (.d (.int (-1)))=some (.tup ds):=by
 cases g
 ·exact xN s _ _
 ·exact xN s _ _
 ·exact xN s _ _
 ·exact EQ s _ _ _
theorem FW (g:Gw):(g.wd==("switch" : Str))=false:=by cases g<;>decide +kernel
theorem FV (g:Gw):(g.wd==("not" : Str))=false:=by cases g<;>decide +kernel
theorem y8 {s:Sto}{k:Int} (b:0<=k) (a:k<6):dIx s (.d (.str "abcdef")) (.d (.int k))=some (.str (S [97+k.toNat])):=by
 have:k=0\/k=1\/k=2\/k=3\/k=4\/k=5:=by lia
 rcases this with rfl|rfl|rfl|rfl|rfl|rfl<;>rfl
def Ey (self:Fn) (mk:Ef) (te:Ef):Sf:=(av (bd (aC dEq (iOp dIx (iV 0) (iC (.int 0))) (iC (.str "switch"))) (aW (iOp dIx (iC (.str "abcdef")) (iOp dIx (iV 0) (iC (.int 1))))) aL) (av (bd (aC dEq (iOp dIx (iV 0) (iC (.int 0))) (iC (.str "not"))) (aW (iOp aU (iC (.str "!")) (au self (ae (iOp dIx (iV 0) (iC (.int 1))) ah)))) aL) (av (aK (.nm 1) mk) (aW (iOp aU (iOp aU (iOp aU (iV 1) (iC (.str "("))) (fJ (iC (.str " ")) (ae (ay (iLc 1 [] (bh (iOp dIx (iV 0) (iUn jX (iC (.int 1))))) (.nm 0) bg te)) ah))) (iC (.str ")")))))))
theorem xt:∀ rs:List Ru,kH (rs.map λr=>D.str (S (tx r)))=some (rs.map λr=>S (tx r))
 |[]=>rfl
 |r::rs=>by rw[qal,kH,xt rs];rfl
theorem Ae:∀ rs:List Ru,((((rs.map λr=>S (tx r)).map (·.length)).sum:Nat):Int)<=4*fQ rs
 |[]=>by rw[fQ];decide
 |r::rs=>by
  have b:=qi r;have a:=Ae rs;rw[fQ,qal,qal,qdt,cn]
  push_cast
  lia
theorem uf:∀ {rs:List Ru}{r:Ru},r∈rs->cnt r<=fQ rs
 |x::rs,r,h=>by
  have b:=rY x;have a:=rZ rs;rw[fQ];rcases qat.mp h with rfl|h
  ·lia
  ·have:=uf h;lia
theorem yq {self:Fn}{mk te:Ef}{n:Nat}{st:Sto} (x:∀ q,dep q<=n->lc 6 q->cnt q<=100->self [.d (toD q)] st=some (.d (.str (S (tx q))),st))
  (p:te=au self (ae (iV 0) ah)) (m:∀ g k rs,lc 6 (.gr g k rs)->lD rs<=n->fQ rs<=100->mk [Z (toD (.gr g k rs)),none] st=some (.d (.str (S [mkC g k])),st)) :
  ∀ r:Ru,dep r<=n+1->lc 6 r->cnt r<=100->Ey self mk te [Z (toD r),none] st=some (.rt (.d (.str (S (tx r)))) st)
 |.sw k,hd,c,i=>by
  rw[lc]at c;rw[toD,tx];exact eW (jR (hdT (beq_self_eq_true _)) (aR (aI U (aI U U (ix1 st _ _ _)) (y8 c.1 c.2))))
 |.nt r,hd,c,i=>by
  rw[lc]at c;rw[dep]at hd;rw[cnt]at i;have e:=x r (by lia) c (by lia);have u:=qi r;rw[toD,tx];refine be (fV (hdT jA) U) (eW (jR (hdT (beq_self_eq_true _)) (aR (aI U (aA (ao (aI U U (ix1 st _ _ _)) U) e) ?_))));exact j8 (a:=[33]) (by simp;lia)
 |.gr g k rs,hd,c,i=>by
  have hm:=m g k rs c (by rw[dep]at hd;lia) (by rw[cnt]at i;lia);rw[lc]at c;rw[dep]at hd;rw[cnt]at i;have t:=xv rs;have v:=Ae rs;have h:lcI (.nm 0) bg te [none] (cA rs) st=some (rs.map λr=>D.str (S (tx r)),st):=B3 (λr=>D.str (S (tx r))) λq o=>by
   rw[p];exact aA U (x q (lV (by lia:lD rs<=n) q o) (qT c.2.2.2 q o) (by have:=uf o;lia))
  have hok:JoinOk (" " : Str) (rs.map λr=>S (tx r))=true:=by
   refine qbv ?_ (by decide);rw[qan];lia
  obtain⟨l,u⟩:=CM g k (cA rs);have f:=yH st g k (cA rs);have j:(cA rs).length<=1000000:=by rw[kI,qan];lia
  rw[toD]at hm ⊢;rw[tx];generalize cA rs=TD at *;have B:bh (iOp dIx (iV 0) (iUn jX (iC (.int 1)))) [Z (grD g k TD),Z (.str (S [mkC g k]))] st=some (TD,st):=by
   have:iOp dIx (iV 0) (iUn jX (iC (.int 1))) [Z (grD g k TD),Z (.str (S [mkC g k]))] st=some (.d (.tup TD),st):=aI U U f
   simp only[bh,this,qaa,e8,qak]
  have z:ay (iLc 1 [] (bh (iOp dIx (iV 0) (iUn jX (iC (.int 1))))) (.nm 0) bg te) [Z (grD g k TD),Z (.str (S [mkC g k]))] st=some (.d (.lst (rs.map λr=>D.str (S (tx r)))),st):=bx (eI B j h);have w:fJ (iC (.str " ")) (ae (ay (iLc 1 [] (bh (iOp dIx (iV 0) (iUn jX (iC (.int 1))))) (.nm 0) bg te)) ah) [Z (grD g k TD),Z (.str (S [mkC g k]))] st=some (.d (.str (S (txs rs))),st):=by
   have y:iC (.str " ") [Z (grD g k TD),Z (.str (S [mkC g k]))] st=some (.d (.str " "),st):=rfl
   have A:ae (ay (iLc 1 [] (bh (iOp dIx (iV 0) (iUn jX (iC (.int 1))))) (.nm 0) bg te)) ah [Z (grD g k TD),Z (.str (S [mkC g k]))] st=some ([.d (.lst (rs.map λr=>D.str (S (tx r))))],st):=ao z U;simp only[fJ,y,A,qaa,xt,hok,if_true,A2]
  rw[u]at hm w ⊢;refine be (fV (hdT (FW g)) U) (be (fV (hdT (FV g)) U) (be (aM hm) (aR (aI (aI (aI U U (j8 (b:=[40]) (by simp))) w (j8 ?_)) U ?_))))
  ·simp;lia
  ·have:=j8 (s:=st) (a:=[mkC g k]++[40]++txs rs) (b:=[41]) (by simp;lia)
   rw[show [mkC g k]++[40]++txs rs++[41]=mkC g k::40::(txs rs++[41]) by simp]at this;exact this
theorem Ez {k:Int} (b:0<=k) (c:k<=9) (s:Sto):nW s [.d (.int k)]=some (.str (S [48+k.toNat])):=by
 have a:k.natAbs.log2<1920:=by
  have:k.natAbs.log2<=k.natAbs:=Nat.log2_le_self _
  lia
 show (if k.natAbs.log2<1920 then some (D.str (toString k)) else none)=_;rw[iFP a]
 have:k=0\/k=1\/k=2\/k=3\/k=4\/k=5\/k=6\/k=7\/k=8\/k=9:=by lia
 rcases this with rfl|rfl|rfl|rfl|rfl|rfl|rfl|rfl|rfl|rfl<;>rfl
theorem D0 {c:Tf}{a b:Ef}{env:Ev}{st s:Sto}{r:Option (W×Sto)} (h:c env st=some (true,s)) (d:a env s=r):gj c a b env st=r:=by
 simp only[gj,h,qaa,if_true,d]
theorem vP {c:Tf}{a b:Ef}{env:Ev}{st s:Sto}{r:Option (W×Sto)} (h:c env st=some (false,s)) (d:b env s=r):gj c a b env st=r:=by
 simp only[gj,h,qaa,qaE,if_false,d]
theorem xp {st:Sto}:∀ (n:Nat) (r:Ru),dep r<=n->lc 6 r->cnt r<=100->bS n [.d (toD r)] st=some (.d (.str (S (tx r))),st)
 |0,r,h,_,_=>by have:=se r;lia
 |n+1,r,hd,a,f=>by
  refine bz (n:=2) (k:=1) (b:=gR (bS n)) U ?_;refine yq (self:=bS n) (te:=lm (bS n)) (λq c e i=>xp n q c e i) U (λg k rs a _ _=>?_) r hd a f;rw[lc]at a;rw[toD];cases g with
  |all=>exact vP (hdT nA) (zJ (aI U U (ix0 st _ _)) U)
  |any=>exact vP (hdT nB) (zJ (aI U U (ix0 st _ _)) U)
  |odd=>exact vP (hdT nC) (zJ (aI U U (ix0 st _ _)) U)
  |least=>exact D0 (hdT (beq_self_eq_true _)) (bQ (ao (aI U U (ix1 st _ _ _)) U) (Ez a.1 a.2.1 st))
end Own
set_option maxHeartbeats 1000000
namespace Own
open PySem L2
open PySem.NumText in
def dg (m:Nat):List Nat:=(Nat.toDigits 10 m).map Char.toNat
theorem xr (m:Nat):(toString ((m:Nat):Int):Str)=S (dg m):=by
 have h:=qhO m;show (qbo (toString ((m:Nat):Int)))=S (dg m);generalize qbo (toString ((m:Nat):Int))=x at h;obtain⟨a⟩:=x;show (⟨a⟩:Str)=⟨(dg m).toArray⟩
 congr 1
 have h:a.toList=dg m:=h;rw[<-h]
theorem si {m:Nat} (h:m<10):dg m=[48+m]:=by
 unfold dg;rw[Nat.toDigits_of_lt_base h]
 have:m=0\/m=1\/m=2\/m=3\/m=4\/m=5\/m=6\/m=7\/m=8\/m=9:=by lia
 rcases this with rfl|rfl|rfl|rfl|rfl|rfl|rfl|rfl|rfl|rfl<;>rfl
theorem n8 {m d:Nat} (a:0<m) (hd:d<10):dg (10*m+d)=dg m++[48+d]:=by
 have t:=Nat.toDigits_append_toDigits (b:=10) (n:=m) (d:=d) (by decide) a hd;rw[<-si hd];unfold dg;rw[<-t,qeB]
def lI:Nat->Nat->List Nat
 |0,_=>[]
 |k+1,s=>lI k (s / 10)++[48+s%10]
theorem mr:∀ (k s:Nat),(lI k s).length=k
 |0,_=>rfl
 |k+1,s=>by rw[lI,qai,mr k];rfl
theorem re:∀ k:Nat,lI k 0=qax k 48
 |0=>rfl
 |k+1=>by
  rw[lI,Nat.zero_div,re k,Nat.zero_mod,qfm]
theorem yx:∀ (k q s:Nat),0<q->s<10^k->dg (q*10^k+s)=dg q++lI k s
 |0,q,s,_,a=>by
  have:s=0:=by rw[qhD]at a;lia
  subst this;rw[lI,qa5,qhD,Nat.mul_one,Nat.add_zero]
 |k+1,q,s,b,a=>by
  rw[qdM]at a;have e:q*10^(k+1)+s=10*(q*10^k+s / 10)+s%10:=by
   rw[qdM];have d:q*(10^k*10)=10*(q*10^k):=by rw[<-qgL,qes]
   rw[d]
   have:=qc4 s 10
   lia
  have c:0<q*10^k:=Nat.mul_pos b (Nat.pow_pos (by decide));rw[e,n8 (by lia) (qdR _ (by decide)),yx k q (s / 10) b (by lia),lI,qbK]
theorem sh:∀ {k m:Nat},1<=k->m<10^k->(dg m).length<=k:=λ{k m} a hm=>by
 unfold dg;rw[qan];exact qhy a hm
theorem rc:∀ (k s:Nat),1<=k->s<10^k->qax (k - (dg s).length) 48++dg s=lI k s
 |0,_,h,_=>by lia
 |k+1,s,_,a=>by
  by_cases h:s<10
  ·rw[si h,lI,Nat.div_eq_of_lt h,re,Nat.mod_eq_of_lt h];rfl
  ·have d:1<=k:=by
    rcases qfN k with rfl|b
    ·rw[qa8,qhQ]at a;lia
    ·exact b
   have e:s=10*(s / 10)+s%10:=(qc4 s 10).symm;have f:dg s=dg (s / 10)++[48+s%10]:=by
    conv=>lhs;rw[e]
    exact n8 (by lia) (qdR _ (by decide))
   rw[qdM]at a;have c:=rc k (s / 10) d (by lia);rw[f,lI,<-c,qai,qaY,Nat.add_sub_add_right,qbK]
theorem ui (m:Nat):dg m≠[]:=λe=>by
 by_cases hm:m<10
 ·rw[si hm]at e;cases e
 ·have a:dg m=dg (m / 10)++[48+m%10]:=by
   conv=>lhs;rw[<-qc4 m 10]
   exact n8 (by lia) (qdR _ (by decide))
  rw[a]at e
  simp at e
theorem jw {m c:Nat} (h:c∈dg m):48<=c/\c<=57:=by
 induction m using Nat.strongRecOn with
 |_ m a=>
  by_cases hm:m<10
  ·rw[si hm]at h
   have:=qaz.mp h
   lia
  ·have b:dg m=dg (m / 10)++[48+m%10]:=by
    conv=>lhs;rw[<-qc4 m 10]
    exact n8 (by lia) (qdR _ (by decide))
   rw[b]at h;rcases qba.mp h with h|h
   ·exact a (m / 10) (by lia) h
   ·have:=qaz.mp h
    have:=qdR m (show 10 > 0 by decide)
    lia
theorem sj (m:Nat):qbM (dg m)=m:=qhN m
theorem CI {m n:Nat} (h:dg m=dg n):m=n:=by rw[<-sj m,h,sj]
theorem vE (a b:String):qbo (a++b)=qbo a++qbo b:=by
 have c:=qcN (a++b);have d:=qcN a;have e:=qcN b;rw[String.toList_append,qeB,<-d,<-e]at c;generalize qbo (a++b)=x at *;generalize qbo a=y at *;generalize qbo b=z at *;obtain⟨x⟩:=x;obtain⟨y⟩:=y;obtain⟨z⟩:=z;show (⟨x⟩:Str)=⟨y++z⟩
 congr 1
 apply qdu.mp;rw[Array.toList_append];exact c
def cE (n:Int):List Nat:=if n<0 then 45::dg n.natAbs else dg n.natAbs
theorem BL (n:Int):(toString n:Str)=S (cE n):=by
 unfold cE;by_cases h:n<0
 ·rw[iFP h]
  obtain⟨m,rfl⟩:∃ m:Nat,n=-((m+1:Nat):Int):=⟨n.natAbs - 1,by lia⟩;have e:(-((m+1:Nat):Int)).natAbs=m+1:=by lia
  rw[e];have b:=xr (m+1);have a:(toString (-((m+1:Nat):Int)):String) = "-"++toString (((m+1:Nat):Nat):Int):=rfl
  rw[a];show qbo ("-"++toString ((m+1:Nat):Int))=_
  rw[vE];show S [45]++qbo (toString ((m+1:Nat):Int))=_;rw[show qbo (toString ((m+1:Nat):Int))=S (dg (m+1)) from b,jO];rfl
 ·rw[iFN h]
  obtain⟨m,rfl⟩:=qdx (by lia:0<=n);exact xr m
theorem om {n:Int} (h:n.natAbs<10^60):(cE n).length<=61:=by
 unfold cE
 have:=sh (k:=60) (by decide) h
 split
 ·rw[qaf];lia
 ·lia
theorem ze (n:Int):cE n≠[]:=by
 unfold cE;split
 ·simp
 ·exact ui _
theorem zf {n:Int}:cE n=[48]↔n=0:=by
 refine⟨λh=>?_,λh=>by subst h;rfl⟩;unfold cE at h;split at h
 ·cases h
 ·have:=CI (h.trans (show [48]=dg 0 from U));lia
theorem uF {n:Int}{c:Nat} (h:c∈cE n):c=45\/(48<=c/\c<=57):=by
 unfold cE at h;split at h
 ·rcases qat.mp h with h|h
  ·exact .inl h
  ·exact .inr (jw h)
 ·exact .inr (jw h)
theorem AU {n:Int} (h:n.natAbs<10^60):qeH (S (cE n))=some n:=by
 have d:=om h;by_cases b:n<0
 ·have e:cE n=45::dg n.natAbs:=by unfold cE;rw[iFP b]
  rw[e]at d ⊢
  have:=qfB (x:=S (45::dg n.natAbs)) (cs:=dg n.natAbs) U (λc a=>jw a) (ui _) (by rw[cn];lia)
  rw[this,sj]
  congr 1
  lia
 ·have e:cE n=dg n.natAbs:=by unfold cE;rw[iFN b]
  rw[e]at d ⊢
  have:=qfc (x:=S (dg n.natAbs)) (λc a=>jw a) (ui _) (by rw[cn];lia)
  rw[this];show some ((qbM (dg n.natAbs):Nat):Int)=_;rw[sj]
  congr 1
  lia
end Own
set_option maxHeartbeats 1000000
namespace Own
open PySem L2
theorem kY {a:Af}{env:Ev}{st s:Sto}{ws:List W}{ds:List D} (h:a env st=some (ws,s)) (hd:fz ws=some ds) (b:ds.length<=1000:=by decide):aQ a env st=some (.d (.tup ds),s):=by
 simp only[aQ,h,hd,b,qaa,if_true]
theorem on {a:Af}{env:Ev}{st s:Sto}{ws:List W}{ds:List D} (h:a env st=some (ws,s)) (hd:fz ws=some ds) (b:ds.length<=1000:=by decide):cL a env st=some (ds,s):=by
 simp only[cL,h,hd,b,qaa,if_true]
theorem E2 (s:Sto) {a b:Int} (h:0<b):jW s (.d (.int a)) (.d (.int b))=some (.int (a%b)):=iFP h
theorem CK (s:Sto) {a b:Int} (h:0<b/\b<1073741824):oW s (.d (.int a)) (.d (.int b))=some (.int (a / b)):=iFP h
theorem EG (s:Sto) {a b:Int}{k:Bool} (h:decide (a > b)=k):dGt s (.d (.int a)) (.d (.int b))=some (.bl k):=by rw[<-h];rfl
theorem Dg (s:Sto) {a b:Int}{k:Bool} (h:decide (a<b)=k):dLt s (.d (.int a)) (.d (.int b))=some (.bl k):=by rw[<-h];rfl
theorem eqT (s:Sto) (a b:Str):dEq s (.d (.str a)) (.d (.str b))=some (.bl (a==b)):=BW s a b
theorem neT (s:Sto) (a b:Str):dNe s (.d (.str a)) (.d (.str b))=some (.bl (!(a==b))):=by
 show ((eqK (.fl (.str a)) (.fl (.str b))).map λk=>D.bl (!k))=_;rfl
theorem EV {n:Nat} (h:n<10^120):n.log2<1920:=by
 by_cases b:n=0
 ·rw[b];decide
 ·rw[qhS b]
  have a:(10:Nat)^120<=16^120:=Nat.pow_le_pow_left (by decide) _;have c:(16:Nat)^120=2^480:=by rw[show (16:Nat)=2^4 from U,<-qhR]
  have d:(2:Nat)^480<=2^1920:=qb8 (by decide) (by decide);rw[c]at a;exact qaD h (qaU a d)
theorem BK {s:Sto}{n:Int} (h:n.natAbs<10^120):nW s [.d (.int n)]=some (.str (S (cE n))):=by
 show (if n.natAbs.log2<1920 then some (D.str (toString n)) else none)=_;rw[iFP (EV h),BL]
theorem wM (m:Nat):cE (m:Int)=dg m:=by
 unfold cE;rw[iFN (by lia)]
 congr 1
theorem yf {s:Nat} (h:s<10^18):qfk (S (dg s)) 18=S (lI 18 s):=by
 have f:=sh (k:=18) (by decide) h;have a:=rc 18 s (by decide) h;unfold qfk;rw[cn];by_cases b:(18:Int)<=((dg s).length:Nat)
 ·rw[iFP b]
  have e:18 - (dg s).length=0:=by lia
  rw[e,qaM,qaI]at a;rw[a]
 ·rw[iFN b]
  have d:qgk (S (dg s)) ((18:Int).toNat - (dg s).length)=qf2 (S (dg s)) ((18:Int).toNat - (dg s).length) 0 48:=by
   unfold qgk;cases hd:dg s with
   |nil=>exact absurd hd (ui s)
   |cons c r=>
    have g:=jw (m:=s) (c:=c) (by rw[hd];simp);have e:(S (c::r)).cps[0]?=some c:=rfl;rw[e];split
    ·rename_i h;injection h with h;lia
    ·rename_i h;injection h with h;lia
    ·rfl
  rw[d,<-a];show (⟨qf7 ((18:Int).toNat - (dg s).length) 48++(dg s).toArray++qf7 0 48⟩:Str)=⟨(qax (18 - (dg s).length) 48++dg s).toArray⟩
  congr 1
  apply qdu.mp
  simp
def B18:Nat:=1000000000000000000
theorem rB:B18=10^18:=by decide
theorem u7 {st:Sto}{x:Option W}:∀ (k a r:Nat) (F:List Nat),r<B18^(k+1)->k<a->F.length+18*k<=1000->
  ∃ (F':List Nat) (r':Nat),r'<B18/\dg r++F=dg r'++F'/\F'.length<=F.length+18*k/\fE gD jT a [x,Z (.str (S F)),Z (.int (r:Int))] st=some (.nx [x,Z (.str (S F')),Z (.int (r':Int))] st)
 |k,a,r,F,g,y,w=>by
  obtain⟨a,rfl⟩:∃ m,a=m+1:=⟨a - 1,by lia⟩;have c0:gD [x,Z (.str (S F)),Z (.int (r:Int))] st=some (decide ((r:Int)>=1000000000000000000),st):=rfl;by_cases p:r<B18
  ·rw[decide_eq_false (by have:B18=1000000000000000000:=rfl;lia)]at c0
   exact⟨F,r,p,U,by lia,Cg c0⟩
  ·rw[decide_eq_true (by have:B18=1000000000000000000:=rfl;lia)]at c0
   obtain⟨k,rfl⟩:∃ j,k=j+1:=⟨k - 1,by
    rcases qfN k with rfl|h
    ·rw[qa8,qhQ]at g;lia
    ·lia⟩
   have b:0<B18:=by decide
   have f:r%B18<10^18:=by rw[<-rB];exact qdR _ b
   have v:r / B18<B18^(k+1):=by
    rw[Nat.div_lt_iff_lt_mul b,<-qdM];exact g
   have c:0<r / B18:=Nat.div_pos (by lia) b;obtain⟨F',r',i,o,u,s⟩:=u7 (st:=st) (x:=x) k a (r / B18) (lI 18 (r%B18)++F) v (by lia) (by rw[qai,mr];lia);rw[qai,mr]at u;refine⟨F',r',i,?_,by lia,xi (e:=[x,Z (.str (S (lI 18 (r%B18)++F))),Z (.int ((r / B18:Nat):Int))]) (s2:=st) c0 ?_ s⟩
   ·rw[<-o,<-qbK,<-yx 18 (r / B18) (r%B18) c f,<-rB]
    congr 2
    rw[qes];exact (qc4 r B18).symm
   ·have t:jW st (.d (.int (r:Int))) (.d (.int 1000000000000000000))=some (.int ((r%B18:Nat):Int)):=by
     rw[E2 st (by decide)];show some (D.int ((r:Int)%((B18:Nat):Int)))=_;rw[<-Int.natCast_emod]
    have n:nW st [.d (.int ((r%B18:Nat):Int))]=some (.str (S (dg (r%B18)))):=by
     rw [BK (by
      have:(((r%B18:Nat):Int)).natAbs=r%B18:=by lia
      rw[this]
      exact qaD f (qb8 (by decide) (by decide))),wM]
    have q:iZf (iCB nW (ae (iOp jW (iV 2) (iC (.int 1000000000000000000))) ah)) (ae (iC (.int 18)) ah) [x,Z (.str (S F)),Z (.int (r:Int))] st=some (.d (.str (S (lI 18 (r%B18)))),st):=by
     have g1:iCB nW (ae (iOp jW (iV 2) (iC (.int 1000000000000000000))) ah) [x,Z (.str (S F)),Z (.int (r:Int))] st=some (.d (.str (S (dg (r%B18)))),st):=bQ (ao (aI U U t) U) n;have g2:ae (iC (.int 18)) ah [x,Z (.str (S F)),Z (.int (r:Int))] st=some ([.d (.int 18)],st):=rfl;have g3:PySem.PadOk 18=true:=by decide
     simp only[iZf,g1,g2,qaa,g3,if_true,yf f]
    have l:yw st (.d (.int (r:Int))) (.d (.int 1000000000000000000))=some (.int ((r / B18:Nat):Int)):=by
     have:yw st (.d (.int (r:Int))) (.d (.int 1000000000000000000))=some (.int ((r:Int) / 1000000000000000000)):=by
      show (if (0:Int)<1000000000000000000/\(1000000000000000000:Int)<1000000000000000000000000000000000000000000000000000000000000 then some (D.int ((r:Int) / 1000000000000000000)) else none)=_;rw[iFP (by decide)]
     rw[this];show some (D.int ((r:Int) / ((B18:Nat):Int)))=_;rw[<-Int.natCast_ediv]
    exact be (aM (aI q U (j8 (by rw[mr];lia)))) (aM (aI U U l))
theorem Es {s:Sto} (n:Int):oV s [.d (.int n)]=some (.int ((n.natAbs:Nat):Int)):=by
 show some (D.int (if n<0 then -n else n))=_
 congr 2
 split<;>lia
theorem Co {st:Sto}{n:Int}{env:Ev} (i:Nat) (a:iV i env st=some (.d (.int n),st)):gj (aC dLt (iV i) (iC (.int 0))) (iC (.str "-")) (iC (.str "")) env st=some (.d (.str (S (if n<0 then [45] else []))),st):=by
 by_cases h:n<0
 ·rw[iFP h]
  exact pY (aS a U (Dg _ (decide_eq_true h))) U
 ·rw[iFN h]
  exact kD (aS a U (Dg _ (decide_eq_false h))) U
theorem z8 {st:Sto}{n:Int} (h:n.natAbs<10^60):jf [.d (.int n)] st=some (.d (.str (S (cE n))),st):=by
 have i:n.natAbs<B18^(3+1):=by
  rw[rB,<-qhR];exact qaD h (qb8 (by decide) (by decide))
 obtain⟨F',r',f,c,m,l⟩:=u7 (st:=st) (x:=some (.d (.int n))) 3 1000 n.natAbs [] i (by decide) (by decide);rw[qa5]at c;rw[qaN]at m;have a:r'<10^18:=by rw[<-rB];exact f
 have o:=sh (k:=18) (by decide) a;have j:nW st [.d (.int (r':Int))]=some (.str (S (dg r'))):=by
  rw [BK (by
   have:((r':Int)).natAbs=r':=by lia
   rw[this]
   exact qaD a (qb8 (by decide) (by decide))),wM]
 have g:(if n<0 then [45] else ([]:List Nat)).length<=1:=by split<;>simp
 have e:cE n=(if n<0 then [45] else [])++dg r'++F':=by
  rw[qbK,<-c];unfold cE;split<;>rfl
 rw[e];refine bz (n:=3) (k:=1) (b:=gG) U (be (aM U) (be (aM (bQ (ao U U) (Es n))) (be (show kl 1000 _ _ _ _=_ from l) (aR (aI (aI (Co 0 U) (bQ (ao U U) j) (j8 (by lia))) U (j8 (by rw[qai];lia)))))))
end Own
set_option maxHeartbeats 1000000
namespace Own
open PySem L2
theorem ug (ds:List D) (j:Nat):mK ds (some (j:Int)) none=ds.drop j:=by
 unfold mK;rw[HT.sIx_nat];by_cases h:j<=ds.length
 ·rw[qdN h,qcL (by rw[qbC];exact qaw _)]
 ·rw[qgb (by lia),qcM (qaw _),qcM (by lia),List.take_nil]
theorem lh {f:Ef}{env:Ev}{st s:Sto}{k:Bool} (h:f env st=some (.d (.bl k),s)):bJ bG f env st=some (k,s):=by
 simp only[bJ,h,qaa,bG,qak]
theorem ig {f:Tf}{env:Ev}{st s:Sto}{k:Bool} (h:f env st=some (k,s)):ba f env st=some (!k,s):=by
 simp only[ba,h,qaa,qak]
theorem mw {a b:Tf}{env:Ev}{st s s':Sto}{k:Bool} (d:a env st=some (false,s)) (c:b env s=some (k,s')):dv a b env st=some (k,s'):=by
 simp only[dv,d,c,qaa,qaE,if_false]
theorem DX {a:Af}{env:Ev}{st s:Sto}{bs:List Bool} (h:a env st=some ([.d (.lst (bs.map D.bl))],s)):iCB qx a env st=some (.d (.bl (bs.all id)),s):=by
 refine bQ h ?_;show (jv _).map _=_;rw[oR];rfl
def ups {α:Type} (R:α->α->Bool):List α->Bool
 |x::y::r=>R x y&&ups R (y::r)
 |_=>true
theorem Ao {α:Type}{R:α->α->Bool}:∀ {l:List α},l.Pairwise (λa b=>R a b=true)->ups R l=true
 |[],_=>rfl
 |[x],_=>rfl
 |x::y::r,h=>by
  have c:=qci.mp h;rw[ups,c.1 y qae];exact Ao c.2
mutual
def smD:D->Bool
 |.tup ds=>decide (ds.length<=1000)&&Aa ds
 |.ty _=>false
 |.scr _=>false
 |_=>true
def Aa:List D->Bool
 |[]=>true
 |d::ds=>smD d&&Aa ds
end
theorem u2:∀ ds:List D,Aa ds=ds.all smD
 |[]=>by rw[Aa];rfl
 |d::ds=>by rw[Aa,u2 ds];rfl
theorem hW {ds:List D}:smD (.tup ds)=true↔ds.length<=1000/\∀ d∈ds,smD d=true:=by
 rw[smD,u2,qao,decide_eq_true_eq,qas]
def wh:D->Bool
 |.int _=>true
 |_=>false
def vo:D->Bool
 |.tup _=>true
 |_=>false
def C4:D->Bool
 |.str _=>true
 |_=>false
theorem og {st:Sto}{d:D} (h:smD d=true):cC st [.d d,.d (.ty "tuple")]=some (.bl (vo d)):=by
 cases d<;>first|rfl|(simp[smD]at h)
theorem A0 {st:Sto}{d:D} (h:smD d=true):cC st [.d d,.d (.ty "str")]=some (.bl (C4 d)):=by
 cases d<;>first|rfl|(simp[smD]at h)
theorem rz {st:Sto}{d:D} (h:smD d=true):iG [.d d] st=some (.d (.bl (wh d)),st):=by
 cases d<;>first|rfl|(simp[smD]at h)
theorem xc {a b:Tf}{env:Ev}{st s:Sto} (c:a env st=some (true,s)):dv a b env st=some (true,s):=by
 simp only[dv,c,qaa,if_true]
def wi (lo:Int):D->Bool
 |.int i=>decide (lo<=i)&&decide (i<=5)
 |_=>false
theorem pX {a b:Ef}{env:Ev}{st s s':Sto}{x:W} (e:a env st=some (.d (.bl true),s)) (c:b env s=some (x,s')):du a b env st=some (x,s'):=by
 simp only[du,e,c,qaa,blW,if_true]
theorem pW {a b:Ef}{env:Ev}{st s:Sto} (c:a env st=some (.d (.bl false),s)):du a b env st=some (.d (.bl false),s):=by
 simp only[du,c,qaa,blW,qaE,if_false]
theorem DZ {a b c:Ef}{env:Ev}{st:Sto}{x y z:Int} (g1 g2:Sto->W->W->Option D) {k1 k2:Bool} (g:a env st=some (.d (.int x),st)) (f:b env st=some (.d (.int y),st)) (i:c env st=some (.d (.int z),st)) (e:g1 st (.d (.int x)) (.d (.int y))=some (.bl k1)) (h:g2 st (.d (.int y)) (.d (.int z))=some (.bl k2)) :
  mO g1 g2 a b c env st=some (.d (.bl (k1&&k2)),st):=by
 cases k1<;>simp only[mO,g,f,i,e,h,qaa,iM,if_true,qaE,if_false,qak,qbZ,qgp]
theorem wb {st:Sto}{d:D}{lo:Int} (h:smD d=true):cW [.d d,.d (.int lo),.d (.int 5)] st=some (.d (.bl (wi lo d)),st):=by
 have e:=rz (st:=st) h;refine bz (n:=3) (k:=3) (b:=gO) U (aR ?_);cases hw:wh d with
 |false=>
  rw[hw]at e
  have:wi lo d=false:=by cases d<;>first|rfl|cases hw
  rw[this];exact pW (aA U e)
 |true=>
  rw[hw]at e;cases d with
  |int i=>exact pX (aA U e) (DZ dLe dLe U U U U U)
  |_=>cases hw
def ph:D->Int
 |.int i=>i
 |_=>0
def tmF:Int->List D->Bool
 |_,[]=>true
 |a,d::ds=>wi (a+1) d&&tmF (ph d) ds
def isT:D->Bool
 |.tup a=>tmF (-1) a
 |_=>false
theorem rh {st:Sto}{x:Option W}:∀ (b:List D) (a:Int) (o:Option W),(∀ k∈b,smD k=true)->
  (tmF a b=true/\∃ y z,gx (.nm 2) gT b [x,Z (.int a),o] st=some (.nx [x,y,z] st))\/(tmF a b=false/\gx (.nm 2) gT b [x,Z (.int a),o] st=some (.rt (.d (.bl false)) st))
 |[],a,o,_=>.inl ⟨U,_,_,U⟩
 |k::b,a,o,h=>by
  have e:=wb (st:=st) (lo:=a+1) (h k qae);have f:dC (.nm 2) (.d k) [x,Z (.int a),o]=some [x,Z (.int a),Z k]:=rfl;have c1:ba (bJ bG (au cW (ae (iV 2) (ae (iOp aU (iV 1) (iC (.int 1))) (ae (iC (.int 5)) ah))))) [x,Z (.int a),Z k] st=some (!wi (a+1) k,st):=ig (lh (aA (ao U (ao (aI U U U) (ao U U))) e));cases hw:wi (a+1) k with
  |false=>
   rw[hw]at c1;refine .inr ⟨by rw[tmF,hw];rfl,?_⟩;have c:gT [x,Z (.int a),Z k] st=some (.rt (.d (.bl false)) st):=eW (jR c1 (aR U));rw[gx,f,qaa,c];rfl
  |true=>
   rw[hw]at c1;obtain⟨i,rfl⟩:∃ i,k=.int i:=by cases k<;>first|exact⟨_,U⟩|cases hw
   have c:gT [x,Z (.int a),Z (.int i)] st=some (.nx [x,Z (.int i),Z (.int i)] st):=be (fV c1 U) (aM U);have l:tmF a (.int i::b)=tmF i b:=by rw[tmF,hw,qbZ];rfl
   rw[l];have g:=rh (st:=st) (x:=x) b i (Z (.int i)) λq j=>h q (qah _ j);rw[gx,f,qaa,c];exact g
theorem Ag {st:Sto}{d:D} (h:smD d=true):mW [.d d] st=some (.d (.bl (isT d)),st):=by
 refine bz (n:=3) (k:=1) (b:=jm) U ?_;have c:iCB cC (ae (iV 0) (ae (iC (.ty "tuple")) ah)) [Z d,none,none] st=some (.d (.bl (vo d)),st):=bQ (ao U (ao U U)) (og h)
 show jm [Z d,none,none] st=_;cases ht:vo d with
 |false=>
  rw[ht]at c
  have:isT d=false:=by cases d<;>first|rfl|cases ht
  rw[this];exact eW (jR (ig (lh c)) (aR U))
 |true=>
  rw[ht]at c;obtain⟨a,rfl⟩:∃ a,d=.tup a:=by cases d<;>first|exact⟨_,U⟩|cases ht
  rcases rh (st:=st) (x:=some (.d (.tup a))) a (-1) none (hW.mp h).2 with⟨t,y,z,e⟩|⟨t,e⟩
  ·rw[show isT (.tup a)=true from t]
   exact be (fV (ig (lh c)) U) (be (aM U) (be (im (eV U) e) (aR U)))
  ·rw[show isT (.tup a)=false from t]
   exact be (fV (ig (lh c)) U) (be (aM U) (eW (im (eV U) e)))
def wl:D->Bool
 |.int i=>decide (0<=i)&&decide (i<6)
 |_=>false
theorem tW:∀ {b:List D},b.all wl=true->∃ a:List Int,b=a.map D.int/\∀ t∈a,0<=t/\t<6
 |[],_=>⟨[],U,λ_ h=>nomatch h⟩
 |k::b,h=>by
  rw[qaQ,qao]at h;obtain⟨a,rfl,d⟩:=tW h.2;cases k with
  |int i=>
   have c:=h.1;simp only[wl,qao,decide_eq_true_eq]at c;exact⟨i::a,U,λt hm=>by rcases qat.mp hm with rfl|hm;exact c;exact d t hm⟩
  |_=>cases h.1
theorem Aj:∀ (b:List D) (a:Int),-1<=a->tmF a b=true->b.all wl=true
 |[],_,_,_=>rfl
 |k::b,a,d,h=>by
  rw[tmF,qao]at h;cases k with
  |int i=>
   have c:=h.1;simp only[wi,qao,decide_eq_true_eq]at c
   have:=Aj b i (by lia) h.2
   rw[qaQ,this,qee];simp only[wl,qao,decide_eq_true_eq];lia
  |_=>cases h.1
theorem tR:∀ (b:List Int) (a:Int),(∀ t∈b,0<=t/\t<6)->tmF a (b.map D.int)=ups (λx y:Int=>decide (x<y)) (a::b)
 |[],_,_=>rfl
 |t::b,a,h=>by
  have g:=h t qae;have c:=tR b t λq f=>h q (qah _ f);rw[qal,tmF,ups];show ((decide (a+1<=t)&&decide (t<=5))&&tmF t (b.map D.int))=_;rw[c];have e:decide (a+1<=t)=decide (a<t):=by rw[decide_eq_decide];lia
  have d:decide (t<=5)=true:=decide_eq_true (by lia);rw[e,d,qee]
theorem AY {a:List D}:isT (.tup a)=(a.all wl&&(match a.all wl with|true=>ups (λx y:Int=>decide (x<y)) (a.map ph)|false=>false)):=by
 show tmF (-1) a=_;cases h:a.all wl with
 |false=>
  cases h2:tmF (-1) a with
  |false=>rfl
  |true=>rw[Aj a (-1) (by decide) h2]at h;cases h
 |true=>
  obtain⟨b,rfl,c⟩:=tW h;have e:(b.map D.int).map ph=b:=by rw[qaX];exact qdH b
  rw[tR b (-1) c,qbZ];dsimp only;rw[e];cases b with
  |nil=>rfl
  |cons t b=>
   rw[ups]
   have:=(c t qae).1
   rw[decide_eq_true (by lia:(-1:Int)<t),qbZ]
theorem Ap:∀ {l:List Int},ups (λx y:Int=>decide (x<y)) l=true->l.Pairwise (·<·)
 |[],_=>.nil
 |[x],_=>by simp
 |x::y::r,h=>by
  rw[ups,qao]at h;have c:=Ap h.2;have a:x<y:=of_decide_eq_true h.1;refine qci.mpr ⟨λz b=>?_,c⟩;rcases qat.mp b with rfl|b
  ·exact a
  ·exact Int.lt_trans a ((qci.mp c).1 z b)
theorem qh:∀ {l:List Nat},(∀ x∈l,x<=10)->l.sum<=10*l.length
 |[],_=>qaw _
 |x::l,h=>by
  have c:=h x qae;have b:=qh (l:=l) λy a=>h y (qah _ a);rw[qdt,qaf];lia
def nz:D->Bool
 |.int i=>decide (i≠0)
 |_=>true
def nY:D->Bool
 |.tup [t,n]=>isT t&&(wh n&&nz n)
 |_=>false
theorem Df {st:Sto} (ds:List D):bN st [.d (.tup ds)]=some (.int (ds.length:Int)):=rfl
theorem neI (s:Sto) (a b:Int):dNe s (.d (.int a)) (.d (.int b))=some (.bl (!(a==b))):=by
 show ((eqK (.fl (.int a)) (.fl (.int b))).map λk=>D.bl (!k))=_;rfl
theorem E6 {st:Sto}{d:D}{env:Ev} (h:smD d=true) (hn:∀ a b,d≠.tup [a,b]) (i:Nat) (f:iV i env st=some (.d d,st)) :
  dv (ba (bJ bG (iCB cC (ae (iV i) (ae (iC (.ty "tuple")) ah))))) (aC dNe (iCB bN (ae (iV i) ah)) (iC (.int 2))) env st=some (true,st):=by
 have e:iCB cC (ae (iV i) (ae (iC (.ty "tuple")) ah)) env st=some (.d (.bl (vo d)),st):=bQ (ao f (ao U U)) (og h)
 cases ht:vo d with
 |false=>rw[ht]at e;exact xc (ig (lh e))
 |true=>
  rw[ht]at e;obtain⟨c,rfl⟩:∃ c,d=.tup c:=by cases d<;>first|exact⟨_,U⟩|cases ht
  have g:((c.length:Int)==2)=false:=beq_eq_false_iff_ne.mpr λz=>by
   have j:c.length=2:=by lia
   match c,j with
   |[a,b],_=>exact hn a b U
  exact mw (ig (lh e)) (aS (bQ (ao f U) (Df c)) U (by rw[neI,g];rfl))
theorem is2 {st:Sto}{a b:D}{env:Ev} (h:smD (.tup [a,b])=true) (i:Nat) (c:iV i env st=some (.d (.tup [a,b]),st)) :
  dv (ba (bJ bG (iCB cC (ae (iV i) (ae (iC (.ty "tuple")) ah))))) (aC dNe (iCB bN (ae (iV i) ah)) (iC (.int 2))) env st=some (false,st):=by
 have e:iCB cC (ae (iV i) (ae (iC (.ty "tuple")) ah)) env st=some (.d (.bl true),st):=bQ (ao c (ao U U)) (og h)
 exact mw (ig (lh e)) (aS (bQ (ao c U) (Df [a,b])) U (by rw[neI];rfl))
theorem ut {d:D} (h:∀ a b,d≠.tup [a,b]):nY d=false:=by
 unfold nY;split
 ·rename_i a b;exact absurd U (h a b)
 ·rfl
theorem v8 (d:D):(∃ a b,d=.tup [a,b])\/∀ a b,d≠.tup [a,b]:=by
 by_cases h:∃ a b,d=.tup [a,b]
 ·exact .inl h
 ·exact .inr λa b e=>h ⟨a,b,e⟩
theorem zp {st:Sto}{d:D} (h:smD d=true):kT [.d d] st=some (.d (.bl (nY d)),st):=by
 refine bz (n:=1) (k:=1) (b:=jj) U ?_;show jj [Z d] st=_;rcases v8 d with⟨a,b,rfl⟩|hn
 ·have hm:=(hW.mp h).2
  have c:=Ag (st:=st) (hm a (by simp));have e:=rz (st:=st) (hm b (by simp));refine be (fV (is2 h 0 U) U) (aR ?_);show _=some (W.d (.bl (isT a&&(wh b&&nz b))),st);have g1:=aA (env:=[Z (.tup [a,b])]) (ao (b:=ah) (aI (a:=iV 0) (b:=iC (.int 0)) U U (ix0 st a [b])) U) c;have g2:=aA (env:=[Z (.tup [a,b])]) (ao (b:=ah) (aI (a:=iV 0) (b:=iC (.int 1)) U U (ix1 st a b [])) U) e;cases ht:isT a with
  |false=>rw[ht]at g1;exact pW g1
  |true=>
   rw[ht]at g1;refine pX g1 ?_;cases hw:wh b with
   |false=>rw[hw]at g2;exact pW g2
   |true=>
    rw[hw]at g2;refine pX g2 ?_;cases b with
    |int i=>
     exact aI (aI U U (ix1 st a _ [])) U (by rw[neI];show some (D.bl (!(i==0)))=some (D.bl (decide (i≠0)));congr 2;cases hi:(i==0)<;>simp_all)
    |_=>cases hw
 ·rw[ut hn]
  exact eW (jR (E6 h hn 0 U) (aR U))
def iOf:D->List Int
 |.tup (.tup a::_)=>a.map ph
 |_=>[]
theorem yT {d:D} (h:isT d=true):∃ t:List Int,d=dL t/\Trm 6 t:=by
 cases d with
 |tup b=>
  rw[AY]at h;cases hw:b.all wl with
  |false=>rw[hw]at h;cases h
  |true=>
   rw[hw]at h;obtain⟨a,rfl,f⟩:=tW hw;have e:(a.map D.int).map ph=a:=by rw[qaX];exact qdH a
   dsimp only at h;rw[e,qbZ]at h;refine⟨a,U,Ap h,λk c=>f k c⟩
 |_=>cases h
theorem uv {d:D} (h:nY d=true):∃ p:Prt,d=bw p/\Trm 6 p.1/\p.2≠0:=by
 rcases v8 d with⟨a,b,rfl⟩|hn
 ·have h:(isT a&&(wh b&&nz b))=true:=h
  rw[qao,qao]at h;obtain⟨t,rfl,e⟩:=yT h.1;cases b with
  |int i=>
   have c:i≠0:=of_decide_eq_true h.2.2;exact⟨(t,i),U,e,c⟩
  |_=>cases h.2.1
 ·rw[ut hn]at h;cases h
theorem kj (p:Prt):iOf (bw p)=p.1:=by
 show (p.1.map D.int).map ph=p.1;rw[qaX];exact qdH p.1
def ahB:Option (List Int)->List Int->Bool
 |none,_=>false
 |some l,x=>HT.lexLe x l
def pF:Option (List Int)->List D->Bool
 |_,[]=>true
 |a,p::ps=>nY p&&(!ahB a (iOf p)&&pF (some (iOf p)) ps)
def iB:Option (List Int)->D
 |none=>.non
 |some l=>dL l
theorem pQ {st:Sto}{x:Option W}:∀ (ps:List D) (a:Option (List Int)) (o:Option W),(∀ p∈ps,smD p=true)->
  (pF a ps=true/\∃ y z,gx (.nm 2) d3 ps [x,Z (iB a),o] st=some (.nx [x,y,z] st))\/(pF a ps=false/\gx (.nm 2) d3 ps [x,Z (iB a),o] st=some (.rt (.d (.bl false)) st))
 |[],a,o,_=>.inl ⟨U,_,_,U⟩
 |p::ps,a,o,h=>by
  have e:=zp (st:=st) (h p qae);have c:dC (.nm 2) (.d p) [x,Z (iB a),o]=some [x,Z (iB a),Z p]:=rfl;have c0:ba (bJ bG (au kT (ae (iV 2) ah))) [x,Z (iB a),Z p] st=some (!nY p,st):=ig (lh (aA (ao U U) e));cases hp:nY p with
  |false=>
   rw[hp]at c0;refine .inr ⟨by rw[pF,hp];rfl,?_⟩;have b:d3 [x,Z (iB a),Z p] st=some (.rt (.d (.bl false)) st):=eW (jR (xc c0) (aR U));rw[gx,c,qaa,b];rfl
  |true=>
   rw[hp]at c0;obtain⟨q,rfl,r,g⟩:=uv hp;have c1:kh (aC oX (iV 1) (iC .non)) (aC vg (iOp dIx (iV 2) (iC (.int 0))) (iV 1)) [x,Z (iB a),Z (bw q)] st=some (ahB a q.1,st):=by
    cases a with
    |none=>rfl
    |some l=>
     have m:aC oX (iV 1) (iC .non) [x,Z (dL l),Z (bw q)] st=some (true,st):=rfl;have j:aC vg (iOp dIx (iV 2) (iC (.int 0))) (iV 1) [x,Z (dL l),Z (bw q)] st=some (HT.lexLe q.1 l,st):=by
      refine aS (aI U U (ix0 _ _ _)) U ?_;show (ko (q.1.map D.int)).bind (λns=>(ko (l.map D.int)).map λf=>D.bl (HT.lexLe ns f))=_;rw[lF,lF];rfl
     simp only[iB,kh,m,j,qaa,if_true,ahB]
   have k:pF a (bw q::ps)=(!ahB a q.1&&pF (some q.1) ps):=by
    rw[pF,hp,kj,qbZ]
   rw[k];cases hm:ahB a q.1 with
   |true=>
    rw[hm]at c1;refine .inr ⟨U,?_⟩;have b:d3 [x,Z (iB a),Z (bw q)] st=some (.rt (.d (.bl false)) st):=eW (jR (mw c0 c1) (aR U));rw[gx,c,qaa,b];rfl
   |false=>
    rw[hm]at c1;have b:d3 [x,Z (iB a),Z (bw q)] st=some (.nx [x,Z (iB (some q.1)),Z (bw q)] st):=be (fV (mw c0 c1) U) (aM (aI U U (ix0 _ _ _)));rw[qeU,qbZ];have i:=pQ (st:=st) (x:=x) ps (some q.1) (Z (bw q)) λz n=>h z (qah _ n);rw[gx,c,qaa,b];exact i
def xL:D->Bool
 |.tup ps=>pF none ps
 |_=>false
theorem xU {st:Sto}{d:D} (h:smD d=true):kt [.d d] st=some (.d (.bl (xL d)),st):=by
 refine bz (n:=3) (k:=1) (b:=gN) U ?_;have c:iCB cC (ae (iV 0) (ae (iC (.ty "tuple")) ah)) [Z d,none,none] st=some (.d (.bl (vo d)),st):=bQ (ao U (ao U U)) (og h)
 show gN [Z d,none,none] st=_;cases ht:vo d with
 |false=>
  rw[ht]at c
  have:xL d=false:=by cases d<;>first|rfl|cases ht
  rw[this];exact eW (jR (ig (lh c)) (aR U))
 |true=>
  rw[ht]at c;obtain⟨a,rfl⟩:∃ a,d=.tup a:=by cases d<;>first|exact⟨_,U⟩|cases ht
  rcases pQ (st:=st) (x:=some (.d (.tup a))) a none none (hW.mp h).2 with⟨t,y,z,e⟩|⟨t,e⟩
  ·rw[show xL (.tup a)=true from t]
   exact be (fV (ig (lh c)) U) (be (aM U) (be (im (eV U) e) (aR U)))
  ·rw[show xL (.tup a)=false from t]
   exact be (fV (ig (lh c)) U) (be (aM U) (eW (im (eV U) e)))
theorem qU:∀ a b:List Int,HT.lexLe b a=!vz a b
 |[],[]=>rfl
 |[],_::_=>rfl
 |_::_,[]=>rfl
 |x::a,y::b=>by
  rw[HT.lexLe_cons,vz];by_cases h:x=y
  ·subst h
   rw[iFP U,iFP U,qU a b]
  ·rw[iFN (qb5 h),iFN h,<-decide_not,decide_eq_decide];lia
theorem zl:∀ (ps:List Prt) (l:List Int),(∀ p∈ps,nY (bw p)=true)->pF (some l) (ps.map bw)=ups (λa b=>vz a b) (l::ps.map qbh)
 |[],_,_=>rfl
 |p::ps,l,h=>by
  have c:=zl ps p.1 λq d=>h q (qah _ d);rw[qal,pF,h p qae,kj,qal,ups,c,qbZ];show (!HT.lexLe p.1 l&&_)=_;rw[qU,Bool.not_not]
theorem wS {ps:List Prt} (h:∀ p∈ps,nY (bw p)=true):pF none (ps.map bw)=ups (λa b=>vz a b) (ps.map qbh):=by
 cases ps with
 |nil=>rfl
 |cons p ps=>
  rw[qal,pF,h p qae,kj,qbZ,zl ps p.1 λq c=>h q (qah _ c),qal];rfl
theorem zk:∀ (ps:List D) (a:Option (List Int)),pF a ps=true->ps.all nY=true
 |[],_,_=>rfl
 |p::ps,a,h=>by
  rw[pF,qao,qao]at h;rw[qaQ,h.1,zk ps _ h.2.2];rfl
def kdD:D->Bool
 |.str s=>s=="both" || s=="odd"
 |_=>false
def isP:D->Bool
 |.tup [k,ps]=>kdD k&&xL ps
 |_=>false
theorem AX {d:D} (h:∀ a b,d≠.tup [a,b]):isP d=false:=by
 unfold isP;split
 ·rename_i a b;exact absurd U (h a b)
 ·rfl
theorem yQ (z:Str):inD (.str z) [.str "both",.str "odd"]=(z=="both" || z=="odd"):=by
 show ([D.str "both",.str "odd"].any λy=>eqD y (.str z))=_
 simp only[qcp,qff,qb0,eqD];rw[show (("both" : Str)==z)=(z=="both") from qgy ..,show (("odd" : Str)==z)=(z=="odd") from qgy ..]
theorem pV {st:Sto}{d:D} (h:smD d=true):dw [.d d] st=some (.d (.bl (isP d)),st):=by
 refine bz (n:=1) (k:=1) (b:=jk) U ?_;show jk [Z d] st=_;rcases v8 d with⟨a,b,rfl⟩|hn
 ·have hm:=(hW.mp h).2
  have c:=xU (st:=st) (hm b (by simp));refine be (fV (is2 h 0 U) U) (aR ?_);show _=some (W.d (.bl (kdD a&&xL b)),st);have g0:iOp dIx (iV 0) (iC (.int 0)) [Z (.tup [a,b])] st=some (.d a,st):=aI U U (ix0 st a [b]);have g1:iCB cC (ae (iOp dIx (iV 0) (iC (.int 0))) (ae (iC (.ty "str")) ah)) [Z (.tup [a,b])] st=some (.d (.bl (C4 a)),st):=bQ (ao g0 (ao U U)) (A0 (hm a (by simp)))
  have g2:=aA (env:=[Z (.tup [a,b])]) (ao (b:=ah) (aI (a:=iV 0) (b:=iC (.int 1)) U U (ix1 st a b [])) U) c;cases hs:C4 a with
  |false=>
   rw[hs]at g1
   have:kdD a=false:=by cases a<;>first|rfl|cases hs
   rw[this];exact pW g1
  |true=>
   rw[hs]at g1;obtain⟨z,rfl⟩:∃ z,a=.str z:=by cases a<;>first|exact⟨_,U⟩|cases hs
   have g3:ur false [(.str "both"),(.str "odd")] (iOp dIx (iV 0) (iC (.int 0))) [Z (.tup [.str z,b])] st=some (.d (.bl (kdD (.str z))),st):=by
    simp only[ur,g0,qaa,bZ,if_true,yQ,qeV,kdD]
   refine pX g1 ?_;cases hk:kdD (.str z) with
   |false=>rw[hk]at g3;exact pW g3
   |true=>rw[hk]at g3;exact pX g3 g2
 ·rw[AX hn]
  exact eW (jR (E6 h hn 0 U) (aR U))
theorem BP {t:List Int} (h:Trm 6 t):isT (dL t)=true:=by
 show tmF (-1) (t.map D.int)=true;rw[tR t (-1) h.2];refine Ao (qci.mpr ⟨λk d=>decide_eq_true (by have:=(h.2 k d).1;lia),h.1.imp λ{a b} c=>decide_eq_true c⟩)
end Own
set_option maxHeartbeats 1000000
namespace Own
open PySem L2
theorem rg:∀ {l:List Nat},(∀ x∈l,x<=100)->l.sum<=100*l.length
 |[],_=>qaw _
 |x::l,h=>by
  have c:=h x qae;have b:=rg (l:=l) λy a=>h y (qah _ a);rw[qdt,qaf];lia
def lt (t:List Int):List Nat:=t.map λk=>97+k.toNat
def hdN (p:Prt):List Nat:=if p.1≠[]/\p.2.natAbs=1 then (if p.2<0 then [45] else []) else cE p.2
def pw (p:Prt):List Nat:=hdN p++lt p.1
structure Gd (p:Prt):Prop where
 trm:Trm 6 p.1
 nz:p.2≠0
 low:p.2.natAbs<10^60
theorem vA {t:List Int} (h:Trm 6 t):(lt t).length<=6:=by
 unfold lt;rw[qan];exact tU h
theorem yI {p:Prt} (h:Gd p):(hdN p).length<=61:=by
 unfold hdN
 have:=om h.low
 split
 ·split<;>simp
 ·exact this
theorem zI {p:Prt} (h:Gd p):(pw p).length<=67:=by
 unfold pw;have b:=yI h;have a:=vA h.trm;rw[qai];lia
theorem B0:∀ l:List Nat,qbT "" (l.map λc=>S [c])=S l:=by
 intro l;show qck "" _=_
 rw[qbP]
 induction l with
 |nil=>rfl
 |cons c l a=>
  cases l with
  |nil=>rfl
  |cons d l=>
   rw[qal,qal];show S [c]++S []++qcY "" (S [d]::l.map λc=>S [c])=_
   rw[qal]at a;rw[a,jO,jO];rfl
theorem qg:∀ l:List (List Nat),kH (l.map λx=>D.str (S x))=some (l.map S)
 |[]=>rfl
 |x::l=>by rw[qal,kH,qg l];rfl
theorem vw {st:Sto}{t:List Int}{te:Ef}{env:Ev}{f:Ef} (b:te=iOp dIx (iC (.str "abcdef")) (iV 0)) (e:Trm 6 t) (n:f env st=some (.d (dL t),st)):fJ (iC (.str "")) (ae (ay (iLc 1 [] (bh f) (.nm 0) bg te)) ah) env st=some (.d (.str (S (lt t))),st):=by
 have r:=tU e;have a:lcI (.nm 0) bg te [none] (t.map D.int) st=some ((t.map λk=>[97+k.toNat]).map λx=>D.str (S x),st):=by
  have m:(t.map λk=>[97+k.toNat]).map (λx=>D.str (S x))=(t.map D.int).map λd=>match d with|.int k=>D.str (S [97+k.toNat])|d=>d:=by rw[qaX,qaX];rfl
  rw[m];refine jy _ λd hd=>?_;obtain⟨i,hi,rfl⟩:=qbe.mp hd;have h:=e.2 i hi;rw[b];exact⟨_,U,aI U U (y8 h.1 h.2)⟩
 have j:qej ("" : Str) ((t.map λk=>[97+k.toNat]).map S)=true:=by
  refine qbv ?_ (by decide);have l:∀ x∈((t.map λk=>[97+k.toNat]).map S).map (·.length),x<=10:=by
   intro x c;rw[qaX,qaX]at c;obtain⟨k,s,rfl⟩:=qbe.mp c;show (S [97+k.toNat]).length<=10;rw[cn,qaY];decide
  have:=qh l
  simp only[qan]at this ⊢;lia
 have q:(t.map D.int).length<=1000000:=by rw[qan];lia
 have g:iC (.str "") env st=some (.d (.str ""),st):=rfl
 have o:ae (ay (iLc 1 [] (bh f) (.nm 0) bg te)) ah env st=some ([.d (.lst ((t.map λk=>[97+k.toNat]).map λx=>D.str (S x)))],st):=ao (bx (eI (eV n) q a)) U;have p:qbT "" ((t.map λk=>[97+k.toNat]).map S)=S (lt t):=by
  rw[<-B0,lt,qaX,qaX];rfl
 simp only[fJ,g,o,qaa,qg,j,if_true,p]
theorem Bg {st:Sto}{c:Int}{env:Ev}{i:Nat} (a:iV i env st=some (.d (.int c),st)):aC dEq (iCB oV (ae (iV i) ah)) (iC (.int 1)) env st=some (decide (c.natAbs=1),st):=by
 refine aS (bQ (ao a U) (Es c)) U ?_;rw[oZ]
 congr 2
 rw[qbH];simp;lia
theorem zb {t:List Int}:lt t=[]↔t=[]:=by unfold lt;exact List.map_eq_nil_iff
theorem neE {st:Sto}{l:List Nat}:dNe st (.d (.str (S l))) (.d (.str ""))=some (.bl (decide (l≠[]))):=by
 show dNe st (.d (.str (S l))) (.d (.str (S [])))=_;rw[neT,hZ,<-decide_not]
theorem Ab {st:Sto}{p:Prt} (h:Gd p):ku [.d (dL p.1),.d (.int p.2)] st=some (.d (.str (S (pw p))),st):=by
 obtain⟨t,c⟩:=p;have m:=vw (st:=st) (te:=lj) (env:=[Z (dL t),Z (.int c),none]) (f:=iV 0) U h.trm U;have u:=z8 (st:=st) h.low;have s:=vA h.trm;have v:=om h.low;refine bz (n:=3) (k:=2) (b:=gP) U ?_;show gP [Z (dL t),Z (.int c),none] st=_;have a:aC dNe (iV 2) (iC (.str "")) [Z (dL t),Z (.int c),Z (.str (S (lt t)))] st=some (decide (lt t≠[]),st):=aS U U neE
 have g:=Bg (st:=st) (c:=c) (env:=[Z (dL t),Z (.int c),Z (.str (S (lt t)))]) (i:=1) U;have r:=Co (st:=st) (n:=c) (env:=[Z (dL t),Z (.int c),Z (.str (S (lt t)))]) 1 U;have o:(if c<0 then [45] else ([]:List Nat)).length<=1:=by split<;>simp
 by_cases e:t≠[]/\c.natAbs=1
 ·have:pw (t,c)=(if c<0 then [45] else [])++lt t:=by unfold pw hdN;rw[iFP e]
  rw[this];rw[decide_eq_true (show lt t≠[] from λz=>e.1 (zb.mp z))]at a;rw[decide_eq_true e.2]at g;have l:kh (aC dNe (iV 2) (iC (.str ""))) (aC dEq (iCB oV (ae (iV 1) ah)) (iC (.int 1))) [Z (dL t),Z (.int c),Z (.str (S (lt t)))] st=some (true,st):=by simp only[kh,a,g,qaa,if_true]
  generalize dL t=T at *;exact be (aM m) (eW (jR l (aR (aI r U (j8 (by lia))))))
 ·have:pw (t,c)=cE c++lt t:=by unfold pw hdN;rw[iFN e]
  rw[this];have l:kh (aC dNe (iV 2) (iC (.str ""))) (aC dEq (iCB oV (ae (iV 1) ah)) (iC (.int 1))) [Z (dL t),Z (.int c),Z (.str (S (lt t)))] st=some (false,st):=by
   by_cases j:lt t=[]
   ·rw[decide_eq_false (by simp[j])]at a
    simp only[kh,a,qaa,qaE,if_false]
   ·rw[decide_eq_true (show lt t≠[] from j)]at a
    rw[decide_eq_false (λz=>e ⟨λq=>j (zb.mpr q),z⟩)]at g;simp only[kh,a,g,qaa,if_true]
  generalize dL t=T at *;exact be (aM m) (be (fV l U) (aR (aI (aA (ao U U) u) U (j8 (by lia)))))
def ptl (ps:List Prt):List Nat:=ps.flatMap λp=>32::pw p
def ptx (kd:List Nat) (ps:List Prt):List Nat:=kd++if ps=[] then [32,48] else ptl ps
theorem ER:∀ (ps:List Prt) (a:List Nat),qbT " " (S a::ps.map λp=>S (pw p))=S (a++ptl ps):=by
 intro ps a;show qck " " _=_
 rw[qbP]
 induction ps generalizing a with
 |nil=>show S a=S (a++[]);rw[qa5]
 |cons p ps b=>
  rw[qal];show S a++S [32]++qcY " " (S (pw p)::ps.map λp=>S (pw p))=_
  rw[b,jO,jO]
  congr 1
  show a++[32]++(pw p++ptl ps)=a++((32::pw p)++ptl ps)
  simp
theorem qd {st:Sto}{kd:List Nat}{ps:List Prt} (w:kd.length<=10) (h:∀ p∈ps,Gd p) (v:ps.length<=900):cp [.d (ie (S kd) ps)] st=some (.d (.str (S (ptx kd ps))),st):=by
 refine bz (n:=1) (k:=1) (b:=gQ) U ?_;show gQ [Z (.tup [.str (S kd),.tup (ps.map bw)])] st=_;have g0:iOp dIx (iV 0) (iC (.int 0)) [Z (.tup [.str (S kd),.tup (ps.map bw)])] st=some (.d (.str (S kd)),st):=aI U U (ix0 st _ _);have g1:iOp dIx (iV 0) (iC (.int 1)) [Z (.tup [.str (S kd),.tup (ps.map bw)])] st=some (.d (.tup (ps.map bw)),st):=aI U U (ix1 st _ _ _);have tl:aC dEq (iCB bN (ae (iOp dIx (iV 0) (iC (.int 1))) ah)) (iC (.int 0)) [Z (.tup [.str (S kd),.tup (ps.map bw)])] st=some (decide (ps=[]),st):=by
  refine aS (bQ (ao g1 U) (Df _)) U ?_;rw[oZ,qan]
  congr 2
  rw[qbH];simp
 by_cases a:ps=[]
 ·rw[decide_eq_true a]at tl
  unfold ptx;rw[iFP a];exact eW (jR tl (aR (aI g0 U (j8 (b:=[32,48]) (by simp;lia)))))
 ·rw[decide_eq_false a]at tl
  unfold ptx;rw[iFN a,<-ER];have g:lcI (.tp [0,1]) bg gI [none,none] (ps.map bw) st=some ((ps.map pw).map λx=>D.str (S x),st):=by
   rw[qaX];have q:ps.map ((λx=>D.str (S x)) ∘ pw)=(ps.map bw).map λd=>match d with|.tup [.tup s,.int c]=>D.str (S (pw (s.map ph,c)))|d=>d:=by
    rw[qaX];refine qc0 λp _=>?_;show D.str (S (pw p))=D.str (S (pw ((p.1.map D.int).map ph,p.2)));rw[qaX]
    have:p.1.map (ph ∘ D.int)=p.1:=qdH p.1
    rw[this]
   rw[q];refine jy _ λd hd=>?_;obtain⟨p,f,rfl⟩:=qbe.mp hd;have e:=Ab (st:=st) (h p f);refine⟨[Z (dL p.1),Z (.int p.2)],U,?_⟩;show gI _ st=some (W.d (.str (S (pw ((p.1.map D.int).map ph,p.2)))),st);rw[qaX]
   have:p.1.map (ph ∘ D.int)=p.1:=qdH p.1
   rw[this];exact aA (ao U (ao U U)) e
  have u:(ps.map bw).length<=1000000:=by rw[qan];lia
  have j:qej (" " : Str) (S kd::(ps.map pw).map S)=true:=by
   refine qbv ?_ (by decide);have o:∀ x∈((ps.map pw).map S).map (·.length),x<=100:=by
    intro x i;rw[qaX,qaX]at i;obtain⟨p,f,rfl⟩:=qbe.mp i;show (S (pw p)).length<=100;rw[cn]
    have:=zI (h p f)
    lia
   have:=rg o
   rw[qal,qdt,qaf,cn];simp only[qan]at this ⊢;lia
  have l:kH (D.str (S kd)::(ps.map pw).map λx=>D.str (S x))=some (S kd::(ps.map pw).map S):=qg (kd::ps.map pw);have r:(ps.map pw).map S=ps.map λp=>S (pw p):=by rw[qaX];rfl
  have t:ae (iOp aU (ay (cL (ae (iOp dIx (iV 0) (iC (.int 0))) ah))) (ay (iLc 2 [] (bh (iOp dIx (iV 0) (iC (.int 1)))) (.tp [0,1]) bg gI))) ah [Z (.tup [.str (S kd),.tup (ps.map bw)])] st=some ([.d (.lst (D.str (S kd)::(ps.map pw).map λx=>D.str (S x)))],st):=
   ao (aI (bx (on (ds:=[.str (S kd)]) (ao g0 U) U (by show 1<=1000;decide))) (bx (eI (eV g1) u g)) (yo st (by rw[qan,qan,qaY];lia))) U
  have m:iC (.str " ") [Z (.tup [.str (S kd),.tup (ps.map bw)])] st=some (.d (.str " "),st):=rfl
  rw[r]at j l;refine be (fV tl U) (aR ?_);simp only[fJ,m,t,qaa,l,j,if_true]
end Own
set_option maxHeartbeats 1000000
namespace Own
open PySem L2
theorem lZ:∀ c,c<128->("abcdef" : Str).cps.contains c=decide (97<=c/\c<=102):=by decide +kernel
theorem iK {p:Nat->Bool}:∀ {l m:List Nat},(∀ c∈l,p c=true)->(m=[]\/∃ c r,m=c::r/\p c=false)->(l++m).takeWhile p=l
 |[],m,_,h=>by
  rcases h with rfl|⟨c,r,rfl,d⟩
  ·rfl
  ·rw[qaI,qfu,d];rfl
 |c::l,m,a,h=>by
  rw[qa0,qfu,a c qae,iFP U,iK (λx b=>a x (qah _ b)) h]
theorem z4 {A L:List Nat} (g:∀ c∈L,97<=c/\c<=102) (h:∀ c∈A,c<97):qeI (S (A++L)) "abcdef" = S A:=by
 have i:∀ c∈L,("abcdef" : Str).cps.contains c=true:=λc a=>by
  have:=g c a
  rw[lZ c (by lia)];exact decide_eq_true this
 have hn:A.reverse=[]\/∃ c r,A.reverse=c::r/\("abcdef" : Str).cps.contains c=false:=by
  cases hr:A.reverse with
  |nil=>exact .inl U
  |cons c r=>
   have a:=h c (by rw[<-qcU,hr];simp);exact .inr ⟨c,r,U,by rw[lZ c (by lia)];exact decide_eq_false (by lia)⟩
 have b:qgm ("abcdef" : Str).cps.contains true (S (A++L)) 0=A.length:=by
  show (S (A++L)).length - (((A++L).drop 0).reverse.takeWhile ("abcdef" : Str).cps.contains).length=_
  rw[qcS,qd0,iK (λc a=>i c (qcU.mp a)) hn,cn,qai,qfv];lia
 show qc3 ("abcdef" : Str).cps.contains false true (S (A++L))=_
 unfold qc3 qfY qf8;have d:qgl ("abcdef" : Str).cps.contains false (S (A++L))=0:=rfl
 rw[d,b,cn,qai];by_cases e:L=[]
 ·subst e
  rw[iFP (by simp),qa5]
 ·have:0<L.length:=qc1.mpr e
  have f:((0==0)&&(A.length==A.length+L.length))=false:=by
   have:(A.length==A.length+L.length)=false:=beq_eq_false_iff_ne.mpr (by lia)
   rw[this];rfl
  rw[f,iFN (by decide)];show (⟨((A++L).toArray).extract 0 A.length⟩:Str)=⟨A.toArray⟩
  congr 1
  apply qdu.mp
  simp
theorem lT {T:List Nat}{p:Nat} (h:p<=T.length):mL (S T) (some (p:Int)) none=S (T.drop p):=by
 unfold mL;rw[cn,rE,HT.sIx_nat,HT.sIx_none];show S _=S _
 congr 1
 rw[qdN h,qcL (by rw[qbC];exact qaw _)]
theorem wu {T:List Nat}:mL (S T) none (some 1)=S (T.take 1):=by
 unfold mL;rw[cn,rE,HT.sIx_none,show (1:Int)=((1:Nat):Int) from U,HT.sIx_nat];show S _=S _
 congr 1
 rw[qcS,qhC];cases T with
 |nil=>rfl
 |cons c r=>simp
theorem qS:∀ k,k<6->qcX "abcdef" (S [97+k])=(k:Int):=by decide +kernel
theorem AN:∀ c,c<58->48<=c->qcx "0123456789" (S [c])=true:=by decide +kernel
theorem xZ {f:Ef}{lo hi:Pf}{env:Ev}{st:Sto}{T:List Nat}{l u:Option Int} (c:T.length<=1000000) (e:f env st=some (.d (.str (S T)),st)) (a:lo env st=some (l,st)) (g:hi env st=some (u,st)):dk f lo hi env st=some (.d (.str (mL (S T) l u)),st):=by
 have b:(S T).length<=1000000:=by rw[cn];exact c
 simp only[dk,e,a,g,qaa,b,if_true]
theorem yp {l:List Nat} (h:∀ c∈l,c<128):asc (S l)=true:=by
 show (l.toArray.all λc=>decide (c<128))=true;rw[List.all_toArray,qas];exact λc a=>decide_eq_true (h c a)
theorem tw {f:Ef}{env:Ev}{st:Sto}{l:List Nat} (a:f env st=some (.d (.str (S l)),st)) (h:∀ c∈l,c<128):cO f env st=some (l.map λc=>D.str (S [c]),st):=by
 simp only[cO,a,qaa,yp h,if_true];rfl
theorem in2 {s:Sto}{x a b:Str}:dIn s (.d (.str x)) (.d (.tup [.str a,.str b]))=some (.bl (a==x||b==x)):=by
 show (if bZ (.str x)=true/\[D.str a,.str b].all bZ=true then some (D.bl (inD (.str x) [.str a,.str b])) else none)=_;rw[iFP ⟨U,U⟩];show some (D.bl ([D.str a,.str b].any λy=>eqD y (.str x)))=_;simp only[qcp,qff,qb0,eqD]
theorem Ba {st:Sto}{n:Int} (h:n.natAbs<10^60):cX [.d (.str (S (cE n)))] st=some (.d (.int n),st):=by
 have B:=om h;have hdl:=sh (k:=60) (by decide) h;refine bz (n:=2) (k:=1) (b:=eB) U ?_;show eB [Z (.str (S (cE n))),none] st=_;have p:nv st [.d (.str (S (cE n)))]=some (.int n):=by
  show (if (S (cE n)).length<=640 then (qeH (S (cE n))).map D.int else none)=_;rw[cn,iFP (by lia),AU h];rfl
 have y:aC dIn (iV 0) (aQ (ae (iC (.str "")) (ae (iC (.str "-")) ah))) [Z (.str (S (cE n))),none] st=some (false,st):=by
  refine aS U (kY (ds:=[.str "",.str "-"]) U U (by show 2<=1000;decide)) ?_
  rw[in2];show some (D.bl (S []==S (cE n)||S [45]==S (cE n)))=_;rw[hZ,hZ,decide_eq_false (λz=>ze n z.symm),decide_eq_false (λz=>?_)]
  ·rfl
  ·unfold cE at z
   split at z
   ·injection z with _ z;exact ui _ z.symm
   ·have:=jw (m:=n.natAbs) (c:=45) (by rw[<-z];simp)
    lia
 have g:∀ a:List Nat,a.length<=60->(∀ c∈a,48<=c/\c<=57)->gj (aC dEq (dk (iV 0) iPn (iPs (iC (.int 1)))) (iC (.str "-"))) (dk (iV 0) (iPs (iC (.int 1))) iPn) (iV 0) [Z (.str (S (cE n))),none] st=some (.d (.str (S a)),st)->eB [Z (.str (S (cE n))),none] st=some (.rt (.d (.int n)) st):=λa f1 f2 e=>by
  have q:lcI (.nm 0) bg i9 [none] (a.map λc=>D.str (S [c])) st=some ((a.map λ_=>true).map D.bl,st):=by
   have x:(a.map λ_=>true).map D.bl=(a.map λc=>D.str (S [c])).map λ_=>D.bl true:=by rw[qaX,qaX];rfl
   rw[x];refine jy _ λd hd=>?_;obtain⟨c,j,rfl⟩:=qbe.mp hd
   have:=f2 c j
   refine⟨_,U,aI U U ?_⟩;show some (D.bl (qcx "0123456789" (S [c])))=_
   rw[AN c (by lia) this.1]
  have A:(a.map λc=>D.str (S [c])).length<=1000000:=by rw[qan];lia
  have t:=DX (bs:=a.map λ_=>true) (ao (b:=ah) (bx (eI (k:=1) (js:=[]) (env:=[Z (.str (S (cE n))),Z (.str (S a))]) (tw (f:=iV 1) U λc j=>by have:=f2 c j;lia) A q)) U);rw[show (a.map λ_=>true).all id=true by rw[qdb];exact qas.mpr λ_ _=>rfl]at t;have w:aC dGt (iCB bN (ae (iV 1) ah)) (iC (.int 60)) [Z (.str (S (cE n))),Z (.str (S a))] st=some (false,st):=by
   have v:bN st [.d (.str (S a))]=some (.int (a.length:Int)):=by
    show (if (S a).length<=1000000 then some (D.int ((S a).length:Int)) else none)=_;rw[cn,iFP (by lia)]
   exact aS (bQ (ao U U) v) U (EG _ (decide_eq_false (by lia)))
  exact be (fV y U) (be (aM e) (be (fV (mw w (ig (lh t))) U) (aR (bQ (ao U U) p))))
 have r:dk (iV 0) iPn (iPs (iC (.int 1))) [Z (.str (S (cE n))),none] st=some (.d (.str (S ((cE n).take 1))),st):=by
  rw[<-wu];exact xZ (by lia) U U U
 by_cases s:n<0
 ·have o:cE n=45::dg n.natAbs:=by unfold cE;rw[iFP s]
  refine g (dg n.natAbs) hdl (λc j=>jw j) (pY (aS r U ?_) ?_)
  ·rw[o]
   show dEq st (.d (.str (S [45]))) (.d (.str (S [45])))=_;rw[eqT,beq_self_eq_true]
  ·have e:=xZ (f:=iV 0) (lo:=iPs (iC (.int 1))) (hi:=iPn) (env:=[Z (.str (S (cE n))),none]) (st:=st) (T:=cE n) (l:=some ((1:Nat):Int)) (u:=none) (by lia) U U U
   rw[lT (by rw[o];simp)]at e;rw[e,o];rfl
 ·have o:cE n=dg n.natAbs:=by unfold cE;rw[iFN s]
  refine g (cE n) (by rw[o];exact hdl) (λc j=>by rw[o]at j;exact jw j) (kD (aS r U ?_) U);show dEq st (.d (.str (S ((cE n).take 1)))) (.d (.str (S [45])))=_;rw[eqT,hZ,decide_eq_false];intro z
  have:(45:Nat)∈cE n:=qfn (i:=1) (by rw[z];simp)
  rw[o]at this
  have:=jw this
  lia
theorem Di {st:Sto}{p:Prt} (h:Gd p):cX [.d (.str (S (hdN p)))] st=some (.d (.int p.2),st):=by
 unfold hdN;by_cases b:p.1≠[]/\p.2.natAbs=1
 ·rw[iFP b]
  by_cases a:p.2<0
  ·rw[iFP a,show p.2=-1 by lia]
   rfl
  ·rw[iFN a,show p.2=1 by lia]
   rfl
 ·rw[iFN b]
  exact Ba h.low
theorem CP {p:Prt}{c:Nat} (h:c∈hdN p):c<97:=by
 unfold hdN at h;split at h
 ·split at h
  ·have:=qaz.mp h;lia
  ·cases h
 ·rcases uF h with h|h<;>lia
theorem sJ {t:List Int} (b:Trm 6 t) {c:Nat} (h:c∈lt t):97<=c/\c<=102:=by
 obtain⟨k,a,rfl⟩:=qbe.mp h
 have:=b.2 k a
 lia
theorem DC {st:Sto}{p:Prt} (h:Gd p):cw [.d (.str (S (pw p)))] st=some (.d (bw p),st):=by
 have G:=zI h;have z:=Di (st:=st) h;have w:=vA h.trm;refine bz (n:=2) (k:=1) (b:=iw) U ?_;show iw [Z (.str (S (pw p))),none] st=_;have C:iTm ft (iV 0) (ae (iC (.str "abcdef")) ah) [Z (.str (S (pw p))),none] st=some (.d (.str (S (hdN p))),st):=by
  have g:ft (S (pw p)) "abcdef" = some (.str (S (hdN p))):=by
   unfold ft;rw[cn,iFP (by lia)]
   congr 2
   exact z4 (λc m=>sJ h.trm m) (λc m=>CP m)
  have g1:iV 0 [Z (.str (S (pw p))),none] st=some (.d (.str (S (pw p))),st):=rfl;have g2:ae (iC (.str "abcdef")) ah [Z (.str (S (pw p))),none] st=some ([.d (.str "abcdef")],st):=rfl
  simp only[iTm,g1,g2,qaa,g,qak]
 have v:bN st [.d (.str (S (hdN p)))]=some (.int ((hdN p).length:Int)):=by
  have:=yI h
  show (if (S (hdN p)).length<=1000000 then some (D.int ((S (hdN p)).length:Int)) else none)=_;rw[cn,iFP (by lia)]
 have B:dk (iV 0) (iPs (iCB bN (ae (iV 1) ah))) iPn [Z (.str (S (pw p))),Z (.str (S (hdN p)))] st=some (.d (.str (S (lt p.1))),st):=by
  have x:iPs (iCB bN (ae (iV 1) ah)) [Z (.str (S (pw p))),Z (.str (S (hdN p)))] st=some (some ((hdN p).length:Int),st):=by
   have:=bQ (a:=ae (iV 1) ah) (env:=[Z (.str (S (pw p))),Z (.str (S (hdN p)))]) (ao U U) v
   simp only[iPs,this,qaa,yS,qak]
  have e:=xZ (f:=iV 0) (lo:=iPs (iCB bN (ae (iV 1) ah))) (hi:=iPn) (env:=[Z (.str (S (pw p))),Z (.str (S (hdN p)))]) (st:=st) (T:=pw p) (l:=some ((hdN p).length:Int)) (u:=none) (by lia) U x U;rw[lT (by unfold pw;rw[qai];lia)]at e;rw[e];unfold pw;rw[qdW]
 have r:lcI (.nm 0) bg fI [none] ((lt p.1).map λc=>D.str (S [c])) st=some (p.1.map D.int,st):=by
  have hm:∀ i:List Int,(∀ k∈i,0<=k/\k<6)->lcI (.nm 0) bg fI [none] ((lt i).map λc=>D.str (S [c])) st=some (i.map D.int,st):=by
   intro i
   induction i with
   |nil=>intro _;rfl
   |cons k i y=>
    intro s;have t:=s k qae;obtain⟨j,rfl⟩:=qdx t.1;have o:=y λq A=>s q (qah _ A);have e:(lt ((j:Int)::i)).map (λc=>D.str (S [c]))=D.str (S [97+j])::(lt i).map λc=>D.str (S [c]):=rfl;have E:fI [Z (.str (S [97+j]))] st=some (.d (.int (j:Int)),st):=by
     have g1:iC (.str "abcdef") [Z (.str (S [97+j]))] st=some (.d (.str "abcdef"),st):=rfl
     have g2:ae (iV 0) ah [Z (.str (S [97+j]))] st=some ([.d (.str (S [97+j]))],st):=rfl;show iTm ic (iC (.str "abcdef")) (ae (iV 0) ah) _ st=_
     simp only[iTm,g1,g2,qaa,ic,qS j (by lia),qak]
    rw[e];unfold lcI;rw[show dC (.nm 0) (.d (.str (S [97+j]))) [none]=some [Z (.str (S [97+j]))] from U,qaa,show bg [Z (.str (S [97+j]))] st=some (true,st) from U,qaa,iFP U,E,qaa,o];rfl
  exact hm p.1 h.trm.2
 have F:((lt p.1).map λc=>D.str (S [c])).length<=1000000:=by rw[qan];lia
 exact be (aM C) (aR (kY (ds:=[dL p.1,.int p.2]) (ao (bQ (ao (bx (eI (tw B λc m=>by have:=sJ h.trm m;lia) F r)) U) U) (ao (aA (ao U U) z) U)) U (by show 2<=1000;decide)))
def dgs (l:List Nat):Bool:=l.all λc=>decide (48<=c/\c<=57)
def fgs (l:List Nat):List Nat:=if l.take 1=[45] then l.drop 1 else l
def nbV (l:List Nat):Int:=if l.take 1=[45] then -((qbM (fgs l):Nat):Int) else ((qbM (fgs l):Nat):Int)
def nbN (l:List Nat):Option Int:=if l=[] then some 1 else if l=[45] then some (-1) else if (decide ((fgs l).length<=60)&&dgs (fgs l))=true then some (nbV l) else none
theorem AH:∀ c,c<128->qcx "0123456789" (S [c])=decide (48<=c/\c<=57):=by decide +kernel
theorem wx:∀ (l:List Nat) (a:Nat),(∀ c∈l,48<=c/\c<=57)->l.foldl (λb c=>b*10+(c - 48)) a<(a+1)*10^l.length
 |[],a,_=>by show a<(a+1)*10^0;lia
 |c::l,a,h=>by
  have f:=h c qae;have e:=wx l (a*10+(c - 48)) λx d=>h x (qah _ d);rw[qge,qaf,qdM];refine qaD e ?_;rw[show (a+1)*(10^l.length*10)=(a*10+10)*10^l.length by rw[qes (10^l.length) 10,<-qgL];congr 1;lia];exact qcW _ (by lia)
theorem EA {l:List Nat} (h:∀ c∈l,48<=c/\c<=57) (a:l.length<=60):qbM l<10^60:=by
 have:=wx l 0 h
 rw[qa8,Nat.one_mul]at this;exact qaD this (qb8 (by decide) a)
theorem AD {l:List Nat} (h:dgs l=true):∀ c∈l,48<=c/\c<=57:=λc a=>of_decide_eq_true (qas.mp h c a)
theorem AG {l:List Nat}{c:Nat} (h:c∈fgs l):c∈l:=by
 unfold fgs at h;split at h
 ·exact qdS h
 ·exact h
theorem AF (l:List Nat):(fgs l).length<=l.length/\l.length<=(fgs l).length+1:=by
 unfold fgs;split
 ·rw[qbC];lia
 ·lia
theorem CL {l:List Nat} (a:l≠[]) (b:l≠[45]):fgs l≠[]:=by
 unfold fgs;split
 ·rename_i h
  cases l with
  |nil=>exact absurd U a
  |cons c r=>
   have:c=45:=by injection h
   subst this;show r≠[];exact λz=>b (by rw[z])
 ·exact a
theorem o5 {te:Ef} (h:te=iOp xA (iV 0) (iC (.str "0123456789"))) {e:List Nat}{a:Option W}{st:Sto} (m:∀ c∈e,c<128) (r:e.length<=900) :
  dv (aC dGt (iCB bN (ae (iV 1) ah)) (iC (.int 60))) (ba (bJ bG (iCB qx (ae (ay (iLc 1 [] (cO (iV 1)) (.nm 0) bg te)) ah)))) [a,Z (.str (S e))] st=some (!(decide (e.length<=60)&&dgs e),st):=by
 have n:bN st [.d (.str (S e))]=some (.int (e.length:Int)):=by
  show (if (S e).length<=1000000 then some (D.int ((S e).length:Int)) else none)=_;rw[cn,iFP (by lia)]
 have g:aC dGt (iCB bN (ae (iV 1) ah)) (iC (.int 60)) [a,Z (.str (S e))] st=some (!decide (e.length<=60),st):=
  aS (bQ (ao U U) n) U (EG _ (by rw[qbH];simp;lia))
 cases hb:decide (e.length<=60) with
 |false=>
  rw[hb]at g;exact xc g
 |true=>
  rw[hb]at g;refine mw g ?_;have i:lcI (.nm 0) bg te [none] (e.map λc=>D.str (S [c])) st=some ((e.map λc=>decide (48<=c/\c<=57)).map D.bl,st):=by
   have o:(e.map λc=>decide (48<=c/\c<=57)).map D.bl=(e.map λc=>D.str (S [c])).map λd=>match d with|.str z=>D.bl (qcx "0123456789" z)|d=>d:=by
    rw[qaX,qaX];refine qc0 λc j=>?_;show D.bl _=D.bl (qcx "0123456789" (S [c]))
    rw[AH c (m c j)]
   rw[o];refine jy _ λd hd=>?_;obtain⟨c,j,rfl⟩:=qbe.mp hd;refine⟨_,U,?_⟩;rw[h];exact aI U U U
  have q:(e.map λc=>D.str (S [c])).length<=1000000:=by rw[qan];lia
  have l:=DX (bs:=e.map λc=>decide (48<=c/\c<=57)) (ao (b:=ah) (bx (eI (k:=1) (js:=[]) (env:=[a,Z (.str (S e))]) (tw (f:=iV 1) U m) q i)) U);have p:(e.map λc=>decide (48<=c/\c<=57)).all id=dgs e:=by rw[qdb];rfl
  rw[p]at l;exact ig (lh l)
theorem A9 {l:List Nat}{st:Sto} (H:∀ c∈l,c<128) (I:l.length<=900) :
  (∃ n,nbN l=some n/\n.natAbs<10^60/\cX [.d (.str (S l))] st=some (.d (.int n),st)/\eS [.d (.str (S l))] st=none)\/
  (nbN l=none/\cX [.d (.str (S l))] st=none/\eS [.d (.str (S l))] st=some st):=by
 by_cases k:l=[]
 ·subst k;exact .inl ⟨1,U,by decide,U,U⟩
 by_cases v:l=[45]
 ·subst v;exact .inl ⟨-1,U,by decide,U,U⟩
 have run:∀ r,eB [some (.d (.str (S l))),none] st=r->cX [.d (.str (S l))] st=r.bind λr=>match r with|.nx _ s=>some (.d .non,s)|.rt w s=>some (w,s)|_=>none:=λr h=>by rw[<-h];rfl
 have i:∀ r,iu [Z (.str (S l)),none] st=r->eS [.d (.str (S l))] st=r.map λs=>s.take st.length:=λr h=>by rw[<-h];rfl
 have y:aC dIn (iV 0) (aQ (ae (iC (.str "")) (ae (iC (.str "-")) ah))) [Z (.str (S l)),none] st=some (false,st):=by
  refine aS U (kY (ds:=[.str "",.str "-"]) U U (by show 2<=1000;decide)) ?_
  rw[in2];show some (D.bl (S []==S l||S [45]==S l))=_;rw[hZ,hZ,decide_eq_false (λz=>k z.symm),decide_eq_false (λz=>v z.symm)];rfl
 have G:dk (iV 0) iPn (iPs (iC (.int 1))) [Z (.str (S l)),none] st=some (.d (.str (S (l.take 1))),st):=by
  rw[<-wu];exact xZ (by lia) U U U
 have b:aK (.nm 1) (gj (aC dEq (dk (iV 0) iPn (iPs (iC (.int 1)))) (iC (.str "-"))) (dk (iV 0) (iPs (iC (.int 1))) iPn) (iV 0)) [Z (.str (S l)),none] st=some (.nx [Z (.str (S l)),Z (.str (S (fgs l)))] st):=by
  refine aM (w:=.d (.str (S (fgs l)))) ?_;by_cases hm:l.take 1=[45]
  ·have j:fgs l=l.drop 1:=by unfold fgs;rw[iFP hm]
   rw[j];refine pY (aS G U ?_) ?_
   ·rw[hm]
    show dEq st (.d (.str (S [45]))) (.d (.str (S [45])))=_;rw[eqT,beq_self_eq_true]
   ·have e:=xZ (f:=iV 0) (lo:=iPs (iC (.int 1))) (hi:=iPn) (env:=[Z (.str (S l)),none]) (st:=st) (T:=l) (l:=some ((1:Nat):Int)) (u:=none) (by lia) U U U
    rw[lT (by have:0<l.length:=qc1.mpr k;lia)]at e;exact e
  ·have j:fgs l=l:=by unfold fgs;rw[iFN hm]
   rw[j];refine kD (aS G U ?_) U;show dEq st (.d (.str (S (l.take 1)))) (.d (.str (S [45])))=_;rw[eqT,hZ,decide_eq_false hm]
 obtain⟨g1,g2⟩:=AF l;have m:∀ c∈fgs l,c<128:=λc o=>H c (AG o);have A:=o5 (te:=i9) U (a:=some (.d (.str (S l)))) (st:=st) m (by lia);have g:=o5 (te:=kK) U (a:=some (.d (.str (S l)))) (st:=st) m (by lia);have p:=o5 (te:=kL) U (a:=some (.d (.str (S l)))) (st:=st) m (by lia);cases hb:(decide ((fgs l).length<=60)&&dgs (fgs l)) with
 |true=>
  rw[hb]at A g p;rw[qao]at hb;have q:(fgs l).length<=60:=of_decide_eq_true hb.1;have hd:=AD hb.2;have F:=EA hd q;have B:=CL k v;have t:nv st [.d (.str (S l))]=some (.int (nbV l)):=by
   show (if (S l).length<=640 then (qeH (S l)).map D.int else none)=_;rw[cn,iFP (by lia)];by_cases hm:l.take 1=[45]
   ·have j:l=45::fgs l:=by
     unfold fgs;rw[iFP hm];cases l with
     |nil=>exact absurd U k
     |cons c r=>
      have:c=45:=by injection hm
      rw[this];rfl
    have C:(S l).cps.toList=45::fgs l:=j;have e:=qfB (x:=S l) (cs:=fgs l) C (λc o=>hd c o) B (by rw[cn];lia);rw[e];unfold nbV;rw[iFP hm];rfl
   ·have j:fgs l=l:=by unfold fgs;rw[iFN hm]
    have E:∀ c∈l,48<=c/\c<=57:=λc o=>hd c (by rw[j];exact o);have e:=qfc (x:=S l) (λc o=>E c o) k (by rw[cn];lia);rw[e];unfold nbV;rw[iFN hm,j];rfl
  refine .inl ⟨nbV l,?_,?_,?_,?_⟩
  ·unfold nbN
   rw[iFN k,iFN v,iFP (by rw[qao];exact hb)]
  ·unfold nbV
   generalize qbM (fgs l)=n at F;generalize (10^60:Nat)=N at F ⊢;split<;>lia
  ·exact run _ (aB (bq y U) (aB b (aB (bq A U) (aR (bQ (ao U U) t)))))
  ·exact i none (ax U (bq y U) (ax U b (ax (cN g U) (bq p U) U)))
 |false=>
  rw[hb]at A g p;refine .inr ⟨?_,run none (aB (bq y U) (aB b (dn (jg A U)))),?_⟩
  ·unfold nbN
   rw[iFN k,iFN v,hb];rfl
  ·rw[i (some st) (ax U (bq y U) (ax U b (dq (jh g U))))]
   show some (st.take st.length)=_;rw[qbd]
def isl (c:Nat):Bool:=decide (97<=c/\c<=102)
def hdW (w:List Nat):List Nat:=(w.reverse.dropWhile isl).reverse
def ltW (w:List Nat):List Nat:=(w.reverse.takeWhile isl).reverse
theorem yL (w:List Nat):hdW w++ltW w=w:=by
 unfold hdW ltW;rw[<-qd0,List.takeWhile_append_dropWhile,qfl]
theorem wL {w:List Nat}:∀ c∈ltW w,97<=c/\c<=102:=λc a=>by
 have:=qas.mp (List.all_takeWhile (p:=isl) (l:=w.reverse)) c (qcU.mp a)
 exact of_decide_eq_true this
theorem vQ {w:List Nat} (i:∀ c∈w,c<128):qeI (S w) "abcdef" = S (hdW w):=by
 have hw:=yL w;have e:=wL (w:=w);have hn:(hdW w).reverse=[]\/∃ c r,(hdW w).reverse=c::r/\("abcdef" : Str).cps.contains c=false:=by
  have h:(hdW w).reverse=w.reverse.dropWhile isl:=by unfold hdW;rw[qfl]
  have g:=List.head?_dropWhile_not isl w.reverse;have hm:∀ c∈(hdW w).reverse,c<128:=λc a=>i c (by rw[<-hw];exact qaW _ (qcU.mp a));rw[h]at hm ⊢;cases hq:w.reverse.dropWhile isl with
  |nil=>exact .inl U
  |cons c r=>
   rw[hq]at g hm;have a:isl c=false:=by simpa using g
   exact .inr ⟨c,r,U,by rw[lZ c (hm c qae)];exact a⟩
 generalize hdW w=A at hw hn ⊢;generalize ltW w=L at hw e;subst hw;have k:∀ c∈L,("abcdef" : Str).cps.contains c=true:=λc a=>by
  have:=e c a
  rw[lZ c (by lia)];exact decide_eq_true this
 have b:qgm ("abcdef" : Str).cps.contains true (S (A++L)) 0=A.length:=by
  show (S (A++L)).length - (((A++L).drop 0).reverse.takeWhile ("abcdef" : Str).cps.contains).length=_
  rw[qcS,qd0,iK (λc a=>k c (qcU.mp a)) hn,cn,qai,qfv];lia
 show qc3 ("abcdef" : Str).cps.contains false true (S (A++L))=_
 unfold qc3 qfY qf8;have d:qgl ("abcdef" : Str).cps.contains false (S (A++L))=0:=rfl
 rw[d,b,cn,qai];by_cases f:L=[]
 ·subst f
  rw[iFP (by simp),qa5]
 ·have:0<L.length:=qc1.mpr f
  have j:((0==0)&&(A.length==A.length+L.length))=false:=by
   have:(A.length==A.length+L.length)=false:=beq_eq_false_iff_ne.mpr (by lia)
   rw[this];rfl
  rw[j,iFN (by decide)];show (⟨((A++L).toArray).extract 0 A.length⟩:Str)=⟨A.toArray⟩
  congr 1
  apply qdu.mp
  simp
def ltI (l:List Nat):List Int:=l.map λc=>((c - 97:Nat):Int)
def pP (w:List Nat):Option Prt:=(nbN (hdW w)).map λn=>(ltI (ltW w),n)
theorem yC {st:Sto}{te:Ef} (a:te=iTm ic (iC (.str "abcdef")) (ae (iV 0) ah)) {L:List Nat} (e:∀ c∈L,97<=c/\c<=102):lcI (.nm 0) bg te [none] (L.map λc=>D.str (S [c])) st=some ((ltI L).map D.int,st):=by
 have f:(ltI L).map D.int=(L.map λc=>D.str (S [c])).map λd=>match d with|.str z=>D.int (qcX "abcdef" z)|d=>d:=by
  unfold ltI;rw[qaX,qaX];refine qc0 λc b=>?_
  have:=e c b
  have h:=qS (c - 97) (by lia);rw[show 97+(c - 97)=c by lia]at h;show D.int ((c - 97:Nat):Int)=D.int (qcX "abcdef" (S [c]))
  rw[h]
 rw[f];refine jy _ λd hd=>?_;obtain⟨c,b,rfl⟩:=qbe.mp hd;refine⟨_,U,?_⟩;rw[a];rfl
theorem Bo {w:List Nat}{st:Sto} (E:∀ c∈w,c<128) (L:w.length<=900) :
  (∃ p,pP w=some p/\p.2.natAbs<10^60/\smD (bw p)=true/\cw [.d (.str (S w))] st=some (.d (bw p),st)/\jt [.d (.str (S w))] st=none)\/
  (pP w=none/\cw [.d (.str (S w))] st=none/\jt [.d (.str (S w))] st=some st):=by
 have hw:=yL w;have j:=congrArg qb3 hw;rw[qai]at j;have o:∀ c∈hdW w,c<128:=λc y=>E c (by rw[<-hw];exact qaW _ y);have C:=wL (w:=w);have run:∀ r,iw [some (.d (.str (S w))),none] st=r->cw [.d (.str (S w))] st=r.bind λr=>match r with|.nx _ s=>some (.d .non,s)|.rt w s=>some (w,s)|_=>none:=λr h=>by rw[<-h];rfl
 have b:∀ r,jN [Z (.str (S w)),none] st=r->jt [.d (.str (S w))] st=r.map λs=>s.take st.length:=λr h=>by rw[<-h];rfl
 have m:aK (.nm 1) (iTm ft (iV 0) (ae (iC (.str "abcdef")) ah)) [Z (.str (S w)),none] st=some (.nx [Z (.str (S w)),Z (.str (S (hdW w)))] st):=by
  refine aM (w:=.d (.str (S (hdW w)))) ?_;have g:ft (S w) "abcdef" = some (.str (S (hdW w))):=by
   unfold ft;rw[cn,iFP (by lia),vQ E]
  have g1:iV 0 [Z (.str (S w)),none] st=some (.d (.str (S w)),st):=rfl;have g2:ae (iC (.str "abcdef")) ah [Z (.str (S w)),none] st=some ([.d (.str "abcdef")],st):=rfl
  simp only[iTm,g1,g2,qaa,g,qak]
 have J:bN st [.d (.str (S (hdW w)))]=some (.int ((hdW w).length:Int)):=by
  show (if (S (hdW w)).length<=1000000 then some (D.int ((S (hdW w)).length:Int)) else none)=_;rw[cn,iFP (by lia)]
 have I:dk (iV 0) (iPs (iCB bN (ae (iV 1) ah))) iPn [Z (.str (S w)),Z (.str (S (hdW w)))] st=some (.d (.str (S (ltW w))),st):=by
  have H:iPs (iCB bN (ae (iV 1) ah)) [Z (.str (S w)),Z (.str (S (hdW w)))] st=some (some ((hdW w).length:Int),st):=by
   have:=bQ (a:=ae (iV 1) ah) (env:=[Z (.str (S w)),Z (.str (S (hdW w)))]) (ao U U) J
   simp only[iPs,this,qaa,yS,qak]
  have e:=xZ (f:=iV 0) (lo:=iPs (iCB bN (ae (iV 1) ah))) (hi:=iPn) (env:=[Z (.str (S w)),Z (.str (S (hdW w)))]) (st:=st) (T:=w) (l:=some ((hdW w).length:Int)) (u:=none) (by lia) U H U;rw[lT (by lia)]at e;rw[e];have hd:w.drop (hdW w).length=ltW w:=by
   have:(hdW w++ltW w).drop (hdW w).length=ltW w:=qdW ..
   rwa [hw]at this
  rw[hd]
 have k:∀ te,te=iTm ic (iC (.str "abcdef")) (ae (iV 0) ah)->iCB jZ (ae (ay (iLc 1 [] (cO (dk (iV 0) (iPs (iCB bN (ae (iV 1) ah))) iPn)) (.nm 0) bg te)) ah) [Z (.str (S w)),Z (.str (S (hdW w)))] st=some (.d (dL (ltI (ltW w))),st):=λte v=>by
  have G:((ltW w).map λc=>D.str (S [c])).length<=1000000:=by rw[qan];lia
  exact bQ (ao (bx (eI (tw I λc y=>by have:=C c y;lia) G (yC v C))) U) U
 rcases A9 (st:=st) o (by lia) with⟨n,B,F,t,z⟩|⟨B,t,z⟩
 ·have A:pP w=some (ltI (ltW w),n):=by unfold pP;rw[B];rfl
  refine .inl ⟨_,A,F,?_,?_,?_⟩
  ·have K:smD (dL (ltI (ltW w)))=true:=hW.mpr ⟨by rw[qan];unfold ltI;rw[qan];lia,λd hd=>by
    obtain⟨i,_,rfl⟩:=qbe.mp hd
    rfl⟩
   exact hW.mpr ⟨by show 2<=1000;decide,λd hd=>by
    simp only[qat,qbt,or_false]at hd;rcases hd with rfl|rfl
    ·exact K
    ·rfl⟩
  ·exact run _ (aB m (aR (kY (ds:=[dL (ltI (ltW w)),.int n]) (ao (k _ U) (ao (aA (ao U U) t) U)) U (by show 2<=1000;decide))))
  ·have x:gE (iCB jZ (ae (ay (iLc 1 [] (cO (dk (iV 0) (iPs (iCB bN (ae (iV 1) ah))) iPn)) (.nm 0) bg gh)) ah)) (gY eS (ae (iV 1) ah)) [Z (.str (S w)),Z (.str (S (hdW w)))] st=none:=by
    simp only[gE,k gh U,qaa];exact eZ (ws:=[.d (.str (S (hdW w)))]) U z
   exact b none (ax U m x)
 ·have A:pP w=none:=by unfold pP;rw[B];rfl
  refine .inr ⟨A,run none (aB m ?_),?_⟩
  ·have q:aQ (ae (iCB jZ (ae (ay (iLc 1 [] (cO (dk (iV 0) (iPs (iCB bN (ae (iV 1) ah))) iPn)) (.nm 0) bg fI)) ah)) (ae (au cX (ae (iV 1) ah)) ah)) [Z (.str (S w)),Z (.str (S (hdW w)))] st=none:=by
    have c1:au cX (ae (iV 1) ah) [Z (.str (S w)),Z (.str (S (hdW w)))] st=none:=by
     have a1:ae (iV 1) ah [Z (.str (S w)),Z (.str (S (hdW w)))] st=some ([.d (.str (S (hdW w)))],st):=rfl;simp only[au,a1,qaa,t]
    simp only[aQ,ae,k fI U,c1,qaa,qbi];rfl
   simp only[aW,q,qdy]
  ·have x:gE (iCB jZ (ae (ay (iLc 1 [] (cO (dk (iV 0) (iPs (iCB bN (ae (iV 1) ah))) iPn)) (.nm 0) bg gh)) ah)) (gY eS (ae (iV 1) ah)) [Z (.str (S w)),Z (.str (S (hdW w)))] st=some st:=by
    simp only[gE,k gh U,qaa];exact eZ (ws:=[.d (.str (S (hdW w)))]) U z
   rw[b (some st) (ax U m x)];show some (st.take st.length)=_;rw[qbd]
end Own
set_option maxHeartbeats 1000000
namespace Own
open PySem L2
def J:List (List Nat)->List Nat
 |[]=>[]
 |[a]=>a
 |a::b::r=>a++32::J (b::r)
theorem yj:∀ {a:List Nat}{r:List (List Nat)},32∉a->(J (a::r)).takeWhile (· != 32)=a/\(J (a::r)).dropWhile (· != 32)=(match r with|[]=>[]|b::s=>32::J (b::s)):=by
 intro a r f;have d:∀ c∈a,(c != 32)=true:=λc i=>by
  have:c≠32:=λz=>f (by rw[<-z];exact i)
  simp[this]
 cases r with
 |nil=>
  refine⟨?_,?_⟩
  ·have:=iK (p:=(· != 32)) (l:=a) (m:=[]) d (.inl U)
   rw[qa5]at this;exact this
  ·show a.dropWhile (· != 32)=[]
   clear f
   induction a with
   |nil=>rfl
   |cons c a h=>rw[List.dropWhile_cons,d c qae,iFP U];exact h λx g=>d x (qah _ g)
 |cons b s=>
  have e:J (a::b::s)=a++32::J (b::s):=rfl;refine⟨?_,?_⟩
  ·rw[e]
   exact iK d (.inr ⟨32,_,U,U⟩)
  ·rw[e]
   show (a++32::J (b::s)).dropWhile (· != 32)=32::J (b::s);rw[List.dropWhile_append_of_pos d];rfl
theorem BS:∀ {ws vs:List (List Nat)},ws≠[]->vs≠[]->(∀ w∈ws,32∉w)->(∀ v∈vs,32∉v)->J ws=J vs->ws=vs
 |[],_,h,_,_,_,_=>absurd U h
 |_::_,[],_,h,_,_,_=>absurd U h
 |a::r,b::s,_,_,hw,d,e=>by
  obtain⟨a1,a2⟩:=yj (r:=r) (hw a qae);obtain⟨b1,b2⟩:=yj (r:=s) (d b qae);have c:a=b:=by rw[<-a1,e,b1]
  rw[e,b2]at a2;subst c;cases r with
  |nil=>
   cases s with
   |nil=>rfl
   |cons _ _=>cases a2
  |cons x r=>
   cases s with
   |nil=>cases a2
   |cons y s=>
    injection a2 with _ a2;rw[BS (ws:=x::r) (vs:=y::s) (by simp) (by simp) (λw h=>hw w (qah _ h)) (λv h=>d v (qah _ h)) a2.symm]
theorem u9:∀ ws:List (List Nat),qcY (S [32]) (ws.map S)=S (J ws)
 |[]=>rfl
 |[a]=>rfl
 |a::b::r=>by
  have c:=u9 (b::r);rw[qal]at c;rw[qal,qal];show S a++S [32]++qcY (S [32]) (S b::r.map S)=_;rw[c,jO,jO]
  congr 1
  show a++[32]++J (b::r)=a++32::J (b::r)
  simp
theorem Gc (x:Str):x=S x.cps.toList:=by
 obtain⟨a⟩:=x;show (⟨a⟩:Str)=⟨a.toList.toArray⟩
 simp
theorem xq {ws:List (List Nat)} (g:J ws≠[]) (h:∀ w∈ws,32∉w):qcw (S (J ws)) " " = ws.map S:=by
 have f:=qgK (S (J ws)) (S [32]);have a:=qgI (S (J ws)) 32;show qcw (S (J ws)) (S [32])=_;have a:∀ p∈qcw (S (J ws)) (S [32]),32∉p.cps.toList:=a;generalize qcw (S (J ws)) (S [32])=l at f a;have c:l=(l.map λs=>s.cps.toList).map S:=by
  rw[qaX]
  conv=>lhs;rw[<-qhF l]
  exact qc0 λs _=>Gc s
 generalize k:(l.map λs=>s.cps.toList)=vs at c;have b:∀ v∈vs,32∉v:=λv hm=>by
  rw[<-k]at hm;obtain⟨s,j,rfl⟩:=qbe.mp hm;exact a s j
 rw[c,u9]at f;have e:=BU f;have d:vs≠[]:=λz=>by rw[z]at e;exact g e.symm
 have i:ws≠[]:=λz=>by rw[z]at g;exact g U
 rw[c,BS d i b h e]
theorem Fj {f:Ef}{env:Ev}{st:Sto}{ws:List (List Nat)} (e:f env st=some (.d (.str (S (J ws))),st)) (a:J ws≠[]) (h:∀ w∈ws,32∉w) (g:(J ws).length<=10000) (hw:ws.length<=1000):sx f (ae (iC (.str " ")) ah) env st=some (.d (.lst ((ws.map S).map D.str)),st):=by
 have b:ae (iC (.str " ")) ah env st=some ([.d (.str " ")],st):=rfl
 have c:(S (J ws)).length<=100000/\(" " : Str).length=1/\(qcw (S (J ws)) " ").length<=100000/\(qf1 (S (J ws)) (qf3 (S (J ws)) " " 0 (S (J ws)).length ((S (J ws)).length+1)) (" " : Str).length).length<=100000:=by
  refine⟨by rw[cn];lia,U,by rw[xq a h,qan];lia,?_⟩;rw[PySem.length_partsBetween]
  have:=qgJ (S (J ws)) " " 0 (S (J ws)).length ((S (J ws)).length+1)
  rw[cn]at this ⊢;lia
 simp only[sx,e,b,qaa];rw[iFP c,xq a h]
theorem yi:∀ (ps:List Prt) (a:List Nat),J (a::ps.map pw)=a++ptl ps
 |[],a=>by show a=a++[];rw[qa5]
 |p::ps,a=>by
  show a++32::J (pw p::ps.map pw)=a++((32::pw p)++ptl ps);rw[yi ps (pw p)];rfl
theorem Bz {p:Prt} (h:Gd p):32∉pw p:=λz=>by
 rcases qba.mp z with z|z
 ·unfold hdN at z
  split at z
  ·split at z
   ·have:=qaz.mp z;lia
   ·cases z
  ·rcases uF z with z|z<;>lia
 ·have:=sJ h.trm z;lia
structure Pok (ps:List Prt):Prop where
 gd:∀ p∈ps,Gd p
 up:ups (λa b=>vz a b) (ps.map qbh)=true
 few:ps.length<=900
theorem AK {p:Prt} (h:Gd p):nY (bw p)=true:=by
 show (isT (dL p.1)&&(wh (.int p.2)&&nz (.int p.2)))=true;rw[BP h.trm];simp[wh,nz,h.nz]
theorem EF {p:Prt} (h:Gd p):smD (bw p)=true:=by
 have a:smD (dL p.1)=true:=hW.mpr ⟨by rw[qan];have:=tU h.trm;lia,λd hd=>by
  obtain⟨i,_,rfl⟩:=qbe.mp hd
  rfl⟩
 exact hW.mpr ⟨by show 2<=1000;decide,λd hd=>by
  simp only[qat,qbt,or_false]at hd;rcases hd with rfl|rfl
  ·exact a
  ·rfl⟩
def kdN (b:Bool):List Nat:=if b then [98,111,116,104] else [111,100,100]
theorem sD (b:Bool):32∉kdN b/\(kdN b).length<=10/\kdN b≠[]:=by cases b<;>decide
theorem wY {b:Bool}{ps:List Prt} (h:Pok ps):smD (ie (S (kdN b)) ps)=true:=by
 have a:smD (.tup (ps.map bw))=true:=hW.mpr ⟨by rw[qan];have:=h.few;lia,λd hd=>by
  obtain⟨p,c,rfl⟩:=qbe.mp hd
  exact EF (h.gd p c)⟩
 exact hW.mpr ⟨by show 2<=1000;decide,λd hd=>by
  simp only[qat,qbt,or_false]at hd;rcases hd with rfl|rfl
  ·rfl
  ·exact a⟩
theorem uN {b:Bool}{ps:List Prt} (h:Pok ps):isP (ie (S (kdN b)) ps)=true:=by
 show (kdD (.str (S (kdN b)))&&pF none (ps.map bw))=true;rw[wS λp a=>AK (h.gd p a),h.up,qee];cases b<;>decide
theorem lG {s:Sto}{x:Str}{e:Ev}:ba (bJ bG (iCB cC (ae (iV 0) (ae (iC (.ty "str")) ah)))) (Z (.str x)::e) s=some (false,s):=rfl
theorem zE {st:Sto}{b:Bool}{ps:List Prt} (h:Pok ps) (F:(ptx (kdN b) ps).length<=900):cb [.d (.str (S (ptx (kdN b) ps)))] st=some (.d (ie (S (kdN b)) ps),st):=by
 obtain⟨k1,k2,k3⟩:=sD b;have B:=h.few;have E:=pV (st:=st) (wY (b:=b) h);rw[uN h]at E;have G:=qd (st:=st) (kd:=kdN b) k2 h.gd h.few;have x:(ptx (kdN b) ps).length<=10000:=by lia
 refine bz (n:=4) (k:=1) (b:=fH) U ?_;show fH [Z (.str (S (ptx (kdN b) ps))),none,none,none] st=_
 -- the words
 obtain⟨ws,hJ,hfree,hwl,hpar⟩:∃ ws:List (List Nat),J (kdN b::ws)=ptx (kdN b) ps/\(∀ w∈kdN b::ws,32∉w)/\ws.length<=900/\
   gj (aC dEq (iV 2) (ay (cL (ae (iC (.str "0")) ah)))) (aQ ah) (iCB jZ (ae (ay (iLc 1 [] (bh (iV 2)) (.nm 0) bg cm)) ah)) [Z (.str (S (ptx (kdN b) ps))),Z (.lst ((S (kdN b)::ws.map S).map D.str)),Z (.lst ((ws.map S).map D.str)),none] st=some (.d (.tup (ps.map bw)),st):=by
  by_cases C:ps=[]
  ·subst C
   refine⟨[[48]],?_,?_,by decide,?_⟩
   ·unfold ptx
    rw[iFP U];rfl
   ·intro w hw
    simp only[qat,qbt,or_false]at hw;rcases hw with rfl|rfl
    ·exact k1
    ·decide
   ·refine pY (aS U U ?_) U
    show ((eqK (.ls [.str (S [48])]) (.ls [.str "0"])).map λk=>D.bl k)=_
    rfl
  ·refine⟨ps.map pw,?_,?_,by rw[qan];exact h.few,?_⟩
   ·rw[yi];unfold ptx;rw[iFN C]
   ·intro w hw
    rcases qat.mp hw with rfl|hw
    ·exact k1
    ·obtain⟨p,u,rfl⟩:=qbe.mp hw
     exact Bz (h.gd p u)
   ·have s:lcI (.nm 0) bg cm [none] (((ps.map pw).map S).map D.str) st=some (ps.map bw,st):=by
     have hm:∀ a:List Prt,(∀ p∈a,Gd p)->lcI (.nm 0) bg cm [none] (((a.map pw).map S).map D.str) st=some (a.map bw,st):=by
      intro a
      induction a with
      |nil=>intro _;rfl
      |cons q a K=>
       intro e;have t:=K λz l=>e z (qah _ l);have H:cm [Z (.str (S (pw q)))] st=some (.d (bw q),st):=aA U (DC (e q qae));rw[qal,qal,qal,qal];unfold lcI;rw[show dC (.nm 0) (.d (.str (S (pw q)))) [none]=some [Z (.str (S (pw q)))] from U,qaa,show bg [Z (.str (S (pw q)))] st=some (true,st) from U,qaa,iFP U,H,qaa,t];rfl
     exact hm ps h.gd
    have l:(((ps.map pw).map S).map D.str).length<=1000000:=by rw[qan,qan,qan];lia
    refine kD (aS U U ?_) (bQ (ao (bx (eI (mR U) l s)) U) U);show ((eqK (.ls (((ps.map pw).map S).map D.str)) (.ls [.str "0"])).map λk=>D.bl k)=_
    rw[eqK];by_cases j:(((ps.map pw).map S).map D.str).length=[D.str "0"].length
    ·rw[iFP j]
     simp only[qan,qaf,qaN]at j
     match ps,j,h.gd with
     |[p],_,i=>
      have i:=i p qae;have u:pw p≠[48]:=λz=>by
       unfold pw at z;by_cases A:p.1≠[]/\p.2.natAbs=1
       ·have v:hdN p=if p.2<0 then [45] else []:=by unfold hdN;rw[iFP A]
        have:(48:Nat)∈hdN p++lt p.1:=by rw[z];simp
        rcases qba.mp this with q|q
        ·rw[v]at q
         split at q
         ·have:=qaz.mp q;lia
         ·cases q
        ·have:=sJ i.trm q;lia
       ·have v:hdN p=cE p.2:=by unfold hdN;rw[iFN A]
        rw[v]at z;have m:lt p.1=[]:=by
         cases e:cE p.2 with
         |nil=>exact absurd e (ze _)
         |cons c r=>
          rw[e]at z;injection z with _ z;exact (qfa.mp z).2
        rw[m,qa5]at z;exact i.nz (zf.mp z)
      have I:(S (pw p)==("0" : Str))=false:=by
       show (S (pw p)==S [48])=false;rw[hZ];exact decide_eq_false u
      show qft _ (if [D.str (S (pw p))].all (okD 60)=true/\[D.str "0"].all (okD 60)=true then some (jb [D.str (S (pw p))] [D.str "0"]) else none)=_
      rw[iFP ⟨U,U⟩];show some (D.bl (eqD (.str (S (pw p))) (.str "0")&&true))=_
      simp only[eqD,I,qgp]
    ·rw[iFN j];rfl
 have g:J (kdN b::ws)≠[]:=λz=>by
  rw[hJ]at z;unfold ptx at z;exact k3 (qfa.mp z).1
 have y:=Fj (f:=iV 0) (env:=[Z (.str (S (ptx (kdN b) ps))),none,none,none]) (st:=st) (ws:=kdN b::ws) (by rw[hJ];rfl) g hfree (by rw[hJ];exact x) (by rw[qaf];lia);rw[qal]at y;have s2:iSl (iV 1) (iPs (iC (.int 1))) iPn [Z (.str (S (ptx (kdN b) ps))),Z (.lst ((S (kdN b)::ws.map S).map D.str)),none,none] st=some (.d (.lst ((ws.map S).map D.str)),st):=by
  show some (W.d (.lst (mK ((S (kdN b)::ws.map S).map D.str) (some (1:Int)) none)),st)=_;rw[show (1:Int)=((1:Nat):Int) from U,ug];rfl
 have g0:∀ o,iOp dIx (iV 1) (iC (.int 0)) [Z (.str (S (ptx (kdN b) ps))),Z (.lst ((S (kdN b)::ws.map S).map D.str)),Z (.lst ((ws.map S).map D.str)),o] st=some (.d (.str (S (kdN b))),st):=λo=>aI U U (by
  show atI (D.str (S (kdN b))::(ws.map S).map D.str) 0=_
  exact nO _ _)
 have tt:dv (ba (bJ bG (au dw (ae (iV 3) ah)))) (aC dNe (au cp (ae (iV 3) ah)) (iV 0)) [Z (.str (S (ptx (kdN b) ps))),Z (.lst ((S (kdN b)::ws.map S).map D.str)),Z (.lst ((ws.map S).map D.str)),Z (ie (S (kdN b)) ps)] st=some (false,st):=
  mw (ig (lh (aA (ao U U) E))) (aS (aA (ao U U) G) U (by rw[neT,beq_self_eq_true];rfl))
 exact be (fV lG U) (be (aM y) (be (aM s2) (be (aM (kY (ds:=[.str (S (kdN b)),.tup (ps.map bw)]) (ao (g0 _) (ao hpar U)) U (by show 2<=1000;decide))) (be (fV tt U) (aR U)))))
end Own
set_option maxHeartbeats 1000000
namespace Own
open PySem L2
theorem u8:∀ l:List Nat,∃ (w:List Nat) (r:List (List Nat)),J (w::r)=l/\32∉w/\∀ v∈r,32∉v
 |[]=>⟨[],[],U,by simp,by simp⟩
 |c::t=>by
  obtain⟨w,r,b,d,f⟩:=u8 t;by_cases e:c=32
  ·subst e
   refine⟨[],w::r,by show ([]:List Nat)++32::J (w::r)=_;rw[b];rfl,by simp,λv a=>?_⟩;rcases qat.mp a with rfl|a
   ·exact d
   ·exact f v a
  ·refine⟨c::w,r,?_,λz=>?_,f⟩
   ·rw[<-b]
    cases r<;>rfl
   ·rcases qat.mp z with z|z
    ·exact e z.symm
    ·exact d z
theorem wc:∀ (w:List Nat) (r:List (List Nat)),(∀ v∈w::r,v.length<=(J (w::r)).length/\∀ c∈v,c∈J (w::r))/\r.length<=(J (w::r)).length
 |w,[]=>⟨λv b=>by
   rw[qaz.mp b]
   exact⟨qaw _,λc a=>a⟩,qbs _⟩
 |w,u::r=>by
  obtain⟨d,f⟩:=wc u r;have e:J (w::u::r)=w++32::J (u::r):=rfl;rw[e,qai,qaf,qaf];refine⟨λv b=>?_,by lia⟩;rcases qat.mp b with rfl|b
  ·exact⟨by lia,λc a=>qaW _ a⟩
  ·obtain⟨g1,g2⟩:=d v b
   exact⟨by lia,λc a=>qap _ (qah _ (g2 c a))⟩
def vN:List (List Nat)->Option (List Prt)
 |[]=>some []
 |w::ws=>(pP w).bind λp=>(vN ws).map λps=>p::ps
theorem wZ:∀ {ws:List (List Nat)}{ps:List Prt},vN ws=some ps->ps.length=ws.length
 |[],ps,h=>by cases h;rfl
 |w::ws,ps,h=>by
  obtain⟨p,_,h⟩:=qab.mp h;obtain⟨b,a,rfl⟩:=qac.mp h;rw[qaf,qaf,wZ a]
theorem uO {st:Sto}:∀ (ws:List (List Nat)),(∀ w∈ws,(∀ c∈w,c<128)/\w.length<=900)->
  (∃ ps,vN ws=some ps/\(∀ p∈ps,p.2.natAbs<10^60/\smD (bw p)=true)/\(∀ te,te=au cw (ae (iV 0) ah)->lcI (.nm 0) bg te [none] ((ws.map S).map D.str) st=some (ps.map bw,st))/\j0 (.nm 0) dB cB [none] ((ws.map S).map D.str) st=none)\/
  (vN ws=none/\(∀ te,te=au cw (ae (iV 0) ah)->lcI (.nm 0) bg te [none] ((ws.map S).map D.str) st=none)/\j0 (.nm 0) dB cB [none] ((ws.map S).map D.str) st=some st)
 |[],_=>.inl ⟨[],U,λ_ h=>(nomatch h),λ_ _=>rfl,U⟩
 |w::ws,h=>by
  have f:dC (.nm 0) (.d (.str (S w))) [none]=some [Z (.str (S w))]:=rfl;have k:∀ e,bg e st=some (true,st):=λ_=>rfl;obtain⟨r,u⟩:=h w qae;rcases Bo (st:=st) r u with⟨p,g,s,q,l,m⟩|⟨g,l,m⟩
  ·have c1:au cw (ae (iV 0) ah) [Z (.str (S w))] st=some (.d (bw p),st):=aA (ws:=[.d (.str (S w))]) U l
   have c2:cB [Z (.str (S w))] st=none:=eZ (ws:=[.d (.str (S w))]) U m;have c3:dB [Z (.str (S w))] st=some (.d (bw p),st):=c1;rcases uO (st:=st) ws λv t=>h v (qah _ t) with⟨ps,o,y,n,j⟩|⟨o,n,j⟩
   ·refine .inl ⟨p::ps,by unfold vN;rw[g,o];rfl,λx i=>?_,λte a=>?_,?_⟩
    ·rcases qat.mp i with rfl|i
     ·exact⟨s,q⟩
     ·exact y x i
    ·have b:=n te a
     rw[a]at b ⊢;show lcI (.nm 0) bg _ [none] (D.str (S w)::(ws.map S).map D.str) st=_;simp only[lcI,f,k,c1,qaa,if_true,fz,qak,b];rfl
    ·show j0 (.nm 0) _ _ [none] (D.str (S w)::(ws.map S).map D.str) st=_
     simp only[j0,f,c2,c3,qaa,fz,qak,j]
   ·refine .inr ⟨by unfold vN;rw[g,o];rfl,λte a=>?_,?_⟩
    ·have b:=n te a
     rw[a]at b ⊢;show lcI (.nm 0) bg _ [none] (D.str (S w)::(ws.map S).map D.str) st=_;simp only[lcI,f,k,c1,qaa,if_true,fz,qak,b];rfl
    ·show j0 (.nm 0) _ _ [none] (D.str (S w)::(ws.map S).map D.str) st=_
     simp only[j0,f,c2,c3,qaa,fz,qak,j]
  ·have c1:au cw (ae (iV 0) ah) [Z (.str (S w))] st=none:=by
    have a1:ae (iV 0) ah [Z (.str (S w))] st=some ([.d (.str (S w))],st):=rfl;simp only[au,a1,qaa,l]
   have c2:cB [Z (.str (S w))] st=some st:=eZ (ws:=[.d (.str (S w))]) U m;refine .inr ⟨by unfold vN;rw[g];rfl,λte a=>?_,?_⟩
   ·rw[a]
    show lcI (.nm 0) bg _ [none] (D.str (S w)::(ws.map S).map D.str) st=_;simp only[lcI,f,k,c1,qaa,if_true,qbi]
   ·show j0 (.nm 0) _ _ [none] (D.str (S w)::(ws.map S).map D.str) st=_
    simp only[j0,f,c2,qaa]
theorem EB {s:Sto} (ws:List (List Nat)):dEq s (.d (.lst ((ws.map S).map D.str))) (.d (.lst [.str "0"]))=some (.bl (decide (ws=[[48]]))):=by
 show ((eqK (.ls ((ws.map S).map D.str)) (.ls [.str "0"])).map λk=>D.bl k)=_
 rw[eqK]
 match ws with
 |[]=>rfl
 |[w]=>
  rw[iFP (show (List.map D.str (List.map S [w])).length=[D.str "0"].length from U)]
  show qft _ (if [D.str (S w)].all (okD 60)=true/\[D.str "0"].all (okD 60)=true then some (jb [D.str (S w)] [D.str "0"]) else none)=_
  rw[iFP ⟨U,U⟩];show some (D.bl (eqD (.str (S w)) (.str (S [48]))&&true))=_;simp only[eqD,hZ,qee]
  congr 2
  rw[qbH];simp
 |a::b::r=>
  rw[iFN (by simp)];show some (D.bl false)=_
  congr 2
  rw[eq_comm,decide_eq_false_iff_not]
  simp
theorem A3 {kd:List Nat} (h:kdD (.str (S kd))=true):∃ b,kd=kdN b:=by
 have h:((S kd==S [98,111,116,104])||(S kd==S [111,100,100]))=true:=h;rw[hZ,hZ,qeE]at h;rcases h with h|h
 ·exact⟨true,of_decide_eq_true h⟩
 ·exact⟨false,of_decide_eq_true h⟩
theorem DS {kd:List Nat}{ps:List Prt} (h:isP (ie (S kd) ps)=true) (l:∀ p∈ps,p.2.natAbs<10^60) (f:ps.length<=900):(∃ b,kd=kdN b)/\Pok ps:=by
 have h:(kdD (.str (S kd))&&pF none (ps.map bw))=true:=h;rw[qao]at h;have g:=zk _ _ h.2;have a:∀ p∈ps,nY (bw p)=true:=λp a=>qas.mp g _ (qbe.mpr ⟨p,a,U⟩);refine⟨A3 h.1,λp c=>?_,by rw[<-wS a];exact h.2,f⟩;obtain⟨q,e,d,j⟩:=uv (a p c);have k:p.1=q.1:=by rw[<-kj p,e,kj]
 have i:p.2=q.2:=by
  have e:D.tup [dL p.1,.int p.2]=D.tup [dL q.1,.int q.2]:=e;injection e with e;injection e with _ e;injection e with e _;injection e
 exact⟨by rw[k];exact d,by rw[i];exact j,l p c⟩
theorem xY {l:List Nat}{st:Sto} (X:∀ c∈l,c<128) (V:l.length<=900):(∃ b ps,Pok ps/\ptx (kdN b) ps=l)\/(cb [.d (.str (S l))] st=none/\dM [.d (.str (S l))] st=some st):=by
 have run:∀ r,fH [some (.d (.str (S l))),none,none,none] st=r->cb [.d (.str (S l))] st=r.bind λr=>match r with|.nx _ s=>some (.d .non,s)|.rt w s=>some (w,s)|_=>none:=λr h=>by rw[<-h];rfl
 have m:gf [some (.d (.str (S l))),none,none,none] st=some st->dM [.d (.str (S l))] st=some st:=λh=>by
  show (gf [some (.d (.str (S l))),none,none,none] st).map _=_;rw[h];show some (st.take st.length)=_;rw[qbd]
 obtain⟨kd,ws,A,k1,o⟩:=u8 l;obtain⟨b1,b2⟩:=wc kd ws;rw[A]at b1 b2;have j:∀ w∈kd::ws,32∉w:=λw hw=>by
  rcases qat.mp hw with rfl|hw
  ·exact k1
  ·exact o w hw
 have y:sx (iV 0) (ae (iC (.str " ")) ah) [some (.d (.str (S l))),none,none,none] st=some (.d (.lst ((S kd::ws.map S).map D.str)),st):=by
  by_cases O:l=[]
  ·subst O
   have z1:=(b1 kd qae).1;cases kd with
   |nil=>
    cases ws with
    |nil=>
     have e:qcw (S []) " " = [S []]:=by decide +kernel
     have K:iV 0 [some (.d (.str (S []))),none,none,none] st=some (.d (.str (S [])),st):=rfl;have Q:ae (iC (.str " ")) ah [some (.d (.str (S []))),none,none,none] st=some ([.d (.str " ")],st):=rfl
     simp only[sx,K,Q,qaa];rw[iFP (by decide +kernel),e];rfl
    |cons a r=>rw[qaf,qaN]at b2;lia
   |cons a r=>rw[qaf,qaN]at z1;lia
  ·have y:=Fj (f:=iV 0) (env:=[some (.d (.str (S l))),none,none,none]) (st:=st) (ws:=kd::ws) (by rw[A];rfl) (by rw[A];exact O) j (by rw[A];lia) (by rw[qaf];lia)
   rw[qal]at y;exact y
 have S1:aK (.nm 1) (sx (iV 0) (ae (iC (.str " ")) ah)) [some (.d (.str (S l))),none,none,none] st=some (.nx [some (.d (.str (S l))),some (.d (.lst ((S kd::ws.map S).map D.str))),none,none] st):=aM y
 have s2:iSl (iV 1) (iPs (iC (.int 1))) iPn [some (.d (.str (S l))),some (.d (.lst ((S kd::ws.map S).map D.str))),none,none] st=some (.d (.lst ((ws.map S).map D.str)),st):=by
  show some (W.d (.lst (mK ((S kd::ws.map S).map D.str) (some (1:Int)) none)),st)=_;rw[show (1:Int)=((1:Nat):Int) from U,ug];rfl
 have S2:aK (.nm 2) (iSl (iV 1) (iPs (iC (.int 1))) iPn) [some (.d (.str (S l))),some (.d (.lst ((S kd::ws.map S).map D.str))),none,none] st=some (.nx [some (.d (.str (S l))),some (.d (.lst ((S kd::ws.map S).map D.str))),some (.d (.lst ((ws.map S).map D.str))),none] st):=aM s2;generalize x:[some (.d (.str (S l))),some (W.d (.lst ((S kd::ws.map S).map D.str))),some (.d (.lst ((ws.map S).map D.str))),none]=E at S2;have g0:iOp dIx (iV 1) (iC (.int 0)) E st=some (.d (.str (S kd)),st):=by
  rw[<-x];exact aI U U (by show atI (D.str (S kd)::(ws.map S).map D.str) 0=_;exact nO _ _)
 have k:aC dEq (iV 2) (ay (cL (ae (iC (.str "0")) ah))) E st=some (decide (ws=[[48]]),st):=by
  rw[<-x];exact aS U U (EB ws)
 have B:bh (iV 2) E st=some ((ws.map S).map D.str,st):=by rw[<-x];exact mR U
 have em:jx 1 [] E=[none]:=by rw[<-x];rfl
 have z:((ws.map S).map D.str).length<=1000000:=by rw[qan,qan];lia
 -- once the parts are there
 have fin:∀ ps:List Prt,ps.length<=900->(∀ p∈ps,p.2.natAbs<10^60/\smD (bw p)=true)->
   (∀ te,te=au cw (ae (iV 0) ah)->gj (aC dEq (iV 2) (ay (cL (ae (iC (.str "0")) ah)))) (aQ ah) (iCB jZ (ae (ay (iLc 1 [] (bh (iV 2)) (.nm 0) bg te)) ah)) E st=some (.d (.tup (ps.map bw)),st))->
   gE (iOp dIx (iV 1) (iC (.int 0))) (xIf (aC dEq (iV 2) (ay (cL (ae (iC (.str "0")) ah)))) xNo (xLc 1 [] (bh (iV 2)) (.nm 0) dB cB)) E st=none->
   (∃ b ps,Pok ps/\ptx (kdN b) ps=l)\/(cb [.d (.str (S l))] st=none/\dM [.d (.str (S l))] st=some st):=by
  intro ps G v q F;have C:smD (ie (S kd) ps)=true:=by
   have K:smD (.tup (ps.map bw))=true:=hW.mpr ⟨by rw[qan];lia,λd hd=>by
    obtain⟨p,H,rfl⟩:=qbe.mp hd
    exact (v p H).2⟩
   exact hW.mpr ⟨by show 2<=1000;decide,λd hd=>by
    simp only[qat,qbt,or_false]at hd;rcases hd with rfl|rfl
    ·rfl
    ·exact K⟩
  have Y:=pV (st:=st) C;have S3:∀ te,te=au cw (ae (iV 0) ah)->aK (.nm 3) (aQ (ae (iOp dIx (iV 1) (iC (.int 0))) (ae (gj (aC dEq (iV 2) (ay (cL (ae (iC (.str "0")) ah)))) (aQ ah) (iCB jZ (ae (ay (iLc 1 [] (bh (iV 2)) (.nm 0) bg te)) ah))) ah))) E st=some (.nx [some (.d (.str (S l))),some (.d (.lst ((S kd::ws.map S).map D.str))),some (.d (.lst ((ws.map S).map D.str))),some (.d (ie (S kd) ps))] st):=λte n=>by
   have:=aM (i:=3) (kY (ds:=[.str (S kd),.tup (ps.map bw)]) (ao g0 (ao (b:=ah) (q te n) U)) U (by show 2<=1000;decide))
   rw[<-x]at this ⊢;exact this
  generalize u:[some (.d (.str (S l))),some (W.d (.lst ((S kd::ws.map S).map D.str))),some (.d (.lst ((ws.map S).map D.str))),some (.d (ie (S kd) ps))]=E3 at S3;have c1:ba (bJ bG (au dw (ae (iV 3) ah))) E3 st=some (!isP (ie (S kd) ps),st):=by
   rw[<-u];exact ig (lh (aA (ao U U) Y))
  have N:dv (ba (bJ bG (au dw (ae (iV 3) ah)))) (aC dNe (au cp (ae (iV 3) ah)) (iV 0)) E3 st=some (true,st)->(cb [.d (.str (S l))] st=none/\dM [.d (.str (S l))] st=some st):=λt=>
   ⟨run none (aB (bq lG U) (aB S1 (aB S2 (aB (S3 cm U) (dn (jg t U)))))),
    m (ax (cN lG U) (bq lG U) (ax U S1 (ax U S2 (ax F (S3 kM U) (dq (jh t U))))))⟩
  cases hb:isP (ie (S kd) ps) with
  |false=>
   rw[hb]at c1;exact .inr (N (xc c1))
  |true=>
   rw[hb]at c1;obtain⟨⟨b,rfl⟩,g⟩:=DS hb (λp H=>(v p H).1) G;have T:=qd (st:=st) (kd:=kdN b) (sD b).2.1 g.gd g.few;have L:aC dNe (au cp (ae (iV 3) ah)) (iV 0) E3 st=some (!decide (ptx (kdN b) ps=l),st):=by
    rw[<-u];exact aS (aA (ao U U) T) U (by rw[neT,hZ])
   by_cases M:ptx (kdN b) ps=l
   ·exact .inl ⟨b,ps,g,M⟩
   ·rw[decide_eq_false M]at L
    exact .inr (N (mw c1 L))
 by_cases hw:ws=[[48]]
 ·rw[decide_eq_true hw]at k
  refine fin [] (by decide) (λ_ h=>(nomatch h)) (λte _=>pY k U) ?_
  simp only[gE,g0,qaa];exact jh k U
 ·rw[decide_eq_false hw]at k
  rcases uO (st:=st) ws (λw hm=>⟨λc R=>X c ((b1 w (qah _ hm)).2 c R),qaU (b1 w (qah _ hm)).1 V⟩) with⟨ps,P,q2,I,J⟩|⟨P,I,J⟩
  ·refine fin ps (by rw[wZ P];lia) q2 (λte n=>kD k (bQ (ao (bx (eI B z (by rw[em];exact I te n))) U) U)) ?_
   simp only[gE,g0,qaa];refine cN k ?_;simp only[xLc,B,qaa];rw[iFP z,em];exact J
  ·have F:gE (iOp dIx (iV 1) (iC (.int 0))) (xIf (aC dEq (iV 2) (ay (cL (ae (iC (.str "0")) ah)))) xNo (xLc 1 [] (bh (iV 2)) (.nm 0) dB cB)) E st=some st:=by
    simp only[gE,g0,qaa];refine cN k ?_;simp only[xLc,B,qaa];rw[iFP z,em];exact J
   have hn:gj (aC dEq (iV 2) (ay (cL (ae (iC (.str "0")) ah)))) (aQ ah) (iCB jZ (ae (ay (iLc 1 [] (bh (iV 2)) (.nm 0) bg cm)) ah)) E st=none:=by
    refine kD k ?_
    have:iLc 1 [] (bh (iV 2)) (.nm 0) bg cm E st=none:=by
     simp only[iLc,B,qaa];rw[iFP z,em];exact I _ U
    simp only[iCB,ae,ay,this,qdy,qbi]
   have S3:aK (.nm 3) (aQ (ae (iOp dIx (iV 1) (iC (.int 0))) (ae (gj (aC dEq (iV 2) (ay (cL (ae (iC (.str "0")) ah)))) (aQ ah) (iCB jZ (ae (ay (iLc 1 [] (bh (iV 2)) (.nm 0) bg cm)) ah))) ah))) E st=none:=by
    simp only[aK,aQ,ae,g0,hn,qaa,qbi,qdy]
   exact .inr ⟨run none (aB (bq lG U) (aB S1 (aB S2 (dn S3)))),m (ax (cN lG U) (bq lG U) (ax U S1 (ax U S2 (dq F))))⟩
end Own
set_option maxHeartbeats 1000000
namespace Own
open PySem L2
def chD (d:D):Nat:=match d with|.non=>45|.int 1=>49|_=>48
theorem Az {c:Nat}{d:D} (h:hX c=some d):chD d=c:=by
 unfold hX at h;split at h
 ·rename_i e;cases h;exact e
 ·split at h
  ·rename_i e;cases h;exact e
  ·split at h
   ·rename_i e;cases h;exact e
   ·cases h
theorem ud:∀ {l:List Nat}{f:List D},d0 l=some f->f.map chD=l
 |[],f,h=>by cases h;rfl
 |c::l,f,h=>by
  unfold d0 at h;obtain⟨d,hd,h⟩:=qab.mp h;obtain⟨r,a,rfl⟩:=qac.mp h;rw[qal,Az hd,ud a]
theorem lK {l:List Nat}{f:List D} (h:fW l=some f):d0 l=some f/\mU f.length=true:=by
 obtain⟨g,a,h⟩:=qab.mp h;split at h
 ·rename_i e;cases h;exact⟨a,e⟩
 ·cases h
theorem BH {st:Sto}{f:List D} (i:∀ d∈f,okV d) (o:f.length<=900):dZ [.d (.tup f)] st=some (.d (.str (S (f.map chD))),st):=by
 refine bz (n:=1) (k:=1) (b:=fm) U (aR ?_);show fJ (iC (.str "")) (ae (ay (iLc 1 [] (bh (iV 0)) (.nm 0) bg eu)) ah) [Z (.tup f)] st=_
 have a:lcI (.nm 0) bg eu [none] f st=some ((f.map λd=>[chD d]).map λx=>D.str (S x),st):=by
  rw[qaX];refine jy (λd=>D.str (S [chD d])) λd hd=>⟨_,U,?_⟩;rcases i d hd with rfl|rfl|rfl
  ·rfl
  ·exact kD U (bQ U (by rw[BK (show (0:Int).natAbs<10^120 by decide)];rfl))
  ·exact kD U (bQ U (by rw[BK (show (1:Int).natAbs<10^120 by decide)];rfl))
 have g:qej ("" : Str) ((f.map λd=>[chD d]).map S)=true:=by
  refine qbv ?_ (by decide);have h:∀ x∈((f.map λd=>[chD d]).map S).map (·.length),x<=10:=by
   intro x c;rw[qaX,qaX]at c;obtain⟨k,m,rfl⟩:=qbe.mp c;show (S [chD k]).length<=10;rw[cn,qaY];decide
  have:=qh h
  simp only[qan]at this ⊢;lia
 have e:iC (.str "") [Z (.tup f)] st=some (.d (.str ""),st):=rfl
 have j:ae (ay (iLc 1 [] (bh (iV 0)) (.nm 0) bg eu)) ah [Z (.tup f)] st=some ([.d (.lst ((f.map λd=>[chD d]).map λx=>D.str (S x)))],st):=ao (bx (eI (eV U) (by lia) a)) U;have l:qbT "" ((f.map λd=>[chD d]).map S)=S (f.map chD):=by
  rw[<-B0,qaX,qaX];rfl
 simp only[fJ,e,j,qaa,qg,g,if_true,l]
theorem B6 {self:Ps} (i:∀ T x,self T=some x->T.take x.2=tx x.1):∀ (m:Nat) (T:List Nat) (y:List Ru×Nat),pL self m T=some y->y.1≠[]/\T.take y.2=txs y.1++[41]
 |0,T,y,h=>by cases h
 |m+1,T,y,h=>by
  unfold pL at h;cases hx:self T with
  |none=>rw[hx]at h;cases h
  |some x=>
   rw[hx]at h;dsimp only at h;have f:=i T x hx;cases hd:T.drop x.2 with
   |nil=>rw[hd]at h;cases h
   |cons c u=>
    rw[hd]at h;dsimp only at h;by_cases b:c=32
    ·rw[iFP b]at h
     obtain⟨a,j,rfl⟩:=qac.mp h;obtain⟨e,g⟩:=B6 i m u a j;refine⟨by simp,?_⟩;show T.take (x.2+1+a.2)=txs (x.1::a.1)++[41];rw[show x.2+1+a.2=x.2+(a.2+1) by lia,qe4,hd,f,qdZ,g,b,txs];cases hq:a.1 with
     |nil=>exact absurd hq e
     |cons q rs=>rw[tl,txs];simp
    ·rw[iFN b]at h
     by_cases d:c=41
     ·rw[iFP d]at h
      cases h;refine⟨by simp,?_⟩;show T.take (x.2+1)=txs [x.1]++[41];rw[qe4,hd,f,d,txs,tl,qa5];rfl
     ·rw[iFN d]at h;cases h
theorem Fe {self:Ps} (e:∀ T x,self T=some x->T.take x.2=tx x.1) {m:Nat}{T:List Nat}{y:List Ru×Nat} (h:pB self m T=some y):T.take y.2=40::(txs y.1++[41]):=by
 unfold pB at h;by_cases b:T.take 2=[40,41]
 ·rw[iFP b]at h
  cases h;rw[txs];exact b
 ·rw[iFN b]at h
  by_cases c:T.take 1=[40]
  ·rw[iFP c]at h
   obtain⟨a,d,rfl⟩:=qac.mp h;obtain⟨_,g⟩:=B6 e m _ a d;show T.take (a.2+1)=_;rw[show a.2+1=1+a.2 by lia,qe4,c,g];rfl
  ·rw[iFN c]at h;cases h
theorem CO {c:Nat}{g:Gw×Int} (h:hdC c=some g):mkC g.1 g.2=c:=by
 unfold hdC at h;split at h
 ·rename_i e;cases h;exact e.symm
 ·split at h
  ·rename_i e;cases h;exact e.symm
  ·split at h
   ·rename_i e;cases h;exact e.symm
   ·split at h
    ·cases h;show 48+((c - 48:Nat):Int).toNat=c;lia
    ·cases h
theorem zn (m:Nat):∀ (d:Nat) (T:List Nat) (x:Ru×Nat),pR m d T=some x->T.take x.2=tx x.1
 |0,T,x,h=>by cases h
 |d+1,[],x,h=>by cases h
 |d+1,c::t,x,h=>by
  unfold pR at h;by_cases e:97<=c/\c<=102
  ·rw[iFP e]at h
   cases h;show [c]=tx (.sw ((c - 97:Nat):Int));rw[tx]
   congr 1
   lia
  ·rw[iFN e]at h
   by_cases a:c=33
   ·rw[iFP a]at h
    obtain⟨b,f,rfl⟩:=qac.mp h;show (c::t).take (b.2+1)=tx (.nt b.1);rw[qdZ,zn m d t b f,a,tx]
   ·rw[iFN a]at h
    cases hg:hdC c with
    |none=>rw[hg]at h;cases h
    |some g=>
     rw[hg]at h;obtain⟨y,i,rfl⟩:=qac.mp h;show (c::t).take (y.2+1)=tx (.gr g.1 g.2 y.1);rw[qdZ,Fe (zn m d) i,tx,CO hg]
theorem p6 {l:List Nat}{r:Ru} (h:rdR l=some r):tx r=l/\gi r/\lc 6 r/\dep r<=6/\wid r=true/\cnt r<=40:=by
 unfold rdR at h;cases hx:pR 900 6 l with
 |none=>rw[hx]at h;cases h
 |some x=>
  rw[hx]at h;dsimp only at h;split at h
  ·rename_i a
   cases h;unfold okB at a;rw[qao,qao]at a;obtain⟨b1,b2,b3⟩:=a;have b1:=of_decide_eq_true b1;have b3:=of_decide_eq_true b3;obtain⟨f1,f2,f3,f4⟩:=pO 900 6 l x hx;have e:=zn 900 6 l x hx;rw[b1,qbd]at e;exact⟨e.symm,f2,su x.1 f2 b2,f1,b2,b3⟩
  ·cases h
open Classical in
def rdP (l:List Nat):Option (Bool×List Prt):=if h:∃ x:Bool×List Prt,Pok x.2/\ptx (kdN x.1) x.2=l then some h.choose else none
theorem pZ {l:List Nat}{x:Bool×List Prt} (h:rdP l=some x):Pok x.2/\ptx (kdN x.1) x.2=l:=by
 unfold rdP at h;split at h
 ·rename_i q
  cases h;exact q.choose_spec
 ·cases h
theorem uT {b:Bool}{ps:List Prt} (h:Pok ps):(rdP (ptx (kdN b) ps)).isSome=true:=by
 unfold rdP;rw[dif_pos ⟨(b,ps),h,U⟩];rfl
theorem D4 {l:List Nat}{st:Sto} (g:∀ c∈l,c<128) (f:l.length<=900) :
  (∃ x,rdP l=some x/\cb [.d (.str (S l))] st=some (.d (ie (S (kdN x.1)) x.2),st))\/(rdP l=none/\cb [.d (.str (S l))] st=none/\dM [.d (.str (S l))] st=some st):=by
 cases h:rdP l with
 |some x=>
  obtain⟨a,e⟩:=pZ h;refine .inl ⟨x,U,?_⟩;rw[<-e];exact zE a (by rw[e];exact f)
 |none=>
  refine .inr ⟨U,?_⟩;rcases xY (st:=st) g f with⟨b,ps,a,e⟩|a
  ·have:=uT (b:=b) a
   rw[e,h]at this;cases this
  ·exact a
def rd (way:Nat) (l:List Nat):Option D:=if way=0 then (fW l).map D.tup else if way=1 then (rdR l).map toD else (rdP l).map λx=>ie (S (kdN x.1)) x.2
def rdL (way:Nat) (l:List Nat):List D:=match rd way l with
 |some d=>[d]
 |none=>[]
theorem BA {a:Sf}{b:Rf}{env:Ev}{st:Sto}{r:Fl} (h:a env st=some r):pc a b env st=some r:=by simp only[pc,h]
theorem BB {b:Sf}{a:Rf}{env:Ev}{st s:Sto} (h:b env st=none) (c:a env st=some s):pc b a env st=some (.rt (.d (.lst [])) s):=by simp only[pc,h,c,qak]
theorem pk0 {α:Type} (a b c:α):iW a b c (.d (.int ((0:Nat):Int)))=some a:=rfl
theorem pk1 {α:Type} (a b c:α):iW a b c (.d (.int ((1:Nat):Int)))=some b:=rfl
theorem pk2 {α:Type} (a b c:α):iW a b c (.d (.int ((2:Nat):Int)))=some c:=rfl
theorem xf {m0 m1 m2 m:Fn}{fw:Ef}{a:Af}{env:Ev}{st s s2:Sto}{w:W}{ws:List W}{r:Option (W×Sto)} (hw:fw env st=some (w,s)) (b:iW m0 m1 m2 w=some m) (c:a env s=some (ws,s2)) (hm:m ws s2=r):jc m0 m1 m2 fw a env st=r:=by
 simp only[jc,hw,b,c,qaa,hm]
theorem D1 {m0 m1 m2 m:Rn}{fw:Ef}{a:Af}{env:Ev}{st s s2:Sto}{w:W}{ws:List W}{r:Option Sto} (hw:fw env st=some (w,s)) (b:iW m0 m1 m2 w=some m) (c:a env s=some (ws,s2)) (hm:m ws s2=r):qk m0 m1 m2 fw a env st=r:=by
 simp only[qk,hw,b,c,qaa,hm]
theorem uA {way:Nat} (hw:way<3) {l:List Nat}{st:Sto} (p:∀ c∈l,c<128) (w:l.length<=900):dD [.d (.str (S l)),.d (.int (way:Int))] st=some (.d (.lst (rdL way l)),st):=by
 have r:∀ {v},eA [Z (.str (S l)),Z (.int (way:Int))] st=some (.rt v st)->dD [.d (.str (S l)),.d (.int (way:Int))] st=some (v,st):=λh=>bz (n:=2) (k:=2) (b:=eA) U h;refine r ?_;have i:∀ {d:D}{m:Fn},rd way l=some d->iW cz dE cb (.d (.int (way:Int)))=some m->m [.d (.str (S l))] st=some (.d d,st)->eA [Z (.str (S l)),Z (.int (way:Int))] st=some (.rt (.d (.lst (rdL way l))) st):=λ{d m} h u e=>by
  have:rdL way l=[d]:=by unfold rdL;rw[h]
  rw[this];exact BA (aR (bx (on (ds:=[d]) (ao (b:=ah) (xf (fw:=iV 1) (a:=ae (iV 0) ah) U u U e) U) U (by show 1<=1000;decide))))
 have t:∀ {m:Fn}{s:Rn},rd way l=none->iW cz dE cb (.d (.int (way:Int)))=some m->iW d2 gZ dM (.d (.int (way:Int)))=some s->m [.d (.str (S l))] st=none->s [.d (.str (S l))] st=some st->eA [Z (.str (S l)),Z (.int (way:Int))] st=some (.rt (.d (.lst (rdL way l))) st):=λ{m s} h u z e ex=>by
  have:rdL way l=[]:=by unfold rdL;rw[h]
  rw[this];refine BB ?_ (D1 (fw:=iV 1) (a:=ae (iV 0) ah) (env:=[Z (.str (S l)),Z (.int (way:Int))]) U z U ex);have c1:jc cz dE cb (iV 1) (ae (iV 0) ah) [Z (.str (S l)),Z (.int (way:Int))] st=none:=xf U u U e;simp only[aW,ay,cL,ae,c1,qbi,qdy]
 have cs:way=0\/way=1\/way=2:=by lia
 rcases cs with rfl|rfl|rfl
 ·have q:=yG (st:=st) (yp p) (show l.length<=1000000 by lia)
  have y:=xC (st:=st) (yp p) (show l.length<=1000000 by lia);cases h:fW l with
  |some f=>
   rw[h]at q;exact i (d:=.tup f) (by show (fW l).map D.tup=_;rw[h];rfl) (pk0 ..) q
  |none=>
   rw[h]at q y;exact t (by show (fW l).map D.tup=_;rw[h];rfl) (pk0 ..) (pk0 ..) q y
 ·rcases zX (st:=st) p w with⟨x,g,j,o⟩|⟨g,j,o⟩
  ·have r:rdR l=some x.1:=by unfold rdR;rw[g];exact iFP j
   exact i (d:=toD x.1) (by show (rdR l).map toD=_;rw[r];rfl) (pk1 ..) o
  ·exact t (by show (rdR l).map toD=_;rw[g];rfl) (pk1 ..) (pk1 ..) j o
 ·rcases D4 (st:=st) p w with⟨x,g,j⟩|⟨g,j,o⟩
  ·exact i (by show (rdP l).map _=_;rw[g];rfl) (pk2 ..) j
  ·exact t (by show (rdP l).map _=_;rw[g];rfl) (pk2 ..) (pk2 ..) j o
theorem vW {way:Nat} (hw:way<3) {l:List Nat}{st:Sto} (q:l.length<=900) {d:D} (h:rd way l=some d) :
  ∃ g i,iW dZ (bS 7) cp (.d (.int (way:Int)))=some g/\iW bV d5 dw (.d (.int (way:Int)))=some i/\
   g [.d d] st=some (.d (.str (S l)),st)/\i [.d d] st=some (.d (.bl true),st):=by
 have cs:way=0\/way=1\/way=2:=by lia
 rcases cs with rfl|rfl|rfl
 ·have h:(fW l).map D.tup=some d:=h
  obtain⟨f,o,rfl⟩:=qac.mp h;obtain⟨a,c⟩:=lK o;obtain⟨j,e⟩:=jr a;refine⟨_,_,pk0 ..,pk0 ..,?_,?_⟩
  ·have:=BH (st:=st) e (by lia)
   rw[ud a]at this;exact this
  ·have:=yU (st:=st) e (by lia)
   rw[c]at this;exact this
 ·have h:(rdR l).map toD=some d:=h
  obtain⟨r,m,rfl⟩:=qac.mp h;obtain⟨a,c,j,e,p,n⟩:=p6 m;refine⟨_,_,pk1 ..,pk1 ..,?_,?_⟩
  ·have:=xp (st:=st) 7 r (by lia) j (by lia)
   rw[a]at this;exact this
  ·have:=ux (st:=st) e c
   rw[p,decide_eq_true n]at this;exact this
 ·have h:((rdP l).map λx=>ie (S (kdN x.1)) x.2)=some d:=h
  obtain⟨x,k,rfl⟩:=qac.mp h;obtain⟨a,c⟩:=pZ k;refine⟨_,_,pk2 ..,pk2 ..,?_,?_⟩
  ·have:=qd (st:=st) (kd:=kdN x.1) (sD x.1).2.1 a.gd a.few
   rw[c]at this;exact this
  ·have:=pV (st:=st) (wY (b:=x.1) a)
   rw[uN a]at this;exact this
end Own
set_option maxHeartbeats 1000000
namespace Own
open PySem L2
theorem rj:∀ {l:List Nat}{f:List D},d0 l=some f->∀ c∈l,c=49\/c=48\/c=45
 |[],_,_,c,b=>nomatch b
 |a::l,f,h,c,b=>by
  unfold d0 at h;obtain⟨d,hd,h⟩:=qab.mp h;obtain⟨r,e,rfl⟩:=qac.mp h;rcases qat.mp b with rfl|b
  ·unfold hX at hd
   split at hd
   ·lia
   ·split at hd
    ·lia
    ·split at hd
     ·lia
     ·cases hd
  ·exact rj e c b
theorem Ci {l:List Nat}{d:D} (h:rd 0 l=some d):l≠[]/\∀ c∈l,c=49\/c=48\/c=45:=by
 have h:(fW l).map D.tup=some d:=h;obtain⟨f,e,rfl⟩:=qac.mp h;obtain⟨a,b⟩:=lK e;refine⟨?_,rj a⟩
 rintro rfl
 cases a;exact absurd b (by decide)
theorem Cj {l:List Nat}{d:D} (h:rd 1 l=some d):∃ c t,l=c::t/\((97<=c/\c<=102/\t=[])\/c=33\/((hdC c).isSome=true/\40∈t)):=by
 have h:(rdR l).map toD=some d:=h;obtain⟨r,b,rfl⟩:=qac.mp h;obtain⟨e,a,f,_⟩:=p6 b;subst e;cases r with
 |sw k=>
  rw[gi]at a;rw[tx];exact⟨_,_,U,.inl ⟨by lia,by lia,U⟩⟩
 |nt r=>
  rw[tx];exact⟨_,_,U,.inr (.inl U)⟩
 |gr g k rs=>
  rw[gi]at a;rw[tx];refine⟨_,_,U,.inr (.inr ⟨?_,qae⟩)⟩;cases g with
  |all=>rfl
  |any=>rfl
  |odd=>rfl
  |least=>
   show (hdC (48+k.toNat)).isSome=true;unfold hdC;rw[iFN (by lia),iFN (by lia),iFN (by lia),iFP (by lia)];rfl
theorem Ck {l:List Nat}{d:D} (h:rd 2 l=some d):∃ c t,l=c::t/\(c=98\/c=111)/\t≠[]:=by
 have h:((rdP l).map λx=>ie (S (kdN x.1)) x.2)=some d:=h;obtain⟨⟨b,ps⟩,e,rfl⟩:=qac.mp h;obtain⟨_,a⟩:=pZ e;dsimp only at a;subst a;cases b with
 |true=>exact⟨98,_,U,.inl U,by simp⟩
 |false=>exact⟨111,_,U,.inr U,by simp⟩
theorem vI (l:List Nat):((if (rd 0 l).isSome=true then 1 else 0)+(if (rd 1 l).isSome=true then 1 else 0)+(if (rd 2 l).isSome=true then 1 else 0):Int)<2:=by
 have ab:∀ {a b},rd 0 l=some a->rd 1 l=some b->False:=λf d=>by
  obtain⟨_,h⟩:=Ci f;obtain⟨c,t,rfl,j⟩:=Cj d;have p:=h c qae;rcases j with⟨i,_,_⟩|i|⟨i,g⟩
  ·lia
  ·lia
  ·have:=h 40 (qah _ g);lia
 have k:∀ {a b},rd 0 l=some a->rd 2 l=some b->False:=λf d=>by
  obtain⟨_,h⟩:=Ci f;obtain⟨c,t,rfl,j,_⟩:=Ck d;have p:=h c qae;lia
 have n:∀ {a b},rd 1 l=some a->rd 2 l=some b->False:=λf d=>by
  obtain⟨c,t,rfl,h⟩:=Cj f;obtain⟨s,t',e,j,i⟩:=Ck d;injection e with q m;subst q m;rcases h with⟨g,r,o⟩|g|⟨g,_⟩
  ·exact i o
  ·lia
  ·rcases j with rfl|rfl
   ·exact absurd g (by decide)
   ·exact absurd g (by decide)
 cases h0:rd 0 l with
 |some a=>
  cases f:rd 1 l with
  |some b=>exact (ab h0 f).elim
  |none=>
   cases d:rd 2 l with
   |some b=>exact (k h0 d).elim
   |none=>simp
 |none=>
  cases f:rd 1 l with
  |some b=>
   cases d:rd 2 l with
   |some c=>exact (n f d).elim
   |none=>simp
  |none=>
   cases d:rd 2 l with
   |some c=>simp
   |none=>simp
mutual
theorem yA:∀ (n:Nat) (d:D),okD n d=true->eqD d d=true
 |_,.non,_=>rfl
 |_,.bl b,_=>by simp[eqD]
 |_,.int b,_=>by simp[eqD]
 |_,.str b,_=>by simp[eqD]
 |n+1,.tup ds,h=>kP n ds (qas.mp h)
 |n+1,.lst ds,h=>kP n ds (qas.mp h)
 |n,.ty _,h=>by cases n<;>cases h
 |n,.dct,h=>by cases n<;>cases h
 |n,.scr _,h=>by cases n<;>cases h
 |0,.tup _,h=>by cases h
 |0,.lst _,h=>by cases h
theorem kP:∀ (n:Nat) (ds:List D),(∀ d∈ds,okD n d=true)->jb ds ds=true
 |_,[],_=>rfl
 |n,d::ds,h=>by
  show (eqD d d&&jb ds ds)=true;rw[yA n d (h d qae),kP n ds λx a=>h x (qah _ a)];rfl
end
theorem sP:∀ (n:Nat) (d:D),okD n d=true->okD (n+1) d=true
 |0,.non,_=>rfl
 |0,.bl _,_=>rfl
 |0,.int _,_=>rfl
 |0,.str _,_=>rfl
 |n+1,.non,_=>rfl
 |n+1,.bl _,_=>rfl
 |n+1,.int _,_=>rfl
 |n+1,.str _,_=>rfl
 |n+1,.tup ds,h=>qas.mpr λx a=>sP n x (qas.mp h x a)
 |n+1,.lst ds,h=>qas.mpr λx a=>sP n x (qas.mp h x a)
theorem sO {d:D}{m:Nat}:∀ {n:Nat},m<=n->okD m d=true->okD n d=true
 |0,hm,h=>by rw[show m=0 by lia]at h;exact h
 |n+1,hm,h=>by
  by_cases e:m=n+1
  ·rw[<-e];exact h
  ·exact sP n d (sO (by lia) h)
theorem vF:∀ (n:Nat) (r:Ru),dep r<=n->okD (2*n) (toD r)=true
 |0,r,h=>by have:=se r;lia
 |n+1,.sw k,h=>by rw[toD];rfl
 |n+1,.nt r,h=>by
  rw[dep]at h
  have:=sP _ _ (vF n r (by lia))
  rw[toD];show (true&&(okD (2*n+1) (toD r)&&true))=true;rw[this];rfl
 |n+1,.gr g k rs,h=>by
  rw[dep]at h;have a:(cA rs).all (okD (2*n))=true:=by
   rw[kI,qdb,qas];exact λr b=>vF n r (lV (by lia:lD rs<=n) r b)
  rw[toD];cases g with
  |all=>show (true&&((cA rs).all (okD (2*n))&&true))=true;rw[a];rfl
  |any=>show (true&&((cA rs).all (okD (2*n))&&true))=true;rw[a];rfl
  |odd=>show (true&&((cA rs).all (okD (2*n))&&true))=true;rw[a];rfl
  |least=>show (true&&(true&&((cA rs).all (okD (2*n))&&true)))=true;rw[a];rfl
theorem D5 {way:Nat} (hw:way<3) {l:List Nat}{d:D} (h:rd way l=some d):okD 60 d=true:=by
 have cs:way=0\/way=1\/way=2:=by lia
 rcases cs with rfl|rfl|rfl
 ·have h:(fW l).map D.tup=some d:=h
  obtain⟨f,g,rfl⟩:=qac.mp h;have e:=(jr (lK g).1).2;refine sO (m:=1) (by decide) (qas.mpr λx a=>?_);rcases e x a with rfl|rfl|rfl<;>rfl
 ·have h:(rdR l).map toD=some d:=h
  obtain⟨r,b,rfl⟩:=qac.mp h;exact sO (m:=2*6) (by decide) (vF 6 r (p6 b).2.2.2.1)
 ·have h:((rdP l).map λx=>ie (S (kdN x.1)) x.2)=some d:=h
  obtain⟨x,a,rfl⟩:=qac.mp h;refine sO (m:=4) (by decide) ?_;have c:(x.2.map bw).all (okD 2)=true:=by
   rw[qdb,qas];intro p _
   have:(p.1.map D.int).all (okD 0)=true:=by rw[qdb,qas];exact λ_ _=>rfl
   show ((p.1.map D.int).all (okD 0)&&(true&&true))=true;rw[this];rfl
  show (true&&((x.2.map bw).all (okD 2)&&true))=true;rw[c];rfl
theorem Bb (s:Sto):dNe s (.d (.lst [])) (.d (.lst []))=some (.bl false):=rfl
theorem Dj (s:Sto) (d:D):dNe s (.d (.lst [d])) (.d (.lst []))=some (.bl true):=rfl
theorem Bc {s:Sto}{d:D} (h:okD 60 d=true):dNe s (.d (.lst [d])) (.d (.lst [d]))=some (.bl false):=by
 have a:[d].all (okD 60)=true:=by rw[qaQ,h];rfl
 have b:jb [d] [d]=true:=kP 60 [d] (qas.mp a);show ((eqK (.ls [d]) (.ls [d])).map λk=>D.bl (!k))=_;rw[eqK,iFP (show [d].length=[d].length from U),iFP ⟨a,a⟩,b];rfl
theorem Gv (s:Sto):ww s (.d (.bl true)) (.d (.bl true))=some (.bl false):=rfl
theorem Gr (s:Sto) (d:D):dIx s (.d (.lst [d])) (.d (.int 0))=some d:=by simp only[dIx,e8,qaa,nO]
theorem lL {way:Nat} (hw:way<3) {l:List Nat}{st:Sto} (m:∀ c∈l,c<128) (f:l.length<=900) {c:Int}{x3 x4:Option W} :
  ∃ t p,fR [Z (.str (S l)),Z (.int c),Z (.int (way:Int)),x3,x4] st=some (.nx [Z (.str (S l)),Z (.int (c+if (rd way l).isSome=true then 1 else 0)),Z (.int (way:Int)),t,p] st):=by
 have b:=uA (st:=st) hw m f;have a:aK (.nm 3) (au dD (ae (iV 0) (ae (iV 2) ah))) [Z (.str (S l)),Z (.int c),Z (.int (way:Int)),x3,x4] st=some (.nx [Z (.str (S l)),Z (.int c),Z (.int (way:Int)),Z (.lst (rdL way l)),x4] st):=aM (aA U b);cases h:rd way l with
 |none=>
  have e:rdL way l=[]:=by unfold rdL;rw[h]
  rw[e]at a;rw[show (c+if (none:Option D).isSome=true then (1:Int) else 0)=c by simp];exact⟨some (.d (.lst [])),x4,aB a (bq (aS U U (Bb st)) U)⟩
 |some d=>
  have e:rdL way l=[d]:=by unfold rdL;rw[h]
  rw[e]at a b;obtain⟨u,v,r,k,q,n⟩:=vW (st:=st) hw f h;have hok:=D5 hw h;rw[show (c+if (some d).isSome=true then (1:Int) else 0)=c+1 by simp];have s2:aK (.nm 1) (iOp aU (iV 1) (iC (.int 1))) [Z (.str (S l)),Z (.int c),Z (.int (way:Int)),Z (.lst [d]),x4] st=some (.nx [Z (.str (S l)),Z (.int (c+1)),Z (.int (way:Int)),Z (.lst [d]),x4] st):=aM (aI U U U);have g:∀ x,ae (iOp dIx (iV 3) (iC (.int 0))) ah [Z (.str (S l)),Z (.int (c+1)),Z (.int (way:Int)),Z (.lst [d]),x] st=some ([.d d],st):=λx=>ao (aI U U (Gr st d)) U;have s:aK (.nm 4) (jc dZ (bS 7) cp (iV 2) (ae (iOp dIx (iV 3) (iC (.int 0))) ah)) [Z (.str (S l)),Z (.int (c+1)),Z (.int (way:Int)),Z (.lst [d]),x4] st=some (.nx [Z (.str (S l)),Z (.int (c+1)),Z (.int (way:Int)),Z (.lst [d]),Z (.str (S l))] st):=aM (xf (fw:=iV 2) U r (g _) q);have o:aC ww (jc bV d5 dw (iV 2) (ae (iOp dIx (iV 3) (iC (.int 0))) ah)) (iC (.bl true)) [Z (.str (S l)),Z (.int (c+1)),Z (.int (way:Int)),Z (.lst [d]),Z (.str (S l))] st=some (false,st):=aS (xf (fw:=iV 2) U k (g _) n) U (Gv st);have j:aC dNe (iV 4) (iV 0) [Z (.str (S l)),Z (.int (c+1)),Z (.int (way:Int)),Z (.lst [d]),Z (.str (S l))] st=some (false,st):=aS U U (by rw[neT,beq_self_eq_true];rfl);have i:aC dNe (au dD (ae (iV 4) (ae (iV 2) ah))) (iV 3) [Z (.str (S l)),Z (.int (c+1)),Z (.int (way:Int)),Z (.lst [d]),Z (.str (S l))] st=some (false,st):=aS (aA U b) U (Bc hok);exact⟨some (.d (.lst [d])),Z (.str (S l)),aB a (jg (aS U U (Dj st d)) (aB s2 (aB s (aB (bq (mw o j) U) (bq i U)))))⟩
theorem zV {l:List Nat}{st:Sto} (h:∀ c∈l,c<128) (f:l.length<=900):jz [.d (.str (S l))] st=some (.d (.bl true),st):=by
 obtain⟨a3,a4,j⟩:=lL (way:=0) (by decide) (st:=st) h f (c:=0) (x3:=none) (x4:=none);obtain⟨b3,b4,i⟩:=lL (way:=1) (by decide) (st:=st) h f (c:=0+if (rd 0 l).isSome=true then 1 else 0) (x3:=a3) (x4:=a4);obtain⟨c3,c4,e⟩:=lL (way:=2) (by decide) (st:=st) h f (c:=0+(if (rd 0 l).isSome=true then 1 else 0)+if (rd 1 l).isSome=true then 1 else 0) (x3:=b3) (x4:=b4);have a:=vI l;generalize (if (rd 0 l).isSome=true then (1:Int) else 0)=A at j i e a;generalize (if (rd 1 l).isSome=true then (1:Int) else 0)=B at i e a;generalize (if (rd 2 l).isSome=true then (1:Int) else 0)=C at e a;have p:gx (.nm 2) fR (lM 0 3) [Z (.str (S l)),Z (.int 0),none,none,none] st=some (.nx [Z (.str (S l)),Z (.int (0+A+B+C)),Z (.int ((2:Nat):Int)),c3,c4] st):=by
  show gx (.nm 2) fR [.int ((0:Nat):Int),.int ((1:Nat):Int),.int ((2:Nat):Int)] _ st=_;have m:dC (.nm 2) (.d (.int ((0:Nat):Int))) [Z (.str (S l)),Z (.int 0),none,none,none]=some [Z (.str (S l)),Z (.int 0),Z (.int ((0:Nat):Int)),none,none]:=rfl;have o:dC (.nm 2) (.d (.int ((1:Nat):Int))) [Z (.str (S l)),Z (.int (0+A)),Z (.int ((0:Nat):Int)),a3,a4]=some [Z (.str (S l)),Z (.int (0+A)),Z (.int ((1:Nat):Int)),a3,a4]:=rfl;have s2:dC (.nm 2) (.d (.int ((2:Nat):Int))) [Z (.str (S l)),Z (.int (0+A+B)),Z (.int ((1:Nat):Int)),b3,b4]=some [Z (.str (S l)),Z (.int (0+A+B)),Z (.int ((2:Nat):Int)),b3,b4]:=rfl;simp only[gx,m,o,s2,j,i,e,qaa]
 have g:decide (0+A+B+C<2)=true:=decide_eq_true (by lia);exact bz (n:=5) (k:=1) (b:=ii) U (aB (show aK (.nm 1) (iC (.int 0)) [Z (.str (S l)),none,none,none,none] st=some (.nx [Z (.str (S l)),Z (.int 0),none,none,none] st) from U) (aB (im (ni (z:=3) U (by decide) (by decide) U) p) (aR (aI U U (Dg st g)))))
end Own
set_option maxHeartbeats 1000000
namespace Own
open PySem L2
def Asc (l:List Nat) (n:Nat):Prop:=(∀ c∈l,c<128)/\l.length<=n
theorem Asc.app {a b:List Nat}{m n:Nat} (e:Asc a m) (d:Asc b n):Asc (a++b) (m+n):=
 ⟨λc f=>(qba.mp f).elim (e.1 c) (d.1 c),by rw[qai];have:=e.2;have:=d.2;lia⟩
theorem Asc.cut {l:List Nat}{n:Nat} (h:Asc l n) (lo hi:Option Int):∃ k,mL (S l) lo hi=S k/\Asc k n:=
 ⟨_,U,λc a=>h.1 c (qdS (qfn a)),by
  rw[qcg,qbC]
  have:=h.2
  rw[rE];lia⟩
theorem FD {l:List Nat}{e:Ef}{lo hi:Pf}{env:Ev}{st c s2 f:Sto}{a b:Option Int} (h:l.length<=1000000) (i:e env st=some (.d (.str (S l)),c)) (g:lo env c=some (a,s2)) (j:hi env s2=some (b,f)):dk e lo hi env st=some (.d (.str (mL (S l) a b)),f):=by
 simp only[dk,i,g,j,qaa];rw[iFP (by rw[cn];exact h)]
def IsT (d:D) (n:Nat):Prop:=∃ l,d=.str (S l)/\Asc l n
theorem IsT.up {d:D}{m n:Nat} (h:IsT d m) (hm:m<=n):IsT d n:=by obtain⟨l,e,a,b⟩:=h;exact⟨l,e,a,qaU b hm⟩
def okS (n:Nat) (d:D):Bool:=match d with
 |.str z=>z.cps.toList.all (λc=>decide (c<128))&&decide (z.cps.toList.length<=n)
 |_=>false
theorem IsT.of {n:Nat}{d:D} (h:okS n d=true):IsT d n:=by
 cases d with
 |str z=>
  have h:(z.cps.toList.all (λc=>decide (c<128))&&decide (z.cps.toList.length<=n))=true:=h;rw[qao,qas]at h;refine⟨z.cps.toList,?_,λc a=>of_decide_eq_true (h.1 c a),of_decide_eq_true h.2⟩;show D.str z=.str ⟨z.cps.toList.toArray⟩;rw[Array.toArray_toList]
 |_=>cases h
def jU (ds:List D) (n:Nat):Prop:=∀ d∈ds,IsT d n
theorem jU.up {ds:List D}{m n:Nat} (h:jU ds m) (hm:m<=n):jU ds n:=λd hd=>(h d hd).up hm
theorem jU.app {a b:List D}{n:Nat} (e:jU a n) (c:jU b n):jU (a++b) n:=λd hd=>(qba.mp hd).elim (e d) (c d)
theorem jU.one {d:D}{n:Nat} (h:IsT d n):jU [d] n:=λx a=>by rw[qaz.mp a];exact h
theorem B2 (ws:List (List Nat)):qbT " " (ws.map S)=S (J ws):=by
 show qck " " _=_
 rw[qbP];exact u9 ws
theorem B1:∀ ws:List (List Nat),qbT "" (ws.map S)=S ws.flatten:=by
 intro ws;show qck "" _=_
 rw[qbP]
 induction ws with
 |nil=>rfl
 |cons a r c=>
  cases r with
  |nil=>show S a=S ([a].flatten);simp
  |cons b r=>
   rw[qal,qal];show S a++S []++qcY "" (S b::r.map S)=_
   rw[qal]at c;rw[c,jO,jO]
   simp
theorem FE {n:Nat}:∀ {ls:List (List Nat)},(∀ l∈ls,Asc l n)->((ls.map S).map (·.length)).sum<=ls.length*n
 |[],_=>qbs _
 |l::ls,h=>by
  have c:=(h l qae).2;have b:=FE (ls:=ls) λx a=>h x (qah _ a);rw[qal,qal,qdt,cn,qaf,qer];lia
theorem tB {z:Str}{f:Ef}{env:Ev}{st s:Sto}{ws:List (List Nat)}{n:Nat} (h:z = ""\/z = " ") (g:f env st=some (.d (.lst (ws.map λw=>D.str (S w))),s)) (e:∀ w∈ws,Asc w n) (c:ws.length<=100) (hn:n<=100) :
  fJ (iC (.str z)) (ae f ah) env st=some (.d (.str (qbT z (ws.map S))),s):=by
 have hok:qej z (ws.map S)=true:=by
  have i:=FE e;have a:ws.length*n<=100*100:=qe0 c hn;rcases h with rfl|rfl
  ·refine qbv ?_ (by decide)
   rw[qan];lia
  ·refine qbv ?_ (by decide)
   rw[qan];lia
 have a:=ao (b:=ah) g U;simp only[fJ,iC,a,qaa,qg,hok,if_true]
theorem o6 {n:Nat}:∀ {ws:List (List Nat)},(∀ w∈ws,Asc w n)->Asc ws.flatten (ws.length*n)
 |[],_=>⟨λc f=>(nomatch f),qbs _⟩
 |a::r,h=>by
  have d:=h a qae;have b:=o6 (ws:=r) λl e=>h l (qah _ e);rw[qdn,qaf,qer,qhE];exact d.app b
theorem yh {n:Nat}:∀ {ws:List (List Nat)},(∀ w∈ws,Asc w n)->Asc (J ws) (ws.length*(n+1))
 |[],_=>⟨λc d=>(nomatch d),qbs _⟩
 |[a],h=>by
  have:=h a qae
  exact⟨this.1,by have:=this.2;show a.length<=1*(n+1);lia⟩
 |a::b::r,h=>by
  have e:=h a qae;have f:=yh (ws:=b::r) λl g=>h l (qah _ g);refine⟨λc d=>?_,?_⟩
  ·rcases qba.mp (show c∈a++(32::J (b::r)) from d) with d|d
   ·exact e.1 c d
   ·rcases qat.mp d with rfl|d
    ·decide
    ·exact f.1 c d
  ·show (a++(32::J (b::r))).length<=(r.length+1+1)*(n+1)
   have i:(J (b::r)).length<=(r.length+1)*(n+1):=f.2;have j:=e.2;rw[qai,qaf,qer];lia
theorem j9 {n:Nat}{l:List Nat} (h:(l.all (λc=>decide (c<128))&&decide (l.length<=n))=true):Asc l n:=by
 rw[qao,qas]at h;exact⟨λc a=>of_decide_eq_true (h.1 c a),of_decide_eq_true h.2⟩
theorem pU {α:Type}{te:Ef}{F:α->List Nat}{L:List α}{h:Nat}{m:Nat}{env:Ev}{st:Sto} (n:∀ {s d s'},bo [.h h,.d (.lst (L.map λx=>D.str (S (F x))))] s=some (.d d,s')->∀ i,∃ j,dC (.nm 0) (.d (.int i)) env=some j/\te j s=some (.d d,s')) (u:L≠[]) (o:L.length<1000000) (v:dc st h) :
  ∃ (b:List α) (c:Sto),b.length=m/\(∀ x∈b,x∈L)/\Stp h st c/\lcI (.nm 0) bg te env (lM 0 m) st=some ((b.map F).map λw=>D.str (S w),c):=by
 obtain⟨l,s2,q,b,f,a,hm,r⟩:=me (g:=.nm 0) (tt:=bg) (te:=te) (env:=env) (ds:=lM 0 m) (λi l s=>∃ b:List α,l=(b.map F).map (λw=>D.str (S w))/\b.length=i/\(∀ x ∈ b,x ∈ L)/\Stp h st s) (st:=st) (ys0:=[]) ⟨[],U,U,λ_ k=>(nomatch k),.refl v⟩ (by
  rintro i d l s hd ⟨b,rfl,a,hm,t⟩
  obtain⟨rfl,hi⟩:=xk hd;obtain⟨y,s',f,t',p⟩:=kX (ds:=L.map λx=>D.str (S (F x))) t.hand (by simpa using u) (by rw[qan];exact o);obtain⟨x,k,rfl⟩:=qbe.mp f;obtain⟨j,g1,g2⟩:=n p (i:Int);refine⟨j,g1,.inl ⟨s,_,s',U,g2,b++[x],by simp,by rw[qai,a];rfl,λz e=>?_,t.trans t'⟩⟩;rcases qba.mp e with e|e
  ·exact hm z e
  ·rw[qaz.mp e];exact k)
 rw[qaI]at f;rw[jp]at a;subst f;exact⟨b,s2,a,hm,r,q⟩
def T18:List (List Nat):=[[48],[49],[45],[48,49,45,48],[97],[98],[102],[33],[38,40],[124,40],[94,40],[50,40],[41],[32],[111,100,100,32],[98,111,116,104,32],[45,97],[51,97,98]]
theorem Au:∀ w∈T18,Asc w 5:=λw hw=>j9 (qas.mp (show T18.all (λl=>l.all (λc=>decide (c<128))&&decide (l.length<=5))=true by decide) w hw)
theorem BO {st:Sto}{h:Nat} (I:dc st h):∃ d g,IsT d 60/\Stp h st g/\kr [.h h] st=some (.d d,g):=by
 obtain⟨r,M,H,Q,y,P⟩:=jL I (m:=10) (by decide) (by decide);obtain⟨c,s2,t,hm,u,C⟩:=pU (te:=i8) (F:=id) (L:=T18) (h:=h) (m:=r.toNat) (env:=[none,some (.h h),Z (.lst (T18.map λx=>D.str (S x)))]) (st:=M) (λe i=>⟨_,U,aA U e⟩) (by decide) (by decide) y.hand;obtain⟨q,J,R,T,K,N⟩:=jL u.hand (m:=9) (by decide) (by decide);have A:∀ w∈c.map id,Asc w 5:=λw hw=>by
  rw[qhF]at hw;exact Au w (hm w hw)
 have l:c.length<=9:=by lia
 have o:=tB (z:="") (f:=ay (iLc 1 [0,1] (fA (ae (au bC (ae (iV 0) (ae (iC (.int 10)) ah))) ah)) (.nm 0) bg i8)) (env:=[some (.h h),Z (.lst (T18.map λx=>D.str (S x))),none]) (st:=st) (s:=s2) (ws:=c.map id) (n:=5) (.inl U) (bx (eI (ni (z:=r) (aA U P) H (by lia) U) (by rw[jp];lia) C)) A (by rw[qan];lia) (by decide)
 rw[B1]at o;have j:=o6 A;rw[qan]at j;have p:((c.map id).flatten).length<=45:=qaU j.2 (qcW 5 l);generalize (c.map id).flatten=B at o j p;have a:∃ k:List Nat,Asc k 1/\atI [D.str "",.str "\n"] (q / 8)=some (.str (S k)):=by
  by_cases G:q=8
  ·subst G;exact⟨[10],j9 (by decide),U⟩
  ·rw[show q / 8=0 by lia];exact⟨[],j9 (by decide),U⟩
 obtain⟨k,v,O⟩:=a;have E:=v.2;refine⟨.str (S (B++k)),J,⟨_,U,?_⟩,(y.trans u).trans K,?_⟩
 ·exact⟨(Asc.app j v).1,by rw[qai];lia⟩
 ·refine bz (n:=3) (k:=1) (b:=iP) U (aB (e:=[some (.h h),Z (.lst (T18.map λx=>D.str (S x))),none]) (s:=st) U (aB (aM o) (aR (aI U (aI U (aI (aA (ws:=[.h h,.d (.int 9)]) U N) U (CK _ (by decide))) O) (j8 (by lia))))))
end Own
set_option maxHeartbeats 1000000
namespace Own
open PySem L2
theorem rm:∀ {cs:List Nat},(∀ c∈cs,c=48\/c=49\/c=45)->∃ f,d0 cs=some f
 |[],_=>⟨[],U⟩
 |c::cs,h=>by
  obtain⟨f,e⟩:=rm (cs:=cs) λx a=>h x (qah _ a);have b:=h c qae;obtain⟨d,hd⟩:∃ d,hX c=some d:=by rcases b with rfl|rfl|rfl<;>exact⟨_,rfl⟩
  exact⟨d::f,by unfold d0;rw[hd,e];rfl⟩
theorem zP {cs:List Nat}{k:Nat} (h:∀ c∈cs,c=48\/c=49\/c=45) (e:cs.length=2^k) (i:k<5):(rd 0 cs).isSome=true:=by
 obtain⟨f,a⟩:=rm h;have d:=(jr a).1;have g:mU f.length=true:=by
  rw[d,e]
  have:k=0\/k=1\/k=2\/k=3\/k=4:=by lia
  rcases this with rfl|rfl|rfl|rfl|rfl<;>decide
 have b:fW cs=some f:=by unfold fW;rw[a,qaa,g];rfl
 show ((fW cs).map D.tup).isSome=true;rw[b];rfl
def PC:List (List Nat×Ru):=[([97],.sw 0),([33,98],.nt (.sw 1)),([38,40,99,32,100,41],.gr .all 0 [.sw 2,.sw 3]),([50,40,97,32,98,32,102,41],.gr .least 2 [.sw 0,.sw 1,.sw 5]),([124,40,41],.gr .any 0 []),([94,40,101,41],.gr .odd 0 [.sw 4])]
theorem wT:∀ p∈PC,∀ (d:Nat) (u:List Nat),pR 900 (d+3) (p.1++32::u)=some (p.2,p.1.length)/\pR 900 (d+3) (p.1++41::u)=some (p.2,p.1.length):=by
 intro p a d u;simp only[PC,qat,qbt,or_false]at a;rcases a with rfl|rfl|rfl|rfl|rfl|rfl
 ·exact⟨U,U⟩
 ·exact⟨U,U⟩
 ·exact⟨U,U⟩
 ·exact⟨U,U⟩
 ·exact⟨U,U⟩
 ·exact⟨U,U⟩
theorem vL:∀ p∈PC,(wid p.2&&(decide (cnt p.2<=4)&&(p.1.all (λc=>decide (c<128))&&(decide (p.1.length<=8)&&(p.1.head? != some 41&&p.1 != [])))))=true:=by
 intro p a;simp only[PC,qat,qbt,or_false]at a;rcases a with rfl|rfl|rfl|rfl|rfl|rfl<;>simp[wid,kJ,cnt,fQ]
theorem pf {d:Nat}:∀ (ps:List (List Nat×Ru)),ps≠[]->(∀ p∈ps,p∈PC)->∀ m,ps.length<=m->pL (pR 900 (d+3)) m (J (ps.map qbh)++[41])=some (ps.map qdK,(J (ps.map qbh)++[41]).length)
 |[],h,_,_,_=>absurd U h
 |[p],_,h,m,hm=>by
  obtain⟨m,rfl⟩:∃ k,m=k+1:=⟨m - 1,by rw[qaY]at hm;lia⟩;have e:=(wT p (h p qae) d []).2;show pL _ (m+1) (p.1++[41])=some ([p.2],(p.1++[41]).length);unfold pL;rw[e];dsimp only;rw[qdW];dsimp only;rw[iFN (by decide),iFP U,qai];rfl
 |p::q::r,_,h,m,hm=>by
  obtain⟨m,rfl⟩:∃ k,m=k+1:=⟨m - 1,by rw[qaf]at hm;lia⟩;have a:=pf (d:=d) (q::r) (by simp) (λx b=>h x (qah _ b)) m (by rw[qaf]at hm;lia);have c:J ((p::q::r).map qbh)++[41]=p.1++32::(J ((q::r).map qbh)++[41]):=by
   show (p.1++32::J ((q::r).map qbh))++[41]=_;rw[qbK];rfl
  rw[c];generalize J ((q::r).map qbh)++[41]=Uu at a;have e:=(wT p (h p qae) d Uu).1;unfold pL;rw[e];dsimp only;rw[qdW];dsimp only;rw[iFP U,a];show some (p.2::(q::r).map qdK,p.1.length+1+Uu.length)=_;rw[qai,qaf,qal]
  congr 2
  lia
theorem oS {d:Nat}{ps:List (List Nat×Ru)} (h:∀ p∈ps,p∈PC) (k:ps.length<=6):pB (pR 900 (d+3)) 900 (40::(J (ps.map qbh)++[41]))=some (ps.map qdK,(40::(J (ps.map qbh)++[41])).length):=by
 cases ps with
 |nil=>rfl
 |cons p r=>
  have g:=vL p (h p qae);simp only[qao]at g;obtain⟨_,_,_,_,f,b⟩:=g;have i:=pf (d:=d) (p::r) (by simp) h 900 (by lia);have j:∃ c u,J ((p::r).map qbh)++[41]=c::u/\c≠41:=by
   obtain⟨w,q⟩:=p;cases w with
   |nil=>simp at b
   |cons c w=>
    have a:c≠41:=by simpa using f
    cases r with
    |nil=>exact⟨c,_,U,a⟩
    |cons q r=>exact⟨c,_,U,a⟩
  obtain⟨c,u,e,a⟩:=j;rw[e]at i ⊢;unfold pB;rw[iFN (by intro z;injection z with _ z;injection z with z _;exact a z),iFP (show List.take 1 (40::c::u)=[40] from U)];show (pL _ 900 (c::u)).map _=_;rw[i];rfl
theorem wt:∀ {ps:List (List Nat×Ru)},(∀ p∈ps,p∈PC)->kJ (ps.map qdK)=true/\fQ (ps.map qdK)<=4*(ps.length:Int)
 |[],_=>⟨by rw[qbf,kJ],by rw[qbf,fQ];decide⟩
 |p::ps,h=>by
  obtain⟨c,d⟩:=wt (ps:=ps) λx b=>h x (qah _ b);have a:=vL p (h p qae);simp only[qao,decide_eq_true_eq]at a;rw[qal,kJ,fQ,c,a.1]
  have:=a.2.1
  refine⟨U,?_⟩;rw[qaf]
  push_cast
  lia
theorem zS {l:List Nat}{x:Ru×Nat} (b:pR 900 6 l=some x) (d:x.2=l.length) (f:wid x.1=true) (e:cnt x.1<=40):(rd 1 l).isSome=true:=by
 have c:okB l x=true:=by unfold okB;rw[decide_eq_true d,f,decide_eq_true e];rfl
 have a:rdR l=some x.1:=by unfold rdR;rw[b];exact iFP c
 show ((rdR l).map toD).isSome=true;rw[a];rfl
def PF:List (List Nat):=[[38,40],[124,40],[94,40],[48,40],[57,40],[33,51,40]]
theorem DM:∀ w∈PF,Asc w 3:=λw hw=>j9 (qas.mp (show PF.all (λl=>l.all (λc=>decide (c<128))&&decide (l.length<=3))=true by decide) w hw)
theorem zQ {w:List Nat}{ps:List (List Nat×Ru)} (hw:w∈PF) (h:∀ p∈ps,p∈PC) (b:ps.length<=6):(rd 1 (w++J (ps.map qbh)++[41])).isSome=true:=by
 obtain⟨e,w2⟩:=wt h;have one:∀ {c:Nat}{g:Gw×Int},¬(97<=c/\c<=102)->c≠33->hdC c=some g->(rd 1 ([c,40]++J (ps.map qbh)++[41])).isSome=true:=λ{c g} i f j=>by
  have a:=oS (d:=2) h b;rw[show [c,40]++J (ps.map qbh)++[41]=c::40::(J (ps.map qbh)++[41]) by simp];generalize 40::(J (ps.map qbh)++[41])=T at a ⊢;refine zS (x:=(.gr g.1 g.2 (ps.map qdK),T.length+1)) ?_ U ?_ ?_
  ·show pR 900 (5+1) (c::T)=_
   unfold pR;rw[iFN i,iFN f,j];dsimp only;rw[a];rfl
  ·show wid (.gr _ _ _)=true
   rw[wid,e,qan,decide_eq_true b];rfl
  ·show cnt (.gr _ _ _)<=40
   rw[cnt];lia
 simp only[PF,qat,qbt,or_false]at hw;rcases hw with rfl|rfl|rfl|rfl|rfl|rfl
 ·exact one (by decide) (by decide) U
 ·exact one (by decide) (by decide) U
 ·exact one (by decide) (by decide) U
 ·exact one (by decide) (by decide) U
 ·exact one (by decide) (by decide) U
 ·have a:=oS (d:=1) h b
  rw[show [33,51,40]++J (ps.map qbh)++[41]=33::51::40::(J (ps.map qbh)++[41]) by simp];generalize 40::(J (ps.map qbh)++[41])=T at a ⊢;refine zS (x:=(.nt (.gr .least 3 (ps.map qdK)),T.length+1+1)) ?_ U ?_ ?_
  ·show pR 900 (5+1) (33::51::T)=_
   unfold pR;rw[iFN (by decide),iFP U]
   have:pR 900 (4+1) (51::T)=some (.gr .least 3 (ps.map qdK),T.length+1):=by
    unfold pR;rw[iFN (by decide),iFN (by decide),show hdC 51=some (.least,3) from U];dsimp only;rw[a];rfl
   rw[this];rfl
  ·show wid (.nt (.gr _ _ _))=true
   rw[wid,wid,e,qan,decide_eq_true b];rfl
  ·show cnt (.nt (.gr _ _ _))<=40
   rw[cnt,cnt];lia
def sel {α:Type}:List Bool->List α->List α
 |b::bs,x::a=>if b=true then x::sel bs a else sel bs a
 |_,_=>[]
theorem tN {α c:Type} (f:α->c):∀ (bs:List Bool) (l:List α),sel bs (l.map f)=(sel bs l).map f
 |[],l=>by cases l<;>rfl
 |b::bs,[]=>rfl
 |b::bs,x::a=>by
  cases b with
  |true=>show f x::sel bs (a.map f)=f x::(sel bs a).map f;rw[tN f bs a]
  |false=>exact tN f bs a
theorem oo {α:Type}:∀ {bs:List Bool}{l:List α}{x:α},x∈sel bs l->x∈l
 |[],l,x,h=>by cases l<;>cases h
 |b::bs,[],x,h=>by cases h
 |b::bs,y::a,x,h=>by
  cases b with
  |true=>
   rcases qat.mp (show x∈y::sel bs a from h) with rfl|h
   ·exact qae
   ·exact qah _ (oo h)
  |false=>exact qah _ (oo (bs:=bs) h)
theorem tM {α:Type}:∀ (bs:List Bool) (l:List α),(sel bs l).length<=l.length
 |[],l=>by cases l<;>exact qbs _
 |b::bs,[]=>qaw _
 |b::bs,x::a=>by
  have:=tM bs a
  cases b with
  |true=>show (x::sel bs a).length<=_;rw[qaf,qaf];lia
  |false=>show (sel bs a).length<=_;rw[qaf];lia
theorem uZ {α:Type}:∀ (bs:List Bool) (l:List α) (b:Bool) (x:α),l[bs.length]?=some x->sel (bs++[b]) l=sel bs l++if b=true then [x] else []
 |[],[],b,x,h=>by cases h
 |[],y::c,b,x,h=>by
  have h:some y=some x:=h;cases h;cases b<;>cases c<;>rfl
 |a::bs,[],b,x,h=>by cases h
 |a::bs,y::c,b,x,h=>by
  have d:=uZ bs c b x (by simpa using h);cases a with
  |true=>show y::sel (bs++[b]) c=y::sel bs c++_;rw[d];rfl
  |false=>exact d
def P7:List Prt:=[([],-7),([0],1),([0,1],2),([0,1,2],-1),([1],12),([2],-1),([5],40)]
def W7:List (List Nat):=[[45,55],[97],[50,97,98],[45,97,98,99],[49,50,98],[45,99],[52,48,102]]
theorem FU:P7.map pw=W7:=by decide +kernel
theorem Ej:∀ w∈W7,Asc w 4:=λw hw=>j9 (qas.mp (show W7.all (λl=>l.all (λc=>decide (c<128))&&decide (l.length<=4))=true by decide) w hw)
theorem Fc:∀ p∈P7,Gd p:=by
 intro p a;have low:∀ n:Nat,n<100->n<10^60:=λn hn=>qaD hn (qaU (show 100<=10^2 by decide) (qb8 (by decide) (by decide)));simp only[P7,qat,qbt,or_false]at a;rcases a with rfl|rfl|rfl|rfl|rfl|rfl|rfl
 ·exact⟨⟨by simp,by simp⟩,by decide,low _ (by decide)⟩
 ·exact⟨⟨by simp,by simp⟩,by decide,low _ (by decide)⟩
 ·exact⟨⟨by simp,by simp⟩,by decide,low _ (by decide)⟩
 ·exact⟨⟨by simp,by simp⟩,by decide,low _ (by decide)⟩
 ·exact⟨⟨by simp,by simp⟩,by decide,low _ (by decide)⟩
 ·exact⟨⟨by simp,by simp⟩,by decide,low _ (by decide)⟩
 ·exact⟨⟨by simp,by simp⟩,by decide,low _ (by decide)⟩
theorem Fd:∀ a b c d e f g:Bool,ups (λx y=>vz x y) ((sel [a,b,c,d,e,f,g] P7).map qbh)=true:=by decide +kernel
theorem Dz {bs:List Bool} (h:bs.length=7):Pok (sel bs P7):=by
 refine⟨λp i=>Fc p (oo i),?_,qaU (tM bs P7) (by decide)⟩
 match bs,h with
 |[a,b,c,d,e,f,g],_=>exact Fd a b c d e f g
theorem xW {b:Bool}{bs:List Bool} (h:bs.length=7):J (kdN b::if sel bs W7=[] then [[48]] else sel bs W7)=ptx (kdN b) (sel bs P7):=by
 have e:sel bs W7=(sel bs P7).map pw:=by rw[<-FU,tN]
 rw[e];by_cases a:sel bs P7=[]
 ·rw[a]
  rfl
 ·rw[iFN (by simpa using a),yi]
  unfold ptx;rw[iFN a]
theorem zR {b:Bool}{bs:List Bool} (h:bs.length=7):(rd 2 (J (kdN b::if sel bs W7=[] then [[48]] else sel bs W7))).isSome=true:=by
 have a:=uT (b:=b) (Dz h);rw[xW h];show ((rdP _).map _).isSome=true;rw[Option.isSome_map];exact a
end Own
set_option maxHeartbeats 1000000
namespace Own
open PySem L2
theorem Gx {k:Int} (b:0<=k) (a:k<5) (s:Sto):AC s (.d (.int 1)) (.d (.int k))=some (.int ((2^k.toNat:Nat):Int))/\2^k.toNat<=16:=by
 have:k=0\/k=1\/k=2\/k=3\/k=4:=by lia
 rcases this with rfl|rfl|rfl|rfl|rfl<;>exact⟨rfl,by decide⟩
def V3:List Nat:=[48,49,45]
theorem Dy {f:Ef}{env:Ev}{st:Sto}{ws:List (List Nat)} (b:f env st=some (.d (.lst (ws.map λw=>D.str (S w))),st)):xG f (ay (cL (ae (iC (.str "0")) ah))) env st=some (.d (.lst ((if ws=[] then [[48]] else ws).map λw=>D.str (S w))),st):=by
 have a:bG st (.d (.lst (ws.map λw=>D.str (S w))))=some (!(ws.map λw=>D.str (S w)).isEmpty):=rfl;simp only[xG,b,qaa,a];cases ws with
 |nil=>rfl
 |cons w r=>rfl
theorem D9 {h:Nat}{st:Sto} (u:dc st h):∃ bs c,bs.length=7/\Stp h st c/\lcI (.nm 0) fj gH [none,some (.h h)] (W7.map λw=>D.str (S w)) st=some ((sel bs W7).map λw=>D.str (S w),c):=by
 obtain⟨j,s2,o,bs,k,a,p⟩:=me (g:=.nm 0) (tt:=fj) (te:=gH) (env:=[none,some (.h h)]) (ds:=W7.map λw=>D.str (S w)) (λi j s=>∃ bs:List Bool,j=(sel bs W7).map (λw=>D.str (S w))/\bs.length=i/\Stp h st s) (st:=st) (ys0:=[]) ⟨[],U,U,.refl u⟩ (by
  rintro i d j s hd ⟨bs,rfl,a,t⟩
  rw[qbu]at hd;obtain⟨w,hw,rfl⟩:=qac.mp hd;obtain⟨r,f,x,v,l,q⟩:=jL t.hand (m:=2) (by decide) (by decide);refine⟨[Z (.str (S w)),some (.h h)],U,?_⟩;have e:fj [Z (.str (S w)),some (.h h)] s=some (r==1,f):=aS (aA (ws:=[.h h,.d (.int 2)]) U q) U (oZ _ _ _);have n:=λb=>uZ bs W7 b w (by rw[a];exact hw);cases hb:(r==1) with
  |true=>
   rw[hb]at e;exact .inl ⟨f,.str (S w),f,e,U,bs++[true],by rw[n true];simp,by rw[qai,a];rfl,t.trans l⟩
  |false=>
   rw[hb]at e
   exact .inr ⟨f,e,bs++[false],by rw[n false];simp,by rw[qai,a];rfl,t.trans l⟩)
 rw[qaI]at k;subst k;exact⟨bs,s2,a,p,o⟩
theorem AL {st:Sto}{h:Nat} (hh:dc st h):∃ a b c y,Asc a 120/\Asc b 120/\Asc c 120/\(rd 0 a).isSome=true/\(rd 1 b).isSome=true/\(rd 2 c).isSome=true/\Stp h st y/\iT [.h h] st=some (.d (.lst [.str (S a),.str (S b),.str (S c)]),y):=by
 -- the values
 obtain⟨k,s1,k0,k1,t1,e1⟩:=jL hh (m:=5) (by decide) (by decide);obtain⟨p1,p2⟩:=Gx k0 k1 s1;obtain⟨j,s2,xl,G,Q,e2⟩:=pU (te:=i7) (F:=λc=>[c]) (L:=V3) (h:=h) (m:=2^k.toNat) (env:=[none,some (.h h)]) (st:=s1) (λe i=>⟨_,U,aA U e⟩) (by decide) (by decide) t1.hand;have E:∀ w∈j.map (λc=>[c]),Asc w 1:=λw hw=>by
  obtain⟨c,l,rfl⟩:=qbe.mp hw
  have:=G c l
  simp only[V3,qat,qbt,or_false]at this;exact⟨λz hz=>by rw[qaz.mp hz];lia,qaw _⟩
 have H:=tB (z:="") (f:=ay (iLc 1 [0] (fA (ae (iOp AC (iC (.int 1)) (au bC (ae (iV 0) (ae (iC (.int 5)) ah)))) ah)) (.nm 0) bg i7)) (env:=[some (.h h),none,none,none,none]) (st:=st) (s:=s2) (ws:=j.map λc=>[c]) (n:=1) (.inl U) (bx (eI (ni (z:=((2^k.toNat:Nat):Int)) (aI U (aA (ws:=[.h h,.d (.int 5)]) U e1) p1) (by lia) (by lia) (by lia)) (by rw[jp];lia) e2)) E (by rw[qan];lia) (by decide)
 have fl:(j.map λc=>[c]).flatten=j:=by
  clear xl G e2 E H
  induction j with
  |nil=>rfl
  |cons c r ih=>rw[qal,qdn,ih];rfl
 have o:=o6 E;rw[B1,fl]at H;rw[fl,qan]at o;have g1:=aM (i:=1) H
 -- the rule
 obtain⟨m,s3,m0,m1,t3,e3⟩:=jL Q.hand (m:=7) (by decide) (by decide);obtain⟨ps,s4,pl,pm,X,e4⟩:=pU (te:=i6) (F:=qbh) (L:=PC) (h:=h) (m:=m.toNat) (env:=[none,some (.h h)]) (st:=s3) (λe i=>⟨_,U,aA U e⟩) (by decide) (by decide) t3.hand;have V:∀ w∈ps.map qbh,Asc w 8:=λw hw=>by
  obtain⟨p,hp,rfl⟩:=qbe.mp hw
  have:=vL p (pm p hp)
  simp only[qao]at this;exact j9 (by rw[this.2.2.1,this.2.2.2.1];rfl)
 have g2:aK (.nm 2) (ay (iLc 1 [0] (fA (ae (au bC (ae (iV 0) (ae (iC (.int 7)) ah))) ah)) (.nm 0) bg i6)) [some (.h h),Z (.str (S j)),none,none,none] s2=some (.nx [some (.h h),Z (.str (S j)),Z (.lst ((ps.map qbh).map λw=>D.str (S w))),none,none] s4):=
  aM (bx (eI (ni (z:=m) (aA (ws:=[.h h,.d (.int 7)]) U e3) m0 (by lia) U) (by rw[jp];lia) e4))
 obtain⟨wd,B,M,W,e5⟩:=kX (ds:=PF.map λx=>D.str (S x)) X.hand (by decide) (by decide);obtain⟨w,hw,rfl⟩:=qbe.mp M;have wa:=DM w hw;have I:=yh V;rw[qan]at I;have jl:(J (ps.map qbh)).length<=54:=qaU I.2 (qcW 9 (show ps.length<=6 by lia));have wl:=wa.2;have P:=tB (z:=" ") (f:=iV 2) (env:=[some (.h h),Z (.str (S j)),Z (.lst ((ps.map qbh).map λw=>D.str (S w))),none,none]) (st:=B) (s:=B) (ws:=ps.map qbh) (n:=8) (.inr U) U V (by rw[qan];lia) (by decide)
 rw[B2]at P;have g3:=aM (i:=3) (aI (g:=aU) (aI (g:=aU) (a:=au bo (ae (iV 0) (ae (ay (cL (ae (iC (.str "&(")) (ae (iC (.str "|(")) (ae (iC (.str "^(")) (ae (iC (.str "0(")) (ae (iC (.str "9(")) (ae (iC (.str "!3(")) ah)))))))) ah))) (aA (ws:=[.h h,.d (.lst (PF.map λx=>D.str (S x)))]) U e5) P (j8 (by lia))) (b:=iC (.str ")")) U (j8 (a:=w++J (ps.map qbh)) (b:=[41]) (by rw [qai,qaY];lia)))
 -- the polynomial
 obtain⟨bs,T,bl,t6,e6⟩:=D9 W.hand;have g4:aK (.nm 4) (ay (iLc 1 [0] (bh (ay (cL (ae (iC (.str "-7")) (ae (iC (.str "a")) (ae (iC (.str "2ab")) (ae (iC (.str "-abc")) (ae (iC (.str "12b")) (ae (iC (.str "-c")) (ae (iC (.str "40f")) ah)))))))))) (.nm 0) fj gH)) [some (.h h),Z (.str (S j)),Z (.lst ((ps.map qbh).map λw=>D.str (S w))),Z (.str (S (w++J (ps.map qbh)++[41]))),none] B=some (.nx [some (.h h),Z (.str (S j)),Z (.lst ((ps.map qbh).map λw=>D.str (S w))),Z (.str (S (w++J (ps.map qbh)++[41]))),Z (.lst ((sel bs W7).map λw=>D.str (S w)))] T):=
  aM (bx (eI (ds:=W7.map λw=>D.str (S w)) (s:=B) U (by decide) e6))
 obtain⟨kd,K,u,t7,Y⟩:=kX (ds:=[.str "odd",.str "both"]) t6.hand (by simp) (by decide)
 obtain⟨b,rfl⟩:∃ b,kd=.str (S (kdN b)):=by
  simp only[qat,qbt,or_false]at u;rcases u with rfl|rfl
  ·exact⟨false,U⟩
  ·exact⟨true,U⟩
 have sa:∀ v∈kdN b::(if sel bs W7=[] then [[48]] else sel bs W7),Asc v 4:=λv t=>by
  rcases qat.mp t with rfl|t
  ·cases b<;>exact j9 (by decide)
  ·split at t
   ·rw[qaz.mp t];exact j9 (by decide)
   ·exact Ej v (oo t)
 have R:(kdN b::(if sel bs W7=[] then [[48]] else sel bs W7)).length<=8:=by
  have:=tM bs W7
  have Y:W7.length=7:=rfl;rw[qaf];split
  ·decide
  ·lia
 have N:=yh sa;have cl:(J (kdN b::(if sel bs W7=[] then [[48]] else sel bs W7))).length<=40:=qaU N.2 (qcW 5 R);have q:iOp aU (ay (cL (ae (au bo (ae (iV 0) (ae (ay (cL (ae (iC (.str "odd")) (ae (iC (.str "both")) ah)))) ah))) ah))) (xG (iV 4) (ay (cL (ae (iC (.str "0")) ah)))) [some (.h h),Z (.str (S j)),Z (.lst ((ps.map qbh).map λw=>D.str (S w))),Z (.str (S (w++J (ps.map qbh)++[41]))),Z (.lst ((sel bs W7).map λw=>D.str (S w)))] T=some (.d (.lst ((kdN b::(if sel bs W7=[] then [[48]] else sel bs W7)).map λw=>D.str (S w))),K):=by
  refine aI (bx (on (ds:=[.str (S (kdN b))]) (ao (b:=ah) (aA (ws:=[.h h,.d (.lst [.str "odd",.str "both"])]) U Y) U) U (by show 1<=1000;decide))) (Dy (ws:=sel bs W7) U) ?_
  rw[yo K (by rw[qan];rw[qaf]at R;show 1+_<=1000000;lia)];rfl
 have O:=tB (z:=" ") (.inr U) q sa (by lia) (by decide)
 rw[B2]at O;have A:=zR (b:=b) bl;generalize J (kdN b::(if sel bs W7=[] then [[48]] else sel bs W7))=C at N cl O A;refine⟨j,w++J (ps.map qbh)++[41],C,K,⟨o.1,by lia⟩,⟨λc l=>?_,?_⟩,⟨N.1,by lia⟩,zP (k:=k.toNat) (λc l=>by have:=G c l;simpa [V3] using this) xl (by lia),zQ hw pm (by lia),A,(((((t1.trans Q).trans t3).trans X).trans W).trans t6).trans t7,?_⟩
 ·rcases qba.mp l with l|l
  ·rcases qba.mp l with l|l
   ·exact wa.1 c l
   ·exact I.1 c l
  ·rw[qaz.mp l];decide
 ·rw[qai,qai,qaY];lia
 ·refine bz (n:=5) (k:=1) (b:=iN) U (aB g1 (aB g2 (aB g3 (aB g4 (aR ?_)))))
  exact bx (on (ds:=[.str (S j),.str (S (w++J (ps.map qbh)++[41])),.str (S C)]) (ao U (ao U (ao (b:=ah) O U))) U (by show 3<=1000;decide))
end Own
section
set_option maxHeartbeats 1000000
namespace Own
open PySem L2
theorem sI {h n:Nat}{a b:Sto} (t:Stp h a b) (hn:n≠h):lg b n=lg a n:=by unfold lg;rw[t.get hn]
theorem B4 {s:Sto}{n:Nat}{ds:List D} (h:lg s n=some ds):n<s.length/\s[n]?=some (.l ds):=by
 unfold lg at h;cases e:s[n]? with
 |none=>rw[e]at h;cases h
 |some c=>
  rw[e]at h;refine⟨(qaA.mp e).1,?_⟩;cases c<;>first|(cases h;done)|(injection h with h;rw[h])
theorem y9 {s:Sto}{n:Nat}{ds:List D} (h:n<s.length):lg (s.set n (.l ds)) n=some ds:=by unfold lg;rw[qbJ h]
theorem uq {s:Sto}{h n:Nat}{c:C} (I:dc s h) (hn:n≠h):dc (s.set n c) h:=by
 obtain⟨x,y,z,h0,e⟩:=I;exact⟨x,y,z,h0,by rw[qbw hn];exact e⟩
def N6:List D:=[.str "",.str "0",.str "a",.str " ",.str "-",.str ")"]
theorem Ax {s:Sto}{h n:Nat}{ds B:List D}{t:D}{p q x6:Option W} (hn:n≠h) (I:dc s h) (T:lg s n=some ds) (hd:jU ds 300) (Q:ds.length<1000) (K:IsT t 120) (hgs:jU B 120) (hgn:B≠[]) (hgl:B.length<1000) :
  ∃ y6 s' F,sE [p,q,some (.h h),Z (.lst B),some (.h n),Z t,x6] s=some (.nx [p,q,some (.h h),Z (.lst B),some (.h n),Z t,y6] s')/\dc s' h/\lg s' n=some F/\jU F 300/\F.length=ds.length+2:=by
 obtain⟨l,rfl,O⟩:=K;have ll:=O.2;have dl:bN s [.d (.str (S l))]=some (.int (l.length:Int)):=by
  show (if (S l).length<=1000000 then some (D.int ((S l).length:Int)) else none)=_;rw[cn,iFP (by lia)]
 obtain⟨i,J,i0,i1,t1,L⟩:=jL I (m:=(l.length:Int)+1) (by lia) (by lia);obtain⟨u,s2,hu,R,X⟩:=kX (ds:=N6) t1.hand (by simp[N6]) (by decide);have ua:IsT u 1:=IsT.of (qas.mp (show N6.all (okS 1)=true by decide +kernel) u hu);obtain⟨uk,rfl,uka⟩:=ua;obtain⟨a,ea,aa⟩:=O.cut none (some i);obtain⟨b,eb,ab⟩:=O.cut (some (i+1)) none;have la:=aa.2;have lb:=ab.2;have lk:=uka.2;have g1:aK (.nm 6) (au bC (ae (iV 2) (ae (iOp aU (iCB bN (ae (iV 5) ah)) (iC (.int 1))) ah))) [p,q,some (.h h),Z (.lst B),some (.h n),Z (.str (S l)),x6] s=some (.nx [p,q,some (.h h),Z (.lst B),some (.h n),Z (.str (S l)),Z (.int i)] J):=
  aM (aA (ao U (ao (aI (bQ (ws:=[.d (.str (S l))]) U dl) U U) U)) L)
 have sa:=FD (l:=l) (e:=iV 5) (lo:=iPn) (hi:=iPs (iV 6)) (env:=[p,q,some (.h h),Z (.lst B),some (.h n),Z (.str (S l)),Z (.int i)]) (st:=J) (a:=none) (b:=some i) (by lia) U U U;have sb:=FD (l:=l) (e:=iV 5) (lo:=iPs (iOp aU (iV 6) (iC (.int 1)))) (hi:=iPn) (env:=[p,q,some (.h h),Z (.lst B),some (.h n),Z (.str (S l)),Z (.int i)]) (st:=s2) (a:=some (i+1)) (b:=none) (by lia) U U U;rw[ea]at sa;rw[eb]at sb;have hg1:lg J n=some ds:=by rw[sI t1 hn];exact T
 have hg2:lg s2 n=some ds:=by rw[sI R hn];exact hg1
 have p1:=DY (o:=iV 4) (env:=[p,q,some (.h h),Z (.lst B),some (.h n),Z (.str (S l)),Z (.int i)]) (st:=J) (n:=n) U (aI (g:=aU) (aI (g:=aU) sa (b:=au bo (ae (iV 2) (ae (ay (cL (ae (iC (.str "")) (ae (iC (.str "0")) (ae (iC (.str "a")) (ae (iC (.str " ")) (ae (iC (.str "-")) (ae (iC (.str ")")) ah)))))))) ah))) (aA (ws:=[.h h,.d (.lst N6)]) U X) (j8 (by lia))) sb (j8 (by rw[qai];lia))) hg1 hg2 (by lia)
 have hlt:=(B4 hg2).1;have hh3:=uq (c:=.l (ds++[.str (S (a++uk++b))])) R.hand hn;have M:=y9 (ds:=ds++[.str (S (a++uk++b))]) hlt;generalize s2.set n (.l (ds++[.str (S (a++uk++b))]))=E at p1 hh3 M;obtain⟨v,s4,hv,t4,e4⟩:=kX (ds:=[.str "",.str " "]) hh3 (by simp) (by decide)
 have va:IsT v 1:=IsT.of (qas.mp (show [D.str "",.str " "].all (okS 1)=true by decide +kernel) v hv)
 obtain⟨vk,rfl,vka⟩:=va;obtain⟨w,s5,hw,t5,e5⟩:=kX (ds:=B) t4.hand hgn (by lia);obtain⟨wk,rfl,wka⟩:=hgs w hw;have lv:=vka.2;have lw:=wka.2;have r:lg s5 n=some (ds++[.str (S (a++uk++b))]):=by rw[sI t5 hn,sI t4 hn];exact M
 have p2:=DY (o:=iV 4) (env:=[p,q,some (.h h),Z (.lst B),some (.h n),Z (.str (S l)),Z (.int i)]) (st:=E) (n:=n) U (aI (g:=aU) (aI (g:=aU) (a:=iV 5) (x:=.d (.str (S l))) U (b:=au bo (ae (iV 2) (ae (ay (cL (ae (iC (.str "")) (ae (iC (.str " ")) ah)))) ah))) (aA (ws:=[.h h,.d (.lst [.str "",.str " "])]) U e4) (j8 (by lia))) (b:=au bo (ae (iV 2) (ae (iV 3) ah))) (aA (ws:=[.h h,.d (.lst B)]) U e5) (j8 (by rw[qai];lia))) M r (by rw[qai,qaY];lia)
 have Y:=(B4 r).1;refine⟨_,_,ds++[.str (S (a++uk++b))]++[.str (S (l++vk++wk))],aB g1 (aB p1 p2),uq t5.hand hn,y9 Y,?_,by simp⟩;refine (hd.app (.one ⟨_,U,((aa.app uka).app ab).1,by rw[qai,qai];lia⟩)).app (.one ⟨_,U,((O.app vka).app wka).1,by rw[qai,qai];lia⟩)
theorem xy {s:Sto}{n:Nat}{ds:List D}{p q a b x5 x6:Option W} (T:lg s n=some ds) (hd:jU ds 300) (Q:ds.length<1000):ba (bJ bG (iCB qx (ae (ay (vj 1 [] (iV 4) (.nm 0) bg lW)) ah))) [p,q,a,b,some (.h n),x5,x6] s=some (false,s):=by
 obtain⟨f,s2,P,hy,hs2⟩:=sG (n:=n) (all:=ds) (g:=.nm 0) (tt:=bg) (te:=lW) (env:=[none]) (ds:=ds) (λi f s'=>f=(qax i true).map D.bl/\s'=s) (st:=s) (ys0:=[]) ⟨U,U⟩ (λi f s' h=>by rw [h.2];exact T) (by
  rintro i d f s' hdi ⟨rfl,rfl⟩
  obtain⟨l,rfl,O⟩:=hd d (qcr hdi)
  exact⟨_,U,.inl ⟨s',.bl true,s',U,aA U (zV O.1 (qaU O.2 (by decide))),by rw[qfm,qeB];rfl,U⟩⟩)
 rw[qaI]at hy;subst hy;rw[hs2]at P;have N:ay (vj 1 [] (iV 4) (.nm 0) bg lW) [p,q,a,b,some (.h n),x5,x6] s=some (.d (.lst ((qax ds.length true).map D.bl)),s):=by
  have hv:iV 4 [p,q,a,b,some (.h n),x5,x6] s=some (.h n,s):=rfl;have hE':lcH n ds (.nm 0) bg lW (jx 1 [] [p,q,a,b,some (.h n),x5,x6]) ds s=some ((qax ds.length true).map D.bl,s):=P;refine bx ?_;simp only[vj,hv,qaa,T];rw[iFP (by lia)];exact hE'
 have q1:=DX (bs:=qax ds.length true) (ao (b:=ah) N U);rw[show (qax ds.length true).all id=true by rw[qas];intro x hx;rw[(qfF.mp hx).2];rfl]at q1;exact ig (lh q1)
theorem yF {s:Sto}{h:Nat} (I:dc s h):∃ f s',jU f 300/\f.length=40/\Stp h s s'/\lcI (.nm 0) bg lX [none,some (.h h)] (lM 0 40) s=some (f,s'):=by
 obtain⟨f,s2,P,H,K,R⟩:=me (g:=.nm 0) (tt:=bg) (te:=lX) (env:=[none,some (.h h)]) (ds:=lM 0 40) (λi f s'=>f.length=i/\jU f 300/\Stp h s s') (st:=s) (ys0:=[]) ⟨U,λd hd=>(nomatch hd),.refl I⟩ (by
  rintro i d f s' hd ⟨H,K,t⟩
  obtain⟨x,s'',hx,t',e'⟩:=BO t.hand
  exact⟨_,U,.inl ⟨s',x,s'',U,aA (ws:=[.h h]) U e',by rw[qai,H];rfl,K.app (.one (hx.up (by decide))),t.trans t'⟩⟩)
 rw[qaI]at H K;exact⟨f,s2,K,H,R,P⟩
theorem Ah {s:Sto}{a b c:List Nat}{p q h x4 x5 x6:Option W} (ha:Asc a 120) (hb:Asc b 120) (hc:Asc c 120) (h0:(rd 0 a).isSome=true) (N:(rd 1 b).isSome=true) (h2:(rd 2 c).isSome=true) :
  aC dNe (ay (iLc 2 [] (sv (ae (iV 3) ah)) (.tp [0,1]) bg lY)) (ay (cL (ae (iC (.int 1)) (ae (iC (.int 1)) (ae (iC (.int 1)) ah))))) [p,q,h,Z (.lst [.str (S a),.str (S b),.str (S c)]),x4,x5,x6] s=some (false,s):=by
 have one:∀ {w:Nat}{l:List Nat},w<3->Asc l 120->(rd w l).isSome=true->lY [Z (.int (w:Int)),Z (.str (S l))] s=some (.d (.int 1),s):=λ{w l} hw H hr=>by
  have e:=uA (st:=s) hw H.1 (qaU H.2 (by decide));obtain⟨d,hd⟩:=qcz.mp hr
  have:rdL w l=[d]:=by unfold rdL;rw[hd]
  rw[this]at e;exact bQ (ao (aA (ws:=[.d (.str (S l)),.d (.int (w:Int))]) U e) U) U
 have e0:=one (w:=0) (by decide) ha h0;have L:=one (w:=1) (by decide) hb N;have X:=one (w:=2) (by decide) hc h2;have H:lcI (.tp [0,1]) bg lY [none,none] (jP 0 [.str (S a),.str (S b),.str (S c)]) s=some ([.int 1,.int 1,.int 1],s):=by
  have s0:dC (.tp [0,1]) (.d (.tup [.int ((0:Nat):Int),.str (S a)])) [none,none]=some [Z (.int ((0:Nat):Int)),Z (.str (S a))]:=rfl;have J:dC (.tp [0,1]) (.d (.tup [.int ((1:Nat):Int),.str (S b)])) [none,none]=some [Z (.int ((1:Nat):Int)),Z (.str (S b))]:=rfl;have s2:dC (.tp [0,1]) (.d (.tup [.int ((2:Nat):Int),.str (S c)])) [none,none]=some [Z (.int ((2:Nat):Int)),Z (.str (S c))]:=rfl;have hy:∀ e,bg e s=some (true,s):=λ_=>rfl;show lcI (.tp [0,1]) bg lY [none,none] [.tup [.int ((0:Nat):Int),.str (S a)],.tup [.int ((1:Nat):Int),.str (S b)],.tup [.int ((2:Nat):Int),.str (S c)]] s=_;simp only[lcI,s0,J,s2,hy,e0,L,X,qaa,if_true,fz,qak];rfl
 exact aS (bx (eI (ds:=jP 0 [.str (S a),.str (S b),.str (S c)]) (s:=s) U (by show 3<=1000000;decide) H)) U U
theorem Ay {st:Sto}{ns:List Int}{k:Nat}{a2 a3 a4 a5 a6:Option W}:∃ b2 b3 b4 b5 b6 st',sF [some (.d (.scr ns)),some (.d (.int k)),a2,a3,a4,a5,a6] st=some (.nx [some (.d (.scr ns)),some (.d (.int k)),b2,b3,b4,b5,b6] st'):=by
 obtain⟨x,y,x0,L⟩:=AM (st:=st) (ns:=ns) (k:=k);have I:dc (st++[.l [.int x,.int y,.int 0]]) st.length:=⟨x,y,0,x0,by rw[qbn (qaw _),Nat.sub_self];rfl⟩;obtain⟨hd,ehd⟩:∃ hd,hd=st.length:=⟨_,U⟩;rw[<-ehd]at I L;generalize st++[C.l [D.int x,.int y,.int 0]]=J at L I;obtain⟨a,b,c,s2,aa,ab,ac,r0,r1,r2,R,X⟩:=AL I;obtain⟨f,E,yt,yl,t3,e3⟩:=yF R.hand;generalize P:some (W.d (.scr ns))=A at *;have q1:aK (.nm 2) (au fL (ae (iV 0) (ae (iV 1) ah))) [A,some (.d (.int k)),a2,a3,a4,a5,a6] st=some (.nx [A,some (.d (.int k)),some (.h hd),a3,a4,a5,a6] J):=by
  subst P;exact aM (aA U L)
 have q2:aK (.nm 3) (au iT (ae (iV 2) ah)) [A,some (.d (.int k)),some (.h hd),a3,a4,a5,a6] J=some (.nx [A,some (.d (.int k)),some (.h hd),some (.d (.lst [.str (S a),.str (S b),.str (S c)])),a4,a5,a6] s2):=aM (aA (ws:=[.h hd]) U X);have q3:=Ah (s:=s2) (p:=A) (q:=some (.d (.int k))) (h:=some (.h hd)) (x4:=a4) (x5:=a5) (x6:=a6) aa ab ac r0 r1 r2;have gt:jU [.str (S a),.str (S b),.str (S c)] 120:=by
  intro d hdm;simp only[qat,qbt,or_false]at hdm;rcases hdm with rfl|rfl|rfl
  ·exact⟨_,U,aa⟩
  ·exact⟨_,U,ab⟩
  ·exact⟨_,U,ac⟩
 have q4:aK (.nm 4) (mP (yM yX (ay (iLc 1 [2] (fA (ae (iC (.int 40)) ah)) (.nm 0) bg lX)) (iV 3))) [A,some (.d (.int k)),some (.h hd),some (.d (.lst [.str (S a),.str (S b),.str (S c)])),a4,a5,a6] s2=some (.nx [A,some (.d (.int k)),some (.h hd),some (.d (.lst [.str (S a),.str (S b),.str (S c)])),some (.h E.length),a5,a6] (E++[.l (f++[.str (S a),.str (S b),.str (S c)])])):=by
  refine aM ?_;have N:ay (iLc 1 [2] (fA (ae (iC (.int 40)) ah)) (.nm 0) bg lX) [A,some (.d (.int k)),some (.h hd),some (.d (.lst [.str (S a),.str (S b),.str (S c)])),a4,a5,a6] s2=some (.d (.lst f),E):=bx (eI (ni (z:=40) (m:=40) U (by decide) (by decide) U) (by rw[jp];decide) e3);have h2:iV 3 [A,some (.d (.int k)),some (.h hd),some (.d (.lst [.str (S a),.str (S b),.str (S c)])),a4,a5,a6] E=some (.d (.lst [.str (S a),.str (S b),.str (S c)]),E):=rfl;have h3:yX E (.d (.lst f)) (.d (.lst [.str (S a),.str (S b),.str (S c)]))=some (f++[.str (S a),.str (S b),.str (S c)]):=by
   show (if f.length+3<=1000000 then some (f++[D.str (S a),.str (S b),.str (S c)]) else none)=_;rw[iFP (by lia)]
  simp only[mP,yM,N,h2,qaa,h3,qak]
 have hlt3:=t3.hand.lt;have hnh:E.length≠hd:=by lia
 have hh4:=t3.hand.app [.l (f++[.str (S a),.str (S b),.str (S c)])];have r:lg (E++[.l (f++[.str (S a),.str (S b),.str (S c)])]) E.length=some (f++[.str (S a),.str (S b),.str (S c)]):=oj _ _;have V:jU (f++[.str (S a),.str (S b),.str (S c)]) 300:=yt.app (gt.up (by decide));have hz4:(f++[D.str (S a),.str (S b),.str (S c)]).length=43:=by rw[qai,yl];rfl
 generalize E++[C.l (f++[.str (S a),.str (S b),.str (S c)])]=s4 at q4 hh4 r;generalize f++[D.str (S a),.str (S b),.str (S c)]=ds4 at r V hz4;generalize hn:E.length=n at q4 hnh r;generalize hG:[D.str (S a),.str (S b),.str (S c)]=G at q2 q3 q4 gt;have hGn:G≠[]:=by rw[<-hG];simp
 have hGl:G.length=3:=by rw[<-hG];rfl
 obtain⟨env',s5,hF,y5,y6,ds5,rfl,hh5,hg5,ht5,hz5⟩:=o7 (g:=.nm 5) (body:=sE) (ds:=G) (λi env s=>∃ x5 x6 ds,env=[A,some (.d (.int k)),some (.h hd),some (.d (.lst G)),some (.h n),x5,x6]/\dc s hd/\lg s n=some ds/\jU ds 300/\ds.length=43+2*i)
  (env:=[A,some (.d (.int k)),some (.h hd),some (.d (.lst G)),some (.h n),a5,a6]) (st:=s4) ⟨_,_,ds4,U,hh4,r,V,hz4⟩ (by
  rintro j d env s hdj ⟨x5,x6,ds,rfl,hs,T,K,Q⟩
  have hj:j<3:=by rw[<-hGl];exact (qaA.mp hdj).1
  obtain⟨z6,s',F,e',N,h2,h3,h4⟩:=Ax (p:=A) (q:=some (.d (.int k))) (x6:=x6) hnh hs T K (by lia) (gt d (qcr hdj)) gt hGn (by lia)
  exact⟨_,_,_,U,.inl e',_,_,F,U,N,h2,h3,by lia⟩)
 have q6:=xy (p:=A) (q:=some (.d (.int k))) (a:=some (.h hd)) (b:=some (.d (.lst G))) (x5:=y5) (x6:=y6) hg5 ht5 (by lia);exact⟨_,_,_,_,_,s5,aB q1 (aB q2 (aB (bq q3 U) (aB q4 (aB (im (mR U) hF) (bq q6 U)))))⟩
theorem yZ (ns:List Int) (H:ns.length<=63):∃ st,uB [.d (.scr ns)] []=some (.d (.bl true),st):=by
 have Q:∃ z:Int,0<=z/\z<=1000/\∀ st,iOp aU (iC (.int 1)) (iCB CH (ae (iC (.int 6)) (ae (iCB bN (ae (iV 0) ah)) ah))) [Z (.scr ns),none,none,none,none,none,none] st=some (.d (.int z),st):=
  ⟨_,(by show (0:Int)<=1+(if (((ns.map D.int).length:Nat):Int)<6 then (((ns.map D.int).length:Nat):Int) else 6);rw[qan];split<;>lia),(by show 1+(if (((ns.map D.int).length:Nat):Int)<6 then (((ns.map D.int).length:Nat):Int) else 6)<=1000;rw[qan];split<;>lia),λ_=>rfl⟩
 obtain⟨z,z0,z1,Q⟩:=Q
 obtain⟨env',st',hF,y1,y2,y3,y4,y5,y6,rfl⟩:=o7 (g:=.nm 1) (body:=sF) (ds:=lM 0 z.toNat) (λ_ env _=>∃ x1 x2 x3 x4 x5 x6,env=[Z (.scr ns),x1,x2,x3,x4,x5,x6]) (env:=[Z (.scr ns),none,none,none,none,none,none]) (st:=[]) ⟨_,_,_,_,_,_,U⟩ (by
  rintro i d env st hd ⟨x1,x2,x3,x4,x5,x6,rfl⟩
  obtain⟨rfl,hi⟩:=xk hd;obtain⟨b2,b3,b4,b5,b6,s',e⟩:=Ay (st:=st) (ns:=ns) (k:=i) (a2:=x2) (a3:=x3) (a4:=x4) (a5:=x5) (a6:=x6)
  exact⟨_,_,_,U,.inl e,_,_,_,_,_,_,U⟩)
 exact⟨_,uR (n:=7) (k:=1) (b:=wj) U (aB (im (ni (Q []) z0 z1 U) hF) (aR U))⟩
end Own
end
namespace Own
open PySem L2
theorem De {b:List Value}{n:Nat} (h:b.length=n+1):∃ a r,b=a::r/\r.length=n:=by
 cases b with
 |nil=>cases h
 |cons a r=>exact⟨a,r,U,Nat.succ.inj h⟩
theorem gU {b:List Value} (h:b.length=1):∃ a0,b=[a0]:=by
 obtain⟨a,r,rfl,g⟩:=De h;exact⟨a,by rw[qe5.1 g]⟩
theorem vt {a:List Value} (h:a.length=2):∃ a0 a1,a=[a0,a1]:=by
 obtain⟨b,r,rfl,g⟩:=De h;obtain⟨a1,rfl⟩:=gU g;exact⟨b,a1,U⟩
theorem Dd {a:List Value} (h:a.length=3):∃ a0 a1 a2,a=[a0,a1,a2]:=by
 obtain⟨b,r,rfl,g⟩:=De h;obtain⟨a1,a2,rfl⟩:=vt g;exact⟨b,a1,a2,U⟩
theorem txt_mk {P:qaH}{w:World}{K:qad}{h:Heap}{mg:Str->Option Value} (X:K.In h) (G:h.Ns qaq mg)
  {f0:Addr}{od0 an0:Option Addr}{sl0:Array (Option Value)}{oc0 kV0 dc0 pm0 cd0 ct0:Value}
  (a0:qar K qaq "is_whole" = some (some (.ref f0))) (l0:K.lookup f0=some ⟨oc0,od0,.func (qaF "is_whole" "is_whole" (bb fC) (aP fC) (ak fC) .none kV0 dc0 pm0 an0 cd0 ct0),sl0⟩) (c0:qaC K cd0 "is_whole" = true) (k0:qay K (.ref f0)=true)
  {f1:Addr}{od1 an1:Option Addr}{sl1:Array (Option Value)}{oc1 kV1 dc1 pm1 cd1 ct1:Value}
  (a1:qar K qaq "is_within" = some (some (.ref f1))) (l1:K.lookup f1=some ⟨oc1,od1,.func (qaF "is_within" "is_within" (bb eO) (aP eO) (ak eO) .none kV1 dc1 pm1 an1 cd1 ct1),sl1⟩) (c1:qaC K cd1 "is_within" = true) (k1:qay K (.ref f1)=true)
  {f2:Addr}{od2 an2:Option Addr}{sl2:Array (Option Value)}{oc2 kV2 dc2 pm2 cd2 ct2:Value}
  (a2:qar K qaq "is_function" = some (some (.ref f2))) (l2:K.lookup f2=some ⟨oc2,od2,.func (qaF "is_function" "is_function" (bb cI) (aP cI) (ak cI) .none kV2 dc2 pm2 an2 cd2 ct2),sl2⟩) (c2:qaC K cd2 "is_function" = true) (k2:qay K (.ref f2)=true)
  {f3:Addr}{od3 an3:Option Addr}{sl3:Array (Option Value)}{oc3 kV3 dc3 pm3 cd3 ct3:Value}
  (a3:qar K qaq "is_term" = some (some (.ref f3))) (l3:K.lookup f3=some ⟨oc3,od3,.func (qaF "is_term" "is_term" (bb gC) (aP gC) (ak gC) .none kV3 dc3 pm3 an3 cd3 ct3),sl3⟩) (c3:qaC K cd3 "is_term" = true) (k3:qay K (.ref f3)=true)
  {f4:Addr}{od4 an4:Option Addr}{sl4:Array (Option Value)}{oc4 kV4 dc4 pm4 cd4 ct4:Value}
  (a4:qar K qaq "is_part" = some (some (.ref f4))) (l4:K.lookup f4=some ⟨oc4,od4,.func (qaF "is_part" "is_part" (bb gz) (aP gz) (ak gz) .none kV4 dc4 pm4 an4 cd4 ct4),sl4⟩) (c4:qaC K cd4 "is_part" = true) (k4:qay K (.ref f4)=true)
  {f5:Addr}{od5 an5:Option Addr}{sl5:Array (Option Value)}{oc5 kV5 dc5 pm5 cd5 ct5:Value}
  (a5:qar K qaq "are_parts" = some (some (.ref f5))) (l5:K.lookup f5=some ⟨oc5,od5,.func (qaF "are_parts" "are_parts" (bb eN) (aP eN) (ak eN) .none kV5 dc5 pm5 an5 cd5 ct5),sl5⟩) (c5:qaC K cd5 "are_parts" = true) (k5:qay K (.ref f5)=true)
  {f6:Addr}{od6 an6:Option Addr}{sl6:Array (Option Value)}{oc6 kV6 dc6 pm6 cd6 ct6:Value}
  (a6:qar K qaq "is_poly" = some (some (.ref f6))) (l6:K.lookup f6=some ⟨oc6,od6,.func (qaF "is_poly" "is_poly" (bb gA) (aP gA) (ak gA) .none kV6 dc6 pm6 an6 cd6 ct6),sl6⟩) (c6:qaC K cd6 "is_poly" = true) (k6:qay K (.ref f6)=true)
  {f7:Addr}{od7 an7:Option Addr}{sl7:Array (Option Value)}{oc7 kV7 dc7 pm7 cd7 ct7:Value}
  (a7:qar K qaq "is_row_of_parts" = some (some (.ref f7))) (l7:K.lookup f7=some ⟨oc7,od7,.func (qaF "is_row_of_parts" "is_row_of_parts" (bb bW) (aP bW) (ak bW) .none kV7 dc7 pm7 an7 cd7 ct7),sl7⟩) (c7:qaC K cd7 "is_row_of_parts" = true) (k7:qay K (.ref f7)=true)
  {f8:Addr}{od8 an8:Option Addr}{sl8:Array (Option Value)}{oc8 kV8 dc8 pm8 cd8 ct8:Value}
  (a8:qar K qaq "has_form" = some (some (.ref f8))) (l8:K.lookup f8=some ⟨oc8,od8,.func (qaF "has_form" "has_form" (bb fB) (aP fB) (ak fB) .none kV8 dc8 pm8 an8 cd8 ct8),sl8⟩) (c8:qaC K cd8 "has_form" = true) (k8:qay K (.ref f8)=true)
  {f9:Addr}{od9 an9:Option Addr}{sl9:Array (Option Value)}{oc9 kV9 dc9 pm9 cd9 ct9:Value}
  (a9:qar K qaq "parts_of" = some (some (.ref f9))) (l9:K.lookup f9=some ⟨oc9,od9,.func (qaF "parts_of" "parts_of" (bb fD) (aP fD) (ak fD) .none kV9 dc9 pm9 an9 cd9 ct9),sl9⟩) (c9:qaC K cd9 "parts_of" = true) (k9:qay K (.ref f9)=true)
  {f10:Addr}{od10 an10:Option Addr}{sl10:Array (Option Value)}{oc10 kV10 dc10 pm10 v ct10:Value}
  (a10:qar K qaq "counted" = some (some (.ref f10))) (l10:K.lookup f10=some ⟨oc10,od10,.func (qaF "counted" "counted" (bb eX) (aP eX) (ak eX) .none kV10 dc10 pm10 an10 v ct10),sl10⟩) (c10:qaC K v "counted" = true) (k10:qay K (.ref f10)=true)
  {f11:Addr}{od11 an11:Option Addr}{sl11:Array (Option Value)}{oc11 kV11 dc11 pm11 q ct11:Value}
  (a11:qar K qaq "is_rule" = some (some (.ref f11))) (l11:K.lookup f11=some ⟨oc11,od11,.func (qaF "is_rule" "is_rule" (bb gB) (aP gB) (ak gB) .none kV11 dc11 pm11 an11 q ct11),sl11⟩) (c11:qaC K q "is_rule" = true) (k11:qay K (.ref f11)=true)
  {f12:Addr}{od12 an12:Option Addr}{sl12:Array (Option Value)}{oc12 kV12 dc12 pm12 l ct12:Value}
  (a12:qar K qaq "show_function" = some (some (.ref f12))) (l12:K.lookup f12=some ⟨oc12,od12,.func (qaF "show_function" "show_function" (bb ce) (aP ce) (ak ce) .none kV12 dc12 pm12 an12 l ct12),sl12⟩) (c12:qaC K l "show_function" = true) (k12:qay K (.ref f12)=true)
  {f13:Addr}{od13 an13:Option Addr}{sl13:Array (Option Value)}{oc13 kV13 dc13 pm13 p ct13:Value}
  (a13:qar K qaq "show_rule" = some (some (.ref f13))) (l13:K.lookup f13=some ⟨oc13,od13,.func (qaF "show_rule" "show_rule" (bb cJ) (aP cJ) (ak cJ) .none kV13 dc13 pm13 an13 p ct13),sl13⟩) (c13:qaC K p "show_rule" = true) (k13:qay K (.ref f13)=true)
  {f14:Addr}{od14 an14:Option Addr}{sl14:Array (Option Value)}{oc14 kV14 dc14 pm14 m ct14:Value}
  (a14:qar K qaq "show_number" = some (some (.ref f14))) (l14:K.lookup f14=some ⟨oc14,od14,.func (qaF "show_number" "show_number" (bb dh) (aP dh) (ak dh) .none kV14 dc14 pm14 an14 m ct14),sl14⟩) (c14:qaC K m "show_number" = true) (k14:qay K (.ref f14)=true)
  {f15:Addr}{od15 an15:Option Addr}{sl15:Array (Option Value)}{oc15 kV15 dc15 pm15 s ct15:Value}
  (a15:qar K qaq "show_part" = some (some (.ref f15))) (l15:K.lookup f15=some ⟨oc15,od15,.func (qaF "show_part" "show_part" (bb dI) (aP dI) (ak dI) .none kV15 dc15 pm15 an15 s ct15),sl15⟩) (c15:qaC K s "show_part" = true) (k15:qay K (.ref f15)=true)
  {f16:Addr}{od16 an16:Option Addr}{sl16:Array (Option Value)}{oc16 kV16 dc16 pm16 H ct16:Value}
  (a16:qar K qaq "show_poly" = some (some (.ref f16))) (l16:K.lookup f16=some ⟨oc16,od16,.func (qaF "show_poly" "show_poly" (bb dJ) (aP dJ) (ak dJ) .none kV16 dc16 pm16 an16 H ct16),sl16⟩) (c16:qaC K H "show_poly" = true) (k16:qay K (.ref f16)=true)
  {f17:Addr}{od17 an17:Option Addr}{sl17:Array (Option Value)}{oc17 kV17 dc17 pm17 J ct17:Value}
  (a17:qar K qaq "value_by" = some (some (.ref f17))) (l17:K.lookup f17=some ⟨oc17,od17,.func (qaF "value_by" "value_by" (bb eP) (aP eP) (ak eP) .none kV17 dc17 pm17 an17 J ct17),sl17⟩) (c17:qaC K J "value_by" = true) (k17:qay K (.ref f17)=true)
  {f18:Addr}{od18 an18:Option Addr}{sl18:Array (Option Value)}{oc18 kV18 dc18 pm18 B ct18:Value}
  (a18:qar K qaq "read_function" = some (some (.ref f18))) (l18:K.lookup f18=some ⟨oc18,od18,.func (qaF "read_function" "read_function" (bb bt) (aP bt) (ak bt) .none kV18 dc18 pm18 an18 B ct18),sl18⟩) (c18:qaC K B "read_function" = true) (k18:qay K (.ref f18)=true)
  {f19:Addr}{od19 an19:Option Addr}{sl19:Array (Option Value)}{oc19 kV19 dc19 pm19 M ct19:Value}
  (a19:qar K qaq "head_by" = some (some (.ref f19))) (l19:K.lookup f19=some ⟨oc19,od19,.func (qaF "head_by" "head_by" (bb fN) (aP fN) (ak fN) .none kV19 dc19 pm19 an19 M ct19),sl19⟩) (c19:qaC K M "head_by" = true) (k19:qay K (.ref f19)=true)
  {f20:Addr}{od20 an20:Option Addr}{sl20:Array (Option Value)}{oc20 kV20 dc20 pm20 y ct20:Value}
  (a20:qar K qaq "rules_from" = some (some (.ref f20))) (l20:K.lookup f20=some ⟨oc20,od20,.func (qaF "rules_from" "rules_from" (bb cZ) (aP cZ) (ak cZ) .none kV20 dc20 pm20 an20 y ct20),sl20⟩) (c20:qaC K y "rules_from" = true) (k20:qay K (.ref f20)=true)
  {f21:Addr}{od21 an21:Option Addr}{sl21:Array (Option Value)}{oc21 kV21 dc21 pm21 I V:Value}
  (a21:qar K qaq "rule_from" = some (some (.ref f21))) (l21:K.lookup f21=some ⟨oc21,od21,.func (qaF "rule_from" "rule_from" (bb dH) (aP dH) (ak dH) .none kV21 dc21 pm21 an21 I V),sl21⟩) (c21:qaC K I "rule_from" = true) (k21:qay K (.ref f21)=true)
  {f22:Addr}{od22 an22:Option Addr}{sl22:Array (Option Value)}{oc22 kV22 dc22 pm22 z ct22:Value}
  (a22:qar K qaq "read_rule" = some (some (.ref f22))) (l22:K.lookup f22=some ⟨oc22,od22,.func (qaF "read_rule" "read_rule" (bb dG) (aP dG) (ak dG) .none kV22 dc22 pm22 an22 z ct22),sl22⟩) (c22:qaC K z "read_rule" = true) (k22:qay K (.ref f22)=true)
  {f23:Addr}{N an23:Option Addr}{sl23:Array (Option Value)}{oc23 kV23 dc23 pm23 n ct23:Value}
  (a23:qar K qaq "number_by" = some (some (.ref f23))) (l23:K.lookup f23=some ⟨oc23,N,.func (qaF "number_by" "number_by" (bb cq) (aP cq) (ak cq) .none kV23 dc23 pm23 an23 n ct23),sl23⟩) (c23:qaC K n "number_by" = true) (k23:qay K (.ref f23)=true)
  {f24:Addr}{S O:Option Addr}{sl24:Array (Option Value)}{oc24 kV24 dc24 pm24 r ct24:Value}
  (a24:qar K qaq "part_by" = some (some (.ref f24))) (l24:K.lookup f24=some ⟨oc24,S,.func (qaF "part_by" "part_by" (bb d6) (aP d6) (ak d6) .none kV24 dc24 pm24 O r ct24),sl24⟩) (c24:qaC K r "part_by" = true) (k24:qay K (.ref f24)=true)
  {f25:Addr}{od25 an25:Option Addr}{sl25:Array (Option Value)}{oc25 kV25 dc25 pm25 x ct25:Value}
  (a25:qar K qaq "read_poly" = some (some (.ref f25))) (l25:K.lookup f25=some ⟨oc25,od25,.func (qaF "read_poly" "read_poly" (bb cr) (aP cr) (ak cr) .none kV25 dc25 pm25 an25 x ct25),sl25⟩) (c25:qaC K x "read_poly" = true) (k25:qay K (.ref f25)=true)
  {f26:Addr}{od26 an26:Option Addr}{sl26:Array (Option Value)}{oc26 kV26 dc26 pm26 o ct26:Value}
  (a26:qar K qaq "_law_hand" = some (some (.ref f26))) (l26:K.lookup f26=some ⟨oc26,od26,.func (qaF "_law_hand" "_law_hand" (bb eJ) (aP eJ) (ak eJ) .none kV26 dc26 pm26 an26 o ct26),sl26⟩) (c26:qaC K o "_law_hand" = true) (k26:qay K (.ref f26)=true)
  {f27:Addr}{od27 an27:Option Addr}{sl27:Array (Option Value)}{oc27 kV27 dc27 pm27 F ct27:Value}
  (a27:qar K qaq "_law_take" = some (some (.ref f27))) (l27:K.lookup f27=some ⟨oc27,od27,.func (qaF "_law_take" "_law_take" (bb eM) (aP eM) (ak eM) .none kV27 dc27 pm27 an27 F ct27),sl27⟩) (c27:qaC K F "_law_take" = true) (k27:qay K (.ref f27)=true)
  {f28:Addr}{od28 an28:Option Addr}{sl28:Array (Option Value)}{oc28 kV28 dc28 pm28 E ct28:Value}
  (a28:qar K qaq "_law_pick" = some (some (.ref f28))) (l28:K.lookup f28=some ⟨oc28,od28,.func (qaF "_law_pick" "_law_pick" (bb eK) (aP eK) (ak eK) .none kV28 dc28 pm28 an28 E ct28),sl28⟩) (c28:qaC K E "_law_pick" = true) (k28:qay K (.ref f28)=true)
  {f29:Addr}{od29 an29:Option Addr}{T:Array (Option Value)}{oc29 kV29 dc29 Q u ct29:Value}
  (a29:qar K qaq "_law_read" = some (some (.ref f29))) (l29:K.lookup f29=some ⟨oc29,od29,.func (qaF "_law_read" "_law_read" (bb eL) (aP eL) (ak eL) .none kV29 dc29 Q an29 u ct29),T⟩) (c29:qaC K u "_law_read" = true) (k29:qay K (.ref f29)=true)
  {f30:Addr}{od30 an30:Option Addr}{sl30:Array (Option Value)}{oc30 kV30 dc30 pm30 A ct30:Value}
  (a30:qar K qaq "_law_right" = some (some (.ref f30))) (l30:K.lookup f30=some ⟨oc30,od30,.func (qaF "_law_right" "_law_right" (bb dX) (aP dX) (ak dX) .none kV30 dc30 pm30 an30 A ct30),sl30⟩) (c30:qaC K A "_law_right" = true) (k30:qay K (.ref f30)=true)
  {f31:Addr}{od31 W:Option Addr}{sl31:Array (Option Value)}{oc31 kV31 dc31 pm31 D R:Value}
  (a31:qar K qaq "_law_text" = some (some (.ref f31))) (l31:K.lookup f31=some ⟨oc31,od31,.func (qaF "_law_text" "_law_text" (bb dF) (aP dF) (ak dF) .none kV31 dc31 pm31 W D R),sl31⟩) (c31:qaC K D "_law_text" = true) (k31:qay K (.ref f31)=true)
  {f32:Addr}{od32 an32:Option Addr}{sl32:Array (Option Value)}{oc32 kV32 dc32 pm32 C ct32:Value}
  (a32:qar K qaq "_law_good" = some (some (.ref f32))) (l32:K.lookup f32=some ⟨oc32,od32,.func (qaF "_law_good" "_law_good" (bb cH) (aP cH) (ak cH) .none kV32 dc32 pm32 an32 C ct32),sl32⟩) (c32:qaC K C "_law_good" = true) (k32:qay K (.ref f32)=true)
  {f33:Addr}{od33 an33:Option Addr}{sl33:Array (Option Value)}{oc33 kV33 dc33 Y L ct33:Value}
  (a33:qar K qaq "law" = some (some (.ref f33))) (l33:K.lookup f33=some ⟨oc33,od33,.func (qaF "law" "law" (bb ly) (aP ly) (ak ly) .none kV33 dc33 Y an33 L ct33),sl33⟩) (c33:qaC K L "law" = true) (k33:qay K (.ref f33)=true)
  (z_abs:qar K qaq "abs" = some none)
  (z_all:qar K qaq "all" = some none)
  (z_bool:qar K qaq "bool" = some none)
  (z_enumerate:qar K qaq "enumerate" = some none)
  (z_int:qar K qaq "int" = some none)
  (z_isinstance:qar K qaq "isinstance" = some none)
  (z_len:qar K qaq "len" = some none)
  (z_list:qar K qaq "list" = some none)
  (z_min:qar K qaq "min" = some none)
  (z_range:qar K qaq "range" = some none)
  (z_str:qar K qaq "str" = some none)
  (z_tuple:qar K qaq "tuple" = some none)
  {ga_BLOCK:Tok} (ga_BLOCK_:qar K qaq "BLOCK" = some (some (.int 1000000000000000000 ga_BLOCK)))
  {ga_FIGURES:Tok} (ga_FIGURES_:qar K qaq "FIGURES" = some (some (.str "0123456789" ga_FIGURES)))
  {ga_GREATEST_LEAST:Tok} (ga_GREATEST_LEAST_:qar K qaq "GREATEST_LEAST" = some (some (.int 9 ga_GREATEST_LEAST)))
  {ga_LAST_SWITCH:Tok} (ga_LAST_SWITCH_:qar K qaq "LAST_SWITCH" = some (some (.int 5 ga_LAST_SWITCH)))
  {ga_LETTERS:Tok} (ga_LETTERS_:qar K qaq "LETTERS" = some (some (.str "abcdef" ga_LETTERS)))
  {ga_MOST_DEEP:Tok} (ga_MOST_DEEP_:qar K qaq "MOST_DEEP" = some (some (.int 6 ga_MOST_DEEP)))
  {ga_MOST_FIGURES:Tok} (ga_MOST_FIGURES_:qar K qaq "MOST_FIGURES" = some (some (.int 60 ga_MOST_FIGURES)))
  {ga_MOST_PARTS:Tok} (ga_MOST_PARTS_:qar K qaq "MOST_PARTS" = some (some (.int 6 ga_MOST_PARTS)))
  {ga_MOST_RULES:Tok} (ga_MOST_RULES_:qar K qaq "MOST_RULES" = some (some (.int 40 ga_MOST_RULES)))
  {ga_KINDS:Addr}{i:Obj} (ga_KINDS_:qar K qaq "KINDS" = some (some (.ref ga_KINDS))) (gl_KINDS:K.lookup ga_KINDS=some i) (gq_KINDS:oa [(.str "both"),(.str "odd")] i=true)
  {ga_LENGTHS:Addr}{f:Obj} (ga_LENGTHS_:qar K qaq "LENGTHS" = some (some (.ref ga_LENGTHS))) (gl_LENGTHS:K.lookup ga_LENGTHS=some f) (gq_LENGTHS:oa [(.int 1),(.int 2),(.int 4),(.int 8),(.int 16),(.int 32),(.int 64)] f=true)
  {ga_SIGNS:Addr}{j:Obj} (ga_SIGNS_:qar K qaq "SIGNS" = some (some (.ref ga_SIGNS))) (gl_SIGNS:K.lookup ga_SIGNS=some j) (gq_SIGNS:(ga_SIGNS==qdD)=false/\∃ vs,qdL (fu P w) j vs/\KPs [("all",(.str "&")),("any",(.str "|")),("odd",(.str "^"))] vs)
  {ga_VALUES:Addr}{g:Obj} (ga_VALUES_:qar K qaq "VALUES" = some (some (.ref ga_VALUES))) (gl_VALUES:K.lookup ga_VALUES=some g) (gq_VALUES:(ga_VALUES==qdD)=false/\∃ vs,qdL (fu P w) g vs/\KPs [("1",(.int 1)),("0",(.int 0)),("-",.non)] vs)
  {ga_WORDS:Addr}{k:Obj} (ga_WORDS_:qar K qaq "WORDS" = some (some (.ref ga_WORDS))) (gl_WORDS:K.lookup ga_WORDS=some k) (gq_WORDS:(ga_WORDS==qdD)=false/\∃ vs,qdL (fu P w) k vs/\KPs [("&",(.str "all")),("|",(.str "any")),("^",(.str "odd"))] vs)
  {ca_NoText:Addr} (cm_NoText:qar K qaq "NoText" = some (some (.ref ca_NoText)))
  (ck:qfZ K ca_NoText CC "ValueError.__new__" = true)
  (ch:AQ K ca_NoText ca_NoText=true)
  : ∃ t,Txt P w K mg t/\t.f33=f33:=by
 have F0:=bD (st:=fC) l0 c0 k0;have F1:=bD (st:=eO) l1 c1 k1;have F2:=bD (st:=cI) l2 c2 k2;have F3:=bD (st:=gC) l3 c3 k3;have F4:=bD (st:=gz) l4 c4 k4;have F5:=bD (st:=eN) l5 c5 k5;have F6:=bD (st:=gA) l6 c6 k6;have F7:=bD (st:=bW) l7 c7 k7;have F8:=bD (st:=fB) l8 c8 k8;have F9:=bD (st:=fD) l9 c9 k9;have F10:=bD (st:=eX) l10 c10 k10;have F11:=bD (st:=gB) l11 c11 k11;have F12:=bD (st:=ce) l12 c12 k12;have F13:=bD (st:=cJ) l13 c13 k13;have F14:=bD (st:=dh) l14 c14 k14;have F15:=bD (st:=dI) l15 c15 k15;have F16:=bD (st:=dJ) l16 c16 k16;have F17:=bD (st:=eP) l17 c17 k17;have F18:=bD (st:=bt) l18 c18 k18;have F19:=bD (st:=fN) l19 c19 k19;have F20:=bD (st:=cZ) l20 c20 k20;have F21:=bD (st:=dH) l21 c21 k21;have F22:=bD (st:=dG) l22 c22 k22;have F23:=bD (st:=cq) l23 c23 k23;have F24:=bD (st:=d6) l24 c24 k24;have F25:=bD (st:=cr) l25 c25 k25;have F26:=bD (st:=eJ) l26 c26 k26;have F27:=bD (st:=eM) l27 c27 k27;have F28:=bD (st:=eK) l28 c28 k28;have F29:=bD (st:=eL) l29 c29 k29;have F30:=bD (st:=dX) l30 c30 k30;have F31:=bD (st:=dF) l31 c31 k31;have F32:=bD (st:=cH) l32 c32 k32;have F33:=bD (st:=ly) l33 c33 k33;refine⟨⟨f0,_,f1,_,f2,_,f3,_,f4,_,f5,_,f6,_,f7,_,f8,_,f9,_,f10,_,f11,_,f12,_,f13,_,f14,_,f15,_,f16,_,f17,_,f18,_,f19,_,f20,_,f21,_,f22,_,f23,_,f24,_,f25,_,f26,_,f27,_,f28,_,f29,_,f30,_,f31,_,f32,_,f33,_,ga_BLOCK,ga_FIGURES,ga_GREATEST_LEAST,ga_LAST_SWITCH,ga_LETTERS,ga_MOST_DEEP,ga_MOST_FIGURES,ga_MOST_PARTS,ga_MOST_RULES,ga_KINDS,ga_LENGTHS,ga_SIGNS,ga_VALUES,ga_WORDS,ca_NoText⟩,⟨qau X G cm_NoText,ck,ch,F0,qau X G a0,F0.binds λ_ _ _ _ _ _ e d=>(by obtain⟨_,rfl⟩:=gU d;rfl),F1,qau X G a1,F1.binds λ_ _ _ _ _ _ e d=>(by obtain⟨_,_,_,rfl⟩:=Dd d;rfl),F2,qau X G a2,F2.binds λ_ _ _ _ _ _ e d=>(by obtain⟨_,rfl⟩:=gU d;rfl),F3,qau X G a3,F3.binds λ_ _ _ _ _ _ e d=>(by obtain⟨_,rfl⟩:=gU d;rfl),F4,qau X G a4,F4.binds λ_ _ _ _ _ _ e d=>(by obtain⟨_,rfl⟩:=gU d;rfl),F5,qau X G a5,F5.binds λ_ _ _ _ _ _ e d=>(by obtain⟨_,rfl⟩:=gU d;rfl),F6,qau X G a6,F6.binds λ_ _ _ _ _ _ e d=>(by obtain⟨_,rfl⟩:=gU d;rfl),F7,qau X G a7,F7.binds λ_ _ _ _ _ _ e d=>(by obtain⟨_,rfl⟩:=gU d;rfl),F8,qau X G a8,F8.binds λ_ _ _ _ _ _ e d=>(by obtain⟨_,rfl⟩:=gU d;rfl),F9,qau X G a9,F9.binds λ_ _ _ _ _ _ e d=>(by obtain⟨_,rfl⟩:=gU d;rfl),F10,qau X G a10,F10.binds λ_ _ _ _ _ _ e d=>(by obtain⟨_,_,rfl⟩:=vt d;rfl),F11,qau X G a11,F11.binds λ_ _ _ _ _ _ e d=>(by obtain⟨_,rfl⟩:=gU d;rfl),F12,qau X G a12,F12.binds λ_ _ _ _ _ _ e d=>(by obtain⟨_,rfl⟩:=gU d;rfl),F13,qau X G a13,F13.binds λ_ _ _ _ _ _ e d=>(by obtain⟨_,rfl⟩:=gU d;rfl),F14,qau X G a14,F14.binds λ_ _ _ _ _ _ e d=>(by obtain⟨_,rfl⟩:=gU d;rfl),F15,qau X G a15,F15.binds λ_ _ _ _ _ _ e d=>(by obtain⟨_,_,rfl⟩:=vt d;rfl),F16,qau X G a16,F16.binds λ_ _ _ _ _ _ e d=>(by obtain⟨_,rfl⟩:=gU d;rfl),F17,qau X G a17,F17.binds λ_ _ _ _ _ _ e d=>(by obtain⟨_,rfl⟩:=gU d;rfl),F18,qau X G a18,F18.binds λ_ _ _ _ _ _ e d=>(by obtain⟨_,rfl⟩:=gU d;rfl),F19,qau X G a19,F19.binds λ_ _ _ _ _ _ e d=>(by obtain⟨_,rfl⟩:=gU d;rfl),F20,qau X G a20,F20.binds λ_ _ _ _ _ _ e d=>(by obtain⟨_,_,_,rfl⟩:=Dd d;rfl),F21,qau X G a21,F21.binds λ_ _ _ _ _ _ e d=>(by obtain⟨_,_,_,rfl⟩:=Dd d;rfl),F22,qau X G a22,F22.binds λ_ _ _ _ _ _ e d=>(by obtain⟨_,rfl⟩:=gU d;rfl),F23,qau X G a23,F23.binds λ_ _ _ _ _ _ e d=>(by obtain⟨_,rfl⟩:=gU d;rfl),F24,qau X G a24,F24.binds λ_ _ _ _ _ _ e d=>(by obtain⟨_,rfl⟩:=gU d;rfl),F25,qau X G a25,F25.binds λ_ _ _ _ _ _ e d=>(by obtain⟨_,rfl⟩:=gU d;rfl),F26,qau X G a26,F26.binds λ_ _ _ _ _ _ e d=>(by obtain⟨_,_,rfl⟩:=vt d;rfl),F27,qau X G a27,F27.binds λ_ _ _ _ _ _ e d=>(by obtain⟨_,_,rfl⟩:=vt d;rfl),F28,qau X G a28,F28.binds λ_ _ _ _ _ _ e d=>(by obtain⟨_,_,rfl⟩:=vt d;rfl),F29,qau X G a29,F29.binds λ_ _ _ _ _ _ e d=>(by obtain⟨_,_,rfl⟩:=vt d;rfl),F30,qau X G a30,F30.binds λ_ _ _ _ _ _ e d=>(by obtain⟨_,rfl⟩:=gU d;rfl),F31,qau X G a31,F31.binds λ_ _ _ _ _ _ e d=>(by obtain⟨_,rfl⟩:=gU d;rfl),F32,qau X G a32,F32.binds λ_ _ _ _ _ _ e d=>(by obtain⟨_,rfl⟩:=gU d;rfl),F33,qau X G a33,F33.binds λ_ _ _ _ _ _ e d=>(by obtain⟨_,rfl⟩:=gU d;rfl),qbj X G z_abs,qbj X G z_all,qbj X G z_bool,qbj X G z_enumerate,qbj X G z_int,qbj X G z_isinstance,qbj X G z_len,qbj X G z_list,qbj X G z_min,qbj X G z_range,qbj X G z_str,qbj X G z_tuple,qau X G ga_BLOCK_,λ_ _=>rfl,qau X G ga_FIGURES_,λ_ _=>rfl,qau X G ga_GREATEST_LEAST_,λ_ _=>rfl,qau X G ga_LAST_SWITCH_,λ_ _=>rfl,qau X G ga_LETTERS_,λ_ _=>rfl,qau X G ga_MOST_DEEP_,λ_ _=>rfl,qau X G ga_MOST_FIGURES_,λ_ _=>rfl,qau X G ga_MOST_PARTS_,λ_ _=>rfl,qau X G ga_MOST_RULES_,λ_ _=>rfl,qau X G ga_KINDS_,yW gl_KINDS gq_KINDS,qau X G ga_LENGTHS_,yW gl_LENGTHS gq_LENGTHS,qau X G ga_SIGNS_,let ⟨a,vs,b,c⟩:=gq_SIGNS;⟨a,_,vs,gl_SIGNS,b,c⟩,qau X G ga_VALUES_,let ⟨a,vs,b,c⟩:=gq_VALUES;⟨a,_,vs,gl_VALUES,b,c⟩,qau X G ga_WORDS_,let ⟨a,vs,b,c⟩:=gq_WORDS;⟨a,_,vs,gl_WORDS,b,c⟩⟩,U⟩
theorem txt_ex {P:qaH}{w:World}{K:qad}{mg:Str->Option Value}{f:Addr} (h:∃ t,Txt P w K mg t/\t.f33=f):∃ t,Txt P w K mg t:=let ⟨t,a,_⟩:=h;⟨t,a⟩
theorem walk {l:qep}{q:qaH}{b:List Str}{XP:(Str->Option Value)->Heap->Prop}{YP:World->Heap->Prop}{d:DefRec}{K:Params->qad} (hn:l.most=some 63) (c:d.params.defaults=[])
  (j:∀ (w:World) (h:Heap),YP w h->(K w.params).In h)
  (F:∀ (w:World) (mg:Str->Option Value) (e:Addr) (h:Heap),(K w.params).In h->h.Ns qaq mg->mg d.name=some (.ref e)->
    ∃ fd:qaZ,(∀ (s:qag) (u:Value),qfI s fd ⟨[u],[]⟩ [("_law_script",u)])/\∀ base:Heap,(K w.params).In base->base.Ns qaq mg->bv l.prog w (K w.params) mg base CX0 19 e fd ["_law_script"] (spI (K w.params) uB)) :
  qf0 q b XP YP l.row.toRowW d [] (λf vs=>qfC f vs):=
 L2.walk_of (n:=63) (k:=19) (x:="_law_script") (CX:=λ_=>CX0) (sp:=λw=>spI (K w.params) uB) hn (by decide) c ⟨U,by decide,by decide,U⟩ j F (λ_ _ a ns g i m=>BJ i m (yZ ns g)) λ_ _ _ _ _ z=>z
theorem law_mk {l:qep}{w:World}{K:qad}{h:Heap}{mg:Str->Option Value}{b:Addr} (a:mg "law" = some (.ref b)) (T0:∃ t,Txt l.prog w K mg t) :
  ∃ fd:qaZ,(∀ (s:qag) (v:Value),qfI s fd ⟨[v],[]⟩ [("_law_script",v)])/\∀ base:Heap,K.In base->base.Ns qaq mg->bv l.prog w K mg base CX0 19 b fd ["_law_script"] (spI K uB):=by
 obtain⟨t,T⟩:=T0;have e:=a.symm.trans T.m33;cases e;refine⟨t.g33,λs v=>?_,λbase _ _=>Do T⟩;obtain⟨k,g,kV,c,i,j,f,ct,d,e,_⟩:=T.F33.ex;rw[e];exact .of_eq U
end Own
namespace PySem.W.Fast
theorem tw5844520344653907762:True:=⟨⟩
theorem tw14343027514654721943:True:=⟨⟩
theorem tw107605983919212869:True:=⟨⟩
theorem tw7528782017305172904:True:=⟨⟩
theorem tw4136468844594412951:True:=⟨⟩
theorem tw4403740969335189219:True:=⟨⟩
theorem tw5573932886062263270:True:=⟨⟩
theorem tw3617134616202817787:True:=⟨⟩
theorem tw15629442509938157020:True:=⟨⟩
theorem tw7984466853685866787:True:=⟨⟩
theorem tw2681332662385108962:True:=⟨⟩
theorem tw2554611455699058907:True:=⟨⟩
theorem tw827096566329904561:True:=⟨⟩
theorem tw2839175872331543505:True:=⟨⟩
theorem tw12783800758046383724:True:=⟨⟩
theorem tw8959151364075067361:True:=⟨⟩
theorem tw12939582034250474073:True:=⟨⟩
theorem tw13935034509112331040:True:=⟨⟩
theorem tw4747756879094723505:True:=⟨⟩
theorem tw16864460933696081706:True:=⟨⟩
theorem tw12287619568846422929:True:=⟨⟩
theorem tw665900476756273475:True:=⟨⟩
theorem tw13034807385091841922:True:=⟨⟩
theorem tw9852786042442643269:True:=⟨⟩
theorem tw14492998454187888905:True:=⟨⟩
theorem tw17705410100455869849:True:=⟨⟩
theorem tw15150173261809266742:True:=⟨⟩
theorem tw13214622695682407242:True:=⟨⟩
theorem tw3204592624834687757:True:=⟨⟩
theorem tw11131748512203267381:True:=⟨⟩
theorem tw9538198216473229950:True:=⟨⟩
theorem tw17562977548934317889:True:=⟨⟩
theorem tw17047026520018814194:True:=⟨⟩
theorem tw16280801379605657671:True:=⟨⟩
theorem tw17002063738116603690:True:=⟨⟩
theorem tw12196709462596265473:True:=⟨⟩
theorem tw13644162151855728197:True:=⟨⟩
theorem tw11170867605039915946:True:=⟨⟩
theorem tw12036709550475882392:True:=⟨⟩
theorem tw10587716439634506186:True:=⟨⟩
theorem tw3391284871563553623:True:=⟨⟩
theorem tw17280671303275809731:True:=⟨⟩
theorem tw2952523395271175243:True:=⟨⟩
theorem tw12271301910387665025:True:=⟨⟩
theorem tw9852576501395266958:True:=⟨⟩
theorem tw7771949855555316816:True:=⟨⟩
theorem tw13204353868053481918:True:=⟨⟩
theorem tw13312415433628180517:True:=⟨⟩
theorem tw6785537378336763447:True:=⟨⟩
theorem tw5911450686351306001:True:=⟨⟩
theorem tw3677839923140277859:True:=⟨⟩
theorem tw16652210139426829815:True:=⟨⟩
theorem tw7174132861491856182:True:=⟨⟩
theorem tw3860787893063219649:True:=⟨⟩
theorem tw12918268775553406156:True:=⟨⟩
theorem tw17408844682260787523:True:=⟨⟩
theorem tw16662317398326804273:True:=⟨⟩
theorem tw11112732103180644816:True:=⟨⟩
theorem tw10618872722534172711:True:=⟨⟩
theorem tw12481252811232977896:True:=⟨⟩
theorem tw17488112390668803660:True:=⟨⟩
theorem tw432660319780956262:True:=⟨⟩
theorem tw2136059845704197651:True:=⟨⟩
theorem tw12063580515215203461:True:=⟨⟩
theorem tw5141782983616576100:True:=⟨⟩
theorem tw5525332822258831551:True:=⟨⟩
theorem tw7545286052753836166:True:=⟨⟩
theorem tw8374735658781249597:True:=⟨⟩
theorem tw1763905021224394587:True:=⟨⟩
theorem tw6210113038058447196:True:=⟨⟩
theorem tw16706939654832943739:True:=⟨⟩
theorem tw3569130992675873107:True:=⟨⟩
theorem tw10917995821550379001:True:=⟨⟩
theorem tw2617712123169299468:True:=⟨⟩
theorem tw17140096004319808100:True:=⟨⟩
theorem tw2657378419628488052:True:=⟨⟩
theorem tw1478557285387576602:True:=⟨⟩
theorem tw6393987153221429492:True:=⟨⟩
theorem tw503576670147179284:True:=⟨⟩
theorem tw935738855011238884:True:=⟨⟩
theorem tw4993000516773372549:True:=⟨⟩
theorem tw3621922014173089094:True:=⟨⟩
theorem tw7255748542885867000:True:=⟨⟩
theorem tw9174419718152573783:True:=⟨⟩
theorem tw14359397805875893706:True:=⟨⟩
theorem tw1950657300812059065:True:=⟨⟩
theorem tw10780712474533176264:True:=⟨⟩
theorem tw1839193234660106620:True:=⟨⟩
theorem tw16882210367505130090:True:=⟨⟩
theorem tw2023078142256633029:True:=⟨⟩
theorem tw4413790024811178424:True:=⟨⟩
theorem tw7027332131973136507:True:=⟨⟩
theorem tw17830911233632896604:True:=⟨⟩
theorem tw14843127510866961351:True:=⟨⟩
theorem tw12420856190592181746:True:=⟨⟩
theorem tw14011901004824903794:True:=⟨⟩
theorem tw13976346086898954184:True:=⟨⟩
theorem tw13749825111962587181:True:=⟨⟩
theorem tw1749844827870686854:True:=⟨⟩
theorem tw17088348887632593645:True:=⟨⟩
theorem tw11441905006402280465:True:=⟨⟩
theorem tw6907480927995657022:True:=⟨⟩
end PySem.W.Fast
open PySem PySem.W PyProof.Rows
set_option maxRecDepth 100000 in
set_option maxHeartbeats 0 in
theorem PySem.Challenge.cw_signpoly_k81_whole_texts_there_and_back_holds : PySem.Challenge.rw_signpoly_k81_whole_texts_there_and_back.Holds := by
 w_on;o_law;k_head;(case hw=>w_witness2)
 k_fill
 refine Own.walk (l:=PySem.Challenge.rw_signpoly_k81_whole_texts_there_and_back) rfl rfl (λw h Y=>PySem.W.kIn_of Y) ?F
 case F=>
  intro w mg b h KX G a;refine Own.law_mk (h:=h) a ?T
  case T=>
   refine' Own.txt_ex (Own.txt_mk KX G ?a0 ?l0 ?c0 ?k0 ?a1 ?l1 ?c1 ?k1 ?a2 ?l2 ?c2 ?k2 ?a3 ?l3 ?c3 ?k3 ?a4 ?l4 ?c4 ?k4 ?a5 ?l5 ?c5 ?k5 ?a6 ?l6 ?c6 ?k6 ?a7 ?l7 ?c7 ?k7 ?a8 ?l8 ?c8 ?k8 ?a9 ?l9 ?c9 ?k9 ?a10 ?l10 ?c10 ?k10 ?a11 ?l11 ?c11 ?k11 ?a12 ?l12 ?c12 ?k12 ?a13 ?l13 ?c13 ?k13 ?a14 ?l14 ?c14 ?k14 ?a15 ?l15 ?c15 ?k15 ?a16 ?l16 ?c16 ?k16 ?a17 ?l17 ?c17 ?k17 ?a18 ?l18 ?c18 ?k18 ?a19 ?l19 ?c19 ?k19 ?a20 ?l20 ?c20 ?k20 ?a21 ?l21 ?c21 ?k21 ?a22 ?l22 ?c22 ?k22 ?a23 ?l23 ?c23 ?k23 ?a24 ?l24 ?c24 ?k24 ?a25 ?l25 ?c25 ?k25 ?a26 ?l26 ?c26 ?k26 ?a27 ?l27 ?c27 ?k27 ?a28 ?l28 ?c28 ?k28 ?a29 ?l29 ?c29 ?k29 ?a30 ?l30 ?c30 ?k30 ?a31 ?l31 ?c31 ?k31 ?a32 ?l32 ?c32 ?k32 ?a33 ?l33 ?c33 ?k33 ?z_abs ?z_all ?z_bool ?z_enumerate ?z_int ?z_isinstance ?z_len ?z_list ?z_min ?z_range ?z_str ?z_tuple ?ga_BLOCK_ ?ga_FIGURES_ ?ga_GREATEST_LEAST_ ?ga_LAST_SWITCH_ ?ga_LETTERS_ ?ga_MOST_DEEP_ ?ga_MOST_FIGURES_ ?ga_MOST_PARTS_ ?ga_MOST_RULES_ ?ga_KINDS_ ?gl_KINDS ?gq_KINDS ?ga_LENGTHS_ ?gl_LENGTHS ?gq_LENGTHS ?ga_SIGNS_ ?gl_SIGNS ?gq_SIGNS ?ga_VALUES_ ?gl_VALUES ?gq_VALUES ?ga_WORDS_ ?gl_WORDS ?gq_WORDS ?cm_NoText ?ck ?ch)
   case a0=>k_is
   case l0=>k_is
   case c0=>k_is
   case k0=>k_is
   case a1=>k_is
   case l1=>k_is
   case c1=>k_is
   case k1=>k_is
   case a2=>k_is
   case l2=>k_is
   case c2=>k_is
   case k2=>k_is
   case a3=>k_is
   case l3=>k_is
   case c3=>k_is
   case k3=>k_is
   case a4=>k_is
   case l4=>k_is
   case c4=>k_is
   case k4=>k_is
   case a5=>k_is
   case l5=>k_is
   case c5=>k_is
   case k5=>k_is
   case a6=>k_is
   case l6=>k_is
   case c6=>k_is
   case k6=>k_is
   case a7=>k_is
   case l7=>k_is
   case c7=>k_is
   case k7=>k_is
   case a8=>k_is
   case l8=>k_is
   case c8=>k_is
   case k8=>k_is
   case a9=>k_is
   case l9=>k_is
   case c9=>k_is
   case k9=>k_is
   case a10=>k_is
   case l10=>k_is
   case c10=>k_is
   case k10=>k_is
   case a11=>k_is
   case l11=>k_is
   case c11=>k_is
   case k11=>k_is
   case a12=>k_is
   case l12=>k_is
   case c12=>k_is
   case k12=>k_is
   case a13=>k_is
   case l13=>k_is
   case c13=>k_is
   case k13=>k_is
   case a14=>k_is
   case l14=>k_is
   case c14=>k_is
   case k14=>k_is
   case a15=>k_is
   case l15=>k_is
   case c15=>k_is
   case k15=>k_is
   case a16=>k_is
   case l16=>k_is
   case c16=>k_is
   case k16=>k_is
   case a17=>k_is
   case l17=>k_is
   case c17=>k_is
   case k17=>k_is
   case a18=>k_is
   case l18=>k_is
   case c18=>k_is
   case k18=>k_is
   case a19=>k_is
   case l19=>k_is
   case c19=>k_is
   case k19=>k_is
   case a20=>k_is
   case l20=>k_is
   case c20=>k_is
   case k20=>k_is
   case a21=>k_is
   case l21=>k_is
   case c21=>k_is
   case k21=>k_is
   case a22=>k_is
   case l22=>k_is
   case c22=>k_is
   case k22=>k_is
   case a23=>k_is
   case l23=>k_is
   case c23=>k_is
   case k23=>k_is
   case a24=>k_is
   case l24=>k_is
   case c24=>k_is
   case k24=>k_is
   case a25=>k_is
   case l25=>k_is
   case c25=>k_is
   case k25=>k_is
   case a26=>k_is
   case l26=>k_is
   case c26=>k_is
   case k26=>k_is
   case a27=>k_is
   case l27=>k_is
   case c27=>k_is
   case k27=>k_is
   case a28=>k_is
   case l28=>k_is
   case c28=>k_is
   case k28=>k_is
   case a29=>k_is
   case l29=>k_is
   case c29=>k_is
   case k29=>k_is
   case a30=>k_is
   case l30=>k_is
   case c30=>k_is
   case k30=>k_is
   case a31=>k_is
   case l31=>k_is
   case c31=>k_is
   case k31=>k_is
   case a32=>k_is
   case l32=>k_is
   case c32=>k_is
   case k32=>k_is
   case a33=>k_is
   case l33=>k_is
   case c33=>k_is
   case k33=>k_is
   case z_abs=>k_is
   case z_all=>k_is
   case z_bool=>k_is
   case z_enumerate=>k_is
   case z_int=>k_is
   case z_isinstance=>k_is
   case z_len=>k_is
   case z_list=>k_is
   case z_min=>k_is
   case z_range=>k_is
   case z_str=>k_is
   case z_tuple=>k_is
   case ga_BLOCK_=>k_is
   case ga_FIGURES_=>k_is
   case ga_GREATEST_LEAST_=>k_is
   case ga_LAST_SWITCH_=>k_is
   case ga_LETTERS_=>k_is
   case ga_MOST_DEEP_=>k_is
   case ga_MOST_FIGURES_=>k_is
   case ga_MOST_PARTS_=>k_is
   case ga_MOST_RULES_=>k_is
   case ga_KINDS_=>k_is
   case gl_KINDS=>k_is
   case gq_KINDS=>rfl
   case ga_LENGTHS_=>k_is
   case gl_LENGTHS=>k_is
   case gq_LENGTHS=>rfl
   case ga_SIGNS_=>k_is
   case gl_SIGNS=>k_is
   case gq_SIGNS=>exact⟨rfl,L2.kdc_mk (.cons rfl ⟨_,rfl⟩ (.cons rfl ⟨_,rfl⟩ (.cons rfl ⟨_,rfl⟩ .nil))) (by decide)⟩
   case ga_VALUES_=>k_is
   case gl_VALUES=>k_is
   case gq_VALUES=>exact⟨rfl,L2.kdc_mk (.cons rfl ⟨_,rfl⟩ (.cons rfl ⟨_,rfl⟩ (.cons rfl rfl .nil))) (by decide)⟩
   case ga_WORDS_=>k_is
   case gl_WORDS=>k_is
   case gq_WORDS=>exact⟨rfl,L2.kdc_mk (.cons rfl ⟨_,rfl⟩ (.cons rfl ⟨_,rfl⟩ (.cons rfl ⟨_,rfl⟩ .nil))) (by decide)⟩
   case cm_NoText=>k_is
   case ck=>kernel_rfl
   case ch=>kernel_rfl
