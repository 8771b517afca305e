import PyProof.Rows.All
import Wide.All
import OpenK.AllK
import Wide.FinOn
import Lean
import PyProof.EqAt
import PyProof.EqKinds
import PyProof.TupleCall
import PySem.SetOps
import PyProof.TupleKey
import PyProof.SetKind
import PyProof.IsRules
import PyProof.Rows.SetFrom
import PyProof.DictWalks
import PyProof.CollectWalk
import PyProof.Rows.SortWalk
import PyProof.Rows.SortShell
import PyProof.NeKinds
import KE.KEqDict
import PyProof.SetRoads
import PyProof.AutoListH
import PyProof.DictValues
import PyProof.DictItems
import PyProof.DictItemsLoops
import KE.RegKIsAll
import KE.RegKTryMore
import PySem.Challenge.RW_nohalfway_k33_under_and_journal
set_option bootstrap.genMatcherCode false
set_option genSizeOf false
set_option compiler.extract_closed false
open PySem.Str renaming ofString -> AK, ofString -> SC
open List renaming getElem?_eq_getElem -> CP, getElem?_cons_zero -> DV, getD_eq_getElem?_getD -> Eh, getElem?_cons_succ -> EG, length_map -> CU, size_toArray -> DW, length_cons -> DX, getElem?_map -> E5, append_assoc -> EB, map_cons -> D9, length_append -> Em, getElem?_append_left -> Gr, range -> Ch, prefix_append -> Fy, mem_cons_of_mem -> Gg, length_nil -> F2, mem_append_right -> Hw, mem_cons_self -> HP, getElem?_set_self -> J8, getElem?_eq_none -> J9, cons_append -> HD, replicate -> GR, mem_append_left -> JC, getElem?_append_right -> MM, mem_append -> Hi, mem_of_getElem? -> KD, map_append -> I1, getElem_mem -> JD, append_nil -> Io, getElem?_set_ne -> MN, mem_singleton -> Lf, map_nil -> I2, mem_cons -> Ip, length_take -> Ku, set_cons_zero -> NB, take_append_drop -> PM, nil_append -> N9, replicate_succ -> QY, flatten_cons -> PL, set_cons_succ -> Qf, not_mem_nil -> PQ, filterMap_cons -> S9, map_congr_left -> SB, take_of_length_le -> UO, nodup_iff_pairwise_ne -> XI, filter_cons -> Qa, length_replicate -> UI, take_succ_eq_append_getElem -> gG, find?_cons -> Qc, pairwise_map -> S6, getElem?_replicate -> XB, getElem_of_mem -> UL, getElem?_range -> UM, mapM_cons -> Q_, length_eraseIdx_of_lt -> gO, mem_of_mem_drop -> XW, nodup_nil -> SG, drop_eq_getElem_cons -> gQ, all_eq_true -> UY, mergeSort_perm -> XX, mem_singleton_self -> gL, prefix_rfl -> UP, length_pos_of_mem -> gN, lookup -> Ql, eraseIdxIfInBounds_toArray -> rK, take_add_one -> XS, eraseIdx_eq_take_drop_succ -> rL, all_map -> SE, findSome?_append -> gJ, singleton_append -> gK, getElem_inj -> XJ, length_drop -> XT, lookup_cons -> Xb, eq_nil_of_length_eq_zero -> ra, mem_of_mem_take -> gb, getElem?_of_mem -> gc, map_take -> Ud, range_succ -> Xg, lookup_append -> gU, mem_map -> Ua, length_mapIdx -> gV, mem_of_find?_eq_some -> rW, length_erase_of_mem -> rY, nodup_append -> gZ, ext_getElem? -> gS, length_range -> gT, length -> UZ, eraseIdx_cons_succ -> rR, all_cons -> Xl, take_length -> gu, of_mem_zip -> gx, length_set -> gy, length_singleton -> sF, getElem?_toArray -> rm, dropLast_eq_take -> ro, zipWith_map_left -> rr, set_append_right -> rt, filterMap_append -> ru, mem_erase_of_ne -> rv, range_eq_range' -> rx, set_append_left -> ry, forall_mem_cons -> rz, any_cons -> gh, map_drop -> h7, map_map -> hC
open PySem.W renaming Frag -> As, kia_one -> JE, findIn -> Ji, keepIn -> KA, nsIn -> JB, emptyDict -> O2, fnOf -> KB, codeIn -> ND, instObj -> PR, plainGet -> S7, methodCall_KW -> XE, hasDictIn -> UT, mg_of -> Qo, callWith_K -> XK, plainOver -> XO, exmOne -> US, excIn -> Ub, hideAll -> Xc, plainGet_of -> gd, isFn -> U_, lookIn -> XY, kitOne -> XZ, methodObj -> gW, cellsFrom_some -> sB, takerIn -> gv, makesIn -> gw, OpenLaw -> h3, hideAll_get -> s8, of_hideAll -> rh, kitx_tuple -> ri, WalkO -> gj, kitx_none -> sI, kitx_bool -> sJ, kitx_list -> sK, kitx_dict -> sL
open PySem renaming wpAny_bind -> Ad, Value -> A7, Shared -> AQ, wpAny_pure -> BZ, Addr -> A6, sizeLine -> CL, starEach -> CK, wpAny -> An, Program -> C5, model -> B2, mainGlobals -> FQ, World -> Bo, wpAny_newObj_type -> Lg, Expr -> Al, compareOp -> G3, tupleKeyHash -> IP, mem_of_lookup -> NA, Around -> DA, wpAny_truthy_bool -> MK, foldedSetIterable -> ML, wpAny_mono -> HQ, attributeBase -> Ks, Stmt -> BG, wpAny_callSpecial?_slot -> S4, Heap -> BH, wpAny_call_entry -> O1, cellsFrom -> Hx, strIterType -> KC, behindInMarks -> MQ, wpAny_holding -> MR, keywordEach -> Kw, wpAny_typeNameOfWhole_keyiter -> XF, eval -> Bc, FuncData -> Hj, sysModules -> KF, sizeLine_eq -> Li, backTo -> Fc, wpAny_field -> MP, wpAny_seqItems -> PO, cLine -> Dv, SetTable -> Iq, assignEach -> Lh, wpAny_passesOwn -> Qb, wpAny_typeNameOf_keyiter -> XA, bootBuiltins -> O3, DictEntry -> Kv, binaryOp -> Jj, wpAny_Call_Name_kw -> UF, tupleKind_room_in1 -> UG, wpAny_setField_rec -> UH, wpAny_execs_nil -> S5, codeAny_builtin -> SF, wpAny_setState_of -> UW, backToKw -> Kx, NameKind -> Ky, Scope -> FF, holding -> JF, codeAny_mono -> Qj, IsTupleKey -> O6, swapsWith -> NE, sliceBounds -> Qm, wpAny_Call_method -> XP, ofAClassStatement -> XQ, carriedByValue -> UR, getMethod -> O4, call_meetsIn -> SD, step -> DT, call_meets -> Qq, letOwnedTupleGo -> Xd, evalArgs_none -> gf, relabel -> Lk, standAt -> MU, codeAny -> MV, Keyword -> MW, wpAny_setField -> X_, firstArgMember -> Xa, wpAny_pyIter_list -> g_, wpAny_dictEntries -> gR, callWith -> PU, plainId_quiet -> Xk, wpAny_execs_cons -> gq, assign -> Kz, wpAny_isInstance -> gr, wpAny_forIn_list -> gt, wpAny_typeOf -> Xm, seqIndex? -> SK, wpAny_specialOf -> gz, wpAny_dictEpoch -> gk, newFunctionEnv -> gp, getItem -> PW, subscripted -> Xj, valueAt -> PX, callerA -> PY, notedBy -> PV, hashByValue -> Xh, KeyKind -> gg, rawInt -> NG, IsPair -> NH, call -> Xn, Within -> h8, pyNext -> O8
open PySem.Heap renaming get?_push_of_some -> Cr, get?_push_size -> FP, lt_size -> Dc, size_push -> Ld, SameBut -> Kr, get?_update_self -> S8, get?_update_other -> X6
open Nat renaming le_refl -> C9, lt_of_lt_of_le -> GD, ne_of_lt -> Et, reduceAdd -> HE, le_trans -> Im, zero_le -> Hy, lt_irrefl -> Jg, lt_of_le_of_lt -> Qe, le_add_right -> PP, lt_succ_self -> Qh, add_le_add_left -> UK, le_of_lt -> PN, lt_succ_of_lt -> UV, le_succ -> PT, ne_of_gt -> Qi, reduceLT -> Qk, reduceSub -> Uc, le_of_lt_succ -> gY, le_of_ble_eq_true -> rk, min_eq_left -> gn, mod_lt -> Uf, lt_trans -> hB
open PySem.Value renaming ref -> Cm, none -> JA, type -> O7, bool -> Qp, int -> SH, str -> SI, float -> hD
open Option.some renaming inj -> GC
open Array renaming getElem?_eq_getElem -> Le, getD_eq_getD_getElem? -> S2, length_toList -> QX, getElem?_toList -> XU
open Bool renaming and_eq_true -> I0, false_ne_true -> Kt, false_eq_true -> MO, and_false -> UQ, eq_iff_iff -> Xe, false_or -> gi, not_true -> h5, true_and -> h6
open PyProof.Rows renaming callWith_type1 -> QZ, IsTup -> XN, slot_tuple_getitem -> rJ, kindOf -> KG, AllBare -> NF, Call_ -> s9, IntsAre -> Qr, envOfC -> O9
open PySem.NameKind renaming free -> Jh
open False renaming elim -> HR
open Function renaming comp_def -> NC, comp -> Qn
open True renaming intro -> Hz
open PySem.Builtin.SmallTypes renaming nextOf -> S3, ownedTupleHandOut -> rM, ownedTupleIsFree -> rN
open PySem.Calls renaming callWith_builtin -> S1, spliced_cons -> UE, spliced_nil -> UU, evalArgs_plain -> XV, Name_function_global -> rS
open Classical renaming byContradiction -> UN
open PySem.F renaming slot_dict_keyiterator_next -> XG, slot_tuple_iterator_next -> XH, plainAttrs_dict -> XC, plainAttrs_list -> XD, slot_dict_get -> gH, args_dict_keyiterator_next_1 -> rI, entry_dict_keyiterator_next -> r_, slot_dict_itemiterator_iter -> rc, args_tuple_iterator_next_1 -> rd, entry_tuple_iterator_next -> rf, slot_dict_delitem -> rV, args_tuple_add_2 -> rX, entry_tuple_add -> rQ, args_dict_get_2 -> rZ, slot_tuple_add -> sC, entry_dict_get -> sD, slot_dict_pop -> sG, slot_list_pop -> rp, type_list_pop -> rq
open Int renaming toNat_natCast -> Qg, fdiv_eq_ediv_of_nonneg -> rT
open ForInStep renaming yield -> PS
open PySem.Heap.SameBut renaming update -> SA
open PySem.Builtin.Slice renaming slicePlaces -> X7, sliceAdjust -> gP, sliceApplied -> rU
open PySem.Around renaming under_plainId -> UJ, under -> h9
open PySem.Builtin.Tuple renaming tupleExact -> X8
open PySem.Builtin.List renaming listTooLong -> X9, listExtendWith -> rg, listSameRef -> rO
open Option renaming map_some -> Qd, getD_some -> UX, isSome_map -> gX, bind_some -> gs, isSome_some -> rj
open PySem.Obj renaming mapSeq -> O5, data_mapFields -> XM, isFreed_of_fields -> rl
open PyProof.Rows.F renaming plain_set_update_loop -> gM, entry_set_update_loop -> sA
open PySem.SetTable renaming insertAt -> XR, leap -> h4, sizeAbove -> sH
open List.Perm renaming append_left -> gI
open PySem.Builtin.Dict_items renaming ownsTuple -> re
open Sum.inl renaming injEq -> Ue
open Ne renaming symm -> Lj
open PySem.PassesOwn renaming never -> Xf
open Sum renaming inl -> MS, inr -> MT
open PySem.Builtin.Range renaming rangeSize -> rP
open PySem.SeqAt renaming ne_of_list_tuple -> sE, RcAt -> Ug, EqAt -> Xo
open PySem.Data renaming cell -> SJ, fields -> Xi
open PySem.Builtin.Dict renaming showsAll -> rn
open List.cons renaming injEq -> gm
open List.Pairwise renaming nil -> sM
open PySem.Code renaming isFrame -> hA
set_option Elab.async false
set_option linter.all false
set_option maxRecDepth 100000
noncomputable section
set_option hygiene false in
local macro_rules|`(γ)=>`(by simp)|`(δ)=>`(by lia)|`(ε)=>`(by decide)|`(ζ)=>`((pu (.int 1)))|`(η)=>`((pu (.int 0)))|`(π)=>`(⟨_,rfl⟩)|`(θ)=>`(Inv X A3 σ H s)|`(ι)=>`(↥(.ref C.r))|`(μ)=>`((.ref (C.M+3)))|`(ν)=>`(↑(A6×Obj))|`(ξ)=>`(↑(Af×Af))|`(ο)=>`((B2 X.prog X.w))
set_option hygiene false in
local macro_rules|`(($e :))=>`(by simpa using $e)
set_option hygiene false in
local macro_rules|`(tactic|erw [$[$a:term],*])=>`(tactic|simp only [$[$a:term],*])|`(tactic|erw [$[$a:term],*]$l:location)=>`(tactic|simp only [$[$a:term],*]$l:location)
set_option hygiene false in
local macro_rules|`(tactic|ac_nf)=>`(tactic|(unfold C6;intros;ac_rfl))
set_option hygiene false in
local macro_rules|`(tactic|exists $a)=>`(tactic|have:=$a P w base T)|`(tactic|exists $k,$m,$a,$b)=>`(tactic|(have h:=EO (P:=P) (w:=w) (base:=base) (k:=$k) (m:=$m) $a $b;refine h ?_;have:=$b))
set_option hygiene false in
local macro_rules|`(tactic|nofun)=>`(tactic|(intro X Da hw Aa AI i A3 s σ H E J hf st Aj;subst Da hw Aa))
set_option hygiene false in
local macro_rules|`(⇑$x)=>`(($x).length)|`(↥$x)=>`(some $x)|`(↑$x)=>`(List $x)
set_option hygiene false in
local macro_rules| `(tactic|ac_rfl)=> `(tactic|repeat' first
 |(show Ab _ _ _ _;first|refine agi ?_|(show Ab _ _ (.Name _ _) _;first|exact agp _|exact P0 (Dd.V4 ‹_›)|exact P0 (Dd.So ‹_›)|exact P0 (Dd.Sp ‹_›)|exact P0 (Dd.Ve ‹_›)|exact P0 (Dd.Sq ‹_›)|exact P0 (Dd.Re ‹_›)|exact P0 (Dd.H0 ‹_›)|exact P0 (Dd.N3 ‹_›)|exact P0 (Dd.P2 ‹_›))|(show Ab _ _ (.Constant _ _ _) _;first|exact ah1|exact afv|exact agj|exact agY)|(show Ab _ _ (.BinOp _ _ _ _) _;first|refine afq ?_ ?_|refine agl ?_ ?_|refine ahF ?_ ?_|refine afy ?_ ?_|refine ahE ?_ ?_|refine age ?_ ?_|refine agf ?_ ?_|refine aft ?_ ?_)|(show Ab _ _ (.Compare _ _ _ _) _;first|refine afY (D4.units ‹_›) ?_|refine ahH (D4.units ‹_›) ?_|refine afX (D4.units ‹_›) ?_ ?_|refine ahG (D4.units ‹_›) ?_ ?_|refine ahA ?_ ?_|refine ah4 ?_ ?_|refine agy ?_ ?_|refine agx ?_ ?_|refine ah2 ?_ ?_|refine ag_ ?_ ?_|refine ah0 (D4.units ‹_›) ?_ ?_|refine agX (D4.units ‹_›) ?_ ?_|refine qM Pd Pd U2 U2 ?_ ?_ ?_|refine qM Pd Zp U2 kn ?_ ?_ ?_)|(show Ab _ _ (.BoolOp _ _ _) _;first|refine afs ?_ ?_|refine agb ?_ ?_|refine aga ?_)|(show Ab _ _ (.UnaryOp _ _ _) _;first|refine agZ ?_|refine ahI ?_)|(show Ab _ _ (.IfExp _ _ _ _) _;first|refine agz ?_ ?_ ?_)|(show Ab _ _ (.Attribute _ _ _) _;first|refine fc (Dd.k9 ‹_›) ?_|refine fc (Dd.kA ‹_›) ?_|refine fc (Dd.kB ‹_›) ?_)|(show Ab _ _ (.Subscript _ _ _) _;first|refine ah3 (D4.units ‹_›) ?_ ?_ er|refine agg ?_ ?_ ?_)|(show Ab _ _ (.Tuple _ _ _) _;first|refine agn ?_)|(show Ab _ _ (.List _ _) _;first|refine ah9 ?_)|(show Ab _ _ (.Dict _ _ _) _;first|refine afV ?_|exact afT|exact afU)|(show Ab _ _ (.ListComp _ _ _ _) _;first|refine afR _ _ (by rfl) ?_ ?_ ?_ (λ_ _ _ _ _ _ _=>?_)|refine afQ _ _ (by rfl) ?_ ?_ ?_ (λ_ _ _ _ _ _ _=>?_)|refine afP _ _ (by rfl) ?_ ?_ ?_ (λ_ _ _ _ _ _ _=>?_))|(show Ab _ _ (.Call (.Name _ _) _ _ _) _;first|refine afw ‹_› (D4.mono ‹_› ε) ?_|refine ahB ‹_› (D4.mono ‹_› ε) ?_|refine afr ‹_› (Dd.sQ ‹_›) ?_|refine X0 (W1 _ ε) (Dd.Uj ‹_›) (Dd.sR ‹_›) (by kernel_rfl) ?_|refine agm (Dd.iM ‹_›) ?_|refine X0 (W1 _ ε) (Dd.Uj ‹_›) (Dd.iM ‹_›) (by kernel_rfl) ?_|refine ah6 ‹_› (Dd.iT ‹_›) (Dd.sT ‹_›) ?_|refine ah5 (Dd.iT ‹_›) ?_|refine ah8 (Dd.d2 ‹_›) (Dd.d3 ‹_›) ?_|refine ah7 (Dd.d2 ‹_›) ?_|refine X0 (W1 _ ε) (Dd.Uj ‹_›) (Dd.d2 ‹_›) (by kernel_rfl) ?_|refine agh (Dd.sU ‹_›) ?_|refine agk (Dd.iU ‹_›) ?_|refine X0 (W1 _ ε) (Dd.Uj ‹_›) (Dd.iU ‹_›) (by kernel_rfl) ?_|refine ago (Dd.iW ‹_›) ?_|refine X0 (W1 _ ε) (Dd.Uj ‹_›) (Dd.iW ‹_›) (by kernel_rfl) ?_)|(show Ab _ _ (.Call (.Attribute _ _ _) _ _ _) _;first|refine ahD ‹_› (D4.mono ‹_› ε) ?_|refine ahC ‹_› (D4.mono ‹_› ε) ?_ ?_|refine afu ?_ ?_|refine afx ?_|refine afS (D4.units ‹_›) ?_ ?_|refine afW ?_ ?_|refine agc ?_|refine agd ?_ ?_))
 |(show Fs _ _ _ _;first|refine ahU ?_|(show Fs _ _ (.Compare _ _ _ _) _;first|refine ai3 (D4.units ‹_›) ?_|refine ahQ (D4.units ‹_›) ?_|refine ai2 (D4.units ‹_›) ?_ ?_|refine ahP (D4.units ‹_›) ?_ ?_|refine ahO ?_ ?_|refine ahN ?_ ?_|refine ahK ?_ ?_|refine ai4 ?_ ?_|refine ahM ?_ ?_|refine ahT ?_ ?_|refine ahL (D4.units ‹_›) ?_ ?_|refine ahR (D4.units ‹_›) ?_ ?_|refine qN Pd Pd U2 U2 ?_ ?_ ?_|refine qN Pd Zp U2 kn ?_ ?_ ?_)|refine ahS ?_|refine ahV ?_|refine ahW ?_)
 |(show Kd _ _ _ _;first|exact afp|exact ahr|refine ahs ?_|refine ahj ?_ ?_)
 |(show Fq _ _ _ _;first|(show Fq _ _ (.Expr _ _) _;first|exact ahk|refine ahm ?_)|(show Fq _ _ (.Return _ _) _;first|exact ahw|refine ahv ?_)|(show Fq _ _ (.Assign _ _ _) _;first|refine ahy ?_|refine agw _ _ _ (By.C7 ‹_›) (by rfl) ?_ ?_ ?_ (λ_ _ _ _ _ _ _=>?_)|refine ahx _ (By.C7 ‹_›) ?_|refine agV ?_ ?_|refine ahl (D4.units ‹_›) ?_ ?_ ?_|refine ahu ?_ ?_ ?_|refine ahi _ _ _ (By.C7 ‹_›) (by rfl) ?_ ?_ ?_ (λ_ _ _ _ _ _ _=>?_)|refine fg (Dd.k9 ‹_›) ?_ ?_|refine fg (Dd.kA ‹_›) ?_ ?_|refine fg (Dd.kB ‹_›) ?_ ?_)|(show Fq _ _ (.For _ _ _ _ _) _;first|refine ahn ?_ ?_ ?_|refine aho ?_ ?_ ?_|refine ahp ?_ ?_ ?_)|exact agW|exact aht|refine ahq ?_ ?_ ?_|exact aE (Dd.afj ‹_›)|exact aE (Dd.afk ‹_›)|exact aE (Dd.afl ‹_›)|exact aE (Dd.afm ‹_›)|refine ahz _ (By.C7 ‹_›) (Dd.aeR ‹_›) ?_ (λ_=>?_)|refine ai0 ?_ ?_)
 |refine aha ‹_› (D4.mono ‹_› ε) (λ_=>?_) (λ_=>?_)
 |exact agT
 |refine agS ?_ ?_
 |exact afo
 |refine afn ?_ ?_
 |refine ahX ?_ ?_
 |refine ahZ ?_ ?_
 |refine ahY ?_
 |refine ah_ ?_
 |exact agQ
 |refine agR ?_
 |exact u2 _ (hN:=of_decide_eq_true ( by kernel_rfl ))
 |exact u1 _ (hN:=of_decide_eq_true ( by kernel_rfl ))
 |exact u3 _ _ (hN:=of_decide_eq_true ( by kernel_rfl ))
 |exact uH
 |refine uG (λ_ _ _ _ _ _ _=>?_)
 |exact agr _ (By.C7 ‹_›)
 |refine agt ?_
 |exact ags
 |refine agq ?_ ?_
 |refine agv (Dd.sS ‹_›) ?_
 |refine agN (Dd.d3 ‹_›) ?_
 |refine agO (Dd.d3 ‹_›) ?_
 |refine agP (Dd.sV ‹_›) ?_
 |refine agu ?_
 )
namespace B5
open PySem PySem.Spec PyProof.Rows
abbrev Key:=Sum Int Str
noncomputable def RN:Key->A7->Bool
 |.inl k,v=>Value.isInt k v
 |.inr x,v=>Value.isStrOf x v
noncomputable def yV(w:Bo):Key->Int
 |.inl k=>hashInt k
 |.inr x=>hashStr w x
def MA:∀{k:Key}{v:A7},RN k v=true->(∃i t,k=MS i/\v=SH i t)\/(∃x t,k=MT x/\v=SI x t)
 |.inl i,v,h=>by obtain⟨t,e⟩:=Value.isInt_shape (k:=i) (v:=v) h;exact .inl ⟨i,t,rfl,e⟩
 |.inr x,v,h=>by obtain⟨t,e⟩:=Value.isStrOf_shape (x:=x) (v:=v) h;exact .inr ⟨x,t,rfl,e⟩
def yy(i:Int)(t:Tok):RN (.inl i) (.int i t)=true:=by simp[RN,Value.isInt]
def zy(x:Str)(t:Tok):RN (.inr x) (.str x t)=true:=by simp[RN,Value.isStrOf]
def zz(a b:Int):decide ((MS a:Key)=MS b)=(a==b):=by
 by_cases e:a=b
 .subst e;simp
 .have h:¬(MS a:Key)=MS b:=λq=>e (Sum.inl.inj q);rw[decide_eq_false h];exact(beq_eq_false_iff_ne.mpr e).symm
def aa3(a b:Str):decide ((MT a:Key)=MT b)=decide (a=b):=by
 by_cases e:a=b
 .subst e;simp
 .have h:¬(MT a:Key)=MT b:=λq=>e (Sum.inr.inj q);rw[decide_eq_false h,decide_eq_false e]
def aa0(a:Int)(b:Str):decide ((MS a:Key)=MT b)=false:=decide_eq_false (λq=>nomatch q)
def aa2(a:Str)(b:Int):decide ((MT a:Key)=MS b)=false:=decide_eq_false (λq=>nomatch q)
noncomputable def GI(prog:C5)(w:Bo):gg prog w Key where
 is:=RN
 hash:=yV w
 inj:=λv a b AF A4=>by
  rcases MA AF with⟨i,t,rfl,rfl⟩|⟨x,t,rfl,rfl⟩
  .rcases MA A4 with⟨j,u,rfl,e⟩|⟨y,u,rfl,e⟩
   .injection e with AC _;rw[AC]
   .exact nomatch e
  .rcases MA A4 with⟨j,u,rfl,e⟩|⟨y,u,rfl,e⟩
   .exact nomatch e
   .injection e with AC _;rw[AC]
 byValue:=λk v h=>by rcases MA h with⟨i,t,rfl,rfl⟩|⟨x,t,rfl,rfl⟩<;>rfl
 pyHash:=λBk h=>by
  rcases MA Bk with⟨i,t,rfl,rfl⟩|⟨x,t,rfl,rfl⟩
  .exact wpAny_pyHash_int h
  .exact wpAny_pyHash_str h
 eqBool:=λBQ Bk h=>by
  rcases MA BQ with⟨i,t,rfl,rfl⟩|⟨x,t,rfl,rfl⟩
  .rcases MA Bk with⟨j,u,rfl,rfl⟩|⟨y,u,rfl,rfl⟩
   .rw[zz]at h;exact wpAny_eqBool_int h
   .rw[aa0]at h;exact SeqAt.EqAt.int_str i t y u _ _ _ _ h
  .rcases MA Bk with⟨j,u,rfl,rfl⟩|⟨y,u,rfl,rfl⟩
   .rw[aa2]at h;exact SeqAt.EqAt.str_int x t j u _ _ _ _ h
   .rw[aa3]at h;exact wpAny_eqBool_str h
 «strs»:=λk x t v h=>by
  rcases MA h with⟨i,u,rfl,e⟩|⟨y,u,rfl,e⟩
  .exact nomatch e
  .injection e with AC _;subst AC;cases v<;>rfl
def e2(prog:C5)(w:Bo)(k:Key)(v:A7):(GI prog w).is k v=RN k v:=rfl
def aap(prog:C5)(w:Bo)(i:Int)(t:Tok):(GI prog w).is (.inl i) (.int i t)=true:=yy i t
def aaq(prog:C5)(w:Bo)(x:Str)(t:Tok):(GI prog w).is (.inr x) (.str x t)=true:=zy x t
abbrev Ew:=↑Key
inductive V where
 |non|AL (b:Bool)|int (i:Int)|str (x:Str)|QK (b:Array UInt8)|R8 (b:UInt64)|ref (a:A6)|ty (n:String)
 deriving DecidableEq
noncomputable def RelV:V->A7->Prop
 |.non,u=>u=JA
 |.AL b,u=>u=Qp b
 |.int i,u=>∃t,u=SH i t
 |.str x,u=>∃t,u=SI x t
 |.QK b,u=>∃t,u=Value.bytes b t
 |.R8 b,u=>∃t,u=hD b t
 |.ref a,u=>u=Cm a
 |.ty n,u=>u=O7 n
abbrev Vals:↑V->↑A7->Prop:=Paired RelV
theorem Vals.length{xs:↑V}{us:↑A7}(r:Vals xs us):⇑xs=⇑us:=Paired.length r
theorem Vals.get:∀{xs:↑V}{us:↑A7}{i:Nat}{x:V},Vals xs us->xs[i]?=↥x->∃u,us[i]?=↥u/\RelV x u
 |_,_,_,_,.nil,e=>by simp at e
 |_,_,0,_,.cons r _,e=>by simp at e;subst e;exact⟨_,rfl,r⟩
 |_,_,i+1,x,.cons _ t,e=>by obtain⟨u,h1,h2⟩:=Vals.get (i:=i) (x:=x) t (e:);exact⟨u,(h1:),h2⟩
theorem Vals.set{x:V}{u:A7}(r:RelV x u):∀{xs:↑V}{us:↑A7}(i:Nat),Vals xs us->Vals (xs.set i x) (us.set i u)
 |_,_,_,.nil=>.nil
 |_,_,0,.cons _ t=>.cons r t
 |_,_,i+1,.cons q t=>.cons q (Vals.set r i t)
theorem Vals.append:∀{xs ys:↑V}{us ws:↑A7},Vals xs us->Vals ys ws->Vals (xs++ys) (us++ws)
 |_,_,_,_,.nil,s=>s
 |_,_,_,_,.cons r t,s=>.cons r (Vals.append t s)
theorem Vals.take:∀{xs:↑V}{us:↑A7}(n:Nat),Vals xs us->Vals (xs.take n) (us.take n)
 |_,_,0,_=>.nil
 |_,_,_+1,.nil=>.nil
 |_,_,n+1,.cons r t=>.cons r (Vals.take n t)
theorem Vals.drop:∀{xs:↑V}{us:↑A7}(n:Nat),Vals xs us->Vals (xs.drop n) (us.drop n)
 |_,_,0,r=>r
 |_,_,_+1,.nil=>.nil
 |_,_,n+1,.cons _ t=>Vals.drop n t
noncomputable def IJ:Option V->Option A7->Prop
 |some v,↥u=>RelV v u
 |none,none=>True
 |_,_=>False
noncomputable def Ef{Br:Type}:↑(Br×V)->↑(Br×A7)->Prop:=Paired λ(p:Br×V)(q:Br×A7)=>p.1=q.1/\RelV p.2 q.2
def Cd:Key->V
 |.inl i=>.int i
 |.inr x=>.str x
inductive Eu where
 |lst (xs:↑V)
 |tup (xs:↑V)
 |Ak (A8:↑(Key×V))|Dy (A8:↑(Ew×V))
 |set (S:Int->Bool) (n:Nat)
 |ins (C Bp:A6) (BB:↑(Str×V))
 |own (x:A6)
 |S0 (BB:↑(Str×V))
 |met (f x:A6)
 |b7 (lo AD:Int)
 |D0 (o:Obj) (u:Eu)
 |OT (ps:Array A7)
 |ext (φ:BH->Prop)
abbrev AE:=A6->Option Eu
noncomputable def upd(H:AE)(a:A6)(o:Eu):AE:=λb=>if b=a then↥o else H b
def E3{H:AE}{a:A6}{o:Eu}:upd H a o a=↥o:=by unfold upd;rw[if_pos rfl]
def DF{H:AE}{a b:A6}{o:Eu}(h:b≠a):upd H a o b=H b:=by unfold upd;rw[if_neg h]
def aby{H:AE}{a b:A6}{o u:Eu}(h:H a=↥o)(h':H b=↥u)(d:o≠u):a≠b:=by intro e;subst e;rw[h]at h';exact d (GC h')
def L_{H:AE}{a b:A6}{o:Eu}(h:H a=↥o)(h':H b=none):a≠b:=by intro e;subst e;rw[h]at h';cases h'
noncomputable def OF(H:AE)(k:Ew)(a:A6):Prop:=H a=↥(.tup (k.map Cd))
section
variable(P:C5)(w:Bo)(K:As)
noncomputable def Dn(H:AE)(h:BH)(a:A6):Eu->Prop
 |.lst xs=>⇑xs<=CL/\∃(its:↑A7)(n:Nat),Vals xs its/\h.get? a=some { cls:=.type "list",data:=.seq its.toArray n }
 |.tup xs=>⇑xs<=CL/\∃its:↑A7,Vals xs its/\IsTup h a its.toArray
 |.Ak A8=>⇑A8<=CL/\(a==KF)=false/\∃vs,Ef A8 vs/\h.DictOf (GI P w) a vs
 |.Dy A8=>⇑A8<=CL/\(a==KF)=false/\∃xs:↑(Ew×A6×A7),
     Paired (λ(p:Ew×V)(q:Ew×A6×A7)=>p.1=q.1/\OF H p.1 q.2.1/\RelV p.2 q.2.2) A8 xs/\
     ∃o es Aq,h.get? a=↥o/\o.ExactDict/\o.data=.dict es Aq/\es.toList=xs.map (entryOfKey (tupleKind (GI P w)))/\(xs.map (·.1)).Nodup
 |.set S n=>h.SetOf (intKind P w) a S n
 |.ins C Bp BB=>H Bp=↥(.own a)/\ ⇑BB<=1000/\Bp≠a/\h.get? a=↥(PR C Bp)/\
     ∃EK,h.Ns1 Bp EK/\(∀f,IJ (BB.lookup f) (EK f))/\h8 EK (BB.map (·.1))
 |.own _=>∃o,h.get? a=↥o
 |.S0 BB=>∃EK,h.Ns1 a EK/\∀f,IJ (BB.lookup f) (EK f)
 |.b7 lo AD=>∃t u v,h.get? a=some { cls:=.type "range",data:=.fields #[.int lo t,.int AD u,.int 1 v] }
 |.D0 o u=>h.get? a=↥o/\Dn H h a u
 |.OT ps=>h.get? a=some { cls:=.none,data:=.fields ps }
 |.met f x=>h.get? a=↥(gW (.ref f) (.ref x))
 |.ext φ=>φ h/\(∃o,h.get? a=↥o)/\∀h1 h2:BH,φ h1->(∀o,h1.get? a=↥o->h2.get? a=↥o)->φ h2
noncomputable def Ev(H:AE)(h:BH):Prop:=∀a o,H a=↥o->Dn P w H h a o
end
section
variable{P:C5}{w:Bo}{K:As}{H A9:AE}{h h':BH}{a:A6}{o:Eu}
theorem Dn.lt(x:Dn P w H h a o):a<h.objs.size:=by
 cases o with
 |lst xs=>obtain⟨_,_,_,_,e⟩:=x;exact Dc e
 |tup xs=>obtain⟨_,_,_,p⟩:=x;exact p.lt
 |Ak A8=>obtain⟨_,_,_,_,o,_,_,e,_⟩:=x;exact Dc e
 |Dy A8=>obtain⟨_,_,_,_,o,_,_,e,_⟩:=x;exact Dc e
 |set S n=>obtain⟨o,_,_,_,e,_⟩:=x;exact Dc e
 |ins C Bp BB=>obtain⟨_,_,_,e,_⟩:=x;exact Dc e
 |own y=>obtain⟨_,e⟩:=x;exact Dc e
 |S0 BB=>obtain⟨_,⟨_,_,_,e,_⟩,_⟩:=x;exact Dc e
 |b7 lo AD=>obtain⟨_,_,_,e⟩:=x;exact Dc e
 |D0 BY u=>obtain⟨e,_⟩:=x;exact Dc e
 |OT ps=>exact Dc (show h.get? a=↥_ from x)
 |met f y=>exact Dc (show h.get? a=↥_ from x)
 |ext φ=>obtain⟨_,⟨_,e⟩,_⟩:=x;exact Dc e
theorem Paired.dV{α β:Type}{F G:α->β->Prop}:∀{l₁:↑α}{l₂:↑β},Paired F l₁ l₂->(∀a b,F a b->G a b)->Paired G l₁ l₂
 |_,_,.nil,_=>.nil
 |_,_,.cons r t,f=>.cons (f _ _ r) (Paired.dV t f)
def Dn.Nd(x:Dn P w H h a o)(k:∀b u,(b=a\/H b=↥(.own a))->h.get? b=↥u->h'.get? b=↥u)(ho:∀b,H b=↥(.own a)->A9 b=↥(.own a))(BV:∀b xs,H b=↥(.tup xs)->A9 b=↥(.tup xs)):Dn P w A9 h' a o:=by
 induction o with
 |lst xs=>obtain⟨z,its,n,r,e⟩:=x;exact⟨z,its,n,r,k _ _ (.inl rfl) e⟩
 |tup xs=>obtain⟨z,its,r,BY,e,c⟩:=x;exact⟨z,its,r,BY,k _ _ (.inl rfl) e,c⟩
 |Ak A8=>obtain⟨z,y,vs,r,BY,es,Aq,e,c⟩:=x;exact⟨z,y,vs,r,BY,es,Aq,k _ _ (.inl rfl) e,c⟩
 |Dy A8=>obtain⟨z,y,xs,r,BY,es,Aq,e,c⟩:=x;exact⟨z,y,xs,Paired.dV r λp q z=>⟨z.1,BV _ _ z.2.1,z.2.2⟩,BY,es,Aq,k _ _ (.inl rfl) e,c⟩
 |set S n=>obtain⟨BY,es,Aq,t,e,c⟩:=x;exact⟨BY,es,Aq,t,k _ _ (.inl rfl) e,c⟩
 |ins C Bp BB=>obtain⟨d,z,ne,e,EK,⟨E1,es,Aq,AH,c⟩,r⟩:=x;exact⟨ho _ d,z,ne,k _ _ (.inl rfl) e,EK,⟨E1,es,Aq,k _ _ (.inr d) AH,c⟩,r⟩
 |own y=>obtain⟨BY,e⟩:=x;exact⟨BY,k _ _ (.inl rfl) e⟩
 |S0 BB=>obtain⟨EK,⟨E1,es,Aq,e,c⟩,r⟩:=x;exact⟨EK,⟨E1,es,Aq,k _ _ (.inl rfl) e,c⟩,r⟩
 |b7 lo AD=>obtain⟨t,u,v,e⟩:=x;exact⟨t,u,v,k _ _ (.inl rfl) e⟩
 |D0 BY u CC=>obtain⟨e,q⟩:=x;exact⟨k _ _ (.inl rfl) e,CC q⟩
 |OT ps=>have e:h.get? a=some { cls:=.none,data:=.fields ps }:=x;show h'.get? a=some { cls:=.none,data:=.fields ps };exact k a _ (.inl rfl) e
 |met f y=>have e:h.get? a=↥(gW (.ref f) (.ref y)):=x;show h'.get? a=↥(gW (.ref f) (.ref y));exact k a _ (.inl rfl) e
 |ext φ=>obtain⟨p,⟨o,e⟩,st⟩:=x;exact⟨st _ _ p λo q=>k _ _ (.inl rfl) q,⟨o,k _ _ (.inl rfl) e⟩,st⟩
theorem Ev.lt(x:Ev P w H h)(e:H a=↥o):a<h.objs.size:=(x a o e).lt
def Ev.fresh(x:Ev P w H h)(e:h.objs.size<=a):H a=none:=by
 cases q:H a with
 |none=>rfl
 |some u=>exact absurd (GD (x.lt q) e) (Jg _)
def Ev.kept(x:Ev P w H h)(k:∀b u,h.get? b=↥u->h'.get? b=↥u):Ev P w H h':=λa o e=>
 (x a o e).Nd (λb u _ q=>k b u q) (λ_ q=>q) λ_ _ q=>q
def Ev.laid(x:Ev P w H h)(k:∀b u,h.get? b=↥u->h'.get? b=↥u)(AV:h.objs.size<=a)(new:Dn P w (upd H a o) h' a o):Ev P w (upd H a o) h':=λb u e=>by
 have AZ:=x.fresh AV;by_cases A4:b=a
 .subst A4;rw[E3]at e;cases e;exact new
 .rw[DF A4]at e;exact(x b u e).Nd (λc v _ q=>k c v q) (λc q=>by rw[DF (L_ q AZ)];exact q) λc xs q=>by rw[DF (L_ q AZ)];exact q
end
noncomputable def JX(H:AE)(a:A6)(u:Eu):Prop:=H a=↥u\/∃o,H a=↥(.D0 o u)
def JX.of{H:AE}{a:A6}{u:Eu}(h:H a=↥u):JX H a u:=.inl h
def JX.ok{P:C5}{w:Bo}{H:AE}{h:BH}{a:A6}{u:Eu}(r:JX H a u)(x:Ev P w H h):Dn P w H h a u:=by
 rcases r with r|⟨o,r⟩
 .exact x a u r
 .obtain⟨_,q⟩:=x a _ r;exact q
noncomputable def Uy:Option Eu->Prop
 |some (.lst _)=>True
 |some (.Ak _)=>True
 |some (.Dy _)=>True
 |some (.set _ _)=>True
 |some (.ins _ _ _)=>True
 |some (.ext _)=>True
 |_=>False
section
variable{P:C5}{w:Bo}{K:As}{H:AE}{h h':BH}{x e:A6}{o':Eu}
def Ev.write(ok:Ev P w H h)(KI:Uy (H x))(he:e=x\/H e=↥(.own x))(k:∀b u,b≠e->h.get? b=↥u->h'.get? b=↥u)(TW:∃u,h'.get? e=↥u)(new:Dn P w (upd H x o') h' x o'):Ev P w (upd H x o') h':=λb u q=>by
 have lE:∀c y,H c=↥(.own y)->c≠x:=λc y r z=>by subst z;rw[r]at KI;exact KI
 have acC:∀c xs,H c=↥(.tup xs)->c≠x:=λc xs r z=>by subst z;rw[r]at KI;exact KI
 by_cases A4:b=x
 .subst A4;rw[E3]at q;cases q;exact new
 .rw[DF A4]at q;by_cases RD:b=e
  .have Ce:H b=↥(.own x):=by
     rcases he with z|z
     .exact absurd (RD.trans z) A4
     .rw[RD];exact z
   rw[q]at Ce;cases Ce;obtain⟨v,Bk⟩:=TW;exact⟨v,by rw[RD];exact Bk⟩
  .refine(ok b u q).Nd (λc v AI r=>k c v ?_ r) (λc r=>by rw[DF (lE c b r)];exact r) λc xs r=>by rw[DF (acC c xs r)];exact r
   rcases AI with rfl|AI
   .exact RD
   .rintro rfl;rcases he with z|z
    .exact lE c b AI z
    .rw[AI]at z;cases z;exact A4 rfl
end
structure Gh(BB ex:↑A6)(H A9:AE)(h h':BH):Prop where
 keep:∀b o,h.get? b=↥o->H b=none->b∉BB->b∉ex->h'.get? b=↥o
 slot:∀b o,h.get? b=↥o->H b=none->b∈BB->b∉ex->∃Bt,h'.get? b=some { o with slots:=Bt }
 free:∀b o,h.get? b=↥o->H b=none->b∉ex->A9 b=none
 there:∀b o,h.get? b=↥o->b∉ex->∃o',h'.get? b=↥o'
 KS:∀b xs,H b=↥(.tup xs)->A9 b=↥(.tup xs)
 Ii:∀b o u,H b=↥(.D0 o u)->A9 b=↥(.D0 o u)
 KQ:∀b ps,H b=↥(.OT ps)->∃more,A9 b=↥(.OT (ps++more))
section
variable{BB Nt ex aiy:↑A6}{H H1 AU:AE}{h h1 h2 h':BH}{a x e:A6}{o:Eu}
def Gh.any(u:Gh BB ex H H1 h h1){b:A6}{BY:Obj}(q:h.get? b=↥BY)(n:H b=none)(AM:b∉ex):∃Bt,h1.get? b=some { BY with slots:=Bt }:=by
 by_cases A4:b∈BB
 .exact u.slot b BY q n A4 AM
 .exact⟨BY.slots,u.keep b BY q n A4 AM⟩
def Gh.kept(k:∀b u,h.get? b=↥u->h'.get? b=↥u):Gh BB ex H H h h':=
 ⟨λb BY q _ _ _=>k b BY q,λb BY q _ _ _=>⟨BY.slots,k b BY q⟩,λ_ _ _ n _=>n,λb BY q _=>⟨BY,k b BY q⟩,λ_ _ q=>q,λ_ _ _ q=>q,λ_ ps q=>⟨#[],by rw[q];simp⟩⟩
def Gh.refl:Gh BB ex H H h h:=Gh.kept λ_ _ q=>q
def Gh.laid(k:∀b u,h.get? b=↥u->h'.get? b=↥u)(AV:h.objs.size<=a)(AZ:H a=none):Gh BB ex H (upd H a o) h h' where
 keep:=λb u q _ _ _=>k b u q
 slot:=λb u q _ _ _=>⟨u.slots,k b u q⟩
 free:=λb u q n _=>by rw[DF (Et (GD (Dc q) AV))];exact n
 there:=λb u q _=>⟨u,k b u q⟩
 KS:=λb xs q=>by rw[DF (L_ q AZ)];exact q
 Ii:=λb u xs q=>by rw[DF (L_ q AZ)];exact q
 KQ:=λb ps q=>⟨#[],by rw[DF (L_ q AZ),q];simp⟩
def Gh.write(KI:Uy (H x))(he:e=x\/H e=↥(.own x))(k:∀b u,b≠e->h.get? b=↥u->h'.get? b=↥u)(TW:∃u,h'.get? e=↥u):Gh BB ex H (upd H x o) h h':=by
 have AM:∀b,H b=none->b≠x:=λb n z=>by subst z;rw[n]at KI;exact KI
 have A4:∀b,H b=none->b≠e:=λb n z=>by
  subst z;rcases he with r|r
  .exact AM b n r
  .rw[n]at r;cases r
 have hm:∀b u,H b=↥u->¬Uy ↥u->b≠x:=λb u q nm z=>by subst z;rw[q]at KI;exact nm KI
 refine⟨λb u q n _ _=>k b u (A4 b n) q,λb u q n _ _=>⟨u.slots,k b u (A4 b n) q⟩,λb u q n _=>by rw[DF (AM b n)];exact n,λb u q _=>?_,
  λb xs q=>by rw[DF (hm b _ q λz=>z)];exact q,λb u xs q=>by rw[DF (hm b _ q λz=>z)];exact q,λb ps q=>⟨#[],by rw[DF (hm b _ q λz=>z),q];simp⟩⟩
 by_cases RD:b=e
 .subst RD;exact TW
 .exact⟨u,k b u RD q⟩
end
noncomputable def ag(h:BH)(H:AE):↑A6:=(Ch h.objs.size).filter λa=>(H a).isSome
noncomputable def PE(h:BH)(H:AE):BH:=Xc h (ag h H)
def y8(h:BH)(H:AE):(PE h H).objs.size=h.objs.size:=PySem.W.hideAll_size _ _
def y7{h:BH}{H:AE}{b:A6}{o:Obj}(e:h.get? b=↥o)(n:H b=none):(PE h H).get? b=↥o:=
 s8 _ e λhm=>by have q:(H b).isSome=true:=(List.mem_filter.mp hm).2;rw[n]at q;simp at q
def abY{h:BH}{H:AE}{b:A6}{o:Obj}(e:(PE h H).get? b=↥o):h.get? b=↥o/\H b=none:=by
 have Ba:h.get? b=↥o:=rh (ag h H) e;refine⟨Ba,?_⟩;cases q:H b with
 |none=>rfl
 |some x=>have hm:b∈ag h H:=List.mem_filter.mpr ⟨List.mem_range.mpr (Dc Ba),by simp[q]⟩;have z:(PE h H).get? b=none:=PySem.W.hideAll_none (ag h H) hm;rw[z]at e;cases e
noncomputable def sr(g h:BH)(L:A6):ν:=(Ch h.objs.size).filterMap λa=>if a=L\/(g.get? a).isSome=true then none else(h.get? a).map λo=>(a,o)
noncomputable def rest(g h:BH)(L d:A6):ν:=(sr g h L).filter λp=>decide (p.1≠d)
structure Mod(K:As)(mg:Str->Option A7)(base:BH):Prop where
 RP:K.In base
 glob:base.Ns FQ mg
 blt:∃Gb,base.Ns builtinsNs Gb/\∀x:Str,x≠"__name__"->Gb x=O3 x
 nolimit:base.NoLimit
structure Ar where
 prog:C5
 w:Bo
 K:As
 mg:Str->Option A7
 base:BH
 A:DA
 N:↑Str
 G8:AQ
 LA:AE
 env:Env
 outer:↑Env
 stack:↑Env
 ex:↑A6
 fn:Str->Bool
 calm:Bool
 Ci:ν
 D1:A7->AQ->Prop
def Ez(l:↑Env):↑A6:=l.filterMap (·.frame)
abbrev Ar.BB(X:Ar):↑A6:=Ez X.outer
noncomputable def YG(sc:FF)(x:Str):Prop:=sc.names.lookup x=↥.local\/sc.names.lookup x=↥.cell\/sc.names.lookup x=↥.free
noncomputable def Loc(sc:FF)(x:Str):Prop:=sc.names.lookup x=↥.local\/sc.names.lookup x=↥.cell
noncomputable def Look(env:Env)(h:BH)(m:Str->Option A7)(x:Str)(u:A7):Prop:=
 (env.kindOf x=↥.local/\m x=↥u)\/((env.kindOf x=↥.cell\/env.kindOf x=↥.free)/\∃c,env.cells.lookup x=↥c/\h.IsCell c ↥u)
structure Ar.Ok(X:Ar):Prop where
 mod:Mod X.K X.mg X.base
 kind:X.env.scope.kind=.function
 glob:X.env.globals=FQ
 blt:X.env.builtins=builtinsNs
 above:X.G8.heap.objs.size<=X.env.locals
 inj:∀x y c,X.env.cells.lookup x=↥c->X.env.cells.lookup y=↥c->x=y
 has:∀x,(X.env.kindOf x=↥.cell\/X.env.kindOf x=↥.free)->∃c,X.env.cells.lookup x=↥c
 Sr:∀x c,X.fn x=true->X.env.cells.lookup x=↥c->X.G8.heap.objs.size<=c
 hd:X.calm=true->X.A.handled=none
 frames:X.A.frames=↥X.stack
 WR:X.stack=X.outer\/(X.stack=X.env::X.outer/\X.env.frame=↥X.env.locals)
 cg:∀b∈X.ex,b≠X.env.locals/\∀x c,X.env.cells.lookup x=↥c->c≠b
 bs:∀b o,X.base.get? b=↥o->X.G8.heap.get? b=↥o/\X.LA b=none
 P1:X.base.objs.size<=X.G8.heap.objs.size
 Tz:∀b o,X.base.get? b=↥o->b∉X.ex
 Vr:∀b∈X.ex,b∉X.BB
 K1:X.G8.heap.FunFrames X.base X.outer
 Pp:∀b∈X.BB,X.LA b=none
structure Inv(X:Ar)(A3:ν)(σ :↑(Option V))(H:AE)(s:AQ):Prop where
 ok:X.Ok
 os:s.os=X.G8.os
 bare:NF s.gens
 base:Gh X.BB X.ex X.LA H X.G8.heap s.heap
 loc:∃m,s.heap.Ns X.env.locals m/\∀(i:Nat)(x:Str)(v:V),X.N[i]?=↥x-> σ[i]?=↥↥v->YG X.env.scope x->∃u,RelV v u/\Look X.env s.heap m x u
 cell:∀x c,X.env.cells.lookup x=↥c->∃v,s.heap.IsCell c v
 free:H X.env.locals=none
 Kj:∀x c,X.env.cells.lookup x=↥c->H c=none
 pin:∀p∈X.Ci++A3,s.heap.get? p.1=↥p.2/\H p.1=none/\p.1≠X.env.locals/\p.1∉X.BB/\∀v,p.2.data≠.cell v
 B0:Ev X.prog X.w H s.heap
 len:⇑σ =⇑X.N
section
variable{X:Ar}{A3:ν}{σ :↑(Option V)}{H A9:AE}{s:AQ}{h':BH}
def Ar.Ok.ac7(ok:X.Ok){b:A6}{o:Obj}(e:X.base.get? b=↥o):b∉X.BB:=λA4=>by have:=(ok.K1.mem A4).1;rw[e]at this;cases this
theorem Inv.bs(J:θ):∀b o,X.base.get? b=↥o->s.heap.get? b=↥o/\H b=none:=λb o e=>
 ⟨J.base.keep b o (J.ok.bs b o e).1 (J.ok.bs b o e).2 (J.ok.ac7 e) (J.ok.Tz b o e),J.base.free b o (J.ok.bs b o e).1 (J.ok.bs b o e).2 (J.ok.Tz b o e)⟩
def Inv.B_(J:θ):∀b o,X.base.get? b=↥o->s.heap.get? b=↥o:=λb o e=>(J.bs b o e).1
theorem Inv.mod(J:θ):Mod X.K X.mg X.base:=J.ok.mod
def Inv.F9(J:θ):X.K.In s.heap:=J.ok.mod.RP.keeps J.B_
theorem Inv.lt(J:θ):X.env.locals<s.heap.objs.size:=let⟨_,AZ,_⟩:=J.loc;AZ.lt
def Inv.QQ(J:θ):X.G8.heap.objs.size<=s.heap.objs.size:=Im J.ok.above (PN J.lt)
def Inv.ac9(J:θ){a:A6}(h:s.heap.objs.size<=a):a∉X.BB:=λA4=>by obtain⟨_,o,ho,_⟩:=J.ok.K1.mem A4;exact absurd (GD (Dc ho) (Im J.QQ h)) (Jg _)
def Inv.R0(J:θ):∀x c,X.env.cells.lookup x=↥c->c≠X.env.locals:=λx c e z=>by obtain⟨v,o,ho,hd⟩:=J.cell x c e;obtain⟨m,⟨o',es,Aq,I5,cM,_⟩,_⟩:=J.loc;rw[z,I5]at ho;cases ho;rw[cM]at hd;cases hd
theorem Inv.K1(J:θ):s.heap.FunFrames X.base X.outer:=by
 have all:∀(l:↑Env),(∀b∈Ez l,b∈X.BB)->X.G8.heap.FunFrames X.base l->s.heap.FunFrames X.base l:=by
  intro l;induction l with
  |nil=>intro _ _;trivial
  |cons env r CC=>intro AO AG;obtain⟨AP,⟨L,o,hf,AZ,ho,hd⟩,BF⟩:=AG;have GZ:L∈X.BB:=AO L (by unfold Ez;rw[S9,hf];exact HP);obtain⟨Bt,e⟩:=J.base.slot L o ho (J.ok.Pp L GZ) GZ λz=>J.ok.Vr L z GZ;exact⟨AP,⟨L,_,hf,AZ,e,hd⟩,CC (λb A4=>AO b (by unfold Ez;rw[S9,hf];exact Gg _ A4)) BF⟩
 exact all X.outer (λ_ A4=>A4) J.ok.K1
theorem Inv.stack(J:θ):s.heap.FunFrames X.base X.stack:=by
 rcases J.ok.WR with e|⟨e,hf⟩
 .rw[e];exact J.K1
 .rw[e];obtain⟨m,AZ,_⟩:=J.loc;refine .cons (by rw[J.ok.kind];decide) hf AZ ?_ J.K1;exact Heap.get?_none_of_le (Im J.ok.P1 J.ok.above)
def Inv.bI(J:θ):∀b∈Ez X.stack,b∈X.env.locals::X.BB:=λb A4=>by
 rcases J.ok.WR with e|⟨e,hf⟩
 .rw[e]at A4;exact Gg _ A4
 .rw[e]at A4;unfold Ez at A4;rw[S9,hf]at A4;exact A4
def Inv.fs(J:θ):∀b∈Ez X.stack,H b=none:=λb A4=>by
 rcases List.mem_cons.mp (J.bI b A4)with e|A4
 .rw[e];exact J.free
 .obtain⟨_,o,ho,_⟩:=J.ok.K1.mem A4;exact J.base.free b o ho (J.ok.Pp b A4) λz=>J.ok.Vr b z A4
def Inv.step{g':Array GenState}{t':Nat}{d':Drawn}{ch:↑A6}(J:θ)(Nw:∀b∈ch,(b∈X.ex\/X.G8.heap.objs.size<=b)/\b≠X.env.locals/\(∀x c,X.env.cells.lookup x=↥c->c≠b)/\∀p∈X.Ci++A3,p.1≠b)(keep:∀b o,b≠X.env.locals->b∉X.BB->b∉ch->s.heap.get? b=↥o->H b=none->h'.get? b=↥o)(slot:∀b o,b≠X.env.locals->b∈X.BB->b∉ch->s.heap.get? b=↥o->H b=none->∃Bt,h'.get? b=some { o with slots:=Bt })(free:∀b o,b∉ch->s.heap.get? b=↥o->H b=none->A9 b=none)(there:∀b o,b∉ch->s.heap.get? b=↥o->∃o',h'.get? b=↥o')(KS:∀b xs,H b=↥(.tup xs)->A9 b=↥(.tup xs))(Ii:∀b o u,H b=↥(.D0 o u)->A9 b=↥(.D0 o u))(KQ:∀b ps,H b=↥(.OT ps)->∃more,A9 b=↥(.OT (ps++more)))(ns:∀m,s.heap.Ns X.env.locals m->h'.Ns X.env.locals m)(B0:Ev X.prog X.w A9 h')(Aj:NF g') :
  Inv X A3 σ A9 { s with heap:=h',gens:=g',drawn:=d',toks:=t' }:=by
 have l8:∀b o,X.G8.heap.get? b=↥o->b≠X.env.locals:=λb o e=>Et (GD (Dc e) J.ok.above);have Zk:∀b o,X.G8.heap.get? b=↥o->b∉X.ex->b∉ch:=λb o e AM A4=>by
  rcases(Nw b A4).1 with z|z
  .exact AM z
  .exact absurd (GD (Dc e) z) (Jg _)
 have cellK:∀x c,X.env.cells.lookup x=↥c->∀v,s.heap.IsCell c v->h'.IsCell c v:=λx c e v⟨o,ho,hd⟩=>by
  have W8:c∉ch:=λz=>(Nw c z).2.2.1 x c e rfl;by_cases AI:c∈X.BB
  .obtain⟨Bt,q⟩:=slot c o (J.R0 x c e) AI W8 ho (J.Kj x c e);exact⟨_,q,hd⟩
  .exact⟨o,keep c o (J.R0 x c e) AI W8 ho (J.Kj x c e),hd⟩
 refine⟨J.ok,J.os,Aj,⟨λb o e n A4 AM=>?_,λb o e n A4 AM=>?_,λb o e n AM=>?_,λb o e AM=>?_,λb xs e=>KS b xs (J.base.KS b xs e),λb o xs e=>Ii b o xs (J.base.Ii b o xs e),λb ps e=>?_⟩,?_,λx c e=>?_,?_,λx c e=>?_,λp AV=>?_,B0,J.len⟩
 .exact keep b o (l8 b o e) A4 (Zk b o e AM) (J.base.keep b o e n A4 AM) (J.base.free b o e n AM)
 .obtain⟨Bt,AC⟩:=J.base.slot b o e n A4 AM;obtain⟨afJ,AH⟩:=slot b _ (l8 b o e) A4 (Zk b o e AM) AC (J.base.free b o e n AM);exact⟨afJ,AH⟩
 .obtain⟨o',AC⟩:=J.base.there b o e AM;exact free b o' (Zk b o e AM) AC (J.base.free b o e n AM)
 .obtain⟨o',AC⟩:=J.base.there b o e AM;exact there b o' (Zk b o e AM) AC
 .obtain⟨H5,AC⟩:=J.base.KQ b ps e;obtain⟨H6,AH⟩:=KQ b _ AC;exact⟨H5++H6,by rw[AH,Array.append_assoc]⟩
 .obtain⟨m,AZ,AG⟩:=J.loc;refine⟨m,ns m AZ,λi x v AC AH D_=>?_⟩;obtain⟨u,r,l⟩:=AG i x v AC AH D_;refine⟨u,r,?_⟩;rcases l with l|⟨k,c,e,z⟩
  .exact .inl l
  .exact .inr ⟨k,c,e,cellK x c e _ z⟩
 .obtain⟨v,z⟩:=J.cell x c e;exact⟨v,cellK x c e v z⟩
 .obtain⟨m,⟨o,_,_,ho,_⟩,_⟩:=J.loc;exact free _ o (λz=>(Nw _ z).2.1 rfl) ho J.free
 .obtain⟨v,o,ho,hd⟩:=J.cell x c e;exact free c o (λz=>(Nw c z).2.2.1 x c e rfl) ho (J.Kj x c e)
 .obtain⟨e,n,ne,Lo,d⟩:=J.pin p AV;have W8:p.1∉ch:=λz=>(Nw p.1 z).2.2.2 p AV rfl;exact⟨keep p.1 p.2 ne Lo W8 e n,free p.1 p.2 W8 e n,ne,Lo,d⟩
def Inv.un{t':Nat}(J:θ)(u:Gh X.BB [] H A9 s.heap h')(B0:Ev X.prog X.w A9 h'):Inv X A3 σ A9 { s with heap:=h',toks:=t' }:=by
 obtain⟨m,⟨o,es,Aq,ho,r⟩,_⟩:=id J.loc;obtain⟨Bt,GZ⟩:=u.any ho J.free γ;exact J.step (g':=s.gens) (d':=s.drawn) (ch:=[]) (λ_ z=>nomatch z) (λb o _ A4 _ e n=>u.keep b o e n A4 γ) (λb o _ A4 _ e n=>u.slot b o e n A4 γ) (λb o _ e n=>u.free b o e n γ) (λb o _ e=>u.there b o e γ) u.KS u.Ii u.KQ (λEA hm=>by obtain⟨o',es',Nr,I5,Bf⟩:=hm;rw[ho]at I5;cases I5;exact⟨_,es',Nr,GZ,Bf⟩) B0 J.bare
def Inv.call{g':Array GenState}{t':Nat}{d':Drawn}{ch:↑A6}(J:θ)(u:Gh (Ez X.stack) ch H A9 s.heap h')(B0:Ev X.prog X.w A9 h')(Aj:NF g')(Nw:∀b∈ch,(b∈X.ex\/X.G8.heap.objs.size<=b)/\b≠X.env.locals/\(∀x c,X.env.cells.lookup x=↥c->c≠b)/\∀p∈X.Ci++A3,p.1≠b) :
  Inv X A3 σ A9 { s with heap:=h',gens:=g',drawn:=d',toks:=t' }:=by
 obtain⟨m,⟨o,es,Aq,ho,r⟩,_⟩:=id J.loc;obtain⟨Bt,GZ⟩:=u.any ho J.free λz=>(Nw _ z).2.1 rfl;exact J.step (ch:=ch) Nw (λb o GZ A4 AI e n=>u.keep b o e n (λz=>(List.mem_cons.mp (J.bI b z)).elim GZ A4) AI) (λb o _ _ AI e n=>u.any e n AI) (λb o AI e n=>u.free b o e n AI) (λb o AI e=>u.there b o e AI) u.KS u.Ii u.KQ (λEA hm=>by obtain⟨o',es',Nr,I5,Bf⟩:=hm;rw[ho]at I5;cases I5;exact⟨_,es',Nr,GZ,Bf⟩) B0 Aj
def Inv.turned{t':Nat}{it:A6}(J:θ)(k:∀b o,b≠it->s.heap.get? b=↥o->h'.get? b=↥o)(AZ:H it=none)(GZ:it≠X.env.locals)(h1:it∈X.ex\/X.G8.heap.objs.size<=it)(h2:∀x c,X.env.cells.lookup x=↥c->c≠it)(BO:∀p∈X.Ci++A3,p.1≠it):Inv X A3 σ H { s with heap:=h',toks:=t' }:=by
 have Pb:∀b u,H b=↥u->b≠it:=λb u e z=>by rw[z,AZ]at e;cases e
 refine J.step (g':=s.gens) (d':=s.drawn) (ch:=[it]) (λb A4=>?_) (λb o _ _ AI e _=>k b o (λz=>AI (by simp[z])) e) (λb o _ _ AI e _=>⟨o.slots,k b o (λz=>AI (by simp[z])) e⟩) (λ_ _ _ _ n=>n)
  (λb o AI e=>⟨o,k b o (λz=>AI (by simp[z])) e⟩) (λ_ _ e=>e) (λ_ _ _ e=>e) (λb ps e=>⟨#[],by rw[e];simp⟩) (λm hm=>?_) (λb u e=>?_) J.bare
 .have e:b=it:=by simpa using A4
  subst e;exact⟨h1,GZ,h2,BO⟩
 .obtain⟨o,es,Aq,ho,r⟩:=hm;exact⟨o,es,Aq,k _ o (Lj GZ) ho,r⟩
 .refine(J.B0 b u e).Nd (λc v AI q=>k c v ?_ q) (λ_ q=>q) λ_ _ q=>q;rcases AI with z|z
  .rw[z];exact Pb b u e
  .exact Pb c _ z
def Inv.tok(J:θ)(t:Nat):Inv X A3 σ H { s with toks:=t }:=J.un (h':=s.heap) (t':=t) Gh.refl J.B0
theorem Inv.kept{t':Nat}(J:θ)(k:∀b u,s.heap.get? b=↥u->h'.get? b=↥u):Inv X A3 σ H { s with heap:=h',toks:=t' }:=J.un (Gh.kept k) (J.B0.kept k)
theorem Inv.laid{a:A6}{o:Eu}{t':Nat}(J:θ)(k:∀b u,s.heap.get? b=↥u->h'.get? b=↥u)(AV:s.heap.objs.size<=a)(new:Dn X.prog X.w (upd H a o) h' a o) :
  Inv X A3 σ (upd H a o) { s with heap:=h',toks:=t' }:=J.un (Gh.laid k AV (J.B0.fresh AV)) (J.B0.laid k AV new)
theorem Inv.write{x e:A6}{o:Eu}{t':Nat}(J:θ)(KI:Uy (H x))(he:e=x\/H e=↥(.own x))(k:∀b u,b≠e->s.heap.get? b=↥u->h'.get? b=↥u)(TW:∃u,h'.get? e=↥u)(new:Dn X.prog X.w (upd H x o) h' x o):Inv X A3 σ (upd H x o) { s with heap:=h',toks:=t' }:=J.un (Gh.write KI he k TW) (J.B0.write KI he k TW new)
def Inv.mj{mq:ν}(J:θ)(h:∀p∈mq,s.heap.get? p.1=↥p.2/\H p.1=none/\p.1≠X.env.locals/\p.1∉X.BB/\∀v,p.2.data≠.cell v):Inv X mq σ H s:=
 ⟨J.ok,J.os,J.bare,J.base,J.loc,J.cell,J.free,J.Kj,λp AV=>(List.mem_append.mp AV).elim (λz=>J.pin p (JC _ z)) (h p),J.B0,J.len⟩
def lB{N:↑Str}(hN:N.Nodup){i j:Nat}{x:Str}(a:N[i]?=↥x)(b:N[j]?=↥x):i=j:=by obtain⟨h1,AC⟩:=List.getElem?_eq_some_iff.mp a;obtain⟨h2,AH⟩:=List.getElem?_eq_some_iff.mp b;exact(XJ hN).mp (AC.trans AH.symm)
def p7{M:Model}{A:DA}{E:A7->AQ->Prop}{i:Nat}{x:Str}{v:V}{u:A7}{Q:Unit->AQ->Prop}(J:θ)(hN:X.N.Nodup)(AD:X.N[i]?=↥x)(AM:Loc X.env.scope x)(r:RelV v u)(h:∀s',Inv X A3 (σ.set i ↥v) H s'->(∃a,Kr a s.heap s'.heap/\(a=X.env.locals\/X.env.cells.lookup x=↥a))->Q () s')(hf:X.fn x=true\/X.env.scope.names.lookup x=↥.local:=by first|exact .inl rfl|exact .inr rfl|assumption):An M A (storeName X.env x u) Q E s:=by
 obtain⟨m,AZ,AG⟩:=id J.loc;have w_:(X.env.scope.kind==.class||(X.env.scope.kind==.module&&X.env.locals !=X.env.globals))=false:=by rw[J.ok.kind];rfl
 have ADσ :i< ⇑σ :=by rw[J.len];exact(List.getElem?_eq_some_iff.mp AD).1
 have R0:=J.R0;have tracked:∀{a:A6}{h':BH},(∃o,s.heap.get? a=↥o/\H a=none)->Kr a s.heap h'->Ev X.prog X.w H h':=λ{a h'} AF AO b BY e=>by
  obtain⟨_,_,Yp⟩:=AF;refine(J.B0 b BY e).Nd (λc CZ AI q=>(AO.2 c ?_).trans q) (λ_ q=>q) λ_ _ q=>q;rintro rfl;rcases AI with rfl|AI
  .rw[Yp]at e;cases e
  .rw[Yp]at AI;cases AI
 rcases AM with AP|AP
 .refine wpAny_storeName_local AP AZ (λh' e6 AO=>?_) w_;obtain⟨acH,_,_,xh,_⟩:=id AZ;refine h _ ⟨J.ok,J.os,J.bare,⟨λb o e n A4 AM=>?_,λb o e n A4 AM=>?_,J.base.free,λb o e AM=>?_,J.base.KS,J.base.Ii,J.base.KQ⟩,⟨_,e6,λj y J7 AC AH D_=>?_⟩,λy c e=>?_,J.free,J.Kj,λp AV=>?_,tracked ⟨acH,xh,J.free⟩ AO,(J.len:)⟩ ⟨_,AO,.inl rfl⟩
  .exact(AO.2 b (Et (GD (Dc e) J.ok.above))).trans (J.base.keep b o e n A4 AM)
  .obtain⟨Bt,AC⟩:=J.base.slot b o e n A4 AM;exact⟨Bt,(AO.2 b (Et (GD (Dc e) J.ok.above))).trans AC⟩
  .obtain⟨o',AC⟩:=J.base.there b o e AM;exact⟨o',(AO.2 b (Et (GD (Dc e) J.ok.above))).trans AC⟩
  .by_cases Am:j=i
   .subst Am;rw[AD]at AC;cases AC;rw[J8 ADσ]at AH;cases AH;exact⟨u,r,.inl ⟨AP,γ⟩⟩
   .rw[MN (Lj Am)]at AH;obtain⟨JR,Bf,q⟩:=AG j y J7 AC AH D_;refine⟨JR,Bf,?_⟩;rcases q with⟨k,e⟩|⟨k,c,e,z⟩
    .refine .inl ⟨k,?_⟩;have:y≠x:=λe=>Am (lB hN AC (e▸AD));simp[this,e]
    .exact .inr ⟨k,c,e,z.sameBut AO (R0 y c e)⟩
  .obtain⟨CZ,z⟩:=J.cell y c e;exact⟨CZ,z.sameBut AO (R0 y c e)⟩
  .obtain⟨e,n,ne,Lo,d⟩:=J.pin p AV;exact⟨(AO.2 p.1 ne).trans e,n,ne,Lo,d⟩
 .have cO:X.fn x=true:=by
    rcases hf with z|z
    .exact z
    .rw[z]at AP;cases AP
  obtain⟨c,AI⟩:=J.ok.has x (.inl AP);obtain⟨CZ,z⟩:=J.cell x c AI;refine wpAny_storeName_cell J.ok.kind AP AI z (λh' Mb AO=>?_);obtain⟨GJ,kV,xk⟩:=id z;refine h { s with heap:=h' } ⟨J.ok,J.os,J.bare,⟨λb o e n A4 AM=>?_,λb o e n A4 AM=>?_,J.base.free,λb o e AM=>?_,J.base.KS,J.base.Ii,J.base.KQ⟩,⟨m,AZ.sameBut AO (Lj (R0 x c AI)),λj y J7 AC AH D_=>?_⟩,λy GO e=>?_,J.free,J.Kj,λp AV=>?_,tracked ⟨GJ,kV,J.Kj x c AI⟩ AO,(J.len:)⟩ ⟨c,AO,.inr AI⟩
  .exact(AO.2 b (Et (GD (Dc e) (J.ok.Sr x c cO AI)))).trans (J.base.keep b o e n A4 AM)
  .obtain⟨Bt,AC⟩:=J.base.slot b o e n A4 AM;exact⟨Bt,(AO.2 b (Et (GD (Dc e) (J.ok.Sr x c cO AI)))).trans AC⟩
  .obtain⟨o',AC⟩:=J.base.there b o e AM;exact⟨o',(AO.2 b (Et (GD (Dc e) (J.ok.Sr x c cO AI)))).trans AC⟩
  .by_cases Am:j=i
   .subst Am;rw[AD]at AC;cases AC;rw[J8 ADσ]at AH;cases AH;exact⟨u,r,.inr ⟨.inl AP,c,AI,Mb⟩⟩
   .rw[MN (Lj Am)]at AH;obtain⟨JR,Bf,q⟩:=AG j y J7 AC AH D_;refine⟨JR,Bf,?_⟩;rcases q with q|⟨k,GO,e,FE⟩
    .exact .inl q
    .refine .inr ⟨k,GO,e,FE.sameBut AO ?_⟩;rintro rfl;exact Am (lB hN AC (J.ok.inj _ _ _ e AI▸AD))
  .by_cases ip:GO=c
   .subst ip;exact⟨_,Mb⟩
   .obtain⟨Gq,Ec⟩:=J.cell y GO e;exact⟨Gq,Ec.sameBut AO ip⟩
  .obtain⟨e,n,ne,Lo,d⟩:=J.pin p AV;refine⟨(AO.2 p.1 ?_).trans e,n,ne,Lo,d⟩;intro q;rw[q,kV]at e;have Ce:GJ=p.2:=GC e;exact d CZ (by rw[<-Ce];exact xk)
def ft{M:Model}{A:DA}{E:A7->AQ->Prop}{i:Nat}{x:Str}{v:V}{u:A7}{Q:Unit->AQ->Prop}(J:θ)(hN:X.N.Nodup)(AD:X.N[i]?=↥x)(AM:Loc X.env.scope x)(r:RelV v u)(h:∀s',Inv X A3 (σ.set i ↥v) H s'->Q () s')(hf:X.fn x=true\/X.env.scope.names.lookup x=↥.local:=by first|exact .inl rfl|exact .inr rfl|assumption):An M A (storeName X.env x u) Q E s:=
 p7 J hN AD AM r (λs' FM _=>h s' FM) hf
def Inv.i1{s':AQ}{ch:↑A6}(J:θ)(ho:s'.os=s.os)(u:Gh (Ez X.stack) ch H A9 s.heap s'.heap)(B0:Ev X.prog X.w A9 s'.heap)(Aj:NF s'.gens)(Nw:∀b∈ch,(b∈X.ex\/X.G8.heap.objs.size<=b)/\b≠X.env.locals/\(∀x c,X.env.cells.lookup x=↥c->c≠b)/\∀p∈X.Ci++A3,p.1≠b):Inv X A3 σ A9 s':=by obtain⟨h',g',d',t',o'⟩:=s';have e:o'=s.os:=ho;subst e;exact J.call (g':=g') (t':=t') (d':=d') u B0 Aj Nw
end
abbrev Ex:=A7->Option A6->AE->Prop
abbrev St:=↑(Option V)
abbrev CR:=V->AE->Prop
abbrev TE:=St->AE->CR->Prop
abbrev TT:=St->AE->(Bool->AE->Prop)->Prop
abbrev Fd:=St->AE->(↑V->AE->Prop)->Prop
structure Ends where
 AR:St->AE->Prop
 EM:CR
 B_:St->AE->Prop:=λ_ _=>False
 DL:St->AE->Prop:=λ_ _=>False
abbrev F3:=Ends->St->AE->Prop
noncomputable def Gw(X:Ar)(A3:ν)(σ :St)(Q:CR)(u:A7)(s':AQ):Prop:=∃v A9,Inv X A3 σ A9 s'/\RelV v u/\Q v A9
noncomputable def YF(X:Ar)(A3:ν)(σ :St)(Q:Bool->AE->Prop)(b:Bool)(s':AQ):Prop:=∃A9,Inv X A3 σ A9 s'/\Q b A9
noncomputable def t4(X:Ar)(A3:ν)(σ :St)(Q:↑V->AE->Prop)(us:↑A7)(s':AQ):Prop:=∃vs A9,Inv X A3 σ A9 s'/\Vals vs us/\Q vs A9
noncomputable def QE(X:Ar)(A3:ν)(D:Ends)(f:Flow)(s':AQ):Prop:=
 match f with
 |.next=>∃ σ' A9,Inv X A3 σ' A9 s'/\D.AR σ' A9
 |.brk=>∃ σ' A9,Inv X A3 σ' A9 s'/\D.B_ σ' A9
 |.cont=>∃ σ' A9,Inv X A3 σ' A9 s'/\D.DL σ' A9
 |.ret u=>∃v σ' A9,Inv X A3 σ' A9 s'/\RelV v u/\D.EM v A9
noncomputable def Ag(X:Ar)(e:Al)(t:TE):Prop:=
 ∀(A3:ν)(s:AQ)(σ :St)(H:AE)(Q:CR),θ->t σ H Q->An ο X.A (Bc e X.env) (Gw X A3 σ Q) X.D1 s
noncomputable def EU(X:Ar)(e:Al)(t:TT):Prop:=
 ∀(A3:ν)(s:AQ)(σ :St)(H:AE)(Q:Bool->AE->Prop),θ->t σ H Q->An ο X.A (isTrue e X.env (Bc e X.env)) (YF X A3 σ Q) X.D1 s
noncomputable def Jw(X:Ar)(e:Al)(t:TT):Prop:=
 ∀(whole:Sem A7)(A3:ν)(s:AQ)(σ :St)(H:AE)(Q:Bool->AE->Prop),θ->t σ H Q->An ο X.A (isTrue e X.env whole) (YF X A3 σ Q) X.D1 s
def Jw.pt{X:Ar}{e:Al}{t:TT}(h:Jw X e t):EU X e t:=h _
noncomputable def Gz(X:Ar)(es:↑Al)(t:Fd):Prop:=
 ∀(pos:Pos)(A3:ν)(s:AQ)(σ :St)(H:AE)(Q:↑V->AE->Prop),θ->t σ H Q->An ο X.A (spliced (Fc pos (CK es X.env))) (t4 X A3 σ Q) X.D1 s
noncomputable def DO(X:Ar)(st:BG)(t:F3):Prop:=
 ∀(A3:ν)(s:AQ)(σ :St)(H:AE)(D:Ends),θ->t D σ H->An ο X.A (exec st X.env) (QE X A3 D) X.D1 s
noncomputable def HG(X:Ar)(st:↑BG)(t:F3):Prop:=
 ∀(A3:ν)(s:AQ)(σ :St)(H:AE)(D:Ends),θ->t D σ H->An ο X.A (execs st X.env) (QE X A3 D) X.D1 s
def BS{α:Type}{t:Sem α}{Q H_:α->AQ->Prop}{M:Model}{A:DA}{E:A7->AQ->Prop}{s:AQ}(h:An M A t Q E s)(FV:∀a s,Q a s->H_ a s):An M A t H_ E s:=HQ h FV λ_ _ x=>x
section
variable{X:Ar}
def bin{a b:Al}{Bu tb:TE}(AF:Ag X a Bu)(A4:Ag X b tb){A3:ν}{s:AQ}{σ :St}{H:AE}{R:V->V->AE->Prop}(J:θ)(h:Bu σ H λx H1=>tb σ H1 λy AU=>R x y AU){α:Type}{Q:α->AQ->Prop}{f:A7->A7->Sem α}(hf:∀v u s2 x y AU,Inv X A3 σ AU s2->RelV x v->RelV y u->R x y AU->An ο X.A (f v u) Q X.D1 s2) :
  An ο X.A (Bc a X.env) (λv Cw=>An ο X.A (Bc b X.env) (λu JQ=>An ο X.A (f v u) Q X.D1 JQ) X.D1 Cw) X.D1 s:=by
 refine BS (AF A3 s σ H _ J h) λv s1⟨x,H1,Ac,Av,q1⟩=>?_;refine BS (A4 A3 s1 σ H1 _ Ac q1) λu s2⟨y,AU,BN,BJ,q2⟩=>?_;exact hf v u s2 x y AU BN Av BJ q2
def qT(i:Nat):TE:=λσ H Q=>∃v,σ[i]?=↥↥v/\Q v H
def OS(v:V):TE:=λ_ H Q=>Q v H
def acg{i:Nat}{x:Str}{pos:Pos}(hN:X.N[i]?=↥x)(Bk:YG X.env.scope x)(hd:(x==("__debug__" :Str))=false:=by decide)(LI:(x==("__classdict__" :Str))=false:=by decide):Ag X (.Name x pos) (qT i):=by
 intro A3 s σ H Q J h;obtain⟨v,e,h⟩:=h;obtain⟨m,AZ,AG⟩:=J.loc;obtain⟨u,r,l⟩:=AG i x v hN e Bk;have fin:Gw X A3 σ Q u s:=⟨v,H,J,r,h⟩;rcases l with⟨AP,hm⟩|⟨AP,c,AI,iq⟩
 .exact wpAny_Name (wpAny_loadName_local J.ok.kind AP AZ hm fin) hd
 .rcases AP with AP|AP
  .exact wpAny_Name (wpAny_loadName_cell J.ok.kind AP AI iq fin) hd
  .exact wpAny_Name (wpAny_loadName_free J.ok.kind AP AI iq fin LI) hd
def adL{i j pos}:Ag X (.Constant (.int i) j pos) (OS (.int i)):=λ_ _ _ H _ J h=>wpAny_Constant_int ⟨.int i,H,J.tok _,⟨_,rfl⟩,h⟩
def ad9{b j pos}:Ag X (.Constant (.bool b) j pos) (OS (.AL b)):=λ_ _ _ H _ J h=>Constant_bool ⟨.AL b,H,J,rfl,h⟩
def acZ{j pos}:Ag X (.Constant .none j pos) (OS .non):=λ_ _ _ H _ J h=>Constant_none ⟨.non,H,J,rfl,h⟩
def fX{x j pos}:Ag X (.Constant (.str x) j pos) (OS (.str x)):=λ_ _ _ H _ J h=>Calls.Constant_str ⟨.str x,H,J.tok _,⟨_,rfl⟩,h⟩
noncomputable def ET(X:Ar)(x:Str):Prop:=X.env.kindOf x=↥.globalImplicit
def VB{E:A7->AQ->Prop}{A3:ν}{s:AQ}{σ :St}{H:AE}{x:Str}{u:A7}{pos:Pos}{Q:A7->AQ->Prop}(J:θ)(Aj:ET X x)(hm:X.mg x=↥u)(h:Q u s)(hd:(x==("__debug__" :Str))=false:=by decide):An ο X.A (Bc (.Name x pos) X.env) Q E s:=
 rS J.ok.kind Aj (Calls.loadGlobal_global (by rw[J.ok.glob];exact J.mod.glob.keeps J.B_) hm h) hd
def Oh{E:A7->AQ->Prop}{A3:ν}{s:AQ}{σ :St}{H:AE}{x:Str}{u:A7}{pos:Pos}{Q:A7->AQ->Prop}(J:θ)(Aj:ET X x)(hm:X.mg x=none)(Bk:O3 x=↥u)(h:Q u s)(AZ:x≠"__name__":=by decide)(hd:(x==("__debug__" :Str))=false:=by decide):An ο X.A (Bc (.Name x pos) X.env) Q E s:=by obtain⟨Gb,h1,h2⟩:=J.mod.blt;exact rS J.ok.kind Aj (Calls.loadGlobal_builtin (by rw[J.ok.glob];exact J.mod.glob.keeps J.B_) hm (by rw[J.ok.blt];exact h1.keeps J.B_) ((h2 x AZ).trans Bk) h) hd
def adJ{x:Str}{v:V}{u:A7}{pos:Pos}(Aj:ET X x)(hm:X.mg x=↥u)(r:RelV v u)(hd:(x==("__debug__" :Str))=false:=by decide):Ag X (.Name x pos) (OS v):=
 λ_ _ _ H _ J h=>VB J Aj hm ⟨v,H,J,r,h⟩ hd
def adA{x:Str}{v:V}{u:A7}{pos:Pos}(Aj:ET X x)(hm:X.mg x=none)(Bk:O3 x=↥u)(r:RelV v u)(AZ:x≠"__name__":=by decide)(hd:(x==("__debug__" :Str))=false:=by decide):Ag X (.Name x pos) (OS v):=
 λ_ _ _ H _ J h=>Oh J Aj hm Bk ⟨v,H,J,r,h⟩ AZ hd
variable{a b:Al}{Bu tb:TE}{pos:Pos}
noncomputable def sZ(X:Ar)(op:CmpOp)(a b:Al)(t:TE):Prop:=
 ∀(A3:ν)(s:AQ)(σ :St)(H:AE)(Q:CR),θ->t σ H Q->
  An ο X.A (Bc a X.env) (λv Cw=>An ο X.A (Bc b X.env) (λu JQ=>An ο X.A (G3 op v u) (Gw X A3 σ Q) X.D1 JQ) X.D1 Cw) X.D1 s
def ac6(b:Al){op:CmpOp}(h:op≠.In)(h2:op≠.NotIn):MQ op b=false:=by
 have AC:(op==CmpOp.In)=false:=by cases op<;>first|rfl|exact absurd rfl h
 have AH:(op==CmpOp.NotIn)=false:=by cases op<;>first|rfl|exact absurd rfl h2
 cases b<;>simp[MQ,AC,AH]
noncomputable def fx(t:TE):TT:=λσ H Q=>t σ H λx H1=>∃c,x=.AL c/\Q c H1
def aiQ{op:CmpOp}{t:TE}(h:sZ X op a b t)(h1:MQ op b=false:=by first|exact ac6 _ ε ε|rfl):EU X (.Compare a [op] [b] pos) (fx t):=by intro A3 s σ H Q J hw;refine wpAny_isTrue_Compare1 (BS (h A3 s σ H _ J hw) λv s1 h1=>BS h1 λu s2 h2=>BS h2 λc s3⟨x,H1,Ac,Av,q1⟩=>?_) h1;obtain⟨d,rfl,q⟩:=q1;cases Av;exact MK ⟨H1,Ac,q⟩
def aeN{e:Al}{t:TE}(h:Ag X e t)(he:∀whole,isTrue e X.env whole=(do let v <-whole;MU e.pos;JF [v] (truthy v)):=by intro _;rfl):EU X e (fx t):=by intro A3 s σ H Q J hw;refine isTrue_plain (BS (h A3 s σ H _ J hw) λv s1⟨x,H1,Ac,Av,q1⟩=>?_) (he _);obtain⟨d,rfl,q⟩:=q1;cases Av;exact MK ⟨H1,Ac,q⟩
variable{Ge aT:TT}{rest:↑Al}
noncomputable def pC(t u:TT):TT:=λσ H Q=>t σ H λc H1=>if c=true then u σ H1 Q else Q false H1
noncomputable def r5(t u:TT):TT:=λσ H Q=>t σ H λc H1=>if c=true then Q true H1 else u σ H1 Q
noncomputable def r3(t:TT):TT:=λσ H Q=>t σ H λc H1=>Q (!c) H1
def ada(AF:EU X a Ge):Jw X (.BoolOp .And [a] pos) Ge:=by
 intro OY A3 s σ H Q J h;refine isTrue_and (BS (AF A3 s σ H Q J h) λc s1 e=>?_);cases c with
 |true=>exact isTrue_and_nil e
 |false=>exact e
def ade(AF:EU X a Ge):Jw X (.BoolOp .Or [a] pos) Ge:=by
 intro OY A3 s σ H Q J h;refine isTrue_or (BS (AF A3 s σ H Q J h) λc s1 e=>?_);cases c with
 |false=>exact isTrue_or_nil e
 |true=>exact e
def ad_(AF:EU X a Ge)(A4:Jw X (.BoolOp .And (b::rest) pos) aT):Jw X (.BoolOp .And (a::b::rest) pos) (pC Ge aT):=by
 intro OY A3 s σ H Q J h;refine isTrue_and (BS (AF A3 s σ H _ J h) λc s1⟨H1,Ac,q1⟩=>?_);cases c with
 |true=>exact A4 OY A3 s1 σ H1 Q Ac q1
 |false=>exact⟨H1,Ac,q1⟩
def adb(AF:EU X a Ge)(A4:Jw X (.BoolOp .Or (b::rest) pos) aT):Jw X (.BoolOp .Or (a::b::rest) pos) (r5 Ge aT):=by
 intro OY A3 s σ H Q J h;refine isTrue_or (BS (AF A3 s σ H _ J h) λc s1⟨H1,Ac,q1⟩=>?_);cases c with
 |true=>exact⟨H1,Ac,q1⟩
 |false=>exact A4 OY A3 s1 σ H1 Q Ac q1
def aeM(AF:EU X a Ge):EU X (.UnaryOp .Not a pos) (r3 Ge):=by intro A3 s σ H Q J h;exact isTrue_not (AF A3 s σ H (λc H1=>Q (!c) H1) J h)
noncomputable def pD(Bu tb:TE):TE:=λσ H Q=>Bu σ H λx H1=>∃c,x=.AL c/\if c=true then tb σ H1 Q else Q (.AL false) H1
noncomputable def r6(Bu tb:TE):TE:=λσ H Q=>Bu σ H λx H1=>∃c,x=.AL c/\if c=true then Q (.AL true) H1 else tb σ H1 Q
noncomputable def r4(Bu:TE):TE:=λσ H Q=>Bu σ H λx H1=>∃c,x=.AL c/\Q (.AL (!c)) H1
def aca{op}{t:TE}(h:Ag X a t):Ag X (.BoolOp op [a] pos) t:=λA3 s σ H Q J hw=>BoolOp_one (h A3 s σ H Q J hw)
def ad8(AF:Ag X a Bu)(A4:Ag X (.BoolOp .And (b::rest) pos) tb):Ag X (.BoolOp .And (a::b::rest) pos) (pD Bu tb):=by
 intro A3 s σ H Q J h;refine BoolOp_and (BS (AF A3 s σ H _ J h) λv s1⟨x,H1,Ac,Av,q1⟩=>?_);obtain⟨c,rfl,q1⟩:=q1;cases Av;refine MK ?_;cases c with
 |true=>exact A4 A3 s1 σ H1 Q Ac q1
 |false=>exact⟨.AL false,H1,Ac,rfl,q1⟩
def acb(AF:Ag X a Bu)(A4:Ag X (.BoolOp .Or (b::rest) pos) tb):Ag X (.BoolOp .Or (a::b::rest) pos) (r6 Bu tb):=by
 intro A3 s σ H Q J h;refine BoolOp_or (BS (AF A3 s σ H _ J h) λv s1⟨x,H1,Ac,Av,q1⟩=>?_);obtain⟨c,rfl,q1⟩:=q1;cases Av;refine MK ?_;cases c with
 |false=>exact A4 A3 s1 σ H1 Q Ac q1
 |true=>exact⟨.AL true,H1,Ac,rfl,q1⟩
def ac_(AF:Ag X a Bu):Ag X (.UnaryOp .Not a pos) (r4 Bu):=by intro A3 s σ H Q J h;refine UnaryOp_ (BS (AF A3 s σ H _ J h) λv s1⟨x,H1,Ac,Av,q1⟩=>?_);obtain⟨c,rfl,q1⟩:=q1;cases Av;exact not_of (MK ⟨.AL (!c),H1,Ac,rfl,q1⟩)
noncomputable def qx(t:TT)(Bu tb:TE):TE:=λσ H Q=>t σ H λc H1=>if c=true then Bu σ H1 Q else tb σ H1 Q
def adK{c:Al}(AI:EU X c Ge)(AF:Ag X a Bu)(A4:Ag X b tb):Ag X (.IfExp c a b pos) (qx Ge Bu tb):=by
 intro A3 s σ H Q J h;refine wpAny_IfExp (BS (AI A3 s σ H _ J h) λd s1⟨H1,Ac,q1⟩=>?_);cases d with
 |true=>exact AF A3 s1 σ H1 Q Ac q1
 |false=>exact A4 A3 s1 σ H1 Q Ac q1
end
noncomputable def EV(K:As)(H:AE)(a:A6)(xs:↑V):Prop:=
 JX H a (.lst xs)\/
  ∃(o:Obj)(its:Array A7)(n:Nat),K.lookup a=↥o/\o.cls=.type "list"/\o.dict=none/\o.data=.seq its n/\its.size<=CL/\Vals xs its.toList
noncomputable def EW(K:As)(H:AE)(a:A6)(xs:↑V):Prop:=
 JX H a (.tup xs)\/
  ∃(o:Obj)(its:Array A7)(n:Nat),K.lookup a=↥o/\o.cls=.type "tuple"/\o.data=.seq its n/\its.size<=CL/\Vals xs its.toList
noncomputable def sg:A7->Option V
 |.none=>↥.non
 |.bool b=>↥(.AL b)
 |.int i _=>↥(.int i)
 |.str x _=>↥(.str x)
 |.bytes b _=>↥(.QK b)
 |.float b _=>↥(.R8 b)
 |.ref a=>↥(.ref a)
 |.type n=>↥(.ty n)
 |_=>none
def RelV.abs{x:V}{u:A7}(r:RelV x u):sg u=↥x:=by
 cases x with
 |non=>cases r;rfl
 |AL _=>cases r;rfl
 |int _=>obtain⟨t,rfl⟩:=r;rfl
 |str _=>obtain⟨t,rfl⟩:=r;rfl
 |QK _=>obtain⟨t,rfl⟩:=r;rfl
 |R8 _=>obtain⟨t,rfl⟩:=r;rfl
 |ref _=>cases r;rfl
 |ty _=>cases r;rfl
def RelV.inj{x y:V}{u:A7}(r:RelV x u)(q:RelV y u):x=y:=GC (r.abs.symm.trans q.abs)
theorem Vals.inj:∀{xs ys:↑V}{us:↑A7},Vals xs us->Vals ys us->xs=ys
 |_,_,_,.nil,.nil=>rfl
 |_,_,_,.cons r t,.cons Bf t'=>by rw[r.inj Bf,Vals.inj t t']
section
variable{X:Ar}{A3:ν}{σ :St}{H:AE}{s:AQ}{a:A6}{xs ys:↑V}
def EV.of{K:As}(h:H a=↥(.lst xs)):EV K H a xs:=.inl (.inl h)
def EW.of{K:As}(h:H a=↥(.tup xs)):EW K H a xs:=.inl (.inl h)
def Inv.list(J:θ)(h:EV X.K H a xs):∃its:↑A7,Vals xs its/\PlainL s.heap a its.toArray/\ ⇑xs<=CL:=by
 rcases h with h|⟨o,its,n,AP,AI,hd,AO,hz,r⟩
 .obtain⟨z,its,n,r,e⟩:=h.ok J.B0;exact⟨its,r,⟨_,n,e,rfl,rfl,rfl⟩,z⟩
 .refine⟨its.toList,r,⟨o,n,J.F9 a o AP,AI,hd,(AO:)⟩,?_⟩;have e:=⇑r;erw[QX]at e;lia
def Inv.tuple(J:θ)(h:EW X.K H a xs):∃its:↑A7,Vals xs its/\IsTup s.heap a its.toArray/\ ⇑xs<=CL:=by
 rcases h with h|⟨o,its,n,AP,AI,AO,hz,r⟩
 .obtain⟨z,its,r,p⟩:=h.ok J.B0;exact⟨its,r,p,z⟩
 .refine⟨its.toList,r,⟨o,J.F9 a o AP,AI,n,(AO:)⟩,?_⟩;have e:=⇑r;erw[QX]at e;lia
def Inv.dx(J:θ)(h:EV X.K H a xs)(h':EV X.K H a ys):xs=ys:=by
 obtain⟨its,r,⟨o,n,e,_,_,d⟩,_⟩:=J.list h;obtain⟨its',Bf,⟨o',W6,Ba,_,_,d'⟩,_⟩:=J.list h';rw[e]at Ba;cases Ba;rw[d]at d';injection d' with d1 _;have:its=its':=(congrArg Array.toList d1:)
 subst this;exact r.inj Bf
def Inv.g8(J:θ)(h:EW X.K H a xs)(h':EW X.K H a ys):xs=ys:=by
 obtain⟨its,r,⟨o,e,_,n,d⟩,_⟩:=J.tuple h;obtain⟨its',Bf,⟨o',Ba,_,W6,d'⟩,_⟩:=J.tuple h';rw[e]at Ba;cases Ba;rw[d]at d';injection d' with d1 _;have:its=its':=(congrArg Array.toList d1:)
 subst this;exact r.inj Bf
end
abbrev Ar.KW(X:Ar)(E:A7->AQ->Prop):Ar:={ X with D1:=E }
abbrev Ar.Fv(X:Ar):Ar:=X.KW λ_ _=>False
theorem Ar.Ok.KW{X:Ar}(ok:X.Ok)(E:A7->AQ->Prop):(X.KW E).Ok:=
 ⟨ok.mod,ok.kind,ok.glob,ok.blt,ok.above,ok.inj,ok.has,ok.Sr,ok.hd,ok.frames,ok.WR,ok.cg,ok.bs,ok.P1,ok.Tz,ok.Vr,ok.K1,ok.Pp⟩
def Ar.Ok.KV{X:Ar}{E:A7->AQ->Prop}(ok:(X.KW E).Ok):X.Ok:=
 ⟨ok.mod,ok.kind,ok.glob,ok.blt,ok.above,ok.inj,ok.has,ok.Sr,ok.hd,ok.frames,ok.WR,ok.cg,ok.bs,ok.P1,ok.Tz,ok.Vr,ok.K1,ok.Pp⟩
section
variable{X:Ar}{A3:ν}{σ :St}{H:AE}{s:AQ}{E:A7->AQ->Prop}
theorem Inv.KW(J:θ)(E:A7->AQ->Prop):Inv (X.KW E) A3 σ H s:=⟨J.ok.KW E,J.os,J.bare,J.base,J.loc,J.cell,J.free,J.Kj,J.pin,J.B0,J.len⟩
theorem Inv.KV(J:Inv (X.KW E) A3 σ H s):θ:=⟨J.ok.KV,J.os,J.bare,J.base,J.loc,J.cell,J.free,J.Kj,J.pin,J.B0,J.len⟩
theorem QE.KV{D:Ends}{f:Flow}{s':AQ}(h:QE (X.KW E) A3 D f s'):QE X A3 D f s':=by
 cases f with
 |next=>obtain⟨σ',A9,J,q⟩:=h;exact⟨σ',A9,J.KV,q⟩
 |brk=>obtain⟨σ',A9,J,q⟩:=h;exact⟨σ',A9,J.KV,q⟩
 |cont=>obtain⟨σ',A9,J,q⟩:=h;exact⟨σ',A9,J.KV,q⟩
 |ret u=>obtain⟨v,σ',A9,J,r,q⟩:=h;exact⟨v,σ',A9,J.KV,r,q⟩
theorem Ag.Fv{e:Al}{t:TE}(h:Ag X.Fv e t):Ag X e t:=λA3 s σ H Q J hw=>
 HQ (h A3 s σ H Q (J.KW _) hw) (λ_ _⟨v,A9,FM,r,q⟩=>⟨v,A9,FM.KV,r,q⟩) λ_ _ z=>HR z
theorem EU.Fv{e:Al}{t:TT}(h:EU X.Fv e t):EU X e t:=λA3 s σ H Q J hw=>
 HQ (h A3 s σ H Q (J.KW _) hw) (λ_ _⟨A9,FM,q⟩=>⟨A9,FM.KV,q⟩) λ_ _ z=>HR z
theorem HG.Fv{st:↑BG}{t:F3}(h:HG X.Fv st t):HG X st t:=λA3 s σ H D J hw=>
 HQ (h A3 s σ H D (J.KW _) hw) (λ_ _ q=>q.KV) λ_ _ z=>HR z
end
section
variable{X:Ar}{st:BG}{rest:↑BG}{t u:F3}{e:Al}{te:TE}{pos:Pos}
def aX:F3:=λD σ H=>D.AR σ H
noncomputable def rB(t u:F3):F3:=λD σ H=>t { D with AR:=u D } σ H
def aeJ:HG X [] aX:=λ_ _ σ H _ J h=>S5 ⟨σ,H,J,h⟩
def aeH(h1:DO X st t)(h2:HG X rest u):HG X (st::rest) (rB t u):=by
 intro A3 s σ H D J h;refine gq (BS (h1 A3 s σ H { D with AR:=u D } J h) λf s1 q=>?_);cases f with
 |next=>obtain⟨σ',A9,FM,q⟩:=q;exact h2 A3 s1 σ' A9 D FM q
 |ret v=>exact q
 |brk=>exact q
 |cont=>exact q
def aeK(h1:DO X st t):HG X [st] t:=by
 intro A3 s σ H D J h;refine gq (BS (h1 A3 s σ H D J h) λf s1 q=>?_);cases f with
 |next=>exact S5 q
 |ret v=>exact q
 |brk=>exact q
 |cont=>exact q
def aeA:DO X (.Pass pos) aX:=λ_ _ σ H _ J h=>wpAny_Pass ⟨σ,H,J,h⟩
def Inv.quiet{A3:ν}{σ :St}{H:AE}{s:AQ}(J:θ):interactive X.env=false:=by simp[interactive,J.ok.kind]
def ae4{x j pos pos'}:DO X (.Expr (.Constant (.str x) j pos) pos') aX:=λ_ s σ H _ J h=>wpAny_Expr (Calls.Constant_str (show QE X _ _ .next { s with toks:=s.toks+1 }from⟨σ,H,J.tok _,h⟩)) J.quiet
noncomputable def qv(te:TE):F3:=λD σ H=>te σ H λ_ H1=>D.AR σ H1
def ae6(he:Ag X e te)(AO:NE e none pos.line X.env=pure false:=by rfl):DO X (.Expr e pos) (qv te):=by intro A3 s σ H D J h;exact wpAny_Expr_any (BS (he A3 s σ H _ J h) λv s1⟨x,H1,Ac,Av,q1⟩=>⟨σ,H1,Ac,q1⟩) J.quiet AO
def r9(te:TE):F3:=λD σ H=>te σ H D.EM
def aeC(he:Ag X e te):DO X (.Return ↥e pos) (r9 te):=by intro A3 s σ H D J h;exact wpAny_Return_some (BS (he A3 s σ H _ J h) λv s1⟨x,H1,Ac,Av,q1⟩=>⟨x,σ,H1,Ac,Av,q1⟩)
def rA:F3:=λD _ H=>D.EM .non H
def aeD:DO X (.Return none pos) rA:=λ_ _ σ H _ J h=>wpAny_Return_none ⟨.non,σ,H,J,rfl,h⟩
noncomputable def qy(c:TT)(t u:F3):F3:=λD σ H=>c σ H λb H1=>if b=true then t D σ H1 else u D σ H1
def ae8{c:Al}{a b:↑BG}{HA:TT}(AI:EU X c HA)(AF:HG X a t)(A4:HG X b u):DO X (.If c a b pos) (qy HA t u):=by
 intro A3 s σ H D J h;refine wpAny_If (BS (AI A3 s σ H _ J h) λd s1⟨H1,Ac,q1⟩=>?_);cases d with
 |true=>exact AF A3 s1 σ H1 D Ac q1
 |false=>exact A4 A3 s1 σ H1 D Ac q1
def r1:F3:=λ_ _ _=>False
def ae9:DO X st r1:=λ_ _ _ _ _ _ h=>h.elim
def aeI{QP:↑BG}:HG X QP r1:=λ_ _ _ _ _ _ h=>h.elim
end
abbrev Jx:=V->St->AE->(St->AE->Prop)->Prop
abbrev OE:=↑V->St->AE->(St->AE->Prop)->Prop
noncomputable def HF(X:Ar)(target:Al)(t:Jx):Prop:=
 ∀(A3:ν)(s:AQ)(σ :St)(H:AE)(v:V)(u:A7)(Q:St->AE->Prop),θ->RelV v u->t v σ H Q->
  An ο X.A (Kz target X.env u) (λ_ s'=>∃ σ' A9,Inv X A3 σ' A9 s'/\Q σ' A9) X.D1 s
noncomputable def LD(X:Ar)(ts:↑Al)(t:OE):Prop:=
 ∀(A3:ν)(s:AQ)(σ :St)(H:AE)(vs:↑V)(us:↑A7)(Q:St->AE->Prop),θ->Vals vs us->t vs σ H Q->
  An ο X.A (assignInOrder ((Lh ts X.env).map (·.2)) us) (λ_ s'=>∃ σ' A9,Inv X A3 σ' A9 s'/\Q σ' A9) X.D1 s
abbrev cJ:=V->V->V->AE->(AE->Prop)->Prop
noncomputable def hZ(X:Ar)(t:cJ):Prop:=
 ∀(A3:ν)(s:AQ)(σ :St)(H:AE)(o i v:V)(CF H4 u:A7)(Q:AE->Prop),θ->RelV o CF->RelV i H4->RelV v u->t o i v H Q->
  An ο X.A (setItem CF H4 u) (λ_ s'=>∃A9,Inv X A3 σ A9 s'/\Q A9) X.D1 s
section
variable{X:Ar}{pos:Pos}
def Yj(i:Nat):Jx:=λv σ H Q=>Q (σ.set i ↥v) H
def WM{i:Nat}{x:Str}(hN:X.N.Nodup)(AD:X.N[i]?=↥x)(AM:Loc X.env.scope x)(hf:X.fn x=true\/X.env.scope.names.lookup x=↥.local:=by first|exact .inl rfl|exact .inr rfl|assumption):HF X (.Name x pos) (Yj i):=by intro A3 s σ H v u Q J r h;exact wpAny_assign_Name (ft J hN AD AM r (λs' FM=>⟨_,H,FM,h⟩) hf)
def j3:OE:=λvs σ H Q=>vs=[]/\Q σ H
noncomputable def j2(t:Jx)(u:OE):OE:=λvs σ H Q=>∃v r,vs=v::r/\t v σ H λσ' A9=>u r σ' A9 Q
def me:LD X [] j3:=by intro A3 s σ H vs us Q J r h;obtain⟨e,h⟩:=h;subst e;cases r;exact assignInOrder_nil ⟨σ,H,J,h⟩
def ea{e:Al}{es:↑Al}{t:Jx}{u:OE}(h1:HF X e t)(h2:LD X es u)(AO:(Lh (e::es) X.env).map (·.2)=Kz e X.env::(Lh es X.env).map (·.2):=by rfl):LD X (e::es) (j2 t u):=by
 intro A3 s σ H vs us Q J r h;obtain⟨v,qk,AC,h⟩:=h;subst AC;cases r with
 |cons r KO=>rw[AO];refine assignInOrder_cons (BS (h1 A3 s σ H _ _ _ J r h) λ_ s1⟨σ1,H1,Ac,q1⟩=>?_);exact h2 A3 s1 σ1 H1 _ _ Q Ac KO q1
noncomputable def j5(K:As)(n:Nat)(t:OE):Jx:=λv σ H Q=>∃a xs,v=.ref a/\EW K H a xs/\ ⇑xs=n/\t xs σ H Q
def md{es:↑Al}{k:Nat}{t:OE}{n:Nat}(AI:X.calm=true)(h:LD X es t)(AZ:⇑(Lh es X.env)=n:=by rfl)(Fp:(Lh es X.env).findIdx? (·.1)=none:=by rfl):HF X (.Tuple es k pos) (j5 X.K n t):=by intro A3 s σ H v u Q J r hw;obtain⟨a,xs,AC,AY,AG,hw⟩:=hw;subst AC;cases r;obtain⟨its,C0,BV,hz⟩:=J.tuple AY;refine assign_Tuple_tuple (J.ok.hd AI) BV (by simp[AZ,<-AG,⇑C0]) Fp λh' AM=>?_;have Ac:Inv X A3 σ H { s with heap:=h' }:=J.kept (t':=s.toks) λb o e=>AM b o (Et (Dc e)) e;exact h A3 _ σ H xs _ Q Ac (C0:) hw
noncomputable def j4(to ae:TE)(t:cJ):Jx:=λv σ H Q=>to σ H λo H1=>ae σ H1 λi AU=>t o i v AU λBv=>Q σ Bv
def acj {o i:Al} {to ae:TE} {t:cJ} (ho:Ag X o to) (AD:Ag X i ae) (AO:hZ X t)(AF:∀v,Kz (.Subscript o i pos) X.env v=(do
    let CF <-JF [v] (Bc o X.env)
    let H4 <-JF [v,CF] (Bc i X.env)
    MU pos
    JF [v,CF,H4] (setItem CF H4 v)
    release [v,CF,H4] []):=by intro _;rfl):HF X (.Subscript o i pos) (j4 to ae t):=by
 intro A3 s σ H v u Q J r h;rw[AF];refine Ad (MR (BS (ho A3 s σ H _ J h) λCF s1⟨x,H1,Ac,Av,q1⟩=>?_));refine Ad (MR (BS (AD A3 s1 σ H1 _ Ac q1) λH4 s2⟨y,AU,BN,BJ,q2⟩=>?_));refine Ad (wpAny_standAt (Ad (MR (BS (AO A3 s2 σ AU x y v CF H4 u _ BN Av BJ r q2) λ_ s3⟨Bv,Cx,Ea⟩=>?_))));exact wpAny_release ⟨σ,Bv,Cx,Ea⟩
noncomputable def fw(te:TE)(g:Jx):F3:=λD σ H=>te σ H λx H1=>g x σ H1 D.AR
def mv{C1 e:Al}{te:TE}{g:Jx}(he:Ag X e te)(Aj:HF X C1 g)(AO:swapsWithSole [C1] e pos.line X.env=pure false:=by rfl)(hw:swappedStores [C1] e X.env=pure none:=by rfl)(h1:(Lh [C1] X.env).map (·.2)=[Kz C1 X.env]:=by rfl):DO X (.Assign [C1] e pos) (fw te g):=by intro A3 s σ H D J h;refine wpAny_Assign_stores (BS (he A3 s σ H _ J h) λv s1⟨x,H1,Ac,Av,q1⟩=>?_) AO hw;rw[h1];exact BS (Aj A3 s1 σ H1 x v _ Ac Av q1) λ_ s2 q=>q
def aeE{i:Nat}{x:Str}{e:Al}{te:TE}{pos':Pos}(hN:X.N.Nodup)(AD:X.N[i]?=↥x)(AM:Loc X.env.scope x)(he:Ag X e te)(AO:NE e ↥(.Name x pos') pos.line X.env=pure false:=by rfl)(hf:X.fn x=true\/X.env.scope.names.lookup x=↥.local:=by first|exact .inl rfl|exact .inr rfl|assumption) :
  DO X (.Assign [.Name x pos'] e pos) (fw te (Yj i)):=by
 intro A3 s σ H D J h;refine wpAny_Assign_Name (BS (he A3 s σ H _ J h) λv s1⟨y,H1,Ac,Av,q1⟩=>?_) AO;exact ft Ac hN AD AM Av (λs2 BN=>⟨_,H1,BN,q1⟩) hf
end
section
variable{X:Ar}{pos:Pos}
noncomputable def qU(c:TT)(tb:F3):F3:=λD σ H=>∃W:Nat->St->AE->Prop,(∃m,W m σ H)/\∀m σ H,W m σ H->
 c σ H λb H1=>if b=true then ∃N:St->AE->Prop,(∀ σ' A9,N σ' A9->∃EA,EA<m/\W EA σ' A9)/\tb { D with AR:=N,DL:=N,B_:=D.AR } σ H1 else D.AR σ H1
def aeG{c:Al}{body:↑BG}{HA:TT}{tb:F3}(AV:PassesOwn ο X.A X.env X.D1)(AI:EU X c HA)(A4:HG X body tb):DO X (.While c body [] pos) (qU HA tb):=by
 intro A3 s σ H D J h;obtain⟨W,⟨m0,K8⟩,turn⟩:=h;refine wpAny_While (codeAny_whileLoop (λn s'=>∃ σ' A9,Inv X A3 σ' A9 s'/\W n σ' A9) ?_ m0 ⟨σ,H,J,K8⟩);rintro n s1 ⟨σ1,H1,Ac,GB⟩;refine Qb AV (BS (AI A3 s1 σ1 H1 _ Ac (turn n σ1 H1 GB)) λb s2⟨AU,BN,q2⟩=>?_);cases b with
 |true=>
  obtain⟨N,hN,q2⟩:=q2;rw[if_pos rfl];refine Qb AV (BS (A4 A3 s2 σ1 AU _ BN q2) λf s3 Ea=>?_);cases f with
  |next=>obtain⟨σ3,Bv,Cx,Rn⟩:=Ea;obtain⟨EA,hm,Wx⟩:=hN σ3 Bv Rn;exact⟨EA,hm,σ3,Bv,Cx,Wx⟩
  |cont=>obtain⟨σ3,Bv,Cx,Rn⟩:=Ea;obtain⟨EA,hm,Wx⟩:=hN σ3 Bv Rn;exact⟨EA,hm,σ3,Bv,Cx,Wx⟩
  |brk=>exact Ea
  |ret v=>exact Ea
 |false=>rw[if_neg Kt];exact S5 ⟨σ1,AU,BN,q2⟩
end
structure It where
 go:Nat->AE->Prop
 X3:Nat->AE->V->AE->Prop
 stop:Nat->AE->Prop
noncomputable def KY(X:Ar)(A3:ν)(H:AE)(b:A6):Prop:=
 H b=none/\b≠X.env.locals/\b∉X.BB/\(b∈X.ex\/X.G8.heap.objs.size<=b)/\(∀x c,X.env.cells.lookup x=↥c->c≠b)/\∀p∈X.Ci++A3,p.1≠b
def Inv.M_{X:Ar}{A3:ν}{σ :St}{H A9:AE}{s:AQ}{b:A6}(J:θ)(A4:s.heap.objs.size<=b)(AZ:A9 b=none):KY X A3 A9 b:=by
 refine⟨AZ,Qi (GD J.lt A4),J.ac9 A4,.inr (Im J.QQ A4),λx c e z=>?_,λp AV z=>?_⟩
 .obtain⟨v,q⟩:=J.cell x c e;exact absurd (GD q.lt (by rw[z];exact A4)) (Jg _)
 .exact absurd (GD (Dc (J.pin p AV).1) (by rw[z];exact A4)) (Jg _)
structure Turn(P:C5)(w:Bo)(K:As)(C1:Al)(BC:It)(BP:↑A6)(it:A6)(HU:Nat->BH->Prop):Prop where
 mem:it∈BP
 obj:∀i h,HU i h->∀b∈BP,∃o,h.get? b=↥o/\∀v,o.data≠.cell v
 keep:∀i h h',HU i h->(∀b∈BP,∀o,h.get? b=↥o->h'.get? b=↥o)->HU i h'
 item:∀(X:Ar),X.prog=P->X.w=w->X.K=K->X.calm=true->∀(i:Nat)(A3:ν)(s:AQ)(σ :St)(H:AE)(E:A7->AQ->Prop),θ->(∀b∈BP,KY X A3 H b)->HU i s.heap->BC.go i H->
  An (B2 P w) X.A (O8 (.ref it)) (λr s1=>∃u,r=↥u/\
   An (B2 P w) X.A (Xd C1 (.ref it) u) (λ_ s2=>∃x A9,Inv X A3 σ A9 s2/\RelV x u/\BC.X3 i H x A9/\HU (i+1) s2.heap/\∀b∈BP,A9 b=none) E s1) E s
 done:∀(X:Ar),X.prog=P->X.w=w->X.K=K->X.calm=true->∀(i:Nat)(A3:ν)(s:AQ)(σ :St)(H:AE)(E:A7->AQ->Prop),θ->(∀b∈BP,KY X A3 H b)->HU i s.heap->BC.stop i H->
  An (B2 P w) X.A (O8 (.ref it)) (λr s1=>r=none/\Inv X A3 σ H s1) E s
 self:∀(A:DA)(i:Nat)(s:AQ)(Q:A7->AQ->Prop)(E:A7->AQ->Prop),HU i s.heap->Q (.ref it) s->An (B2 P w) A (pyIter (.ref it)) Q E s
abbrev TI:=St->AE->(It->AE->Prop)->Prop
noncomputable def hX(X:Ar)(A3:ν)(σ :St)(C1:Al)(R:It->AE->Prop)(aB:A7)(s2:AQ):Prop:=
 ∃(it:A6)(BP:↑A6)(HU:Nat->BH->Prop)(BC:It)(A9:AE),aB=.ref it/\Inv X A3 σ A9 s2/\Turn X.prog X.w X.K C1 BC BP it HU/\HU 0 s2.heap/\(∀b∈BP,KY X A3 A9 b)/\R BC A9
noncomputable def HY(X:Ar)(C1 iter:Al)(IW:TI):Prop:=
 ∀(A3:ν)(s:AQ)(σ :St)(H:AE)(R:It->AE->Prop),θ->IW σ H R->
  An ο X.A (Bc iter X.env) (λv s1=>An ο X.A (pyIter v) (hX X A3 σ C1 R) X.D1 s1) X.D1 s
def TQ{M:Model}{A:DA}{E:A7->AQ->Prop}{s:AQ}{C1:Al}{it:A6}{u:A7}{o:Obj}{n:String}{vs:Array A7}{Q:Unit->AQ->Prop}(ho:s.heap.get? it=↥o)(AI:o.cls=.type n)(hd:o.data=.fields vs)(AZ:["enumerate","zip","dict_itemiterator","dict_reverseitemiterator","odict_iterator","itertools.zip_longest","itertools.pairwise"].contains n=false)(FV:Q () s):An M A (Xd C1 (.ref it) u) Q E s:=by
 unfold Xd
 cases C1<;>first
  |exact BZ FV
  |(cases u<;>first
      |exact BZ FV
      |(refine Ad (wpAny_load ho ?_)
        rw[AI,hd];show An M A (if(["enumerate","zip","dict_itemiterator","dict_reverseitemiterator","odict_iterator","itertools.zip_longest","itertools.pairwise"].contains n&&vs[0]?==↥(NG _))=true then _ else _) Q E s;rw[if_neg (by intro h;rw[AZ,Bool.false_and]at h;cases h)];exact BZ FV))
noncomputable def c5(K:As)(a:A6):It:=
 ⟨λi H=>∃xs x,EV K H a xs/\xs[i]?=↥x,λi H x A9=>A9=H/\∀xs,EV K H a xs->xs[i]?=↥x,λi H=>∃xs,EV K H a xs/\ ⇑xs<=i⟩
noncomputable def c8(K:As)(a:A6):It:=
 ⟨λi H=>∃xs x,EW K H a xs/\xs[i]?=↥x,λi H x A9=>A9=H/\∀xs,EW K H a xs->xs[i]?=↥x,λi H=>∃xs,EW K H a xs/\ ⇑xs<=i⟩
noncomputable def Us(lo:Int)(n:Nat):It:=⟨λi _=>i<n,λi H x A9=>A9=H/\x=.int (lo+i),λi _=>n<=i⟩
def ag1{P:C5}{w:Bo}{K:As}{C1:Al}(a it:A6):Turn P w K C1 (c5 K a) [it] it (λi h=>h.IsListIter it a i) where
 mem:=γ
 obj:=λi h st b A4=>by
  have e:b=it:=(A4:)
  subst e;obtain⟨o,e,c,d⟩:=st;exact⟨o,e,λv z=>by rw[d]at z;cases z⟩
 keep:=λi h h' st k=>st.at λo e=>k it γ o e
 item:=by nofun;obtain⟨xs,x,AY,AM⟩:=Aj;obtain⟨its,C0,p,hz⟩:=J.list AY;obtain⟨u,BQ,Fj⟩:=C0.get AM;obtain⟨f0,f1,f2,Ey,f4,G5⟩:=hf it γ;refine wpAny_pyNext_list_item st p.isList (x:=u) (BQ:) λh' Gp Fk=>?_;have Ac:Inv X A3 σ H { s with heap:=h' }:=J.turned (t':=s.toks) (λb o A4 e=>(Fk.2 b A4).trans e) f0 f1 Ey f4 G5;obtain⟨o,e,c,d⟩:=id Gp;exact⟨u,rfl,TQ (s:={ s with heap:=h' }) e c d ε ⟨x,H,Ac,Fj,⟨rfl,λys AS=>by rw[J.dx AS AY];exact AM⟩,Gp,λb A4=>(hf b A4).1⟩⟩
 done:=by nofun;obtain⟨xs,AY,AM⟩:=Aj;obtain⟨its,C0,p,hz⟩:=J.list AY;obtain⟨f0,f1,f2,Ey,f4,G5⟩:=hf it γ;have AG:=⇑C0;exact wpAny_pyNext_list_end (J.ok.hd AI) st p.isList (by simp;lia) λh' BI=>⟨rfl,J.turned (t':=s.toks) (λb o A4 e=>BI b o A4 e) f0 f1 Ey f4 G5⟩
 self:=λ_ _ _ _ _ st h=>wpAny_pyIter_listiter st h
def ag5{P:C5}{w:Bo}{K:As}{C1:Al}(a it:A6):Turn P w K C1 (c8 K a) [it] it (λi h=>h.IsTupleIter it a i) where
 mem:=γ
 obj:=λi h st b A4=>by
  have e:b=it:=(A4:)
  subst e;obtain⟨o,e,c,d⟩:=st;exact⟨o,e,λv z=>by rw[d]at z;cases z⟩
 keep:=λi h h' st k=>st.at λo e=>k it γ o e
 item:=by nofun;obtain⟨xs,x,AY,AM⟩:=Aj;obtain⟨its,C0,p,hz⟩:=J.tuple AY;obtain⟨u,BQ,Fj⟩:=C0.get AM;obtain⟨f0,f1,f2,Ey,f4,G5⟩:=hf it γ;refine wpAny_pyNext_tuple_item st (show s.heap.IsTuple a its.toArray from p) (x:=u) (BQ:) λh' Gp Fk=>?_;have Ac:Inv X A3 σ H { s with heap:=h' }:=J.turned (t':=s.toks) (λb o A4 e=>(Fk.2 b A4).trans e) f0 f1 Ey f4 G5;obtain⟨o,e,c,d⟩:=id Gp;exact⟨u,rfl,TQ (s:={ s with heap:=h' }) e c d ε ⟨x,H,Ac,Fj,⟨rfl,λys AS=>by rw[J.g8 AS AY];exact AM⟩,Gp,λb A4=>(hf b A4).1⟩⟩
 done:=by nofun;obtain⟨xs,AY,AM⟩:=Aj;obtain⟨its,C0,p,hz⟩:=J.tuple AY;obtain⟨f0,f1,f2,Ey,f4,G5⟩:=hf it γ;have AG:=⇑C0;exact wpAny_pyNext_tuple_end (J.ok.hd AI) st (show s.heap.IsTuple a its.toArray from p) (by simp;lia) λh' BI=>⟨rfl,J.turned (t':=s.toks) (λb o A4 e=>BI b o A4 e) f0 f1 Ey f4 G5⟩
 self:=λ_ _ _ _ _ st h=>wpAny_pyIter_tupleiter st h
def ag3{P:C5}{w:Bo}{K:As}{C1:Al}(it:A6)(lo:Int)(n:Nat):Turn P w K C1 (Us lo n) [it] it (λi h=>IsRangeIter h it (lo+(i:Nat)*1) ((n:Int)-(i:Nat)) 1) where
 mem:=γ
 obj:=λi h st b A4=>by
  have e:b=it:=(A4:)
  subst e;exact⟨_,st,λv z=>by have FE:Xi _=SJ v:=z;cases FE⟩
 keep:=λi h h' st k=>k it γ _ st
 item:=by nofun;obtain⟨f0,f1,f2,Ey,f4,G5⟩:=hf it γ;have W:=Walks.range (prog:=X.prog) (w:=X.w) (J.ok.hd AI) it lo 1 n;refine W.item i s _ _ Aj st λv h' CW Bk Gp FX=>?_;obtain⟨t,rfl⟩:=Bk;have Ac:Inv X A3 σ H { s with heap:=h',toks:=CW }:=J.turned (λb o A4 e=>FX b o (A4:) e) f0 f1 Ey f4 G5;refine⟨_,rfl,TQ (s:={ s with heap:=h',toks:=CW }) (n:="range_iterator") Gp rfl rfl ε ⟨.int (lo+i),H,Ac,⟨t,?_⟩,⟨rfl,rfl⟩,Gp,λb A4=>(hf b A4).1⟩⟩;rw[Int.mul_one]
 done:=by nofun;obtain⟨f0,f1,f2,Ey,f4,G5⟩:=hf it γ;exact wpAny_pyNext_range_end (J.ok.hd AI) st (by have:n<=i:=Aj;lia) λh' BI=>⟨rfl,J.turned (t':=s.toks) (λb o A4 e=>BI b o A4 e) f0 f1 Ey f4 G5⟩
 self:=λ_ _ _ _ _ st h=>wpAny_pyIter_rangeiter st h
section
variable{X:Ar}{C1:Al}
def lj{A3:ν}{σ :St}{H:AE}{s:AQ}{R:It->AE->Prop}{E:A7->AQ->Prop}{lo AD:Int}{t u v:Tok}{CW:Nat}(J:θ)(h1: -(2^62)<=lo)(h2:lo<2^62)(BO: -(2^62)<=AD)(Cc:AD<2^62)(q:R (Us lo (AD-lo).toNat) H):An ο X.A (pyIter (.ref s.heap.objs.size)) (hX X A3 σ C1 R) E { s with heap:=s.heap.push { cls:=.type "range",data:=.fields #[.int lo t,.int AD u,.int 1 v] },toks:=CW }:=by
 refine wpAny_pyIter_range (IsRange.new ..) (small_one h1 h2 BO Cc) ?_;have Ac:Inv X A3 σ H { s with heap:=s.heap.push { cls:=.type "range",data:=.fields #[.int lo t,.int AD u,.int 1 v] },toks:=CW }:=J.kept λb o e=>Cr _ e
 refine⟨(s.heap.push { cls:=.type "range",data:=.fields #[.int lo t,.int AD u,.int 1 v] }).objs.size,[(s.heap.push { cls:=.type "range",data:=.fields #[.int lo t,.int AD u,.int 1 v] }).objs.size],_,_,H,rfl,
  Ac.kept (t':=CW) λb o e=>Cr _ e,ag3 _ lo (AD-lo).toNat,?_,λb A4=>?_,q⟩
 .have AC:lo+((0:Nat):Int)*1=lo:=γ
  have AH:(((AD-lo).toNat:Nat):Int)-((0:Nat):Int)=rP lo AD 1:=by rw[rangeSize_one];split<;>lia
  show IsRangeIter _ _ (lo+((0:Nat):Int)*1) ((((AD-lo).toNat:Nat):Int)-((0:Nat):Int)) 1;rw[AC,AH];exact FP _ rfl
 .have e:b=(s.heap.push { cls:=.type "range",data:=.fields #[.int lo t,.int AD u,.int 1 v] }).objs.size:=by simpa using A4
  subst e;exact Ac.M_ (C9 _) (Ac.B0.fresh (C9 _))
noncomputable def y0(Bu:Fd):TI:=λσ H R=>Bu σ H λvs H1=>∃j:Int,vs=[.int j]/\-(2^62)<=j/\j<2^62/\R (Us 0 j.toNat) H1
noncomputable def yz(Bu:Fd):TI:=λσ H R=>Bu σ H λvs H1=>∃i j:Int,vs=[.int i,.int j]/\(-(2^62)<=i/\i<2^62/\-(2^62)<=j/\j<2^62)/\R (Us i (j-i).toNat) H1
def aco{a:Al}{Bu:Fd}{p pos:Pos}(Aj:ET X "range")(hm:X.mg "range"=none)(AF:Gz X [a] Bu)(AO:CK [a] X.env=[(false,Bc a X.env)]:=by rfl):HY X C1 (.Call (.Name "range" p) [a] [] pos) (y0 Bu):=by
 intro A3 s σ H R J h;refine Call_ (Oh J Aj hm boot_range (QZ (BS (AF pos A3 s σ H _ J h) λus s1⟨vs,H1,Ac,Av,q1⟩=>?_) AO rfl));obtain⟨j,e,q1,q2,q⟩:=q1;subst e;cases Av with
 |cons r KO=>cases KO;obtain⟨t,rfl⟩:=r;exact call_range_1 (lj Ac δ δ q1 q2 (q:))
def acp{a b:Al}{Bu:Fd}{p pos:Pos}(Aj:ET X "range")(hm:X.mg "range"=none)(AF:Gz X [a,b] Bu)(AO:CK [a,b] X.env=[(false,Bc a X.env),(false,Bc b X.env)]:=by rfl)(Hm:CK [b] X.env=[(false,Bc b X.env)]:=by rfl) :
  HY X C1 (.Call (.Name "range" p) [a,b] [] pos) (yz Bu):=by
 intro A3 s σ H R J h;refine Call_ (Oh J Aj hm boot_range (QZ (BS (AF pos A3 s σ H _ J h) λus s1⟨vs,H1,Ac,Av,q1⟩=>?_) (by rw[AO,Hm]) (by rw[Hm];rfl)));obtain⟨i,j,e,⟨q1,q2,Ea,KM⟩,q⟩:=q1;subst e;cases Av with
 |cons r KO=>
  cases KO with
  |cons Bf KO=>cases KO;obtain⟨t,rfl⟩:=r;obtain⟨t',rfl⟩:=Bf;exact call_range_2 (lj Ac q1 q2 Ea KM q)
noncomputable def aV(IW:TI)(g:Jx)(tb:F3):F3:=λD σ H=>IW σ H λBC H1=>∃W:Nat->Nat->St->AE->Prop,(∃m,W 0 m σ H1)/\∀i m σ H,W i m σ H->
 (BC.stop i H/\D.AR σ H)\/(BC.go i H/\∃N:St->AE->Prop,(∀ σ' A9,N σ' A9->∃EA,EA<m/\W (i+1) EA σ' A9)/\∀x A9,BC.X3 i H x A9->g x σ A9 λσ2 AU=>tb { D with AR:=N,DL:=N,B_:=D.AR } σ2 AU)
noncomputable def WN(BP:↑A6)(h:BH):ν:=BP.filterMap λb=>(h.get? b).map λo=>(b,o)
def Zh{BP:↑A6}{h:BH}{b:A6}{o:Obj}(A4:b∈BP)(e:h.get? b=↥o):(b,o)∈WN BP h:=List.mem_filterMap.mpr ⟨b,A4,by rw[e];rfl⟩
def abZ{BP:↑A6}{h:BH}{p:A6×Obj}(AV:p∈WN BP h):p.1∈BP/\h.get? p.1=↥p.2:=by
 obtain⟨b,A4,e⟩:=List.mem_filterMap.mp AV;cases q:h.get? b with
 |none=>rw[q]at e;cases e
 |some o=>rw[q]at e;have Ba:(b,o)=p:=GC e;subst Ba;exact⟨A4,q⟩
def Inv.pinned{A3:ν}{σ :St}{H:AE}{s:AQ}{BP:↑A6}(J:θ)(hf:∀b∈BP,KY X A3 H b)(ho:∀b∈BP,∃o,s.heap.get? b=↥o/\∀v,o.data≠.cell v):Inv X (A3++WN BP s.heap) σ H s:=
 J.mj λp AV=>(List.mem_append.mp AV).elim (λz=>J.pin p (Hw _ z)) λz=>by obtain⟨A4,e⟩:=abZ z;obtain⟨f0,f1,f2,_⟩:=hf p.1 A4;obtain⟨o,Ba,d⟩:=ho p.1 A4;rw[e]at Ba;cases Ba;exact⟨e,f0,f1,f2,d⟩
def Inv.aj{A3 pl:ν}{σ :St}{H:AE}{s:AQ}(J:Inv X (A3++pl) σ H s):θ:=J.mj λp AV=>J.pin p (Hw _ (JC _ AV))
def ek{iter:Al}{body:↑BG}{IW:TI}{g:Jx}{tb:F3}{pos:Pos}(AV:PassesOwn ο X.A X.env X.D1)(AI:X.calm=true)(AD:HY X C1 iter IW)(Aj:HF X C1 g)(A4:HG X body tb)(AO:∀x,ML iter X.env x=pure x:=by intro _;rfl):DO X (.For C1 iter body [] pos) (aV IW g tb):=by
 intro A3 s σ H D J h;refine wpAny_For (BS (AD A3 s σ H _ J h) λv s1 h1=>BS h1 λaB s2 h2=>?_) AO;obtain⟨it,BP,HU,BC,AU,e,BN,T,Js,f2,W,⟨m0,K8⟩,turn⟩:=h2;subst e;have stat:∀{A9:AE},(∀b∈BP,A9 b=none)->∀b∈BP,KY X A3 A9 b:=λAZ b A4=>⟨AZ b A4,(f2 b A4).2⟩;refine codeAny_forLoop_any (λn s'=>∃i σ' A9,Inv X A3 σ' A9 s'/\HU i s'.heap/\(∀b∈BP,A9 b=none)/\W i n σ' A9) ?_ m0 ⟨0,σ,AU,BN,Js,λb A4=>(f2 b A4).1,K8⟩;rintro n s3 ⟨i,σ3,Bv,Cx,pc,iz,Wx⟩;rcases turn i n σ3 Bv Wx with⟨stop,qn⟩|⟨go,N,hN,DT⟩
 .refine Qb AV (BS (T.done X rfl rfl rfl AI i A3 s3 σ3 Bv X.D1 Cx (stat iz) pc stop) λr s4⟨BF,Lz⟩=>?_);subst BF;exact S5 ⟨σ3,Bv,Lz,qn⟩
 .refine Qb AV (BS (T.item X rfl rfl rfl AI i A3 s3 σ3 Bv X.D1 Cx (stat iz) pc go) λr s4⟨u,BF,Cc⟩=>?_);subst BF;refine Qb AV (BS Cc λ_ s5⟨x,Dx,OA,Rr,fh,UC,Yh⟩=>?_);have tE:=OA.pinned (stat Yh) (T.obj _ _ UC);refine Qb AV (BS (Aj _ s5 σ3 Dx x u _ tE Rr (DT x Dx fh)) λ_ s6⟨σ6,I_,RS,Pf⟩=>?_);refine Qb AV (BS (A4 _ s6 σ6 I_ _ RS Pf) λf s7 LL=>?_);have again:∀{σ7:St}{Dl:AE},Inv X (A3++WN BP s5.heap) σ7 Dl s7->N σ7 Dl->∃m,m<n/\∃i σ' A9,Inv X A3 σ' A9 s7/\HU i s7.heap/\(∀b∈BP,A9 b=none)/\W i m σ' A9:=λ{σ7 Dl} LB W7=>by
   obtain⟨EA,hm,af_⟩:=hN σ7 Dl W7;refine⟨EA,hm,i+1,σ7,Dl,LB.aj,T.keep _ _ _ UC λb A4 o e=>(LB.pin (b,o) (Hw _ (Hw _ (Zh A4 e)))).1,λb A4=>?_,af_⟩;obtain⟨o,e,d⟩:=T.obj _ _ UC b A4;exact(LB.pin (b,o) (Hw _ (Hw _ (Zh A4 e)))).2.1
  cases f with
  |next=>obtain⟨σ7,Dl,LB,W7⟩:=LL;exact again LB W7
  |cont=>obtain⟨σ7,Dl,LB,W7⟩:=LL;exact again LB W7
  |brk=>obtain⟨σ7,Dl,LB,LL⟩:=LL;exact⟨σ7,Dl,LB.aj,LL⟩
  |ret v=>obtain⟨afi,σ7,Dl,LB,Rs,LL⟩:=LL;exact⟨afi,σ7,Dl,LB.aj,Rs,LL⟩
end
abbrev En:=V->V->AE->CR->Prop
noncomputable def Do(X:Ar)(f:A7->A7->Sem A7)(r:En):Prop:=
 ∀(A3:ν)(s:AQ)(σ :St)(H:AE)(x y:V)(v u:A7)(Q:CR),θ->RelV x v->RelV y u->r x y H Q->
  An ο X.A (f v u) (Gw X A3 σ Q) X.D1 s
noncomputable def bV(X:Ar)(f:A7->Sem A7)(r:V->AE->CR->Prop):Prop:=
 ∀(A3:ν)(s:AQ)(σ :St)(H:AE)(x:V)(v:A7)(Q:CR),θ->RelV x v->r x H Q->
  An ο X.A (f v) (Gw X A3 σ Q) X.D1 s
noncomputable def JU(X:Ar)(f:A7)(r:↑V->AE->CR->Prop):Prop:=
 ∀(A3:ν)(s:AQ)(σ :St)(H:AE)(xs:↑V)(us:↑A7)(Q:CR),θ->Vals xs us->r xs H Q->
  An ο X.A (call f us) (Gw X A3 σ Q) X.D1 s
noncomputable def sd(X:Ar)(r:V->AE->(Bool->AE->Prop)->Prop):Prop:=
 ∀(A3:ν)(s:AQ)(σ :St)(H:AE)(x:V)(v:A7)(Q:Bool->AE->Prop),θ->RelV x v->r x H Q->
  An ο X.A (truthy v) (YF X A3 σ Q) X.D1 s
noncomputable def Tk(r:En)(Bu tb:TE):TE:=λσ H Q=>Bu σ H λx H1=>tb σ H1 λy AU=>r x y AU Q
noncomputable def qS(r:V->AE->CR->Prop)(Bu:TE):TE:=λσ H Q=>Bu σ H λx H1=>r x H1 Q
noncomputable def IS(C:Int->Int->Prop)(g:Int->Int->V):En:=λx y H Q=>∃i j,x=.int i/\y=.int j/\C i j/\Q (g i j) H
noncomputable def LM(g:Int->Int->V):En:=λx y H Q=>∃i j,x=.int i/\y=.int j/\Q (g i j) H
noncomputable def lh(g:Int->V):V->AE->CR->Prop:=λx H Q=>∃i,x=.int i/\Q (g i) H
section
variable{X:Ar}{a b c:Al}{Bu tb HA:TE}{pos:Pos}
def d8(AF:Ag X a Bu)(A4:Ag X b tb){A3:ν}{s:AQ}{σ :St}{H:AE}{R:V->V->AE->Prop}(J:θ)(h:Bu σ H λx H1=>tb σ H1 λy AU=>R x y AU){Q:A7->AQ->Prop}{f:A7->A7->Sem A7}(hf:∀v u s2 x y AU,Inv X A3 σ AU s2->RelV x v->RelV y u->R x y AU->An ο X.A (f v u) Q X.D1 s2) :
  An ο X.A (Bc a X.env) (λv Cw=>An ο X.A (Bc b X.env) (λu JQ=>An ο X.A (f v u) Q X.D1 JQ) X.D1 Cw) X.D1 s:=by
 refine BS (AF A3 s σ H _ J h) λv s1⟨x,H1,Ac,Av,q1⟩=>?_;refine BS (A4 A3 s1 σ H1 _ Ac q1) λu s2⟨y,AU,BN,BJ,q2⟩=>?_;exact hf v u s2 x y AU BN Av BJ q2
def Pe{op:Operator}{r:En}(ho:Do X (Jj op) r)(AF:Ag X a Bu)(A4:Ag X b tb):Ag X (.BinOp a op b pos) (Tk r Bu tb):=by intro A3 s σ H Q J h;exact wpAny_BinOp (d8 AF A4 J h λv u s2 x y AU BN Az Bm q=>ho A3 s2 σ AU x y v u Q BN Az Bm q)
def acf{op:UnaryOp}{r:V->AE->CR->Prop}(ho:bV X (unaryOp op) r)(AF:Ag X a Bu):Ag X (.UnaryOp op a pos) (qS r Bu):=by intro A3 s σ H Q J h;exact UnaryOp_ (BS (AF A3 s σ H _ J h) λv s1⟨x,H1,Ac,Av,q1⟩=>ho A3 s1 σ H1 x v Q Ac Av q1)
def WD{f:A7->A7->Sem A7}{C:Int->Int->Prop}{g:Int->Int->Int}(rule:∀(i j:Int)(t u:Tok)(s:AQ)(Q:A7->AQ->Prop)(E:A7->AQ->Prop),C i j->Q (.int (g i j) s.toks) { s with toks:=s.toks+1 }->An ο X.A (f (.int i t) (.int j u)) Q E s) :
  Do X f (IS C λi j=>.int (g i j)):=by
 intro A3 s σ H x y v u Q J Az Bm h;obtain⟨i,j,rfl,rfl,AI,q⟩:=h;obtain⟨t,rfl⟩:=Az;obtain⟨t',rfl⟩:=Bm;exact rule i j t t' s _ _ AI ⟨.int (g i j),H,J.tok _,⟨_,rfl⟩,q⟩
def fN{f:A7->A7->Sem A7}{g:Int->Int->Int}(rule:∀(i j:Int)(t u:Tok)(s:AQ)(Q:A7->AQ->Prop)(E:A7->AQ->Prop),Q (.int (g i j) s.toks) { s with toks:=s.toks+1 }->An ο X.A (f (.int i t) (.int j u)) Q E s) :
  Do X f (LM λi j=>.int (g i j)):=by
 intro A3 s σ H x y v u Q J Az Bm h;obtain⟨i,j,rfl,rfl,q⟩:=h;obtain⟨t,rfl⟩:=Az;obtain⟨t',rfl⟩:=Bm;exact rule i j t t' s _ _ ⟨.int (g i j),H,J.tok _,⟨_,rfl⟩,q⟩
def ZM{f:A7->A7->Sem A7}{g:Int->Int->Bool}(rule:∀(i j:Int)(t u:Tok)(s:AQ)(Q:A7->AQ->Prop)(E:A7->AQ->Prop),Q (.bool (g i j)) s->An ο X.A (f (.int i t) (.int j u)) Q E s) :
  Do X f (LM λi j=>.AL (g i j)):=by
 intro A3 s σ H x y v u Q J Az Bm h;obtain⟨i,j,rfl,rfl,q⟩:=h;obtain⟨t,rfl⟩:=Az;obtain⟨t',rfl⟩:=Bm;exact rule i j t t' s _ _ ⟨.AL (g i j),H,J,rfl,q⟩
def SX(i j:Int):Prop:=0<j/\j<1073741824
def OL(i j:Int):Prop:=0<=j/\j<=1000000/\i.natAbs<2^64
noncomputable def L6(i j:Int):Prop:=(-(2^64)<i/\i<2^64)\/(-(2^64)<j/\j<2^64)
def L6.ok{i j:Int}(h:L6 i j):IntMulOk i j:=by
 rcases h with⟨h1,h2⟩|⟨h1,h2⟩
 .exact .of_left (intBits_le_64 h1 h2)
 .exact .of_right (intBits_le_64 h1 h2)
def ag8(k:Nat):(0:Int)<=2^k:=by rw[two_pow_cast];exact Int.natCast_nonneg _
def abN:Do X (Jj .Add) (LM λi j=>.int (i+j)):=fN λ_ _ _ _ _ _ _ q=>add_int q
def ad1:Do X (Jj .Sub) (LM λi j=>.int (i-j)):=fN λ_ _ _ _ _ _ _ q=>sub_int q
def acx:Do X (Jj .Mult) (IS L6 λi j=>.int (i*j)):=WD λ_ _ _ _ _ _ _ AI q=>mul_int q AI.ok
def abT:Do X (Jj .FloorDiv) (IS SX λi j=>.int (i/j)):=WD λi j _ _ _ _ _ AI q=>by have h1:(0:Int)<j:=AI.1;have h2:j<1073741824:=AI.2;exact floordiv_int δ (by rw[rT i δ];exact q) (.inl (PyProof.noPylong_small δ))
def abt:Do X (Jj .Mod) (IS (λ_ j=>0<j) λi j=>.int (i%j)):=WD λi j _ _ _ _ _ AI q=>by have h1:(0:Int)<j:=AI;exact mod_int' δ (by rw[Int.fmod_eq_emod_of_nonneg i δ];exact q)
def acy:Do X (Jj .Pow) (IS OL λi j=>.int (i^j.toNat)):=WD λ_ _ _ _ _ _ _ AI q=>pow_int_small AI.1 AI.2.1 AI.2.2 q
def ad0:Do X (Jj .RShift) (IS (λ_ j=>0<=j) λi j=>.int (i/2^j.toNat)):=WD λi j _ _ _ _ _ AI q=>
 rshift_int AI (by rw[rT i (ag8 _)];exact q)
def abQ:Do X (Jj .BitAnd) (LM λi j=>.int (Builtin.bitAnd i j)):=fN λ_ _ _ _ _ _ _ q=>and_int q
def agC{f:A7->Sem A7}{g:Int->Int}(rule:∀(i:Int)(t:Tok)(s:AQ)(Q:A7->AQ->Prop)(E:A7->AQ->Prop),Q (.int (g i) s.toks) { s with toks:=s.toks+1 }->An ο X.A (f (.int i t)) Q E s) :
  bV X f (lh λi=>.int (g i)):=by
 intro A3 s σ H x v Q J Az h;obtain⟨i,rfl,q⟩:=h;obtain⟨t,rfl⟩:=Az;exact rule i t s _ _ ⟨.int (g i),H,J.tok _,⟨_,rfl⟩,q⟩
def agD:bV X (unaryOp .USub) (lh λi=>.int (-i)):=agC λ_ _ _ _ _ q=>neg_int q
end
section
variable{X:Ar}{a b c:Al}{Bu tb HA:TE}{pos:Pos}
def iu{A3:ν}{σ :St}{H:AE}{s:AQ}{Q:CR}{k k':Bool}(J:θ)(q:Q (.AL k) H)(e:k=k'):Gw X A3 σ Q (.bool k') s:=by subst e;exact⟨.AL k,H,J,rfl,q⟩
def Zp:Do X (G3 .Lt) (LM λi j=>.AL (decide (i<j))):=ZM λ_ _ _ _ _ _ _ q=>lt_int q
def Pd:Do X (G3 .LtE) (LM λi j=>.AL (decide (i<=j))):=ZM λ_ _ _ _ _ _ _ q=>le_int q
def lH:Do X (G3 .Gt) (LM λi j=>.AL (decide (j<i))):=ZM λ_ _ _ _ _ _ _ q=>gt_int q
def kr:Do X (G3 .GtE) (LM λi j=>.AL (decide (j<=i))):=ZM λ_ _ _ _ _ _ _ q=>ge_int q
def mQ:Do X (G3 .Is) (λx y H Q=>y=.non/\Q (.AL (decide (x=.non))) H):=by
 intro A3 s σ H x y v u Q J Az Bm h;obtain⟨rfl,q⟩:=h;cases Bm;refine is_none_gen (iu J q ?_)
 cases x<;>first
  |(cases Az;rfl)
  |(obtain⟨t,rfl⟩:=Az;rfl)
def mS:Do X (G3 .IsNot) (λx y H Q=>y=.non/\Q (.AL (!decide (x=.non))) H):=by
 intro A3 s σ H x y v u Q J Az Bm h;obtain⟨rfl,q⟩:=h;cases Bm;refine isnot_none_gen (iu J q ?_)
 cases x<;>first
  |(cases Az;rfl)
  |(obtain⟨t,rfl⟩:=Az;rfl)
def Do.or{f:A7->A7->Sem A7}{r Bf:En}(h:Do X f r)(h':Do X f Bf):Do X f (λx y H Q=>r x y H Q\/Bf x y H Q):=by
 intro A3 s σ H x y v u Q J Az Bm q;rcases q with q|q
 .exact h A3 s σ H x y v u Q J Az Bm q
 .exact h' A3 s σ H x y v u Q J Az Bm q
def Hp(b:Al){op:CmpOp}(h:op≠.In:=by decide)(h2:op≠.NotIn:=by decide):MQ op b=false:=by
 have AC:(op==CmpOp.In)=false:=by cases op<;>first|rfl|exact absurd rfl h
 have AH:(op==CmpOp.NotIn)=false:=by cases op<;>first|rfl|exact absurd rfl h2
 cases b<;>simp[MQ,AC,AH]
def Lq{op:CmpOp}{r:En}(ho:Do X (G3 op) r)(AF:Ag X a Bu)(A4:Ag X b tb)(hm:MQ op b=false):Ag X (.Compare a [op] [b] pos) (Tk r Bu tb):=by intro A3 s σ H Q J h;exact wpAny_Compare1 (d8 AF A4 J h λv u s2 x y AU BN Az Bm q=>ho A3 s2 σ AU x y v u Q BN Az Bm q) hm
noncomputable def qQ(t:TE):TT:=λσ H Q=>t σ H λx A9=>∃k,x=.AL k/\Q k A9
def Ls{op:CmpOp}{r:En}(ho:Do X (G3 op) r)(AF:Ag X a Bu)(A4:Ag X b tb)(hm:MQ op b=false):EU X (.Compare a [op] [b] pos) (qQ (Tk r Bu tb)):=by
 intro A3 s σ H Q J h;refine wpAny_isTrue_Compare1 (BS (AF A3 s σ H _ J h) λv s1⟨x,H1,Ac,Av,q1⟩=>BS (A4 A3 s1 σ H1 _ Ac q1) λu s2⟨y,AU,BN,BJ,q2⟩=>
  BS (ho A3 s2 σ AU x y v u _ BN Av BJ q2) λc s3⟨z,Bv,Cx,Fi,k,e,Ea⟩=>?_) hm
 subst e;cases Fi;exact MK ⟨Bv,Cx,Ea⟩
noncomputable def fy(r Bf:En)(Bu tb HA:TE):TE:=λσ H Q=>Bu σ H λx H1=>tb σ H1 λy AU=>r x y AU λz Bv=>∃k,z=.AL k/\
 (if k=true then HA σ Bv λCZ Cb=>Bf y CZ Cb Q else Q (.AL false) Bv)
def adC{op Jn:CmpOp}{r Bf:En}(ho:Do X (G3 op) r)(I5:Do X (G3 Jn) Bf)(AF:Ag X a Bu)(A4:Ag X b tb)(AI:Ag X c HA)(hm:lastMarks [op,Jn] [b,c]=false:=by with_unfolding_all rfl):Ag X (.Compare a [op,Jn] [b,c] pos) (fy r Bf Bu tb HA):=by
 intro A3 s σ H Q J h;refine Compare_chain (BS (AF A3 s σ H _ J h) λv s1⟨x,H1,Ac,Av,q1⟩=>chain_link (BS (A4 A3 s1 σ H1 _ Ac q1) λu s2⟨y,AU,BN,BJ,q2⟩=>
  BS (ho A3 s2 σ AU x y v u _ BN Av BJ q2) λd s3⟨z,Bv,Cx,Fi,k,e,Ea⟩=>?_)) hm
 subst e;cases Fi;refine MK ?_;cases k with
 |false=>exact ite_ff ⟨.AL false,Bv,Cx,rfl,Ea⟩
 |true=>exact ite_tt (chain_last (BS (AI A3 s3 σ Bv _ Cx Ea) λCZ s4⟨FE,Cb,Lz,NY,KM⟩=>I5 A3 s4 σ Cb y FE u CZ Q Lz BJ NY KM))
def aeL{op Jn:CmpOp}{r Bf:En}(ho:Do X (G3 op) r)(I5:Do X (G3 Jn) Bf)(AF:Ag X a Bu)(A4:Ag X b tb)(AI:Ag X c HA)(hm:lastMarks [op,Jn] [b,c]=false:=by with_unfolding_all rfl):EU X (.Compare a [op,Jn] [b,c] pos) (qQ (fy r Bf Bu tb HA)):=by
 intro A3 s σ H Q J h;refine isTrue_chain (BS (AF A3 s σ H _ J h) λv s1⟨x,H1,Ac,Av,q1⟩=>test_link (BS (A4 A3 s1 σ H1 _ Ac q1) λu s2⟨y,AU,BN,BJ,q2⟩=>
  BS (ho A3 s2 σ AU x y v u _ BN Av BJ q2) λd s3⟨z,Bv,Cx,Fi,k,e,Ea⟩=>?_)) hm
 subst e;cases Fi;refine MK ?_;cases k with
 |false=>obtain⟨k',Ba,Ce⟩:=Ea;cases Ba;exact ite_ff ⟨Bv,Cx,Ce⟩
 |true=>refine ite_tt (test_last (BS (AI A3 s3 σ Bv _ Cx Ea) λCZ s4⟨FE,Cb,Lz,NY,KM⟩=>BS (I5 A3 s4 σ Cb y FE u CZ _ Lz BJ NY KM) λd' s5⟨Ec,Dx,OA,Rr,k2,AH,U5⟩=>?_));subst AH;cases Rr;exact MK ⟨Dx,OA,U5⟩
noncomputable def se(K:As)(x:V)(H:AE)(k:Bool):Prop:=
 match x with
 |.non=>k=false
 |.AL b=>k=b
 |.int i=>k=(i !=0)
 |.str y=>⇑y<=CL/\k=((⇑y:Int) !=0)
 |.QK y=>y.size<=CL/\k=((y.size:Int) !=0)
 |.ref p=>(∃xs,EV K H p xs/\k=!xs.isEmpty)\/(∃xs,EW K H p xs/\k=!xs.isEmpty)\/∃A8,H p=↥(.Ak A8)/\k=!A8.isEmpty
 |_=>False
def yt{Br:Type}{A8:↑(Br×V)}{vs:↑(Br×A7)}(r:Ef A8 vs):(!vs.isEmpty)=!A8.isEmpty:=by cases r<;>rfl
def ju{xs:↑V}{its:↑A7}(r:Vals xs its):(!its.toArray.isEmpty)=!xs.isEmpty:=by cases r<;>simp
def Sz:(CL:Nat)<2^63:=by rw[Li];decide
def ajL:sd X (λx H Q=>∃k,se X.K x H k/\Q k H):=by
 intro A3 s σ H x v Q J Az h;obtain⟨k,e,q⟩:=h;have AG:=Sz;have AO:CL=16777216:=Li;cases x with
 |non=>cases Az;have Ba:k=false:=e;subst Ba;exact truthy_none ⟨H,J,q⟩
 |AL b=>cases Az;have Ba:k=b:=e;subst Ba;exact MK ⟨H,J,q⟩
 |int i=>obtain⟨t,rfl⟩:=Az;have Ba:k=(i !=0):=e;subst Ba;exact PySem.P.truthy_int ⟨H,J,q⟩
 |str y=>obtain⟨t,rfl⟩:=Az;obtain⟨AS,Ba⟩:⇑y<=CL/\k=((⇑y:Int) !=0):=e;subst Ba;exact PySem.P.truthy_str δ ⟨H,J.tok _,q⟩
 |QK y=>obtain⟨t,rfl⟩:=Az;obtain⟨AS,Ba⟩:y.size<=CL/\k=((y.size:Int) !=0):=e;subst Ba;exact PySem.W.truthy_bytes δ ⟨H,J.tok _,q⟩
 |ref p=>
  cases Az;have Ba:(∃xs,EV X.K H p xs/\k=!xs.isEmpty)\/(∃xs,EW X.K H p xs/\k=!xs.isEmpty)\/∃A8,H p=↥(.Ak A8)/\k=!A8.isEmpty:=e;rcases Ba with⟨xs,AM,Ba⟩|⟨xs,AM,Ba⟩|⟨A8,AM,Ba⟩
  .subst Ba;obtain⟨its,r,pl,hz⟩:=J.list AM;have hlen:=⇑r;exact wpAny_truthy_list pl.isList (by erw[DW];lia) ⟨H,J.tok _,by rw[ju r];exact q⟩
  .subst Ba;obtain⟨its,r,pl,hz⟩:=J.tuple AM;have hlen:=⇑r;exact truthy_tuple pl (by erw[DW];lia) ⟨H,J.tok _,by rw[ju r];exact q⟩
  .subst Ba;obtain⟨hz,Ma,vs,r,m⟩:⇑A8<=CL/\(p==KF)=false/\∃vs,Ef A8 vs/\s.heap.DictOf (GI X.prog X.w) p vs:=J.B0 p _ AM;have hlen:⇑A8=⇑vs:=Paired.length r;exact wpAny_truthy_dict Ma m δ ⟨H,J.tok _,by rw[yt r];exact q⟩
 |_=>exact(show False from e).elim
def abP:Do X (Jj .Add) (λx y H Q=>∃i j,x=.str i/\y=.str j/\ ⇑i+⇑j<=CL/\Q (.str (i++j)) H):=by intro A3 s σ H x y v u Q J Az Bm h;obtain⟨i,j,rfl,rfl,hz,q⟩:=h;obtain⟨t,rfl⟩:=Az;obtain⟨t',rfl⟩:=Bm;exact add_str (λt' CW=>⟨.str (i++j),H,J.tok _,⟨_,rfl⟩,q⟩) hz
def vals1{x:V}{us:↑A7}(r:Vals [x] us):∃u,us=[u]/\RelV x u:=by
 cases r with
 |cons Av BJ=>cases BJ;exact⟨_,rfl,Av⟩
def vals2{x y:V}{us:↑A7}(r:Vals [x,y] us):∃u CZ,us=[u,CZ]/\RelV x u/\RelV y CZ:=by
 cases r with
 |cons Av BJ=>
  cases BJ with
  |cons Fi NY=>cases NY;exact⟨_,_,rfl,Av,Fi⟩
def tW:JU X (.type "int") (λxs H Q=>(∃i,xs=[.int i]/\Q (.int i) H)\/∃k,xs=[.AL k]/\Q (.int (if k then 1 else 0)) H):=by
 intro A3 s σ H xs us Q J r h;rcases h with⟨i,rfl,q⟩|⟨k,rfl,q⟩
 .obtain⟨u,rfl,t,rfl⟩:=vals1 r;exact call_int_int ⟨.int i,H,J,⟨_,rfl⟩,q⟩
 .obtain⟨u,rfl,Av⟩:=vals1 r;cases Av;exact call_int_bool ⟨.int (if k then 1 else 0),H,J.tok _,⟨_,rfl⟩,q⟩
def tf:JU X (.type "str") (λxs H Q=>∃i,xs=[.int i]/\i.natAbs.log2<1920/\Q (.str (toString i)) H):=by intro A3 s σ H xs us Q J r h;obtain⟨i,rfl,hz,q⟩:=h;obtain⟨u,rfl,t,rfl⟩:=vals1 r;exact PySem.P.str_of_int hz ⟨.str _,H,J.tok _,⟨_,rfl⟩,q⟩
noncomputable def hW(K:As)(x:V)(H:AE)(n:Nat):Prop:=
 match x with
 |.str y=>⇑y<=CL/\n=⇑y
 |.QK y=>y.size<=CL/\n=y.size
 |.ref p=>(∃xs,EV K H p xs/\n=⇑xs)\/∃xs,EW K H p xs/\n=⇑xs
 |_=>False
def tY:JU X (.builtin "len") (λxs H Q=>∃x n,xs=[x]/\hW X.K x H n/\Q (.int n) H):=by
 intro A3 s σ H xs us Q J r h;obtain⟨x,n,rfl,e,q⟩:=h;obtain⟨u,rfl,Az⟩:=vals1 r;have AG:=Sz;have AO:CL=16777216:=Li;cases x with
 |str y=>obtain⟨t,rfl⟩:=Az;obtain⟨AS,Ba⟩:⇑y<=CL/\n=⇑y:=e;subst Ba;exact len_str δ ⟨.int _,H,J.tok _,⟨_,rfl⟩,q⟩
 |QK y=>obtain⟨t,rfl⟩:=Az;obtain⟨AS,Ba⟩:y.size<=CL/\n=y.size:=e;subst Ba;exact PySem.W.len_bytes δ ⟨.int _,H,J.tok _,⟨_,rfl⟩,q⟩
 |ref p=>
  cases Az;have Ba:(∃xs,EV X.K H p xs/\n=⇑xs)\/∃xs,EW X.K H p xs/\n=⇑xs:=e;rcases Ba with⟨xs,AM,Ba⟩|⟨xs,AM,Ba⟩
  .subst Ba;obtain⟨its,Bf,pl,hz⟩:=J.list AM;have hlen:=⇑Bf;exact Calls.call_len_list pl.isList (by erw[DW];lia) ⟨.int ⇑xs,H,J.tok _,⟨_,by erw[DW];rw[hlen]⟩,q⟩
  .subst Ba;obtain⟨its,Bf,pl,hz⟩:=J.tuple AM;have hlen:=⇑Bf;exact len_tuple pl (by erw[DW];lia) ⟨.int ⇑xs,H,J.tok _,⟨_,by erw[DW];rw[hlen]⟩,q⟩
 |_=>exact(show False from e).elim
end
structure RX(h:BH)(x Bp C:A6)(EK:Str->Option A7):Prop where
 obj:h.get? x=↥(PR C Bp)
 ns:h.Ns1 Bp EK
 ne:Bp≠x
def abF{h:BH}{Bp:A6}{EK:Str->Option A7}(n:h.Ns1 Bp EK):∃E1,h.get? Bp=↥E1/\∀name,XY name E1=↥(EK name):=by
 obtain⟨o,es,Aq,ho,hd,AP,_,hm⟩:=n;refine⟨o,ho,λname=>?_⟩;have e:=hm name;unfold nsFind findBy at e;rw[<-Array.find?_toList]at e;unfold XY;rw[hd];dsimp only
 split
 .rename_i y q;rw[q]at e;exact congrArg some e
 .rename_i q;rw[q]at e;have a:es.toList.any (·.refKey)=false:=by
   rw[List.any_eq_false];intro y AS;obtain⟨z,t,Yq⟩:=AP y (Array.mem_toList_iff.mp AS);simp[DictEntry.refKey,Yq]
  have GT:¬es.toList.any (·.refKey)=true:=by rw[a];exact Kt
  rw[if_neg GT];exact congrArg some e
def RX.look{h:BH}{x Bp C:A6}{EK:Str->Option A7}(J:RX h x Bp C EK):∃E1,PySem.W.InstAt h x (PR C Bp) C ↥E1/\∀name,XY name E1=↥(EK name):=
 let⟨E1,ho,AG⟩:=abF J.ns
 ⟨E1,⟨J.obj,rfl,rfl,ho⟩,AG⟩
section
variable{prog:C5}{w:Bo}{A:DA}{E:A7->AQ->Prop}{s:AQ}{K:As}{x Bp C f:A6}{EK:Str->Option A7}{name:Str}{v:A7}
def get_map{expr:Bool}{Q:A7->AQ->Prop}(X:K.In s.heap)(J:RX s.heap x Bp C EK)(Aj:S7 K C name=true)(hh:UT K C=true)(AF:Ji K (.ref C) name=↥none)(Bk:EK name=↥v)(Zx:PySem.W.handedIn v=true)(h:Q v { s with toks:=s.toks+1 }) :
  An (B2 prog w) A (getAttr (.ref x) name expr) Q E s:=by
 obtain⟨E1,BC,AG⟩:=J.look;exact PySem.W.get_value X BC (gd Aj).1 (PySem.W.findObj_own hh AF rfl (by rw[AG,Bk])) Zx h
def wh{pl:Sem Bool}{Q:A7×↑A7->AQ->Prop}(X:K.In s.heap)(J:RX s.heap x Bp C EK)(Aj:S7 K C name=true)(hf:Ji K (.ref C) name=↥↥(.ref f))(BV:U_ K (.ref f)=true)(Bk:EK name=none)(h:Q (.ref f,[.ref x]) s) :
  An (B2 prog w) A (O4 (.ref x) name pl) Q E s:=by
 obtain⟨E1,BC,AG⟩:=J.look;exact PySem.W.method_fn X BC (gd Aj).1 (gd Aj).2 hf (beq_iff_eq.mp BV) (by show(XY name E1).map (·.isSome)=↥false;rw[AG,Bk];rfl) h
def af9{ns:↑Str}{Q:Unit->AQ->Prop}(X:K.In s.heap)(J:RX s.heap x Bp C EK)(AO:Ji K (.ref C) "__setattr__"=↥↥(.builtin "object.__setattr__"))(AV:XO K C=true)(BV:gv K C name=↥none)(hh:UT K C=true)(hw:h8 EK ns)(hsz:⇑ns<=CL)(h:∀h',RX h' x Bp C (λy=>if y=name then↥v else EK y)->Kr Bp s.heap h'->Q () { s with heap:=h',toks:=s.toks+2 }) :
  An (B2 prog w) A (setAttr (.ref x) name v) Q E s:=by
 obtain⟨E1,BC,AG⟩:=J.look;refine PySem.W.set_plain X BC AO (PySem.W.osa_open (s:={ s with toks:=s.toks+1 }) (r:=none) X BC AV BV λb=>?_);obtain⟨cd,AI,cM⟩:=PySem.W.any_some hh;have AM:s.heap.get? x=↥⟨.ref C,↥Bp,.plain,#[]⟩:=J.obj;refine Ad (BZ (Ad (Ad (wpAny_loadPart AM (Ad (PySem.W.Looks.here (s:={ s with toks:=s.toks+1 }) (PySem.W.looks_clsIn X AI) ?_))))));rw[cM];refine BZ (a:=↥Bp) (Ad (BZ (Ad ?_)));refine wpAny_nsSet1 (s:={ s with toks:=s.toks+1 }) J.ns λh' Yr Hm=>?_;obtain⟨aip,aix,aiw,xg,PD,wY⟩:=Yr.count (PySem.Within.cons name v hw);refine Ad (wpAny_lookBehind xg (by rw[PD];exact pastItsLine_dict (Im wY (by rw[DX];lia))) ?_);exact BZ (h _ ⟨(Hm.2 _ (Lj J.ne)).trans J.obj,Yr,J.ne⟩ Hm)
def aah {R:Result->AQ->Prop} {vs:↑A7} {kw:↑(Str×A7)} (X:K.In s.heap) (hm:gw K C=true)(AD:Ji K (.ref C) "__init__"=↥↥(.ref f)) (hf:PySem.W.typeIn K (.ref f)=↥(.type "function"))(h:MV (B2 prog w) (A.under (.builtin "type.__call__" ⟨.ref C::vs,kw⟩)) (.call (.ref f) ⟨.ref (s.heap.objs.size+1)::vs,kw⟩) (PySem.W.InitBack (s.heap.objs.size+1) R)
    { s with heap:=(s.heap.push O2).push (PR C s.heap.objs.size) }) :
  MV (B2 prog w) A (.call (.ref C) ⟨vs,kw⟩) R s:=by
 obtain⟨hh,g,d,t,os⟩:=s;exact PySem.W.make_core (PySem.W.makes_of X hm) (PySem.W.looks_findIn X AD) (λself=>PySem.W.bind_fn X self hf) (.inl rfl) h
end
noncomputable def HS(f:Str)(v:V):↑(Str×V)->↑(Str×V)
 |[]=>[(f,v)]
 |(g,x)::r=>if g=f then(g,v)::r else(g,x)::HS f v r
theorem lP(f g:Str)(v:V):∀BB:↑(Str×V),(HS f v BB).lookup g=if g=f then↥v else BB.lookup g
 |[]=>by
  show Ql g [(f,v)]=_;by_cases h:g=f
  .have A4:(g==f)=true:=beq_iff_eq.mpr h;erw[Ql,A4,if_pos h]
  .have A4:(g==f)=false:=beq_eq_false_iff_ne.mpr h;erw[Ql,A4,if_neg h]
 |(k,x)::r=>by
  have CC:=lP f g v r;rw[show HS f v ((k,x)::r)=(if k=f then(k,v)::r else(k,x)::HS f v r)from rfl];by_cases AP:k=f
  .rw[if_pos AP];by_cases h:g=k
   .have A4:(g==k)=true:=beq_iff_eq.mpr h;erw[Ql,A4,if_pos (h.trans AP)]
   .have A4:(g==k)=false:=beq_eq_false_iff_ne.mpr h;erw[Ql,A4,if_neg (λe:g=f=>h (e.trans AP.symm))]
  .rw[if_neg AP];by_cases h:g=k
   .have A4:(g==k)=true:=beq_iff_eq.mpr h;erw[Ql,A4,if_neg (λe:g=f=>AP (h.symm.trans e))]
   .have A4:(g==k)=false:=beq_eq_false_iff_ne.mpr h;erw[Ql,A4];exact CC
theorem dh(f:Str)(v:V):∀BB:↑(Str×V),f∈(HS f v BB).map (·.1)/\∀g,g∈BB.map (·.1)->g∈(HS f v BB).map (·.1)
 |[]=>⟨by simp[HS],λg h=>by simp at h⟩
 |(k,x)::r=>by
  obtain⟨Ck,F8⟩:=dh f v r;rw[show HS f v ((k,x)::r)=(if k=f then(k,v)::r else(k,x)::HS f v r)from rfl];by_cases AP:k=f
  .rw[if_pos AP];subst AP;exact⟨γ,λg h=>(h:)⟩
  .rw[if_neg AP];refine⟨?_,λg h=>?_⟩
   .rw[D9];exact Gg _ Ck
   .rw[D9]at h |-;rcases List.mem_cons.mp h with e|e
    .exact List.mem_cons.mpr (.inl e)
    .exact Gg _ (F8 g e)
theorem lN(f:Str)(v:V):∀BB:↑(Str×V),⇑(HS f v BB)<=⇑BB+1
 |[]=>by simp[HS]
 |(k,x)::r=>by
  have CC:=lN f v r;rw[show HS f v ((k,x)::r)=(if k=f then(k,v)::r else(k,x)::HS f v r)from rfl];by_cases AP:k=f
  .rw[if_pos AP,DX,DX];lia
  .rw[if_neg AP,DX,DX];lia
def IJ.some_of{v:V}{o:Option A7}(r:IJ ↥v o):∃u,o=↥u/\RelV v u:=by
 cases o with
 |none=>exact(show False from r).elim
 |some u=>exact⟨u,rfl,r⟩
def IJ.none_of{o:Option A7}(r:IJ none o):o=none:=by
 cases o with
 |none=>rfl
 |some u=>exact(show False from r).elim
def wV{v:V}{u:A7}(r:RelV v u):PySem.W.handedIn u=true:=by
 cases v with
 |non=>cases(show u=JA from r);rfl
 |AL b=>cases(show u=Qp b from r);rfl
 |int i=>obtain⟨t,e⟩:=(show ∃t,u=SH i t from r);cases e;rfl
 |str x=>obtain⟨t,e⟩:=(show ∃t,u=SI x t from r);cases e;rfl
 |QK b=>obtain⟨t,e⟩:=(show ∃t,u=Value.bytes b t from r);cases e;rfl
 |R8 b=>obtain⟨t,e⟩:=(show ∃t,u=hD b t from r);cases e;rfl
 |ref a=>cases(show u=Cm a from r);rfl
 |ty n=>cases(show u=O7 n from r);rfl
section
variable{P:C5}{w:Bo}{K:As}{H A9:AE}{h h':BH}{a C Bp:A6}{BB Nt:↑(Str×V)}
def a7(B0:Ev P w H h)(e:H a=↥(.ins C Bp BB)):∃EK,RX h a Bp C EK/\(∀f,IJ (BB.lookup f) (EK f))/\h8 EK (BB.map (·.1))/\ ⇑BB<=1000/\H Bp=↥(.own a):=by obtain⟨d,z,ne,BY,EK,n,r,q⟩:=(show Dn P w H h a (.ins C Bp BB)from B0 a _ e);exact⟨EK,⟨BY,n,ne⟩,r,q,z,d⟩
end
structure Ju(K:As)(C:A6):Prop where
 aci:S7 K C Str.empty=true
 hd:UT K C=true
 po:XO K C=true
 OQ:Ji K (.ref C) "__setattr__"=↥↥(.builtin "object.__setattr__")
def Ju.get{K:As}{C:A6}(c:Ju K C)(f:Str):S7 K C f=true:=c.aci
noncomputable def RW(K:As)(C:A6)(f:Str):Prop:=Ji K (.ref C) f=↥none
def RW.aeT{K:As}{C:A6}{f:Str}(n:RW K C f):gv K C f=↥none:=by unfold gv;rw[show Ji K (.ref C) f=↥none from n];rfl
structure Meth(K:As)(C:A6)(m:Str)(f:A6):Prop where
 at_:Ji K (.ref C) m=↥↥(.ref f)
 fn:U_ K (.ref f)=true
 Bl:KA K (.ref f)=true
section
variable{X:Ar}{A3:ν}{σ :St}{H:AE}{s:AQ}{a C Bp:A6}{BB:↑(Str×V)}{f:Str}{v:V}{A:DA}{E:A7->AQ->Prop}
def wi{b:Bool}{Q:A7->AQ->Prop}(J:θ)(e:H a=↥(.ins C Bp BB))(c:Ju X.K C)(n:RW X.K C f)(l:BB.lookup f=↥v)(h:∀u s',Inv X A3 σ H s'->RelV v u->Q u s'):An ο A (getAttr (.ref a) f b) Q E s:=by obtain⟨EK,O,r,_,_,_⟩:=a7 J.B0 e;obtain⟨u,BQ,Fj⟩:=IJ.some_of (v:=v) (o:=EK f) (by rw[<-l];exact r f);exact get_map J.F9 O (c.get f) c.hd n BQ (wV Fj) (h u _ (J.tok _) Fj)
def Yl{m:Str}{g:A6}{pl:Sem Bool}{Q:A7×↑A7->AQ->Prop}(J:θ)(e:H a=↥(.ins C Bp BB))(c:Ju X.K C)(k:Meth X.K C m g)(l:BB.lookup m=none)(h:Q (.ref g,[.ref a]) s):An ο A (O4 (.ref a) m pl) Q E s:=by obtain⟨EK,O,r,_,_,_⟩:=a7 J.B0 e;have AZ:EK m=none:=IJ.none_of (by rw[<-l];exact r m);exact wh J.F9 O (c.get m) k.at_ k.fn AZ h
def afB{y:V}{u:A7}{Q:Unit->AQ->Prop}(J:θ)(e:H a=↥(.ins C Bp BB))(c:Ju X.K C)(n:RW X.K C f)(AG:⇑BB<1000)(Bm:RelV y u)(h:∀s',Inv X A3 σ (upd H a (.ins C Bp (HS f y BB))) s'->Q () s'):An ο A (setAttr (.ref a) f u) Q E s:=by
 obtain⟨EK,O,r,IW,_,ho⟩:=a7 J.B0 e;have hz:⇑(BB.map (·.1))<=CL:=by rw[CU,Li];lia
 refine af9 J.F9 O c.OQ c.po n.aeT c.hd IW hz λh' cD Fk=>h _ ?_;have hd:∃o,h'.get? Bp=↥o:=let⟨o,_,_,Ba,_⟩:=cD.ns;⟨o,Ba⟩
 refine J.write (x:=a) (e:=Bp) (by rw[e];exact Hz) (.inr ho) (λb q A4 z=>(Fk.2 b A4).trans z) hd ?_;refine⟨by rw[DF O.ne];exact ho,?_,O.ne,cD.obj,_,cD.ns,λg=>?_,λg Aj=>?_⟩
 .have:=lN f y BB;lia
 .show IJ ((HS f y BB).lookup g) (if g=f then↥u else EK g);rw[lP];by_cases q:g=f
  .rw[if_pos q,if_pos q];exact Bm
  .rw[if_neg q,if_neg q];exact r g
 .by_cases q:g=f
  .rw[q];exact(dh f y BB).1
  .refine(dh f y BB).2 g (IW g λz=>Aj ?_);show(if g=f then↥u else EK g)=none;rw[if_neg q];exact z
def Inv.made(J:θ):Inv X A3 σ (upd (upd H s.heap.objs.size (.own (s.heap.objs.size+1))) (s.heap.objs.size+1) (.ins C s.heap.objs.size []))
  { s with heap:=(s.heap.push O2).push (PR C s.heap.objs.size) }:=by
 have AC:(s.heap.push O2).get? s.heap.objs.size=↥O2:=FP s.heap rfl;have AH:((s.heap.push O2).push (PR C s.heap.objs.size)).get? (s.heap.objs.size+1)=↥(PR C s.heap.objs.size):=by
  have:=FP (s.heap.push O2) (o:=PR C s.heap.objs.size) rfl
  rwa [Ld]at this
 have D_:(s.heap.push O2).Ns s.heap.objs.size (λ_=>none):=⟨O2,#[],_,AC,rfl,(λe he=>absurd he γ),λ_=>rfl⟩;have Ac:=J.laid (a:=s.heap.objs.size) (o:=.own (s.heap.objs.size+1)) (h':=s.heap.push O2) (t':=s.toks) (λb u q=>Cr _ q) (C9 _) ⟨_,AC⟩;refine Ac.laid (a:=s.heap.objs.size+1) (o:=.ins C s.heap.objs.size []) (t':=s.toks) (λb u q=>Cr _ q) (Nat.le_of_eq (Ld _ _)) ?_;have ne:s.heap.objs.size≠s.heap.objs.size+1:=Et (Qh _);refine⟨by rw[DF ne,E3],Hy _,ne,AH,λ_=>none,(Heap.Ns1.of_empty D_).at λo q=>Cr _ q,λ_=>Hz,λy AS=>absurd rfl AS⟩
def sN{prog:C5}{w:Bo}{env:Env}{e:Al}{f:Str}{pos:Pos}{s:AQ}{Q:A7->AQ->Prop}(A4:Ks e f env (Bc e env)=Bc e env)(h:An (B2 prog w) A (Bc e env) (λo Cw=>An (B2 prog w) A (getAttr o f true) Q E Cw) E s):An (B2 prog w) A (Bc (.Attribute e f pos) env) Q E s:=
 Attribute_any_ h (by rw[arm_eval_Attribute,A4])
end
noncomputable def qw(K:As)(Bu:TE)(f:Str):TE:=λσ H Q=>Bu σ H λx H1=>∃a C Bp BB v,x=.ref a/\H1 a=↥(.ins C Bp BB)/\Ju K C/\RW K C f/\BB.lookup f=↥v/\Q v H1
noncomputable def ni(K:As)(Bu KU:TE)(f:Str):F3:=λD σ H=>KU σ H λy H1=>Bu σ H1 λx AU=>∃a C Bp BB,x=.ref a/\AU a=↥(.ins C Bp BB)/\Ju K C/\RW K C f/\ ⇑BB<1000/\
 D.AR σ (upd AU a (.ins C Bp (HS f y BB)))
section
variable{X:Ar}{o e value:Al}{f:Str}{pos pos' Ng:Pos}{Bu KU:TE}
def adI(he:Ag X e Bu)(A4:Ks e f X.env (Bc e X.env)=Bc e X.env):Ag X (.Attribute e f pos) (qw X.K Bu f):=by intro A3 s σ H Q J h;refine sN A4 (BS (he A3 s σ H _ J h) λu s1⟨x,H1,Ac,Az,a,C,Bp,BB,v,ex,BW,c,n,l,q⟩=>?_);subst ex;obtain rfl:u=Cm a:=Az;exact wi Ac BW c n l λJR s2 BN Fj=>⟨v,H1,BN,Fj,q⟩
def ae7(AF:Ag X o Bu)(Bk:Ag X value KU)(AO:NE value ↥(.Attribute o f pos') pos.line X.env=pure false):DO X (.Assign [.Attribute o f pos'] value pos) (ni X.K Bu KU f):=by intro A3 s σ H D J h;refine plainObj_wpAny_Assign_Attribute (BS (Bk A3 s σ H _ J h) λu s1⟨y,H1,Ac,Bm,q⟩=>BS (AF A3 s1 σ H1 _ Ac q) λCF s2⟨x,AU,BN,Az,a,C,Bp,BB,ex,BW,c,n,l,q2⟩=>?_) AO;subst ex;obtain rfl:CF=Cm a:=Az;exact afB BN BW c n l Bm λs3 Cx=>⟨σ,_,Cx,q2⟩
def aiW {pl:Sem Bool} {m:Str} {apos:Pos} {args:↑Al} {A3:ν} {s:AQ} {σ :St} {H:AE} {Q:A7->AQ->Prop} {te:TE} (he:Ag X e te) (J:θ)(h:te σ H λx H1=>∃a C Bp BB g,x=.ref a/\H1 a=↥(.ins C Bp BB)/\Ju X.K C/\Meth X.K C m g/\BB.lookup m=none/\
    ∀s1,Inv X A3 σ H1 s1->An ο X.A (PU pos (.ref g) [.ref a] (Fc pos (CK args X.env)) (Kx pos (Kw [] X.env))) Q X.D1 s1)
  (BV:Bc (.Call (.Attribute e m apos) args [] pos) X.env=(do
    let CF <-Bc e X.env
    MU apos.atName
    let(f,first) <-JF [CF] (O4 CF m pl)
    PU pos f first (Fc pos (CK args X.env)) (Kx pos (Kw [] X.env)))) :
  An ο X.A (Bc (.Call (.Attribute e m apos) args [] pos) X.env) Q X.D1 s:=by
 refine XE (pl:=pl) (BS (he A3 s σ H _ J h) λu s1⟨x,H1,Ac,Az,a,C,Bp,BB,g,ex,BW,c,k,l,q⟩=>?_) BV;subst ex;obtain rfl:u=Cm a:=Az;exact Yl Ac BW c k l (q s1 Ac)
end
section
variable{X:Ar}{A3:ν}{σ :St}{H:AE}{s:AQ}{A:DA}{E:A7->AQ->Prop}{Q:A7->AQ->Prop}{c:A7}{b:Bool}
inductive M2(K:As)(H:AE):V->A7->Prop where
 |non:M2 K H .non (.type "NoneType")
 |AL (x:Bool):M2 K H (.AL x) (.type "bool")
 |int (i:Int):M2 K H (.int i) (.type "int")
 |str (x:Str):M2 K H (.str x) (.type "str")
 |R8 (x:UInt64):M2 K H (.R8 x) (.type "float")
 |lst {a:A6} {xs:↑V} (e:H a=↥(.lst xs)):M2 K H (.ref a) (.type "list")
 |D0 {a:A6} {o:Obj} {xs:↑V} (e:H a=↥(.D0 o (.lst xs))):M2 K H (.ref a) (.type "list")
 |tup {a:A6} {xs:↑V} (e:H a=↥(.tup xs)):M2 K H (.ref a) (.type "tuple")
 |Ak {a:A6} {A8:↑(Key×V)} (e:H a=↥(.Ak A8)):M2 K H (.ref a) (.type "dict")
 |Dy {a:A6} {A8:↑(Ew×V)} (e:H a=↥(.Dy A8)):M2 K H (.ref a) (.type "dict")
 |ins {a C Bp:A6} {BB:↑(Str×V)} (e:H a=↥(.ins C Bp BB)) (cl:Ju K C) (AF:Ji K (.ref C) "__class__"=↥↥(.builtin "object.__class__"))
    (AZ:PySem.W.specialIn K (.builtin "object.__class__") "__get__"=↥↥(.builtin "getset_descriptor.__get__")) (Zw:PySem.W.takesIn K (.builtin "object.__class__")=↥true)
    (hm:PySem.W.mroIn K C (.type "object")=↥true):M2 K H (.ref a) (.ref C)
def dc{x:V}{u t:A7}(J:θ)(Az:RelV x u)(ty:M2 X.K H x t)(e:XZ X.K t c=↥b)(h:∀CW,Q (.bool b) { s with toks:=CW }) :
  An ο A (call (.builtin "isinstance") [u,c]) Q E s:=by
 cases ty with
 |non=>cases(show u=JA from Az);exact JE sI J.F9 Hz e (λz=>nomatch z) h
 |AL y=>cases(show u=Qp y from Az);exact JE sJ J.F9 Hz e (λz=>nomatch z) h
 |int i=>obtain⟨t,q⟩:=(show ∃t,u=SH i t from Az);cases q;exact JE PySem.W.kitx_int J.F9 Hz e (λz=>nomatch z) h
 |str y=>obtain⟨t,q⟩:=(show ∃t,u=SI y t from Az);cases q;exact JE PySem.W.kitx_str J.F9 Hz e (λz=>nomatch z) h
 |R8 y=>obtain⟨t,q⟩:=(show ∃t,u=hD y t from Az);cases q;exact JE PySem.W.kitx_float J.F9 Hz e (λz=>nomatch z) h
 | @lst a xs BW=>cases(show u=Cm a from Az);obtain⟨_,_,n,_,h1⟩:=(show Dn X.prog X.w H s.heap a (.lst xs)from J.B0 a _ BW);exact JE sK J.F9 ⟨_,h1,rfl⟩ e (λz=>nomatch z) h
 | @D0 a BY xs BW=>cases(show u=Cm a from Az);obtain⟨_,_,_,n,_,h1⟩:=(show Dn X.prog X.w H s.heap a (.D0 BY (.lst xs))from J.B0 a _ BW);exact JE sK J.F9 ⟨_,h1,rfl⟩ e (λz=>nomatch z) h
 | @tup a xs BW=>cases(show u=Cm a from Az);obtain⟨_,_,_,p⟩:=(show Dn X.prog X.w H s.heap a (.tup xs)from J.B0 a _ BW);obtain⟨o,h1,h2,_⟩:=p;exact JE ri J.F9 ⟨o,h1,h2⟩ e (λz=>nomatch z) h
 | @Ak a A8 BW=>cases(show u=Cm a from Az);obtain⟨_,_,vs,_,p⟩:=(show Dn X.prog X.w H s.heap a (.Ak A8)from J.B0 a _ BW);obtain⟨o,es,Aq,h1,h2,_⟩:=p;exact JE sL J.F9 ⟨o,h1,h2.1⟩ e (λz=>nomatch z) h
 | @Dy a A8 BW=>cases(show u=Cm a from Az);obtain⟨_,_,xs,_,o,es,Aq,h1,h2,_⟩:=(show Dn X.prog X.w H s.heap a (.Dy A8)from J.B0 a _ BW);exact JE sL J.F9 ⟨o,h1,h2.1⟩ e (λz=>nomatch z) h
 | @ins a C Bp BB BW cl AF AZ Zw hm=>cases(show u=Cm a from Az);obtain⟨EK,O,_⟩:=a7 J.B0 BW;obtain⟨E1,BC,_⟩:=O.look;exact JE (PySem.W.kitx_own (cl.get _) cl.hd AF AZ Zw hm) J.F9 BC e (λz=>nomatch z) h
end
structure D4(k:Nat)(A:DA):Prop where
 hd:A.handled=none
 Ek:A.depth+3*k+5<recursionLimit
 un:A.units+16*k+200<Dv
def D4.mono{j k:Nat}{A:DA}(r:D4 k A)(h:j<=k):D4 j A:=⟨r.hd,by have:=r.Ek;lia,by have:=r.un;lia⟩
theorem D4.deeper{k:Nat}{A:DA}(r:D4 (k+1) A)(env:Env):D4 k (A.deeper env):=
 ⟨r.hd,by have:=r.Ek;show A.depth+1+3*k+5<_;lia,by have:=r.un;show A.units+3+16*k+200<_;lia⟩
def aag{A:DA}{C:A6}{us:↑A7}{kw:↑(Str×A7)}:(A.under (.builtin "type.__call__" ⟨.ref C::us,kw⟩)).depth=A.depth+1:=by
 first|rfl|simp[h9,Code.weight,Code.isCreation,Code.isGuard,Code.isCaller,Code.frames,hA,guardIds]
def aai{A:DA}{C:A6}{us:↑A7}{kw:↑(Str×A7)}:(A.under (.builtin "type.__call__" ⟨.ref C::us,kw⟩)).units=A.units+1:=by
 first|rfl|simp[h9,Code.cUnits,Code.frames,hA]
def D4.make{k:Nat}{A:DA}(r:D4 (k+1) A)(C:A6)(us:↑A7)(kw:↑(Str×A7)):D4 k (A.under (.builtin "type.__call__" ⟨.ref C::us,kw⟩)):=
 ⟨r.hd,by have:=r.Ek;rw[aag];lia,by have:=r.un;rw[aai];lia⟩
theorem D4.depth{k:Nat}{A:DA}(r:D4 k A):A.depth<recursionLimit:=by have:=r.Ek;lia
theorem D4.units{k:Nat}{A:DA}(r:D4 k A):A.units+64<Dv:=by have:=r.un;lia
def aY:Fd:=λ_ H Q=>Q [] H
noncomputable def aU(Bu:TE)(aeW:Fd):Fd:=λσ H Q=>Bu σ H λx H1=>aeW σ H1 λxs AU=>Q (x::xs) AU
section
variable{X:Ar}{e:Al}{es:↑Al}{te:TE}{t:Fd}{pos:Pos}
def WI:Gz X [] aY:=λ_ _ _ _ H Q J h=>UU ⟨[],H,J,.nil,h⟩
def U3(AF:Ag X e te)(BF:Gz X es t)(AO:CK (e::es) X.env=(false,Bc e X.env)::CK es X.env:=by rfl):Gz X (e::es) (aU te t):=by intro pos A3 s σ H Q J h;rw[AO];show An _ _ (spliced ((false,Bc e X.env)::Fc pos (CK es X.env))) _ _ s;refine UE (BS (AF A3 s σ H _ J h) λu s1⟨x,H1,Ac,Av,q1⟩=>?_);exact BS (BF pos A3 s1 σ H1 _ Ac q1) λus s2⟨xs,AU,BN,BJ,q2⟩=>⟨x::xs,AU,BN,.cons Av BJ,q2⟩
noncomputable def qR(t:Fd):TE:=λσ H Q=>t σ H λxs H1=>⇑xs<=CL/\∀p,H1 p=none->Q (.ref p) (upd H1 p (.tup xs))
noncomputable def qz(t:Fd):TE:=λσ H Q=>t σ H λxs H1=>⇑xs<=CL/\∀p,H1 p=none->Q (.ref p) (upd H1 p (.lst xs))
def ace{x1}(h:Gz X es t):Ag X (.Tuple es x1 pos) (qR t):=by intro A3 s σ H Q J AY;refine wpAny_Tuple_spliced (BS (h pos A3 s σ H _ J AY) λus s1⟨xs,H1,Ac,r,z,q⟩=>⟨by rw[<- ⇑r];exact z,?_⟩);have hf:H1 s1.heap.objs.size=none:=Ac.B0.fresh (C9 _);refine⟨.ref s1.heap.objs.size,upd H1 s1.heap.objs.size (.tup xs),Ac.laid (t':=s1.toks) (λb u e=>Cr _ e) (C9 _) ?_,rfl,q _ hf⟩;exact⟨z,us,r,⟨_,FP _ rfl,rfl,_,rfl⟩⟩
def acV(h:Gz X es t):Ag X (.List es pos) (qz t):=by intro A3 s σ H Q J AY;refine wpAny_List_spliced (BS (h pos A3 s σ H _ J AY) λus s1⟨xs,H1,Ac,r,z,q⟩=>⟨by rw[<- ⇑r];exact z,?_⟩);have hf:H1 s1.heap.objs.size=none:=Ac.B0.fresh (C9 _);refine⟨.ref s1.heap.objs.size,upd H1 s1.heap.objs.size (.lst xs),Ac.laid (t':=s1.toks) (λb u e=>Cr _ e) (C9 _) ?_,rfl,q _ hf⟩;exact⟨z,us,0,r,FP _ rfl⟩
end
abbrev Cq:=↑V->AE->CR->Ex->Prop
abbrev L7:=↑Env->AE->AQ->Ex->A7->AQ->Prop
structure RR(P:C5)(w:Bo)(K:As)(mg:Str->Option A7)(base:BH)(A:DA)(outer:↑Env)(s:AQ)(H:AE):Prop where
 frames:A.frames=↥outer
 mod:Mod K mg base
 bs:∀b o,base.get? b=↥o->s.heap.get? b=↥o/\H b=none
 P1:base.objs.size<=s.heap.objs.size
 K1:s.heap.FunFrames base outer
 Pp:∀b∈Ez outer,H b=none
 B0:Ev P w H s.heap
 bare:NF s.gens
noncomputable def bu(outer:↑Env)(P:C5)(w:Bo)(K:As)(H:AE)(s:AQ)(Q:CR)(u:A7)(s':AQ):Prop:=
 ∃v A9,s'.os=s.os/\NF s'.gens/\Gh (Ez outer) [] H A9 s.heap s'.heap/\Ev P w A9 s'.heap/\RelV v u/\Q v A9
noncomputable def t6(CX:L7)(outer:↑Env)(P:C5)(w:Bo)(K:As)(H:AE)(s:AQ)(Q:CR)(E:Ex)(r:Result)(s':AQ):Prop:=
 match r with
 |.ok (.ret u)=>bu outer P w K H s Q u s'
 |.ok _=>False
 |.error e=>CX outer H s E e s'
structure IZ(P:C5)(w:Bo)(K:As)(mg:Str->Option A7)(base:BH)(CX:L7)(k:Nat)(f:A6)(fd:Hj)(ps:↑Str)(sp:Cq):Prop where
 len:∀vs H Q E,sp vs H Q E->⇑vs=⇑ps
 run:∀(A:DA)(outer:↑Env)(s:AQ)(H:AE)(args:Args)(us:↑A7)(vs:↑V)(Q:CR)(E:Ex),D4 k A->RR P w K mg base A outer s H->BindsTo s fd args (ps.zip us)->Vals vs us->sp vs H Q E->
  MV (B2 P w) A (.call (.ref f) args) (t6 CX outer P w K H s Q E) s
def IZ.imp{P:C5}{w:Bo}{K:As}{mg:Str->Option A7}{base:BH}{CX:L7}{k:Nat}{f:A6}{fd:Hj}{ps:↑Str}{sp pX:Cq}(F:IZ P w K mg base CX k f fd ps sp)(h:∀vs H Q E,pX vs H Q E->sp vs H Q E):IZ P w K mg base CX k f fd ps pX:=
 ⟨λvs H Q E q=>F.len vs H Q E (h _ _ _ _ q),λA outer s H args us vs Q E BF he A4 Bk AO=>F.run A outer s H args us vs Q E BF he A4 Bk (h _ _ _ _ AO)⟩
def RR.make{P:C5}{w:Bo}{K:As}{mg:Str->Option A7}{base:BH}{A:DA}{outer:↑Env}{s:AQ}{H:AE}(e:RR P w K mg base A outer s H)(C:A6)(us:↑A7)(kw:↑(Str×A7)) :
  RR P w K mg base (A.under (.builtin "type.__call__" ⟨.ref C::us,kw⟩)) outer s H:=⟨by first|exact e.frames|(simpa[h9,Code.envs,hA,pushEnvs]using e.frames),e.mod,e.bs,e.P1,e.K1,e.Pp,e.B0,e.bare⟩
section
variable{X:Ar}{A3:ν}{σ :St}{H:AE}{s s':AQ}
def Inv.cX(J:θ):RR X.prog X.w X.K X.mg X.base X.A X.stack s H:=
 ⟨J.ok.frames,J.ok.mod,J.bs,Im J.ok.P1 J.QQ,J.stack,J.fs,J.B0,J.bare⟩
def Inv.after{Q:CR}{u:A7}(J:θ)(h:bu X.stack X.prog X.w X.K H s Q u s'):Gw X A3 σ Q u s':=by obtain⟨v,A9,os,bare,un,B0,r,q⟩:=h;obtain⟨hh,g,d,t,fO⟩:=s';obtain rfl:fO=s.os:=os;exact⟨v,A9,J.call (h':=hh) (g':=g) (d':=d) (t':=t) (ch:=[]) un B0 bare (λb z=>absurd z γ),r,q⟩
end
noncomputable def pe(sp:Cq)(Hd:↑V)(E:Ex)(t:Fd):TE:=λσ H Q=>t σ H λvs H1=>sp (vs++Hd) H1 Q E
noncomputable def aW(C:A6)(m:Str)(sp:Cq)(Hd:↑V)(E:Ex)(Bu:TE)(t:Fd):TE:=λσ H Q=>Bu σ H λx H1=>∃a Bp BB,x=.ref a/\H1 a=↥(.ins C Bp BB)/\BB.lookup m=none/\
 t σ H1 λvs AU=>sp (x::(vs++Hd)) AU Q E
noncomputable def r0(C:A6)(sp:Cq)(Hd:↑V)(E:Ex)(t:Fd):TE:=λσ H Q=>t σ H λvs H1=>∀x Bp,H1 x=none->H1 Bp=none->Bp≠x->
 sp (.ref x::(vs++Hd)) (upd (upd H1 Bp (.own x)) x (.ins C Bp [])) (λv AU=>v=.non/\Q (.ref x) AU) E
noncomputable def Binds(K:As)(fd:Hj)(ps:↑Str)(ds:↑A7):Prop:=
 ∀(s:AQ)(us:↑A7),K.In s.heap->⇑(us++ds)=⇑ps->BindsTo s fd ⟨us,[]⟩ (ps.zip (us++ds))
def Binds.all{K:As}{fd:Hj}{ps:↑Str}(h:∀us:↑A7,⇑us=⇑ps->bindArgs fd ⟨us,[]⟩=pure (ps.zip us)):Binds K fd ps []:=λs us _ AG=>by rw[Io]at AG |-;exact .of_eq (h us AG)
noncomputable def Passes(CX:L7)(X:Ar)(E:Ex):Prop:=∀(A3:ν)(σ :St)(H:AE)(s:AQ)(e:A7)(s':AQ),θ->CX X.stack H s E e s'->X.D1 e s'
section
variable{X:Ar}{CX:L7}{k:Nat}{f C:A6}{fd:Hj}{ps:↑Str}{sp:Cq}{Hd:↑V}{ds:↑A7}{E:Ex}{x m:Str}{p pos apos:Pos}{e o:Al}{es:↑Al}{Bu:TE}{t:Fd}
def eV{A3:ν}{σ :St}{H:AE}{s:AQ}{Q:CR}{us:↑A7}{vs:↑V}(F:IZ X.prog X.w X.K X.mg X.base CX k f fd ps sp)(BF:D4 k X.A)(A4:Binds X.K fd ps ds)(hd:Vals Hd ds)(AM:Passes CX X E)(J:θ)(r:Vals vs us)(h:sp (vs++Hd) H Q E):An ο X.A (call (.ref f) us) (Gw X A3 σ Q) X.D1 s:=by
 have BJ:Vals (vs++Hd) (us++ds):=r.append hd;have AG:⇑(us++ds)=⇑ps:=by rw[<- ⇑BJ];exact F.len _ _ _ _ h
 refine wpAny_call (Qj (F.run X.A X.stack s H ⟨us,[]⟩ (us++ds) (vs++Hd) Q E BF J.cX (A4 s us J.F9 AG) BJ h) λr s' AY=>?_);cases r with
 |error e=>exact AM A3 σ H s e s' J AY
 |ok Di=>
  cases Di with
  |ret u=>exact J.after AY
  |next=>exact HR AY
  |brk=>exact HR AY
  |cont=>exact HR AY
def adB(F:IZ X.prog X.w X.K X.mg X.base CX k f fd ps sp)(BF:D4 k X.A)(Aj:ET X x)(hm:X.mg x=↥(.ref f))(AP:KA X.K (.ref f)=true)(A4:Binds X.K fd ps ds)(hd:Vals Hd ds)(AM:Passes CX X E)(AF:Gz X (e::es) t)(Mc:(x==("__debug__" :Str))=false:=by decide)(he:CK (e::es) X.env=(false,Bc e X.env)::CK es X.env:=by rfl)(G6:(Fc pos (CK es X.env)).any (·.1)=false:=by rfl) :
  Ag X (.Call (.Name x p) (e::es) [] pos) (pe sp Hd E t):=by
 intro A3 s σ H Q J h;refine UF (VB J Aj hm ?_ Mc);refine XK (h₀:=X.base) J.ok.mod.RP AP (BS (AF pos A3 s σ H _ J h) λus s1⟨vs,H1,Ac,r,q⟩=>⟨Ac.F9,?_⟩) he G6;exact eV F BF A4 hd AM Ac r q
def acX {pl:Sem Bool} (he:Ag X o Bu) (c:Ju X.K C) (hm:Meth X.K C m f) (F:IZ X.prog X.w X.K X.mg X.base CX k f fd ps sp) (BF:D4 k X.A) (A4:Binds X.K fd ps ds) (hd:Vals Hd ds) (AM:Passes CX X E) (AF:Gz X (e::es) t)(Fp:CK (e::es) X.env=(false,Bc e X.env)::CK es X.env:=by rfl) (G6:(Fc pos (CK es X.env)).any (·.1)=false:=by rfl)(BV:Bc (.Call (.Attribute o m apos) (e::es) [] pos) X.env=(do
    let CF <-Bc o X.env
    MU apos.atName
    let(f,first) <-JF [CF] (O4 CF m pl)
    PU pos f first (Fc pos (CK (e::es) X.env)) (Kx pos (Kw [] X.env))):=by rfl) :
  Ag X (.Call (.Attribute o m apos) (e::es) [] pos) (aW C m sp Hd E Bu t):=by
 intro A3 s σ H Q J h;refine XE (pl:=pl) (BS (he A3 s σ H _ J h) λu s1⟨x,H1,Ac,Az,a,Bp,BB,ex,BW,l,q⟩=>?_) BV;subst ex;obtain rfl:u=Cm a:=Az;refine Yl Ac BW c hm l ?_;refine XK (first:=[.ref a]) (h₀:=X.base) J.ok.mod.RP hm.Bl (BS (AF pos A3 s1 σ H1 _ Ac q) λus s2⟨vs,AU,BN,r,q2⟩=>⟨BN.F9,?_⟩) Fp G6;exact eV (us:=.ref a::us) (vs:=.ref a::vs) F BF A4 hd AM BN (.cons rfl r) q2
def acY {pl:Sem Bool} (he:Ag X o Bu) (c:Ju X.K C) (hm:Meth X.K C m f) (F:IZ X.prog X.w X.K X.mg X.base CX k f fd ps sp) (BF:D4 k X.A) (A4:Binds X.K fd ps ds) (hd:Vals Hd ds) (AM:Passes CX X E)(BV:Bc (.Call (.Attribute o m apos) [] [] pos) X.env=(do
    let CF <-Bc o X.env
    MU apos.atName
    let(f,first) <-JF [CF] (O4 CF m pl)
    PU pos f first (Fc pos (CK [] X.env)) (Kx pos (Kw [] X.env))):=by rfl) :
  Ag X (.Call (.Attribute o m apos) [] [] pos) (aW C m sp Hd E Bu aY):=by
 intro A3 s σ H Q J h;refine XE (pl:=pl) (BS (he A3 s σ H _ J h) λu s1⟨x,H1,Ac,Az,a,Bp,BB,ex,BW,l,q⟩=>?_) BV;subst ex;obtain rfl:u=Cm a:=Az;refine Yl Ac BW c hm l ?_;exact PySem.W.callWith_K0 (first:=[.ref a]) Ac.F9 hm.Bl (eV (us:=[.ref a]) (vs:=[.ref a]) F BF A4 hd AM Ac (.cons rfl .nil) q)
structure YB(K:As)(C f:A6):Prop where
 makes:gw K C=true
 init:Ji K (.ref C) "__init__"=↥↥(.ref f)
 fn:U_ K (.ref f)=true
 Bl:KA K (.ref C)=true
def af3{A3:ν}{σ :St}{H:AE}{s:AQ}{Q:CR}{us:↑A7}{vs:↑V}(M:YB X.K C f)(F:IZ X.prog X.w X.K X.mg X.base CX k f fd ps sp)(BF:D4 (k+1) X.A)(A4:Binds X.K fd ps ds)(hd:Vals Hd ds)(AM:Passes CX X E)(J:θ)(r:Vals vs us)(h:∀x Bp,H x=none->H Bp=none->Bp≠x->sp (.ref x::(vs++Hd)) (upd (upd H Bp (.own x)) x (.ins C Bp [])) (λv AU=>v=.non/\Q (.ref x) AU) E) :
  An ο X.A (call (.ref C) us) (Gw X A3 σ Q) X.D1 s:=by
 have AY:=h (s.heap.objs.size+1) s.heap.objs.size (J.B0.fresh (PT _)) (J.B0.fresh (C9 _)) (Et (Qh _));have BN:=Inv.made (C:=C) J;have BJ:Vals (V.ref (s.heap.objs.size+1)::(vs++Hd)) (Cm (s.heap.objs.size+1)::(us++ds)):=.cons rfl (r.append hd);have AG:⇑(Cm (s.heap.objs.size+1)::us++ds)=⇑ps:=by have e:=⇑BJ;rw[F.len _ _ _ _ AY]at e;exact e.symm
 refine wpAny_call (aah (f:=f) J.F9 M.makes M.init (beq_iff_eq.mp M.fn) (Qj (F.run _ X.stack _ _ ⟨Cm (s.heap.objs.size+1)::us,[]⟩ (Cm (s.heap.objs.size+1)::(us++ds)) _ _ E (BF.make C us [])
  (BN.cX.make C us []) (A4 _ (Cm (s.heap.objs.size+1)::us) BN.F9 AG) BJ AY) λr s' VN=>?_))
 cases r with
 |error e=>exact AM A3 σ _ _ e s' BN VN
 |ok Di=>
  cases Di with
  |ret u=>obtain⟨v,A9,Cx,C0,ev,Ea⟩:=BN.after VN;subst ev;exact⟨C0,⟨V.ref (s.heap.objs.size+1),A9,Cx,rfl,Ea⟩⟩
  |next=>exact HR VN
  |brk=>exact HR VN
  |cont=>exact HR VN
def acW(M:YB X.K C f)(F:IZ X.prog X.w X.K X.mg X.base CX k f fd ps sp)(BF:D4 (k+1) X.A)(Aj:ET X x)(hm:X.mg x=↥(.ref C))(A4:Binds X.K fd ps ds)(hd:Vals Hd ds)(AM:Passes CX X E)(AF:Gz X (e::es) t)(Mc:(x==("__debug__" :Str))=false:=by decide)(he:CK (e::es) X.env=(false,Bc e X.env)::CK es X.env:=by rfl)(G6:(Fc pos (CK es X.env)).any (·.1)=false:=by rfl) :
  Ag X (.Call (.Name x p) (e::es) [] pos) (r0 C sp Hd E t):=by
 intro A3 s σ H Q J h;refine UF (VB J Aj hm ?_ Mc);refine XK (h₀:=X.base) J.ok.mod.RP M.Bl (BS (AF pos A3 s σ H _ J h) λus s1⟨vs,H1,Ac,r,q⟩=>⟨Ac.F9,?_⟩) he G6;exact af3 M F BF A4 hd AM Ac r q
end
section
variable{X:Ar}{CX:L7}{k:Nat}{f C:A6}{fd:Hj}{ps AJ:↑Str}{sp:Cq}{E:Ex}{x m:Str}{p pos apos ajD:Pos}{e o:Al}{es:↑Al}{ajF:↑MW}{te Bu:TE}{t CW:Fd}{nm:Option Str}
variable{g:↑A7->↑A7->↑A7}{aj0:↑V->↑V->↑V}
end
structure By(N P:↑Str)(sc:FF):Prop where
 kind:sc.kind=.function
 co:sc.isCoroutine=false
 gen:sc.isGenerator=false
 C7:N.Nodup
 pre:N.take ⇑P=P
 par:∀x∈P,sc.names.lookup x=↥.local\/sc.names.lookup x=↥.cell
 ac8:∀y∈sc.names,y.2≠.free
theorem hr{KG:Str->Option Ky}{x:Str}:∀{binds:↑(Str×A7)}{m:Str->Option A7},(∀v,(x,v)∉binds)->bindL KG binds m x=m x
 |[],_,_=>rfl
 |(n,v)::r,m,h=>by
  unfold bindL;rw[hr λw hw=>h w (Gg _ hw)]
  split
  .have:x≠n:=by rintro rfl;exact h v HP
   simp[this]
  .rfl
theorem ib{KG:Str->Option Ky}{x:Str}:∀{binds:↑(Str×A7)}{m:Str->Option A7},(∀v,(x,v)∉binds)->bindC KG binds m x=m x
 |[],_,_=>rfl
 |(n,v)::r,m,h=>by
  unfold bindC;rw[ib λw hw=>h w (Gg _ hw)]
  split
  .rfl
  .have:x≠n:=by rintro rfl;exact h v HP
   simp[this]
theorem hq{KG:Str->Option Ky}{x:Str}{v:A7}:∀{P:↑Str}{vs:↑A7}{i:Nat}{m:Str->Option A7},P.Nodup->P[i]?=↥x->vs[i]?=↥v->KG x=↥.local->
  bindL KG (P.zip vs) m x=↥v
 |[],_,_,_,_,h,_,_=>by simp at h
 |_::_,[],_,_,_,_,h,_=>by simp at h
 |p::P,w::vs,0,m,C7,h1,h2,AP=>by simp at h1 h2;subst h1;subst h2;show bindL KG ((p,w)::P.zip vs) m p=_;unfold bindL;rw[hr λv Bk=>(List.nodup_cons.mp C7).1 (gx Bk).1,if_pos AP];simp
 |p::P,w::vs,i+1,m,C7,h1,h2,AP=>by show bindL KG ((p,w)::P.zip vs) m x=_;unfold bindL;exact hq (i:=i) (List.nodup_cons.mp C7).2 (h1:) (h2:) AP
theorem ia{KG:Str->Option Ky}{x:Str}{v:A7}:∀{P:↑Str}{vs:↑A7}{i:Nat}{m:Str->Option A7},P.Nodup->P[i]?=↥x->vs[i]?=↥v->KG x≠↥.local->
  bindC KG (P.zip vs) m x=↥v
 |[],_,_,_,_,h,_,_=>by simp at h
 |_::_,[],_,_,_,_,h,_=>by simp at h
 |p::P,w::vs,0,m,C7,h1,h2,AP=>by simp at h1 h2;subst h1;subst h2;show bindC KG ((p,w)::P.zip vs) m p=_;unfold bindC;rw[ib λv Bk=>(List.nodup_cons.mp C7).1 (gx Bk).1,if_neg AP];simp
 |p::P,w::vs,i+1,m,C7,h1,h2,AP=>by show bindC KG ((p,w)::P.zip vs) m x=_;unfold bindC;exact ia (i:=i) (List.nodup_cons.mp C7).2 (h1:) (h2:) AP
noncomputable def start(N:↑Str)(vs:↑V):St:=vs.map some++GR (⇑N- ⇑vs) none
noncomputable def Kh(CX:L7)(P:C5)(w:Bo)(K:As)(mg:Str->Option A7)(base:BH)(N:↑Str)(qual:Str)(scope:FF)(f:A6)(cd:A7)(A:DA)(outer:↑Env)(s:AQ)(H:AE)(E:Ex):Ar where
 prog:=P
 w:=w
 K:=K
 mg:=mg
 base:=base
 A:=A.deeper (O9 qual scope s.heap.objs.size f cd)
 N:=N
 G8:=s
 LA:=H
 env:=O9 qual scope s.heap.objs.size f cd
 outer:=outer
 stack:=O9 qual scope s.heap.objs.size f cd::outer
 ex:=[]
 calm:=true
 fn:=λ_=>true
 Ci:=[]
 D1:=λe s'=>An (B2 P w) (A.deeper (O9 qual scope s.heap.objs.size f cd)) (leaving (O9 qual scope s.heap.objs.size f cd) e) (λ_ Jp=>CX outer H s E e Jp) (λBa Jp=>CX outer H s E Ba Jp) s'
def dB{sc:FF}{n:Nat}{x:Str}(h:sc.names.lookup x=↥.cell):∃c,(Hx n sc.names []).lookup x=↥c:=by have q:=sB sc.names n [] (.inl h);exact Option.isSome_iff_exists.mp q
def yq{CX:L7}{P:C5}{w:Bo}{K:As}{mg:Str->Option A7}{base:BH}{N ps:↑Str}{qual:Str}{scope:FF}{f:A6}{cd:A7}{A:DA}{outer:↑Env}{s s1:AQ}{H:AE}{E:Ex}{us:↑A7}{vs:↑V}(S:By N ps scope)(hd:A.handled=none)(El:RR P w K mg base A outer s H)(AG:⇑vs=⇑ps)(r:Vals vs us)(x:InCallC s s.heap.objs.size (bindL (O9 qual scope s.heap.objs.size f cd).kindOf (ps.zip us) λ_=>none) (Hx (s.heap.objs.size+1) scope.names []) (bindC (O9 qual scope s.heap.objs.size f cd).kindOf (ps.zip us) λ_=>none) s1) :
  Inv (Kh CX P w K mg base N qual scope f cd A outer s H E) [] (start N vs) H s1:=by
 have G6:⇑ps<=⇑N:=by have:=congrArg UZ S.pre;rw[Ku]at this;lia
 obtain⟨h1,CW,rfl,AP⟩:=x.done;have WB:∀b:A6,b∉(Kh CX P w K mg base N qual scope f cd A outer s H E).ex:=λb z=>absurd (show b∈([]:↑A6)from z) γ
 refine⟨⟨El.mod,S.kind,rfl,rfl,C9 _,λy z c h1 h2=>?_,λy AS=>?_,λy c _ h=>?_,λ_=>hd,Around.frames_deeper El.frames,.inr ⟨rfl,rfl⟩,λb z=>absurd z (WB b),El.bs,El.P1,λb _ _=>WB b,λb z=>absurd z (WB b),El.K1,El.Pp⟩,
  rfl,El.bare,Gh.kept AP,⟨_,x.toInCall.ns,λi y v h1 h2 BO=>?_⟩,λy c h=>⟨_,x.cell y c h⟩,El.B0.fresh (C9 _),λy c h=>?_,λp AV=>absurd (show p∈([]:ν)from AV) γ,El.B0.kept AP,?_⟩
 .exact name_of_addr x.apart (NA h1) (NA h2)
 .have AS:scope.names.lookup y=↥.cell\/scope.names.lookup y=↥.free:=AS;rcases AS with AS|AS
  .exact dB AS
  .exact absurd rfl (S.ac8 _ (NA AS))
 .exact PN (x.above y c (NA h))
 .have AD:i< ⇑vs:=by
    unfold start at h2;by_cases AD:i< ⇑vs
    .exact AD
    .rw[MM (AD:)]at h2;rw[XB]at h2
     split at h2<;>cases h2
  have AF:vs[i]?=↥v:=by
   unfold start at h2;rw[Gr (AD:),E5]at h2;cases e:vs[i]? with
   |none=>rw[e]at h2;cases h2
   |some a=>rw[e]at h2;cases h2;rfl
  obtain⟨u,BQ,C0⟩:=r.get AF;have AV:ps[i]?=↥y:=by rw[<-S.pre,List.getElem?_take_of_lt δ];exact h1
  have l7:ps.Nodup:=by rw[<-S.pre];exact S.C7.sublist (List.take_sublist _ _)
  refine⟨u,C0,?_⟩;rcases S.par y (KD AV)with k|k
  .exact .inl ⟨k,hq l7 AV BQ k⟩
  .obtain⟨c,e⟩:=dB (n:=s.heap.objs.size+1) k;refine .inr ⟨.inl k,c,e,?_⟩;have q:=x.cell y c e;rw[ia l7 AV BQ (by show scope.names.lookup y≠_;rw[k];decide)]at q;exact q
 .exact El.B0.fresh (PN (x.above y c (NA h)))
 .unfold start;show _=⇑N;rw[Em,CU,UI];lia
def iw {CX:L7} {P:C5} {w:Bo} {K:As} {mg:Str->Option A7} {base:BH} {k:Nat} {f:A6} {name qual:Str} {params:Arguments} {body:↑BG} {scope:FF} {YV Cd doc pm FU DL GJ:A7} {an E1:Option A6}{Ox:Array (Option A7)} {N ps:↑Str} {sp:Cq} (lk:K.lookup f=↥⟨GJ,E1,.func (KB name qual params body scope YV Cd doc pm an FU DL),Ox⟩) (LI:ND K FU qual=true) (S:By N ps scope)(len:∀vs H Q E,sp vs H Q E->⇑vs=⇑ps)(cK:∀(A:DA)(outer:↑Env)(s:AQ)(H:AE)(vs:↑V)(Q:CR)(E:Ex),D4 k (A.deeper (O9 qual scope s.heap.objs.size f FU))->sp vs H Q E->
    ∃t,HG (Kh CX P w K mg base N qual scope f FU A outer s H E) body t/\t { AR:=λ_ A9=>Q .non A9,EM:=Q } (start N vs) H) :
  IZ P w K mg base CX (k+1) f (KB name qual params body scope YV Cd doc pm an FU DL) ps sp:=by
 refine⟨len,λA outer s H args us vs Q E BF El A4 r M7=>?_⟩;have AG:=len _ _ _ _ M7;have IH:K.In s.heap:=El.mod.RP.keeps λb o e=>(El.bs b o e).1;have lim:s.heap.NoLimit:=El.mod.nolimit.keeps λb o e=>(El.bs b o e).1;have yD:∀y∈ps.zip us,scope.names.lookup y.1=↥.local\/(scope.names.lookup y.1=↥.cell/\((Hx (s.heap.objs.size+1) scope.names []).lookup y.1).isSome=true):=λ⟨n,v⟩ AS=>by
  rcases S.par n (gx AS).1 with q|q
  .exact .inl q
  .exact .inr ⟨q,sB _ _ _ (.inl q)⟩
 refine codeAny_call_function BF.depth (IH _ _ lk) rfl S.co S.gen rfl (PySem.W.codeRec_of IH LI) (A4 _ _ _ _ ?_);refine wpAny_newFunctionEnv_cells S.kind yD λenv he s1 x=>?_;subst he;refine⟨lim.keeps x.toInCall.keep,codeAny_func ?_⟩;obtain⟨t,BV,AY⟩:=cK A outer s H vs Q E (BF.deeper _) M7;have J:Inv (Kh CX P w K mg base N qual scope f FU A outer s H E) [] (start N vs) H s1:=yq S BF.hd El AG r x;refine HQ (BV [] s1 (start N vs) H _ J AY) (λDi s' AO=>?_) λe s' AO=>AO;have fin:∀{σ' :St}{A9:AE}{v:V}{u:A7},Inv (Kh CX P w K mg base N qual scope f FU A outer s H E) [] σ' A9 s'->RelV v u->Q v A9->bu outer P w K H s Q u s':=
  λ{σ' A9 v u} BC C0 q=>⟨v,A9,BC.os,BC.bare,BC.base,BC.B0,C0,q⟩
 cases Di with
 |ret u=>obtain⟨v,σ',A9,BC,C0,q⟩:=AO;exact fin BC C0 q
 |next=>obtain⟨σ',A9,BC,q⟩:=AO;exact fin (v:=V.non) (u:=JA) BC rfl q
 |brk=>obtain⟨_,_,_,q⟩:=AO;exact HR q
 |cont=>obtain⟨_,_,_,q⟩:=AO;exact HR q
section
variable{X:Ar}{x:Str}{p pos:Pos}{e:Al}{es:↑Al}{t:Fd}{id T:String}{r:↑V->AE->CR->Prop}
noncomputable def WS(r:↑V->AE->CR->Prop)(t:Fd):TE:=λσ H Q=>t σ H λvs H1=>r vs H1 Q
def WJ(AI:JU X (.builtin id) r)(Aj:ET X x)(hm:X.mg x=none)(Bk:O3 x=↥(.builtin id))(AF:Gz X (e::es) t)(AZ:x≠"__name__":=by decide)(Mc:(x==("__debug__" :Str))=false:=by decide)(he:CK (e::es) X.env=(false,Bc e X.env)::CK es X.env:=by rfl)(G6:(Fc pos (CK es X.env)).any (·.1)=false:=by rfl):Ag X (.Call (.Name x p) (e::es) [] pos) (WS r t):=by intro A3 s σ H Q J h;refine UF (Oh J Aj hm Bk ?_ AZ Mc);exact PyProof.Rows.callWith_builtin1 (BS (AF pos A3 s σ H _ J h) λus s1⟨vs,H1,Ac,Av,q1⟩=>AI A3 s1 σ H1 vs us Q Ac Av q1) he G6
def WK(AI:JU X (.type T) r)(Aj:ET X x)(hm:X.mg x=none)(Bk:O3 x=↥(.type T))(AF:Gz X (e::es) t)(AZ:x≠"__name__":=by decide)(Mc:(x==("__debug__" :Str))=false:=by decide)(he:CK (e::es) X.env=(false,Bc e X.env)::CK es X.env:=by rfl)(G6:(Fc pos (CK es X.env)).any (·.1)=false:=by rfl):Ag X (.Call (.Name x p) (e::es) [] pos) (WS r t):=by intro A3 s σ H Q J h;refine UF (Oh J Aj hm Bk ?_ AZ Mc);exact QZ (BS (AF pos A3 s σ H _ J h) λus s1⟨vs,H1,Ac,Av,q1⟩=>AI A3 s1 σ H1 vs us Q Ac Av q1) he G6
end
end B5
namespace E6
open PySem PyProof.Rows
section
open PySem.SeqAt
open PySem.AutoSeq1 (wpAny_loadPart')
open PySem.MeetsSeq PySem.MeetsSeq2 PySem.MeetsSeq3
end
section
variable{prog:C5}{w:Bo}{A:DA}{E:A7->AQ->Prop}{s:AQ}
def tj{t b:A6}{vs ws:↑A7}{Q:A7->AQ->Prop}(BV:IsTup s.heap t vs.toArray)(A4:IsTup s.heap b ws.toArray)(Bk:vs≠[])(h1:ws=[]->Q (.ref t) s)(h2:ws≠[]->Q (.ref s.heap.objs.size) { s with heap:=s.heap.push { cls:=.type "tuple",data:=.seq (vs++ws).toArray } })(hsz:⇑vs+⇑ws<=CL):An (B2 prog w) A (Jj .Add (.ref t) (.ref b)) Q E s:=by
 obtain⟨⟨cls,dd,data,Bt⟩,ho,AI,n,hd⟩:=id BV;obtain⟨⟨aiG,SM,data2,Ph⟩,Zr,il,FZ,hd2⟩:=id A4;simp only at AI hd il hd2;subst AI hd il hd2;have e:vs.toArray++ws.toArray=(vs++ws).toArray:=γ
 by_cases hw:ws=[]
 .exact concat_meets ⟨_,ho,rfl⟩ ⟨_,Zr,rfl⟩ noFill_tuple_add seq_tuple_add sC rQ (rX _ _)
    (tuple_addW1 t b vs.toArray ws.toArray n FZ dd SM Bt Ph (Bk:) (by simp[hw])) ⟨ho,Zr,h1 hw⟩
 .refine concat_meets ⟨_,ho,rfl⟩ ⟨_,Zr,rfl⟩ noFill_tuple_add seq_tuple_add sC rQ (rX _ _)
    (tuple_addW2 t b vs.toArray ws.toArray n FZ dd SM Bt Ph (Bk:) (hw:) (by rw[DW,DW];exact hsz)) ⟨ho,Zr,?_⟩
  rw[e];exact h2 hw
noncomputable def Cf(n d:Nat):Option Int->Nat
 |none=>d
 |some v=>if v<0 then(v+(n:Int)).toNat else min v.toNat n
def bA(n d:Nat):Cf n d none=d:=rfl
def U8(n d k:Nat):Cf n d ↥(k:Int)=min k n:=by show(if(k:Int)<0 then((k:Int)+(n:Int)).toNat else min (k:Int).toNat n)=min k n;rw[if_neg δ,Qg]
def af5(n d:Nat)(hd:d<=n)(o:Option Int):Cf n d o<=n:=by
 cases o with
 |none=>exact hd
 |some v=>
  show(if v<0 then(v+(n:Int)).toNat else min v.toNat n)<=n;by_cases Bk:v<0
  .rw[if_pos Bk];lia
  .rw[if_neg Bk];exact Nat.min_le_right _ _
def i5(v:Int)(n d:Nat):(if v<0 then max (v+(n:Int)) 0 else min v (n:Int))=((Cf n d ↥v:Nat):Int):=by
 show(if v<0 then max (v+(n:Int)) 0 else min v (n:Int))=(((if v<0 then(v+(n:Int)).toNat else min v.toNat n):Nat):Int);by_cases Bk:v<0
 .erw[if_pos Bk];lia
 .erw[if_neg Bk];lia
def sj(lo AD:Option Int)(n:Nat):gP lo AD 1 (n:Int)=(((Cf n 0 lo:Nat):Int),((Cf n n AD:Nat):Int)):=by
 have h1:¬((1:Int)<0):=δ
 unfold gP;erw[h1,if_false];refine Prod.ext ?_ ?_
 .cases lo with
  |none=>rfl
  |some v=>exact i5 v n 0
 .cases AD with
  |none=>rfl
  |some v=>exact i5 v n n
def acN(i j:Nat):X7 (i:Int) (j:Int) 1=j-i:=by
 unfold X7;have h1:(1:Int)>0:=δ
 erw[h1,if_true,Int.ediv_one]
 split<;>lia
def pV{v:A7}{o:Option Int}{Q:Option Int->AQ->Prop}(p:IsPart v o)(h:Q o s):An (B2 prog w) A (Builtin.Slice.slicePartIndex v) Q E s:=by
 cases p with
 |none=>exact slicePart_none h
 |int i t=>exact slicePart_int h
def afM{Bt:A6}{Dg ID:A7}{lo AD:Option Int}{n:Nat}{Q:Int×Int×Nat->AQ->Prop}(AO:s.heap.IsSliceOf Bt Dg ID .none)(pl:IsPart Dg lo)(pu:IsPart ID AD)(h:Q (((Cf n 0 lo:Nat):Int),1,Cf n n AD-Cf n 0 lo) s):An (B2 prog w) A (rU (.ref Bt) (pure (n:Int))) Q E s:=by obtain⟨os,RJ,jG,Yo⟩:=id AO;unfold rU Builtin.Slice.sliceFields;refine Ad (Ad (MP RJ Yo (x:=Dg) rfl (Ad (MP RJ Yo (x:=ID) rfl (Ad (MP RJ Yo (x:=.none) rfl (BZ ?_)))))));refine Ad (slicePart_none ?_);show An _ _ (if((1:Int)==0)=true then _ else _) _ _ s;rw[if_neg ε];refine Ad (pV pl (Ad (pV pu (Ad (BZ ?_)))));show An _ _ (match gP lo AD 1 (n:Int)with|(lo,AD)=>pure (lo,(1:Int),X7 lo AD 1)) _ _ s;rw[sj lo AD n];show An _ _ (pure (((Cf n 0 lo:Nat):Int),(1:Int),X7 ((Cf n 0 lo:Nat):Int) ((Cf n n AD:Nat):Int) 1)) _ _ s;rw[acN];exact BZ h
def acM(xs:Array A7)(i k:Nat):((Ch k).filterMap λ(m:Nat)=>xs[((i:Int)+(m:Int)*1).toNat]?).toArray=((xs.toList.drop i).take k).toArray:=by
 have e:(λ(m:Nat)=>xs[((i:Int)+(m:Int)*1).toNat]?)=λm=>xs[i+m]?:=by
  funext m
  have:((i:Int)+(m:Int)*1).toNat=i+m:=δ
  rw[this]
 rw[e];have:=pick_run xs i k;rw[List.filterMap_map]at this;have AH:((λx=>xs[x]?)∘λx=>i+x)=λm=>xs[i+m]?:=rfl;rw[AH]at this;rw[this]
def wg{t Bt:A6}{items:Array A7}{Dg ID:A7}{lo AD:Option Int}{Q:A7->AQ->Prop}(BV:IsTup s.heap t items)(AO:s.heap.IsSliceOf Bt Dg ID .none)(pl:IsPart Dg lo)(pu:IsPart ID AD)(hw:¬(Cf items.size 0 lo=0/\Cf items.size items.size AD=items.size))(h:Q (.ref s.heap.objs.size) { s with heap:=s.heap.push { cls:=.type "tuple",data:=.seq ((items.toList.drop (Cf items.size 0 lo)).take (Cf items.size items.size AD-Cf items.size 0 lo)).toArray } })(hsz:items.size<=CL):An (B2 prog w) A (PW (.ref t) (.ref Bt)) Q E s:=by
 have Zv:sizeOk (.seq ((items.toList.drop (Cf items.size 0 lo)).take (Cf items.size items.size AD-Cf items.size 0 lo)).toArray):=by show((items.toList.drop (Cf items.size 0 lo)).take (Cf items.size items.size AD-Cf items.size 0 lo)).toArray.size<=CL;rw[DW,Ku,XT,QX];lia
 have Am:Cf items.size items.size AD<=items.size:=af5 _ _ (C9 _) AD;obtain⟨os,RJ,jG,Yo⟩:=id AO;have wx:s.TypeIs (.ref Bt) "slice":=⟨os,RJ,jG⟩;unfold PW
 try with_reducible refine MR ?_
 first|refine Ad (BZ ?_)|skip
 refine Ad (wpAny_sequenceKey BV.typeIs ε ?_)
 refine Ad (S4 (name:=SC "__getitem__") BV.typeIs rJ
  (O1 rJ BV.typeIs entry_tuple_getitem ?_ (args_tuple_getitem _ _)))
 show An _ _ (Builtin.Tuple.tupleItemsOf (.ref t)>>=_) _ _ s;refine Ad (tupleItemsOf_ BV ?_);refine Ad (Xm wx ?_);rw[if_pos ε];refine Ad (afM AO pl pu ?_);have xf:¬((((Cf items.size 0 lo:Nat):Int)==0&&(1:Int)==1&&(Cf items.size items.size AD-Cf items.size 0 lo)==items.size)=true):=by intro q;rw[I0,I0]at q;have q1:((Cf items.size 0 lo:Nat):Int)=0:=eq_of_beq q.1.1;have q2:Cf items.size items.size AD-Cf items.size 0 lo=items.size:=eq_of_beq q.2;exact hw ⟨δ,δ⟩
 show An _ _ (if(((Cf items.size 0 lo:Nat):Int)==0&&(1:Int)==1&&(Cf items.size items.size AD-Cf items.size 0 lo)==items.size)=true then _ else _) _ _ s;rw[if_neg xf,acM]
 first
  |exact Ad (m:=X8 _) (Lg (BZ ⟨_,rfl,BZ h⟩) Zv)
  |exact Ad (m:=X8 _) (Lg (Ad (BZ (BZ ⟨_,rfl,BZ h⟩))) Zv)
  |exact Ad (Ad (m:=X8 _) (Lg (BZ (BZ ⟨_,rfl,BZ h⟩)) Zv))
  |exact Ad (Ad (m:=X8 _) (Lg (BZ ⟨_,rfl,BZ h⟩) Zv))
end
end E6
namespace B5
open PySem PySem.Spec PyProof.Rows
abbrev Se:=St->AE->(Option Int->AE->Prop)->Prop
noncomputable def Uz(X:Ar)(e:Option Al)(t:Se):Prop:=
 ∀(A3:ν)(s:AQ)(σ :St)(H:AE)(Q:Option Int->AE->Prop),θ->t σ H Q->
  An ο X.A (evalPart e X.env) (λu s'=>∃o A9,Inv X A3 σ A9 s'/\IsPart u o/\Q o A9) X.D1 s
def r2:Se:=λ_ H Q=>Q none H
noncomputable def r7(t:TE):Se:=λσ H Q=>t σ H λx H1=>∃i,x=.int i/\Q ↥i H1
section
variable{X:Ar}{e:Al}{te:TE}{lo AD:Option Al}{Jt a_:Se}{pos Cv:Pos}
def acT:Uz X none r2:=by intro A3 s σ H Q J h;rw[evalPart_none];exact BZ ⟨none,H,J,.none,h⟩
def acw(h:Ag X e te):Uz X ↥e (r7 te):=by intro A3 s σ H Q J hw;rw[evalPart_some];refine BS (h A3 s σ H _ J hw) λu s1⟨x,H1,Ac,Av,q1⟩=>?_;obtain⟨i,rfl,q⟩:=q1;obtain⟨t,rfl⟩:=Av;exact⟨↥i,H1,Ac,.int i t,q⟩
noncomputable def R_(X:Ar)(r:V->Option Int->Option Int->AE->CR->Prop):Prop:=
 ∀(A3:ν)(s:AQ)(σ :St)(H:AE)(x:V)(v Dg ID:A7)(lo AD:Option Int)(Bt:A6)(Q:CR),θ->RelV x v->s.heap.IsSliceOf Bt Dg ID .none->IsPart Dg lo->IsPart ID AD->r x lo AD H Q->
  ∃T id,typeLookup (.type T) "__getitem__"=pure ↥(.builtin id)/\s.TypeIs v T/\An ο X.A (PW v (.ref Bt)) (Gw X A3 σ Q) X.D1 s
def R_.or{r Bf:V->Option Int->Option Int->AE->CR->Prop}(h:R_ X r)(h':R_ X Bf):R_ X (λx lo AD H Q=>r x lo AD H Q\/Bf x lo AD H Q):=by
 intro A3 s σ H x v Dg ID lo AD Bt Q J Az AO pl pu q;rcases q with q|q
 .exact h A3 s σ H x v Dg ID lo AD Bt Q J Az AO pl pu q
 .exact h' A3 s σ H x v Dg ID lo AD Bt Q J Az AO pl pu q
noncomputable def rC(r:V->Option Int->Option Int->AE->CR->Prop)(te:TE)(Jt a_:Se):TE:=λσ H Q=>te σ H λx H1=>Jt σ H1 λl AU=>a_ σ AU λu Bv=>r x l u Bv Q
def acd{r:V->Option Int->Option Int->AE->CR->Prop}(BF:R_ X r)(he:Ag X e te)(AG:Uz X lo Jt)(BQ:Uz X AD a_):Ag X (.Subscript e (.Slice lo AD none Cv) pos) (rC r te Jt a_):=by intro A3 s σ H Q J h;refine Subscript_ (BS (he A3 s σ H _ J h) λv s1⟨x,H1,Ac,Av,q1⟩=>?_);refine wpAny_Slice (BS (AG A3 s1 σ H1 _ Ac q1) λDg s2⟨l,AU,BN,pl,q2⟩=>BS (BQ A3 s2 σ AU _ BN q2) λID s3⟨u,Bv,Cx,pu,Ea⟩=>?_);rw[evalPart_none];refine BZ ?_;have Lz:Inv X A3 σ Bv { s3 with heap:=s3.heap.push { cls:=.type "slice",data:=.fields #[Dg,ID,.none] } }:=Cx.kept (t':=s3.toks) λb BY q=>Cr _ q;obtain⟨T,id,Dt,BV,Aj⟩:=BF A3 { s3 with heap:=s3.heap.push { cls:=.type "slice",data:=.fields #[Dg,ID,.none] } } σ Bv x v Dg ID l u s3.heap.objs.size Q Lz Av (Heap.IsSliceOf.new ..) pl pu Ea;show An ο X.A (subscriptTail e (.Slice lo AD none Cv) v (.ref s3.heap.objs.size)) (Gw X A3 σ Q) X.D1 { s3 with heap:=s3.heap.push { cls:=.type "slice",data:=.fields #[Dg,ID,.none] } };exact tail_any (ops:=[.ref s3.heap.objs.size,v]) BV Dt Aj (by with_unfolding_all rfl)
noncomputable def Pj(xs:↑V)(lo AD:Option Int):↑V:=(xs.drop (E6.Cf ⇑xs 0 lo)).take (E6.Cf ⇑xs ⇑xs AD-E6.Cf ⇑xs 0 lo)
def iE(xs:↑V)(lo AD:Option Int):⇑(Pj xs lo AD)<=⇑xs:=by unfold Pj;rw[Ku,XT];lia
noncomputable def lb(K:As):V->Option Int->Option Int->AE->CR->Prop:=λx lo AD H Q=>∃a xs,x=.ref a/\EW K H a xs/\
 ¬(E6.Cf ⇑xs 0 lo=0/\E6.Cf ⇑xs ⇑xs AD=⇑xs)/\∀p,H p=none->Q (.ref p) (upd H p (.tup (Pj xs lo AD)))
def afL:R_ X (lb X.K):=by
 intro A3 s σ H x v Dg ID lo AD Bt Q J Az AO pl pu h;obtain⟨a,xs,rfl,AM,hw,q⟩:=h;cases Az;obtain⟨its,r,BV,hz⟩:=J.tuple AM;have hlen:its.toArray.size=⇑xs:=by rw[DW];exact r.length.symm
 refine⟨"tuple",_,PyProof.Rows.slot_tuple_getitem.lookup,BV.typeIs,?_⟩;refine E6.wg BV AO pl pu (by rw[hlen];exact hw) ?_ (by rw[hlen];exact hz);rw[hlen];refine⟨.ref s.heap.objs.size,_,J.laid (t':=s.toks) (o:=.tup (Pj xs lo AD)) (λb BY q=>Cr _ q) (C9 _) ?_,rfl,q _ (J.B0.fresh (C9 _))⟩;exact⟨Im (iE xs lo AD) hz,_,(r.drop (E6.Cf ⇑xs 0 lo)).take (E6.Cf ⇑xs ⇑xs AD-E6.Cf ⇑xs 0 lo),IsTup.new _ _⟩
noncomputable def mB(K:As):En:=λx y H Q=>∃a b xs ys,x=.ref a/\y=.ref b/\EW K H a xs/\EW K H b ys/\xs≠[]/\ ⇑xs+⇑ys<=CL/\
 (ys=[]->Q (.ref a) H)/\(ys≠[]->∀p,H p=none->Q (.ref p) (upd H p (.tup (xs++ys))))
def Vals.fH{xs:↑V}{us:↑A7}(r:Vals xs us):us=[]↔xs=[]:=by
 cases r with
 |nil=>simp
 |cons _ _=>simp
def abS:Do X (Jj .Add) (mB X.K):=by intro A3 s σ H x y v u Q J Az Bm h;obtain⟨a,b,xs,ys,rfl,rfl,AF,A4,AM,hz,q1,q2⟩:=h;cases Az;cases Bm;obtain⟨its,Av,ER,_⟩:=J.tuple AF;obtain⟨H3,BJ,Cv,_⟩:=J.tuple A4;refine E6.tj ER Cv (λz=>AM (Av.fH.mp z)) (λz=>⟨.ref a,H,J,rfl,q1 (BJ.fH.mp z)⟩) (λz=>?_) (by rw[<- ⇑Av,<- ⇑BJ];exact hz);refine⟨.ref s.heap.objs.size,_,J.laid (t':=s.toks) (o:=.tup (xs++ys)) (λb BY q=>Cr _ q) (C9 _) ?_,rfl,q2 (λw=>z (BJ.fH.mpr w)) _ (J.B0.fresh (C9 _))⟩;exact⟨by rw[Em];exact hz,_,Av.append BJ,IsTup.new _ _⟩
end
noncomputable def M8(n:Nat)(i:Int):Option Nat:=if 0<=i then(if i<n then↥i.toNat else none)else if-(n:Int)<=i then↥(i+n).toNat else none
noncomputable def JY{α:Type}(xs:↑α)(i:Int):Option α:=(M8 ⇑xs i).bind λj=>xs[j]?
def jz{n:Nat}{i:Int}{j:Nat}(h:M8 n i=↥j):SK i n=↥j/\j<n/\-(n:Int)<=i/\i<n:=by
 unfold M8 at h;by_cases h0:0<=i
 .rw[if_pos h0]at h;by_cases h1:i<n
  .rw[if_pos h1]at h;have e:i.toNat=j:=GC h;exact⟨by rw[seqIndex_of h0 h1,e],δ,δ,h1⟩
  .rw[if_neg h1]at h;cases h
 .rw[if_neg h0]at h;by_cases h1: -(n:Int)<=i
  .rw[if_pos h1]at h;have e:(i+n).toNat=j:=GC h;exact⟨by rw[seqIndex_neg δ h1,e],δ,h1,δ⟩
  .rw[if_neg h1]at h;cases h
def bb{α:Type}{xs:↑α}{i:Int}{v:α}(h:JY xs i=↥v):∃j,SK i ⇑xs=↥j/\xs[j]?=↥v/\j< ⇑xs/\-(⇑xs:Int)<=i/\i< ⇑xs:=by
 unfold JY at h;cases e:M8 ⇑xs i with
 |none=>rw[e]at h;cases h
 |some j=>rw[e]at h;obtain⟨h1,h2,BO,Cc⟩:=jz e;exact⟨j,h1,h,h2,BO,Cc⟩
noncomputable def cG(b:Al):Prop:=∀o i,Xj b false o i=operate [o,i] (PW o i)
noncomputable def NL(X:Ar)(r:En):Prop:=
 ∀(value slice:Al)(A3:ν)(s:AQ)(σ :St)(H:AE)(x y:V)(v u:A7)(Q:CR),θ->RelV x v->RelV y u->r x y H Q->
  Xj slice false v u=operate [v,u] (PW v u)->An ο X.A (subscriptTail value slice v u) (Gw X A3 σ Q) X.D1 s
noncomputable def QC(X:Ar)(id:String)(r:V->↑V->AE->CR->Prop):Prop:=
 ∀(A3:ν)(s:AQ)(σ :St)(H:AE)(x:V)(xs:↑V)(v:A7)(us:↑A7)(Q:CR),θ->RelV x v->Vals xs us->r x xs H Q->
  An ο X.A (call (.builtin id) (v::us)) (Gw X A3 σ Q) X.D1 s
section
variable{X:Ar}{a b:Al}{Bu tb:TE}{pos:Pos}
def NL.or{r Bf:En}(h:NL X r)(h':NL X Bf):NL X (λx y H Q=>r x y H Q\/Bf x y H Q):=by
 intro value slice A3 s σ H x y v u Q J Az Bm q AO;rcases q with q|q
 .exact h value slice A3 s σ H x y v u Q J Az Bm q AO
 .exact h' value slice A3 s σ H x y v u Q J Az Bm q AO
def QC.or{id:String}{r Bf:V->↑V->AE->CR->Prop}(h:QC X id r)(h':QC X id Bf):QC X id (λx xs H Q=>r x xs H Q\/Bf x xs H Q):=by
 intro A3 s σ H x xs v us Q J Az rs q;rcases q with q|q
 .exact h A3 s σ H x xs v us Q J Az rs q
 .exact h' A3 s σ H x xs v us Q J Az rs q
def adM{r:En}(BF:NL X r)(AF:Ag X a Bu)(A4:Ag X b tb)(AO:cG b):Ag X (.Subscript a b pos) (Tk r Bu tb):=by intro A3 s σ H Q J h;exact Subscript_ (d8 AF A4 J h λv u s2 x y AU BN Az Bm q=>BF a b A3 s2 σ AU x y v u Q BN Az Bm q (AO _ _))
noncomputable def mF(K:As):En:=λx y H Q=>∃p xs i v,x=.ref p/\y=.int i/\EV K H p xs/\JY xs i=↥v/\Q v H
noncomputable def mH(K:As):En:=λx y H Q=>∃p xs i v,x=.ref p/\y=.int i/\EW K H p xs/\JY xs i=↥v/\Q v H
noncomputable def mG:En:=λx y H Q=>∃z i c,x=.str z/\y=.int i/\ ⇑z<=CL/\JY z.cps.toList i=↥c/\Q (.str ⟨#[c]⟩) H
def yP:NL X (mF X.K):=by
 intro value slice A3 s σ H x y v u Q J Az Bm h AO;obtain⟨p,xs,i,z,rfl,rfl,AY,he,q⟩:=h;cases Az;obtain⟨t,rfl⟩:=Bm;obtain⟨its,r,pl,hz⟩:=J.list AY;obtain⟨j,h1,h2,BO,Cc,F7⟩:=bb he;obtain⟨w,C_,IC⟩:=r.get h2;have AG:=⇑r;have AZ:=Sz;have fin:Gw X A3 σ Q w s:=⟨z,H,J,IC,q⟩;by_cases h0:0<=i
 .have Am:i.toNat=j:=by
    rw[seqIndex_of h0 F7]at h1;exact GC h1
  exact item_listR pl.isList h0 δ (by rw[Am];simpa using C_) fin AO
 .have Am:(i+(its.toArray.size:Int)).toNat=j:=by
    rw[seqIndex_neg δ Cc]at h1;rw[DW,<-AG];exact GC h1
  exact subscriptTail_builtinR (x:=w) pl.isList.typeIs slot_list_getitem.lookup
   (wpAny_getItem_list_neg (Q:=λr s'=>r=w/\Gw X A3 σ Q r s') pl.isList δ (by rw[DW]<;>lia) δ (by rw[Am];simpa using C_) ⟨rfl,fin⟩) AO
def Oc:NL X (mH X.K):=by
 intro value slice A3 s σ H x y v u Q J Az Bm h AO;obtain⟨p,xs,i,z,rfl,rfl,AY,he,q⟩:=h;cases Az;obtain⟨t,rfl⟩:=Bm;obtain⟨its,r,pl,hz⟩:=J.tuple AY;obtain⟨j,h1,h2,BO,Cc,F7⟩:=bb he;obtain⟨w,C_,IC⟩:=r.get h2;have AG:=⇑r;have AZ:=Sz;have fin:Gw X A3 σ Q w s:=⟨z,H,J,IC,q⟩
 exact subscriptTail_builtinR (x:=w) pl.typeIs slot_tuple_getitem.lookup
  (getItem_tuple (j:=j) (Q:=λr s'=>r=w/\Gw X A3 σ Q r s') pl δ δ (by rw[DW,<-AG];exact h1) (C_:) ⟨rfl,fin⟩) AO
def yR:NL X mG:=by
 intro value slice A3 s σ H x y v u Q J Az Bm h AO;obtain⟨z,i,c,rfl,rfl,hz,he,q⟩:=h;obtain⟨t,rfl⟩:=Az;obtain⟨t',rfl⟩:=Bm;obtain⟨j,h1,h2,BO,Cc,F7⟩:=bb he;have AG:⇑z.cps.toList=⇑z:=by simp[Str.length]
 rw[AG]at h1 Cc F7;have AZ:=Sz;exact tail_any (typeIs_str s z t) slot_str_getitem.lookup (getItem_str (c:=c) (by have AC:decide (i< -(2^63:Int))=false:=decide_eq_false δ;have AH:decide (i≥2^63)=false:=decide_eq_false δ;rw[AC,AH,Bool.or_false]) (by rw[h1];simpa using h2) ⟨.str ⟨#[c]⟩,H,J.tok _,⟨_,rfl⟩,q⟩) AO
noncomputable def f5(K:As):En:=λx y H Q=>mF K x y H Q\/mH K x y H Q\/mG x y H Q
def yQ:NL X (f5 X.K):=yP.or (Oc.or yR)
def aaj(its:↑A7)(n j:Nat)(u:A7):O5 (·.setIfInBounds j u) { cls:=.type "list",data:=.seq its.toArray n }={ cls:=.type "list",data:=.seq (its.set j u).toArray n }:=by simp[O5]
theorem Inv.lst{A3:ν}{σ :St}{H:AE}{s:AQ}{p:A6}{xs:↑V}(J:θ)(h:H p=↥(.lst xs)) :
  ∃(its:↑A7)(n:Nat),Vals xs its/\s.heap.get? p=some { cls:=.type "list",data:=.seq its.toArray n }/\ ⇑xs<=CL:=by
 obtain⟨z,its,n,r,e⟩:=J.B0 p _ h;exact⟨its,n,r,e,z⟩
def Inv.aaZ{A3:ν}{σ :St}{H:AE}{s:AQ}{p:A6}{xs ys:↑V}{its its':↑A7}{n W6:Nat}{f:Obj->Obj}(J:θ)(h:H p=↥(.lst xs))(ho:s.heap.get? p=some { cls:=.type "list",data:=.seq its.toArray n })(hf:f { cls:=.type "list",data:=.seq its.toArray n }={ cls:=.type "list",data:=.seq its'.toArray W6 })(r:Vals ys its')(hz:⇑ys<=CL)(t:Nat) :
  Inv X A3 σ (upd H p (.lst ys)) { s with heap:=s.heap.update p f,toks:=t }:=by
 have e:(s.heap.update p f).get? p=some { cls:=.type "list",data:=.seq its'.toArray W6 }:=by rw[S8 f ho (by rw[hf]<;>rfl),hf]
 refine J.write (x:=p) (e:=p) (by rw[h];trivial) (.inl rfl) (λb u A4 q=>(X6 _ _ (Lj A4)).trans q) ⟨_,e⟩ ?_;exact⟨hz,its',W6,r,e⟩
noncomputable def mM:V->V->V->AE->(AE->Prop)->Prop:=λo i v H Q=>∃p xs k j,o=.ref p/\i=.int k/\H p=↥(.lst xs)/\M8 ⇑xs k=↥j/\Q (upd H p (.lst (xs.set j v)))
def set_list:hZ X mM:=by
 intro A3 s σ H o i v CF H4 u Q J Ep adR C0 h;obtain⟨p,xs,k,j,rfl,rfl,AV,Am,q⟩:=h;cases Ep;obtain⟨t,rfl⟩:=adR;obtain⟨its,n,r,ho,hz⟩:=J.lst AV;obtain⟨h1,h2,BO,Cc⟩:=jz Am;have AG:=⇑r;have AZ:=Sz;have FM:Inv X A3 σ (upd H p (.lst (xs.set j v))) { s with heap:=s.heap.update p (O5 (·.setIfInBounds j u)) }:=
  J.aaZ AV ho (aaj its n j u) (r.set C0 j) (by rw[gy];exact hz) s.toks
 by_cases h0:0<=k
 .have AP:k.toNat=j:=by
    rw[seqIndex_of h0 Cc]at h1;exact GC h1
  exact PySem.W.ki_setAt ho h0 δ (by rw[DW,<-AG];exact Cc) (by rw[AP];exact⟨_,FM,q⟩)
 .have AP:(k+(its.toArray.size:Int)).toNat=j:=by
    rw[seqIndex_neg δ BO]at h1;rw[DW,<-AG];exact GC h1
  exact PySem.W.ki_setBack ho δ (by rw[DW,<-AG];exact BO) δ (by rw[AP];exact⟨_,FM,q⟩)
def afO(lo AD:Option Int)(n:Nat):(Qm lo AD none n).1=((E6.Cf n 0 lo:Nat):Int)/\(Qm lo AD none n).2.1=((E6.Cf n n AD:Nat):Int)/\(Qm lo AD none n).2.2=1:=by
 refine⟨?_,?_,rfl⟩
 .cases lo with
  |none=>simp[Qm,E6.Cf]
  |some i=>
   erw[Qm,E6.Cf,Option.getD_none,show(1:Int)>0 by decide,if_true];by_cases h:i<0
   .erw[h,if_true]<;>lia
   .erw[h,if_false]<;>lia
 .cases AD with
  |none=>simp[Qm,E6.Cf]
  |some i=>
   erw[Qm,E6.Cf,Option.getD_none,show(1:Int)>0 by decide,if_true];by_cases h:i<0
   .erw[h,if_true]<;>lia
   .erw[h,if_false]<;>lia
def afN(its:↑A7)(lo AD:Option Int):slicePick its.toArray lo AD none=((its.drop (E6.Cf ⇑its 0 lo)).take (E6.Cf ⇑its ⇑its AD-E6.Cf ⇑its 0 lo)).toArray:=by obtain⟨h1,h2,BO⟩:=afO lo AD its.toArray.size;unfold slicePick;rw[h1,h2,BO];erw[sliceRange_one,pick_run,DW]<;>rfl
noncomputable def mO(K:As):V->Option Int->Option Int->AE->CR->Prop:=λx lo AD H Q=>∃a xs,x=.ref a/\EV K H a xs/\∀p,H p=none->Q (.ref p) (upd H p (.lst (Pj xs lo AD)))
def afK:R_ X (mO X.K):=by intro A3 s σ H x v Dg ID lo AD Bt Q J Az AO pl pu h;obtain⟨a,xs,rfl,AM,q⟩:=h;cases Az;obtain⟨its,r,BV,hz⟩:=J.list AM;have hlen:=⇑r;refine⟨"list",_,slot_list_getitem.lookup,BV.isList.typeIs,?_⟩;refine wpAny_getItem_list_slice BV.isList AO pl pu .none γ ?_ (by rw[DW]<;>lia);rw[afN,<-hlen];refine⟨.ref s.heap.objs.size,_,J.laid (t':=s.toks) (o:=.lst (Pj xs lo AD)) (λb BY q=>Cr _ q) (C9 _) ?_,rfl,q _ (J.B0.fresh (C9 _))⟩;exact⟨Im (iE xs lo AD) hz,_,0,(r.drop (E6.Cf ⇑xs 0 lo)).take (E6.Cf ⇑xs ⇑xs AD-E6.Cf ⇑xs 0 lo),FP _ rfl⟩
def JU.or{f:A7}{r Bf:↑V->AE->CR->Prop}(h:JU X f r)(h':JU X f Bf):JU X f (λxs H Q=>r xs H Q\/Bf xs H Q):=by
 intro A3 s σ H xs us Q J rs q;rcases q with q|q
 .exact h A3 s σ H xs us Q J rs q
 .exact h' A3 s σ H xs us Q J rs q
def t_:JU X (.type "list") (λxs H Q=>∃p ys,xs=[.ref p]/\(EV X.K H p ys\/EW X.K H p ys)/\∀l,H l=none->Q (.ref l) (upd H l (.lst ys))):=by
 intro A3 s σ H xs us Q J r h;obtain⟨p,ys,rfl,AY,q⟩:=h;obtain⟨u,rfl,Az⟩:=vals1 r;cases Az
 have fin:∀(its:↑A7),Vals ys its->⇑ys<=CL->∀(h':BH)(GO:Nat),(∀b o',s.heap.get? b=↥o'->h'.get? b=↥o')->
   h'.get? s.heap.objs.size=some { cls:=.type "list",dict:=none,data:=.seq its.toArray GO,slots:= #[] }->Gw X A3 σ Q (.ref s.heap.objs.size) { s with heap:=h' }:=λits Bf hz h' GO Bl e=>
  ⟨.ref s.heap.objs.size,_,J.laid (t':=s.toks) Bl (C9 _) (show Dn X.prog X.w _ h' _ (.lst ys)from⟨hz,its,GO,Bf,e⟩),rfl,q _ (J.B0.fresh (C9 _))⟩
 rcases AY with AY|AY
 .obtain⟨its,Bf,pl,hz⟩:=J.list AY;have hlen:=⇑Bf;obtain⟨o,ho,AI,n,hd⟩:=pl.isList;exact call_list_seq p (.inl rfl) ho AI hd (λh' GO Bl e=>fin its Bf hz h' GO Bl e) (by erw[DW]<;>lia)
 .obtain⟨its,Bf,pl,hz⟩:=J.tuple AY;have hlen:=⇑Bf;obtain⟨o,ho,AI,n,hd⟩:=pl;exact call_list_seq p (.inr rfl) ho AI hd (λh' GO Bl e=>fin its Bf hz h' GO Bl e) (by erw[DW]<;>lia)
def tg:JU X (.type "tuple") (λxs H Q=>∃p ys,xs=[.ref p]/\((EV X.K H p ys/\∀l,H l=none->Q (.ref l) (upd H l (.tup ys)))\/(EW X.K H p ys/\Q (.ref p) H))):=by
 intro A3 s σ H xs us Q J r h;obtain⟨p,ys,rfl,h⟩:=h;obtain⟨u,rfl,Az⟩:=vals1 r;cases Az;rcases h with⟨AY,q⟩|⟨AY,q⟩
 .obtain⟨its,Bf,pl,hz⟩:=J.list AY;have hlen:=⇑Bf;refine call_tuple_list pl.isList (λh' Bl=>?_) (by erw[DW]<;>lia);have Ac:Inv X A3 σ H { s with heap:=h' }:=J.kept (t':=s.toks) Bl;have BN:Inv X A3 σ (upd H h'.objs.size (.tup ys)) { s with heap:=h'.push { cls:=.type "tuple",data:=.seq its.toArray } }:=
   Ac.laid (t':=s.toks) (λb o e=>Cr _ e) (C9 _) (show Dn X.prog X.w _ _ _ (.tup ys)from⟨hz,its,Bf,IsTup.new _ _⟩)
  exact⟨.ref h'.objs.size,_,BN,rfl,q _ (Ac.B0.fresh (C9 _))⟩
 .obtain⟨its,Bf,pl,hz⟩:=J.tuple AY;exact call_tuple_same pl ⟨.ref p,H,J,rfl,q⟩
noncomputable def gA(K:As)(T:String)(x:V)(H:AE):Prop:=match x with
 |.str _=>T="str"
 |.int _=>T="int"
 |.ref p=>(T="list"/\∃xs,EV K H p xs)\/(T="tuple"/\∃o,K.lookup p=↥o/\o.cls=.type "tuple"/\o.dict=none)\/
     (T="dict"/\((∃A8,H p=↥(.Ak A8))\/∃A8,H p=↥(.Dy A8)))\/(T="set"/\∃S n,H p=↥(.set S n))
 |_=>False
def qY{A3:ν}{σ :St}{H:AE}{s:AQ}{T:String}{x:V}{v:A7}(J:θ)(r:RelV x v)(ty:gA X.K T x H) :
  s.TypeIs v T/\∀a,v=.ref a->∃BY,s.heap.get? a=↥BY/\BY.dict=none:=by
 cases x with
 |str z=>obtain⟨t,rfl⟩:=r;cases(show T="str" from ty);exact⟨typeIs_str s z t,λ_ e=>nomatch e⟩
 |int i=>obtain⟨t,rfl⟩:=r;cases(show T="int" from ty);exact⟨typeIs_int s i t,λ_ e=>nomatch e⟩
 |ref p=>
  cases r;rcases ty with⟨rfl,xs,AY⟩|⟨rfl,o,AP,AI,hd⟩|⟨rfl,AP⟩|⟨rfl,S,n,AP⟩
  .obtain⟨its,_,pl,_⟩:=J.list AY;refine⟨pl.isList.typeIs,λa e=>?_⟩;cases e;obtain⟨o,n,e,c,hd,_⟩:=pl;exact⟨o,e,hd⟩
  .refine⟨⟨o,J.F9 p o AP,AI⟩,λa e=>?_⟩;cases e;exact⟨o,J.F9 _ o AP,hd⟩
  .have z:∃o,s.heap.get? p=↥o/\o.ExactDict:=by
     rcases AP with⟨A8,AP⟩|⟨A8,AP⟩
     .obtain⟨_,_,_,_,o,_,_,e,ex,_⟩:=J.B0 p _ AP;exact⟨o,e,ex⟩
     .obtain⟨_,_,_,_,o,_,_,e,ex,_⟩:=J.B0 p _ AP;exact⟨o,e,ex⟩
   obtain⟨o,e,ex⟩:=z;refine⟨⟨o,e,ex.1⟩,λa AH=>?_⟩;cases AH;exact⟨o,e,ex.2.1⟩
  .obtain⟨o,_,_,_,e,ex,_⟩:=J.B0 p _ AP;refine⟨⟨o,e,ex.1⟩,λa AH=>?_⟩;cases AH;exact⟨o,e,ex.2.1⟩
 |_=>exact HR ty
noncomputable def pF(K:As)(T:String)(r:V->↑V->AE->CR->Prop)(to:TE):TE:=λσ H Q=>to σ H λx H1=>gA K T x H1/\r x [] H1 Q
noncomputable def pE(K:As)(T:String)(r:V->↑V->AE->CR->Prop)(to:TE)(t:Fd):TE:=λσ H Q=>to σ H λx H1=>gA K T x H1/\t σ H1 λxs AU=>r x xs AU Q
variable{o e:Al}{es:↑Al}{to:TE}{t:Fd}{name:Str}{apos Cs:Pos}{T id:String}{r:V->↑V->AE->CR->Prop}
def mb(WH:PlainAttrs T)(slot:Slot T name id)(eC:typeOf (.builtin id)=pure (.type "method_descriptor"))(hm:QC X id r)(ho:Ag X o to)(cx:Ks o name X.env (Bc o X.env)=Bc o X.env:=by rfl)(cT:(apos.endLine==Cs.line)=true:=by rfl):Ag X (.Call (.Attribute o name apos) [] [] Cs) (pF X.K T r to):=by intro A3 s σ H Q J h;refine wpAny_Call_method0_late cx cT (BS (ho A3 s σ H _ J h) λv s1⟨x,H1,Ac,Av,ty,q1⟩=>?_);obtain⟨h1,h2⟩:=qY Ac Av ty;exact⟨T,id,WH,slot,eC,h1,h2,S1 rfl (gf (hm A3 s1 σ H1 x [] v [] Q Ac Av .nil q1))⟩
def m_ (WH:PlainAttrs T) (slot:Slot T name id) (eC:typeOf (.builtin id)=pure (.type "method_descriptor")) (hm:QC X id r) (ho:Ag X o to) (AF:Gz X (e::es) t)(cx:Ks o name X.env (Bc o X.env)=Bc o X.env:=by rfl)(y3:((Fc Cs (CK (e::es) X.env)).all (λx=>!x.1)&&(Kx Cs (Kw [] X.env)).all (λx=>x.1.isSome)
    &&decide (⇑(e::es)+⇑([]:↑MW)+(if([]:↑MW).isEmpty then 0 else 1)<30))=true:=by rfl)
  (cT:(apos.endLine==Cs.line)=true:=by rfl) (AO:CK (e::es) X.env=(false,Bc e X.env)::CK es X.env:=by rfl) (xq:(Fc Cs (CK es X.env)).any (·.1)=false:=by rfl) :
  Ag X (.Call (.Attribute o name apos) (e::es) [] Cs) (pE X.K T r to t):=by
 intro A3 s σ H Q J h;refine wpAny_Call_method_late cx y3 cT rfl (BS (ho A3 s σ H _ J h) λv s1⟨x,H1,Ac,Av,ty,q1⟩=>?_);obtain⟨h1,h2⟩:=qY Ac Av ty;refine⟨T,id,WH,slot,eC,h1,h2,?_⟩;have Hl:=AF Cs A3 s1 σ H1 _ Ac q1;rw[AO]at Hl |-;refine S1 (by show(false||(Fc Cs (CK es X.env)).any (·.1))=false;rw[xq]<;>rfl) (XV ?_);exact BS Hl λus s2⟨vs,AU,BN,BJ,q2⟩=>hm A3 s2 σ AU x vs v us Q BN Av BJ q2
end
noncomputable def Uw(X:Ar)(id:String)(r:V->↑V->AE->CR->Prop):Prop:=
 ∀(A3:ν)(s:AQ)(σ :St)(H:AE)(x:V)(xs:↑V)(v:A7)(us:↑A7)(Q:CR),θ->RelV x v->Vals xs us->r x xs H Q->
  An ο X.A (call (.builtin id) (v::us)) (Gw X A3 σ Q) X.D1 s
def Vals.one:∀{x:V}{us:↑A7},Vals [x] us->∃u,us=[u]/\RelV x u
 |_,_,.cons r .nil=>⟨_,rfl,r⟩
def Vals.two:∀{x y:V}{us:↑A7},Vals [x,y] us->∃u v,us=[u,v]/\RelV x u/\RelV y v
 |_,_,_,.cons r (.cons q .nil)=>⟨_,_,rfl,r,q⟩
def Vals.zero:∀{us:↑A7},Vals [] us->us=[]
 |_,.nil=>rfl
theorem Vals.dropLast{xs:↑V}{us:↑A7}(h:Vals xs us):Vals xs.dropLast us.dropLast:=by
 induction h with
 |nil=>exact .nil
 |cons r t CC=>
  cases t with
  |nil=>exact .nil
  |cons q t'=>exact .cons r CC
theorem Vals.eraseIdx:∀{xs:↑V}{us:↑A7}(i:Nat),Vals xs us->Vals (xs.eraseIdx i) (us.eraseIdx i)
 |_,_,_,.nil=>.nil
 |_,_,0,.cons _ t=>t
 |_,_,i+1,.cons r t=>.cons r (Vals.eraseIdx i t)
theorem Vals.rep{xs:↑V}{us:↑A7}(h:Vals xs us):∀k:Nat,Vals (GR k xs).flatten (GR k us).flatten
 |0=>.nil
 |k+1=>by rw[QY,QY,PL,PL];exact Vals.append h (Vals.rep h k)
def uo{α:Type}(l:↑α):l.eraseIdx (⇑l-1)=l.dropLast:=by
 induction l with
 |nil=>rfl
 |cons a r CC=>
  cases r with
  |nil=>rfl
  |cons b r=>
   have e:⇑(a::b::r)-1=(⇑(b::r)-1)+1:=by have h1:⇑(a::b::r)=⇑r+2:=rfl;have h2:⇑(b::r)=⇑r+1:=rfl;lia
   rw[e,rR,CC]
   all_goals rfl
theorem lL{α:Type}:∀(l:↑α)(i:Nat),⇑(l.eraseIdx i)<=⇑l
 |[],_=>C9 _
 |_::_,0=>PT _
 |_::r,i+1=>Nat.succ_le_succ (lL r i)
theorem foldl_rep(its:↑A7):∀(k:Nat)(acc:↑A7),
  List.foldl (λx1 x2=>x1++x2) acc.toArray (GR k its.toArray)=(acc++(GR k its).flatten).toArray
 |0,acc=>γ
 |k+1,acc=>by
  have e:acc.toArray++its.toArray=(acc++its).toArray:=γ
  have AH:(acc++its)++(GR k its).flatten=acc++(GR (k+1) its).flatten:=by rw[QY,PL,EB]
  rw[<-AH,<-foldl_rep its k (acc++its),<-e,QY,List.foldl_cons]
section
variable{X:Ar}{A3:ν}{σ :St}{H:AE}{s:AQ}{l b:A6}{xs ys zs:↑V}
def Inv.VC{its its':↑A7}{n:Nat}{f:Array A7->Array A7}{t':Nat}(J:θ)(HJ:H l=↥(.lst xs))(e:s.heap.get? l=some { cls:=.type "list",data:=.seq its.toArray n })(hf:f its.toArray=its'.toArray)(Bk:Vals ys its')(hz:⇑ys<=CL) :
  Inv X A3 σ (upd H l (.lst ys)) { s with heap:=s.heap.update l (O5 f),toks:=t' }:=by
 have q:=PySem.IsL.update e f;rw[hf]at q;refine J.write (x:=l) (e:=l) (by rw[HJ];exact trivial) (.inl rfl) (λIc u A4 BQ=>(X6 s.heap (O5 f) (Lj A4)).trans BQ) ⟨_,q⟩ ?_;exact⟨hz,its',_,Bk,q⟩
def Inv.e1{its:↑A7}{t':Nat}(J:θ)(Bk:Vals ys its)(hz:⇑ys<=CL) :
  Inv X A3 σ (upd H s.heap.objs.size (.lst ys)) { s with heap:=s.heap.push { cls:=.type "list",data:=.seq its.toArray },toks:=t' }:=
 J.laid (λ_ _ q=>Cr _ q) (C9 _) ⟨hz,its,0,Bk,FP _ rfl⟩
theorem Inv.fresh(J:θ):H s.heap.objs.size=none:=J.B0.fresh (C9 _)
def Inv.Om(J:θ)(HJ:H l=↥(.lst xs)):⇑xs<=CL/\∃(its:↑A7)(n:Nat),Vals xs its/\ ⇑xs=⇑its/\s.heap.get? l=some { cls:=.type "list",data:=.seq its.toArray n }:=by obtain⟨z,its,n,r,e⟩:=J.B0 l _ HJ;exact⟨z,its,n,r,⇑r,e⟩
def lD{n:Nat}(h:n<=CL):X9 n=false:=by unfold X9;exact decide_eq_false δ
end
section
variable{X:Ar}
noncomputable def m8:V->List V->AE->CR->Prop:=λx vs H Q=>∃l xs y,x=.ref l/\vs=[y]/\H l=some (.lst xs)/\ ⇑xs<CL/\Q .non (upd H l (.lst (xs++[y])))
theorem kx:Uw X "list.append" m8:=by intro A3 s σ H x vs v us Q J Az C0 h;obtain⟨l,xs,y,rfl,rfl,HJ,hz,q⟩:=h;cases Az;obtain⟨u,rfl,Fj⟩:=C0.one;obtain⟨z,its,n,r,AG,e⟩:=J.Om HJ;refine Qq F.slot_list_append ⟨_,e,rfl⟩ F.entry_list_append (F.args_list_append_2 _ _) (PySem.list_append l its.toArray n u (by rw[DW];lia)) ⟨e,?_⟩;refine⟨.non,_,J.VC (its':=its++[u]) HJ e γ (r.append (.cons Fj .nil)) ?_,rfl,q⟩;rw[Em,sF];lia
noncomputable def ado:V->List V->AE->CR->Prop:=λx vs H Q=>∃l b xs zs,x=.ref l/\vs=[.ref b]/\H l=some (.lst xs)/\H b=some (.lst zs)/\ ⇑xs+⇑zs<=CL/\Q .non (upd H l (.lst (xs++zs)))
theorem aiX:Uw X "list.extend" ado:=by
 intro A3 s σ H x vs v us Q J Az C0 h;obtain⟨l,b,xs,zs,rfl,rfl,HJ,H2,hz,q⟩:=h;cases Az;obtain⟨u,rfl,Fj⟩:=C0.one;cases Fj;obtain⟨z,its,n,r,AG,e⟩:=J.Om HJ;obtain⟨Ec,H3,FZ,BJ,TY,AH⟩:=J.Om H2;have hsz:its.toArray.size+H3.toArray.size<=CL:=by rw[DW,DW];lia
 have cy:¬(!its.toArray.isEmpty&&X9 (its.toArray.size+H3.toArray.size))=true:=by rw[lD hsz,UQ];exact Kt
 refine Qq F.slot_list_extend ⟨_,e,rfl⟩ F.entry_list_extend (F.args_list_extend_2 _ _)
  (AutoSeq1.list_extend_list_list_0 l its.toArray n b H3.toArray FZ cy (by rw[DW];lia) δ) ⟨e,AH,?_⟩
 refine⟨.non,_,J.VC (its':=its++H3) HJ e γ (r.append BJ) ?_,rfl,q⟩;rw[Em];lia
noncomputable def mJ:V->↑V->AE->CR->Prop:=λx vs H Q=>∃l xs y,x=.ref l/\vs=[]/\H l=↥(.lst xs)/\xs[⇑xs-1]?=↥y/\Q y (upd H l (.lst xs.dropLast))
theorem ky:Uw X "list.pop" mJ:=by
 intro A3 s σ H x vs v us Q J Az C0 h;obtain⟨l,xs,y,rfl,rfl,HJ,AS,q⟩:=h;cases Az;have eE:=C0.zero;subst eE;obtain⟨z,its,n,r,AG,e⟩:=J.Om HJ;obtain⟨u,BQ,Fj⟩:=r.get AS;have OZ:its.toArray[its.toArray.size-1]?=↥u:=by show its.toArray[⇑its-1]?=↥u;rw[<-XU,<-AG];exact BQ
 refine Qq F.slot_list_pop ⟨_,e,rfl⟩ F.entry_list_pop (F.args_list_pop_1 _) (MeetsSeq.list_pop_last l its.toArray n u OZ (by rw[DW];lia)) ⟨e,?_⟩;refine⟨y,_,J.VC (its':=its.dropLast) HJ e ?_ r.dropLast ?_,Fj,q⟩
 .show its.toArray.eraseIdxIfInBounds (its.toArray.size-1)=its.dropLast.toArray;rw[DW,rK,uo]
 .rw[List.length_dropLast];lia
noncomputable def mK:V->↑V->AE->CR->Prop:=λx vs H Q=>∃l xs i k y,x=.ref l/\vs=[.int i]/\H l=↥(.lst xs)/\-(2^63)<=i/\i<2^63/\SK i ⇑xs=↥k/\xs[k]?=↥y/\Q y (upd H l (.lst (xs.eraseIdx k)))
theorem kz:Uw X "list.pop" mK:=by
 intro A3 s σ H x vs v us Q J Az C0 h;obtain⟨l,xs,i,k,y,rfl,rfl,HJ,h1,h2,AP,AS,q⟩:=h;cases Az;obtain⟨u,rfl,Fj⟩:=C0.one;obtain⟨t,rfl⟩:=Fj;obtain⟨z,its,n,r,AG,e⟩:=J.Om HJ;obtain⟨w,hw,IC⟩:=r.get AS
 refine Qq F.slot_list_pop ⟨_,e,rfl⟩ F.entry_list_pop (F.args_list_pop_2 _ _)
  (MeetsSeq.list_pop_at l its.toArray n i t k w (fitsIndex_both h1 h2) (by rw[DW,<-AG];exact AP) (by rw[<-XU];exact hw) (by rw[DW];lia)) ⟨e,?_⟩
 refine⟨y,_,J.VC (its':=its.eraseIdx k) HJ e ?_ (r.eraseIdx k) ?_,IC,q⟩
 .show its.toArray.eraseIdxIfInBounds k=(its.eraseIdx k).toArray;rw[rK]
 .have:=lL xs k;lia
noncomputable def mC:V->↑V->AE->CR->Prop:=λx vs H Q=>∃l xs,x=.ref l/\vs=[]/\H l=↥(.lst xs)/\Q .non (upd H l (.lst []))
theorem aaQ:Uw X "list.clear" mC:=by intro A3 s σ H x vs v us Q J Az C0 h;obtain⟨l,xs,rfl,rfl,HJ,q⟩:=h;cases Az;have eE:=C0.zero;subst eE;obtain⟨z,its,n,r,AG,e⟩:=J.Om HJ;refine Qq F.slot_list_clear ⟨_,e,rfl⟩ F.entry_list_clear (F.args_list_clear_1 _) (AutoSeq1.list_clear_list_0 l its.toArray n (by rw[DW];lia)) ⟨e,?_⟩;exact⟨.non,_,J.VC (its':=[]) (ys:=[]) HJ e rfl .nil (Hy _),rfl,q⟩
noncomputable def mA:En:=λx y H Q=>∃l b xs zs,x=.ref l/\y=.ref b/\H l=↥(.lst xs)/\H b=↥(.lst zs)/\ ⇑xs+⇑zs<=CL/\∀p,H p=none->Q (.ref p) (upd H p (.lst (xs++zs)))
def abR:Do X (Jj .Add) mA:=by
 intro A3 s σ H x y v u Q J Az Bm h;obtain⟨l,b,xs,zs,rfl,rfl,HJ,H2,hz,q⟩:=h;cases Az;cases Bm;obtain⟨z,its,n,r,AG,e⟩:=J.Om HJ;obtain⟨Ec,H3,FZ,BJ,TY,AH⟩:=J.Om H2;refine PySem.P.add_list e AH ?_ (by rw[DW,DW];lia);have BW:its.toArray++H3.toArray=(its++H3).toArray:=γ
 rw[BW];exact⟨.ref _,_,J.e1 (t':=s.toks) (r.append BJ) (by rw[Em];lia),rfl,q _ J.fresh⟩
noncomputable def mL:En:=λx y H Q=>∃l k xs,x=.ref l/\y=.int k/\H l=↥(.lst xs)/\-(2^63)<=k/\k<2^63/\ ⇑xs*k.toNat<=CL/\
 ∀p,H p=none->Q (.ref p) (upd H p (.lst (GR k.toNat xs).flatten))
def len_rep{α:Type}(xs:↑α)(k:Nat):(GR k xs).flatten.length=k*⇑xs:=by
 induction k with
 |zero=>simp
 |succ k CC=>rw[QY,PL,Em,CC,Nat.succ_mul,Nat.add_comm]
theorem acz:Do X (Jj .Mult) mL:=by
 intro A3 s σ H x y v u Q J Az Bm h;obtain⟨l,k,xs,rfl,rfl,HJ,h1,h2,hz,q⟩:=h;cases Az;obtain⟨t,rfl⟩:=Bm;obtain⟨z,its,n,r,AG,e⟩:=J.Om HJ;have hlen:its.toArray.size*k.toNat<=CL:=by rw[DW,<-AG];exact hz
 have wZ:¬its.toArray.size*k.toNat>(2^63-1)/8:=by
  have:(CL:Nat)<=(2^63-1)/8:=ε
  lia
 have y4:¬(!Builtin.List.listFitsIndex k)=true:=by rw[fitsIndex_both h1 h2];exact Kt
 have cy:¬X9 (its.toArray.size*k.toNat)=true:=by rw[lD hlen];exact Kt
 have xe:List.foldl (λx1 x2=>x1++x2) #[] (GR (if its.toArray.isEmpty=true then 0 else k.toNat) its.toArray)=(GR k.toNat its).flatten.toArray:=by
  have f0:∀m:Nat,List.foldl (λx1 x2=>x1++x2) #[] (GR m its.toArray)=(GR m its).flatten.toArray:=λm=>by have:=foldl_rep its m [];rw[N9]at this;exact this
  rw[f0];cases its with
  |nil=>simp
  |cons a Bf=>rw[if_neg γ]
 refine wpAny_binaryOp_repeat_ref (T:="list") (U:="int") ε ⟨_,e,rfl⟩ (λs'=>typeIs_int s' k t) noFill_list_mul F.fills_int_mul F.slot_int_rmul repeat_list F.slot_int_index.lookup
  (Qq F.slot_int_rmul (typeIs_int s k t) F.entry_int_rmul (F.args_int_rmul_2 _ _) (int___rmul___int_list k t l its.toArray n)
    ⟨e,rfl,⟨_,e,rfl⟩,Qq F.slot_list_mul ⟨_,e,rfl⟩ F.entry_list_mul (F.args_list_mul_2 _ _) (AutoListH.list___mul___list_int_3 l its.toArray n k t y4 wZ cy) ⟨e,?_⟩⟩)
 rw[xe];exact⟨.ref _,_,J.e1 (t':=s.toks) (r.rep k.toNat) (by rw[len_rep,Nat.mul_comm];exact hz),rfl,q _ J.fresh⟩
end
section
variable{prog:C5}{w:Bo}{A:DA}{E:A7->AQ->Prop}{s:AQ}
end
section
variable{X:Ar}
end
section
variable{Br:Type}[DecidableEq Br]
noncomputable def HV(A8:↑(Br×V))(k:Br):Option V:=(A8.find? λBs=>decide (Bs.1=k)).map (·.2)
noncomputable def putK(A8:↑(Br×V))(k:Br)(v:V):↑(Br×V):=
 if(A8.any λBs=>decide (Bs.1=k))=true then A8.map (λBs=>if Bs.1=k then(Bs.1,v)else Bs)else A8++[(k,v)]
noncomputable def N6(A8:↑(Br×V))(k:Br):↑(Br×V):=A8.filter λBs=>decide (Bs.1≠k)
def agL{k:Br}:HV ([]:↑(Br×V)) k=none:=rfl
def Wu{p:Br×V}{r:↑(Br×V)}{k:Br}(e:p.1=k):HV (p::r) k=↥p.2:=by simp[HV,Qc,e]
def Wt{p:Br×V}{r:↑(Br×V)}{k:Br}(e:¬p.1=k):HV (p::r) k=HV r k:=by simp[HV,Qc,e]
theorem qf(k:Br):∀A8:↑(Br×V),(A8.any λBs=>decide (Bs.1=k))=(HV A8 k).isSome
 |[]=>rfl
 |p::r=>by
  rw[gh];by_cases e:p.1=k
  .erw[Wu e,decide_eq_true e,Bool.true_or,rj]
  .rw[Wt e,decide_eq_false e,gi];exact qf k r
def dv(A8:↑(Br×V))(k:Br)(v:V):⇑(putK A8 k v)<=⇑A8+1:=by
 unfold putK
 split
 .rw[CU];lia
 .rw[Em,DX,F2];lia
def IJ.Te{o:Option V}{u:Option A7}(r:IJ o u):o.isSome=u.isSome:=by
 cases o with
 |none=>cases u with
  |none=>rfl
  |some _=>exact(show False from r).elim
 |some _=>cases u with
  |none=>exact(show False from r).elim
  |some _=>rfl
theorem IJ.getD{o:Option V}{u:Option A7}{d:V}{d':A7}(r:IJ o u)(JN:RelV d d'):RelV (o.getD d) (u.getD d'):=by
 cases o with
 |none=>cases u with
  |none=>exact JN
  |some _=>exact(show False from r).elim
 |some _=>cases u with
  |none=>exact(show False from r).elim
  |some _=>exact r
def Ef.val{A8:↑(Br×V)}{vs:↑(Br×A7)}(r:Ef A8 vs)(k:Br):IJ (HV A8 k) (PX vs k):=by
 unfold Ef at r;induction r with
 |nil=>exact Hz
 | @cons p q ps Ee h t CC=>
   obtain⟨h1,h2⟩:=h;by_cases e:p.1=k
   .have Ba:q.1=k:=h1.symm.trans e;have b:PX (q::Ee) k=↥q.2:=by simp[PX,Qc,Ba]
    rw[Wu e,b];exact h2
   .have Ba:¬q.1=k:=λz=>e (h1.trans z);have b:PX (q::Ee) k=PX Ee k:=by simp[PX,Qc,Ba]
    rw[Wt e,b];exact CC
theorem Ef.any{A8:↑(Br×V)}{vs:↑(Br×A7)}(r:Ef A8 vs)(k:Br):(A8.any λBs=>decide (Bs.1=k))=vs.any λBs=>decide (Bs.1=k):=by
 unfold Ef at r;induction r with
 |nil=>rfl
 |cons h t CC=>rw[gh,gh,CC,h.1]
def Ef.f8{A8:↑(Br×V)}{vs:↑(Br×A7)}(r:Ef A8 vs)(k:Br){y:V}{u:A7}(Bm:RelV y u) :
  Ef (A8.map λBs=>if Bs.1=k then(Bs.1,y)else Bs) (vs.map λBs=>if Bs.1=k then(Bs.1,u)else Bs):=by
 unfold Ef at r |-;induction r with
 |nil=>exact .nil
 | @cons p q ps Ee h t CC=>
   rw[D9,D9];refine .cons ?_ CC;obtain⟨h1,h2⟩:=h;by_cases e:p.1=k
   .rw[if_pos e,if_pos (h1.symm.trans e)];exact⟨h1,Bm⟩
   .rw[if_neg e,if_neg (λz=>e (h1.trans z))];exact⟨h1,h2⟩
def Ef.put{A8:↑(Br×V)}{vs:↑(Br×A7)}(r:Ef A8 vs)(k:Br){y:V}{u:A7}(Bm:RelV y u):Ef (putK A8 k y) (stored vs k u):=by
 unfold putK stored;rw[r.any k];by_cases e:(vs.any λBs=>decide (Bs.1=k))=true
 .rw[if_pos e,if_pos e];exact r.f8 k Bm
 .rw[if_neg e,if_neg e];exact Paired.snoc r ⟨rfl,Bm⟩
def Ef.drop{A8:↑(Br×V)}{vs:↑(Br×A7)}(r:Ef A8 vs)(k:Br):Ef (N6 A8 k) (without vs k):=by
 unfold Ef at r |-;unfold N6 without;induction r with
 |nil=>exact .nil
 | @cons p q ps Ee h t CC=>
   obtain⟨h1,h2⟩:=h;rw[Qa,Qa];by_cases e:p.1=k
   .have a:¬decide (p.1≠k)=true:=by simp[e]
    have b:¬decide (q.1≠k)=true:=by simp[h1.symm.trans e]
    rw[if_neg a,if_neg b];exact CC
   .have Ba:¬q.1=k:=λz=>e (h1.trans z);have a:decide (p.1≠k)=true:=by simp[e]
    have b:decide (q.1≠k)=true:=by simp[Ba]
    rw[if_pos a,if_pos b];exact .cons ⟨h1,h2⟩ CC
theorem Ef.length{A8:↑(Br×V)}{vs:↑(Br×A7)}(r:Ef A8 vs):⇑A8=⇑vs:=Paired.length r
def jN(A8:↑(Br×V))(k:Br):⇑(N6 A8 k)<=⇑A8:=List.length_filter_le _ _
end
def Od{P:C5}{w:Bo}{k:Key}{u:A7}(r:RelV (Cd k) u):(GI P w).is k u=true:=by
 cases k with
 |inl i=>obtain⟨t,e⟩:=(show ∃t,u=SH i t from r);subst e;exact aap P w i t
 |inr x=>obtain⟨t,e⟩:=(show ∃t,u=SI x t from r);subst e;exact aaq P w x t
theorem jw{P:C5}{w:Bo}:∀{AJ:↑Key}{us:↑A7},Vals (AJ.map Cd) us->ItemsAre (GI P w) AJ us
 |[],_,r=>by rw[I2]at r;cases r;exact .nil
 |k::AJ,_,r=>by
  rw[D9]at r;cases r with
  |cons h t=>exact .cons (Od h) (jw t)
abbrev KT(H:AE):↑(Ew×V)->↑(Ew×A6×A7)->Prop:=Paired λp q=>p.1=q.1/\OF H p.1 q.2.1/\RelV p.2 q.2.2
def KT.val{H:AE}{A8:↑(Ew×V)}{xs:↑(Ew×A6×A7)}(r:KT H A8 xs)(k:Ew):IJ (HV A8 k) ((atKey xs k).map (·.2)):=by
 induction r with
 |nil=>exact Hz
 | @cons p q ps Ee h t CC=>
   obtain⟨h1,_,h2⟩:=h;by_cases e:p.1=k
   .have Ba:q.1=k:=h1.symm.trans e;have b:atKey (q::Ee) k=↥q.2:=by simp[atKey,Qc,Ba]
    rw[Wu e,b];exact h2
   .have Ba:¬q.1=k:=λz=>e (h1.trans z);have b:atKey (q::Ee) k=atKey Ee k:=by simp[atKey,Qc,Ba]
    rw[Wt e,b];exact CC
def KT.f8{H:AE}{A8:↑(Ew×V)}{xs:↑(Ew×A6×A7)}(r:KT H A8 xs)(k:Ew){y:V}{u:A7}(Bm:RelV y u) :
  KT H (A8.map λBs=>if Bs.1=k then(Bs.1,y)else Bs) (xs.map (putAt k u)):=by
 induction r with
 |nil=>exact .nil
 | @cons p q ps Ee h t CC=>
   rw[D9,D9];refine .cons ?_ CC;obtain⟨h1,h2,BO⟩:=h;unfold putAt;by_cases e:p.1=k
   .rw[if_pos e,if_pos (h1.symm.trans e)];exact⟨h1,h2,Bm⟩
   .rw[if_neg e,if_neg (λz=>e (h1.trans z))];exact⟨h1,h2,BO⟩
def KT.put{H:AE}{A8:↑(Ew×V)}{xs:↑(Ew×A6×A7)}(r:KT H A8 xs)(k:Ew){b:A6}{y:V}{u:A7}(A4:OF H k b)(Bm:RelV y u) :
  KT H (putK A8 k y) (storedH xs k b u):=by
 have e:(A8.any λBs=>decide (Bs.1=k))=(atKey xs k).isSome:=by rw[qf,(r.val k).Te,gX]
 unfold putK storedH;rw[e];by_cases q:(atKey xs k).isSome=true
 .rw[if_pos q,if_pos q];exact r.f8 k Bm
 .rw[if_neg q,if_neg q];exact Paired.snoc r ⟨rfl,A4,Bm⟩
def KT.keeps{H A9:AE}{A8:↑(Ew×V)}{xs:↑(Ew×A6×A7)}(r:KT H A8 xs)(BV:∀b ys,H b=↥(.tup ys)->A9 b=↥(.tup ys)):KT A9 A8 xs:=
 Paired.dV r λ_ _ z=>⟨z.1,BV _ _ z.2.1,z.2.2⟩
section
variable{P:C5}{w:Bo}{K:As}{H:AE}{h:BH}{a:A6}
def mP{u:Eu}(ok:Ev P w H h)(e:JX H a u):Dn P w H h a u:=e.ok ok
def Nm{A8:↑(Key×V)}(ok:Ev P w H h)(e:JX H a (.Ak A8)):⇑A8<=CL/\(a==KF)=false/\∃vs,Ef A8 vs/\h.DictOf (GI P w) a vs:=
 show Dn P w H h a (.Ak A8)from mP ok e
def P3{A8:↑(Key×V)}(ok:Ev P w H h)(e:H a=↥(.Ak A8)):⇑A8<=CL/\(a==KF)=false/\∃vs,Ef A8 vs/\h.DictOf (GI P w) a vs:=Nm ok (.inl e)
def RO{AJ:↑Key}(ok:Ev P w H h)(e:H a=↥(.tup (AJ.map Cd))):(tupleKind (GI P w)).is h AJ a:=by obtain⟨_,its,r,o,h1,h2,n,BO⟩:=(show Dn P w H h a (.tup (AJ.map Cd))from ok a _ e);exact⟨o,its.toArray,n,h1,h2,BO,(jw r:)⟩
def R2{A8:↑(Ew×V)}(ok:Ev P w H h)(e:JX H a (.Dy A8)):⇑A8<=CL/\(a==KF)=false/\
  ∃xs,KT H A8 xs/\h.DictOfH (tupleKind (GI P w)) a xs:=by
 obtain⟨z,y,xs,r,o,es,Aq,h1,h2,BO,Cc,F7⟩:=(show Dn P w H h a (.Dy A8)from mP ok e);refine⟨z,y,xs,r,o,es,Aq,h1,h2,BO,Cc,λx AM=>?_,F7⟩;have all:∀{l:↑(Ew×V)}{m:↑(Ew×A6×A7)},KT H l m->∀x∈m,O6 (GI P w) h x.1 x.2.1:=by
  intro l m q;induction q with
  |nil=>intro x AM;exact nomatch AM
  | @cons p q ps Ee AY t CC=>
    intro x AM;rcases List.mem_cons.mp AM with e|AM
    .subst e;exact RO ok (by rw[<-AY.1];exact AY.2.1)
    .exact CC x AM
 exact all r x AM
end
noncomputable def JV(H:AE)(a:A6)(y:V)(r:Option V):Prop:=
 (∃A8 k,JX H a (.Ak A8)/\y=Cd k/\r=HV A8 k)\/∃A8 k b,JX H a (.Dy A8)/\y=.ref b/\OF H k b/\r=HV A8 k
noncomputable def QA(H:AE)(a:A6)(y v:V)(A9:AE):Prop:=
 (∃A8 k,H a=↥(.Ak A8)/\y=Cd k/\ ⇑A8<CL/\A9=upd H a (.Ak (putK A8 k v)))\/
 ∃A8 k b,H a=↥(.Dy A8)/\y=.ref b/\OF H k b/\ ⇑A8<CL/\A9=upd H a (.Dy (putK A8 k v))
theorem JV.k{H:AE}{a:A6}{A8:↑(Key×V)}{k:Key}(e:H a=↥(.Ak A8)):JV H a (Cd k) (HV A8 k):=.inl ⟨A8,k,.inl e,rfl,rfl⟩
def JV.t{H:AE}{a b:A6}{A8:↑(Ew×V)}{k:Ew}(e:H a=↥(.Dy A8))(BI:OF H k b):JV H a (.ref b) (HV A8 k):=.inr ⟨A8,k,b,.inl e,rfl,BI,rfl⟩
theorem QA.k{H:AE}{a:A6}{A8:↑(Key×V)}{k:Key}{v:V}(e:H a=↥(.Ak A8))(AG:⇑A8<CL):QA H a (Cd k) v (upd H a (.Ak (putK A8 k v))):=.inl ⟨A8,k,e,rfl,AG,rfl⟩
def QA.t{H:AE}{a b:A6}{A8:↑(Ew×V)}{k:Ew}{v:V}(e:H a=↥(.Dy A8))(BI:OF H k b)(AG:⇑A8<CL) :
  QA H a (.ref b) v (upd H a (.Dy (putK A8 k v))):=.inr ⟨A8,k,b,e,rfl,BI,AG,rfl⟩
section
variable{X:Ar}{A3:ν}{σ :St}{H:AE}{s:AQ}{a:A6}{y v:V}{u r:A7}{o:Option V}{A:DA}{E:A7->AQ->Prop}
def Inv.big(J:θ):KF<s.heap.objs.size:=by have h:FQ<s.heap.objs.size:=(J.mod.glob.keeps J.B_).lt;exact hB ε h
def hk{Q:A7->AQ->Prop}(BQ:A.units+16<Dv)(J:θ)(g:JV H a y ↥v)(Bm:RelV y u)(h:∀CZ s',Inv X A3 σ H s'->RelV v CZ->Q CZ s') :
  An ο A (PW (.ref a) u) Q E s:=by
 rcases g with⟨A8,k,e,DP,l⟩|⟨A8,k,b,e,DP,BI,l⟩
 .subst DP;obtain⟨z,hd,vs,rel,dd⟩:=Nm J.B0 e;obtain⟨CZ,hw,IC⟩:=IJ.some_of (v:=v) (o:=PX vs k) (by rw[l];exact rel.val k);exact wpAny_getItem_of (Od Bm) dd.mapOf hw (h CZ _ (J.tok _) IC)
 .subst DP;cases(show u=Cm b from Bm);obtain⟨z,hd,xs,rel,dd⟩:=R2 J.B0 e;obtain⟨CZ,hw,IC⟩:=IJ.some_of (v:=v) (o:=(atKey xs k).map (·.2)) (by rw[l];exact rel.val k);obtain⟨p,AV,VM⟩:=Option.map_eq_some_iff.mp hw;refine wpAny_getItem_heap (UG (Qe (UK (by decide:1<=16) _) BQ)) (RO J.B0 BI) dd AV ?_;rw[VM];exact h CZ _ (J.tok _) IC
def v3{Q:A7->AQ->Prop}(BQ:A.units+16<Dv)(J:θ)(g:JV H a y o)(Bm:RelV y u)(h:∀s',Inv X A3 σ H s'->Q (.bool o.isSome) s') :
  An ο A (G3 .In u (.ref a)) Q E s:=by
 rcases g with⟨A8,k,e,DP,l⟩|⟨A8,k,b,e,DP,BI,l⟩
 .subst DP;obtain⟨z,hd,vs,rel,dd⟩:=Nm J.B0 e;refine wpAny_in_of (Od Bm) hd dd.mapOf ?_;rw[<-(rel.val k).Te,<-l];exact h _ (J.tok _)
 .subst DP;cases(show u=Cm b from Bm);obtain⟨z,hd,xs,rel,dd⟩:=R2 J.B0 e;refine wpAny_in_heap (UG (Qe (UK (by decide:1<=16) _) BQ)) (RO J.B0 BI) hd dd ?_;have q:=(rel.val k).Te;rw[gX]at q;rw[<-q,<-l];exact h _ (J.tok _)
def v5{Q:A7->AQ->Prop}(BQ:A.units+16<Dv)(J:θ)(g:JV H a y o)(Bm:RelV y u)(h:∀s',Inv X A3 σ H s'->Q (.bool (!o.isSome)) s') :
  An ο A (G3 .NotIn u (.ref a)) Q E s:=by
 rcases g with⟨A8,k,e,DP,l⟩|⟨A8,k,b,e,DP,BI,l⟩
 .subst DP;obtain⟨z,hd,vs,rel,dd⟩:=Nm J.B0 e;refine wpAny_notIn_of (Od Bm) hd dd.mapOf ?_;rw[<-(rel.val k).Te,<-l];exact h _ (J.tok _)
 .subst DP;cases(show u=Cm b from Bm);obtain⟨z,hd,xs,rel,dd⟩:=R2 J.B0 e;refine wpAny_notIn_heap (UG (Qe (UK (by decide:1<=16) _) BQ)) (RO J.B0 BI) hd dd ?_;have q:=(rel.val k).Te;rw[gX]at q;rw[<-q,<-l];exact h _ (J.tok _)
def Vk{h':BH}{t':Nat}{BY:Eu}(J:θ)(KI:Uy (H a))(AO:Kr a s.heap h')(he:∃q,h'.get? a=↥q)(new:Dn X.prog X.w (upd H a BY) h' a BY) :
  Inv X A3 σ (upd H a BY) { s with heap:=h',toks:=t' }:=
 J.write (x:=a) (e:=a) KI (.inl rfl) (λb q A4 z=>(AO.2 b A4).trans z) he new
def YX{P:C5}{w:Bo}{A9:AE}{h':BH}{A8:↑(Key×V)}{vs:↑(Key×A7)}(z:⇑A8<=CL)(hd:(a==KF)=false)(rel:Ef A8 vs)(dd:h'.DictOf (GI P w) a vs) :
  Dn P w A9 h' a (.Ak A8):=⟨z,hd,vs,rel,dd⟩
def v8{A9:AE}{Q:Unit->AQ->Prop}(BQ:A.units+16<Dv)(J:θ)(g:QA H a y v A9)(Bm:RelV y u)(C0:RelV v r)(h:∀s',Inv X A3 σ A9 s'->Q () s') :
  An ο A (setItem (.ref a) u r) Q E s:=by
 rcases g with⟨A8,k,e,DP,l,C4⟩|⟨A8,k,b,e,DP,BI,l,C4⟩
 .subst DP C4;obtain⟨z,hd,vs,rel,dd⟩:=P3 J.B0 e;have hz:⇑vs<=CL:=by rw[<- ⇑rel];exact z
  have AG:⇑(putK A8 k v)<=CL:=by have:=dv A8 k v;lia
  refine wpAny_setItem_pairs (hsz:=hz) (Od Bm) dd λh' L0 AO=>h _ ?_;have he:∃q,h'.get? a=↥q:=let⟨q,_,_,AY,_⟩:=L0;⟨q,AY⟩
  exact Vk J (by rw[e];exact Hz) AO he (YX AG hd (rel.put k C0) L0)
 .subst DP C4;cases(show u=Cm b from Bm);obtain⟨z,hd,xs,rel,dd⟩:=R2 J.B0 (.inl e);have hz:⇑xs<=CL:=by rw[<-Paired.length rel];exact z
  have AG:⇑(putK A8 k v)<=CL:=by have:=dv A8 k v;lia
  refine wpAny_setItem_heap (hsz:=hz) (UG (Qe (UK (by decide:1<=16) _) BQ)) (RO J.B0 BI) dd λh' L0 AO=>h _ ?_;obtain⟨q,es,Aq,AY,h2,BO,Cc,_,F7⟩:=L0;refine Vk J (by rw[e];exact Hz) AO ⟨q,AY⟩ ⟨AG,hd,_,(rel.put k BI C0).keeps λc ys ec=>?_,q,es,Aq,AY,h2,BO,Cc,F7⟩;rw[DF (aby ec e (λz=>nomatch z))];exact ec
end
section
variable{X:Ar}{A3:ν}{σ :St}{H:AE}{s:AQ}{a:A6}{A8:↑(Key×V)}{k:Key}{u:A7}{A:DA}{E:A7->AQ->Prop}
def ais{Q:Unit->AQ->Prop}(J:θ)(e:H a=↥(.Ak A8))(Bm:RelV (Cd k) u)(l:(HV A8 k).isSome=true)(h:∀s',Inv X A3 σ (upd H a (.Ak (N6 A8 k))) s'->Q () s') :
  An ο A (delItem (.ref a) u) Q E s:=by
 obtain⟨z,hd,vs,rel,dd⟩:=P3 J.B0 e
 refine wpAny_delItem_slot dd.typeIs ε rV
  (SD rV dd.typeIs PySem.F.entry_dict_delitem (PySem.F.args_dict_delitem_2 _ _) (meets_dict_delitem_pairs (GI X.prog X.w) a (Od Bm)) ⟨vs,dd,by rw[<- ⇑rel];exact z,by rw[<-(rel.val k).Te];exact l,λh' L0 AO=>h _ ?_⟩)
 have he:∃q,h'.get? a=↥q:=let⟨q,_,_,AY,_⟩:=L0;⟨q,AY⟩
 exact Vk J (by rw[e];exact Hz) AO he (YX (Im (jN A8 k) z) hd (rel.drop k) L0)
def v7{v:V}{more:↑A7}{Q:A7->AQ->Prop}(J:θ)(e:H a=↥(.Ak A8))(Bm:RelV (Cd k) u)(l:HV A8 k=↥v)(hm:more=[]\/∃x,more=[x])(h:∀CZ s',Inv X A3 σ (upd H a (.Ak (N6 A8 k))) s'->RelV v CZ->Q CZ s'):An ο A (call (.builtin "dict.pop") (.ref a::u::more)) Q E s:=by
 obtain⟨z,hd,vs,rel,dd⟩:=P3 J.B0 e;obtain⟨CZ,hw,IC⟩:=IJ.some_of (v:=v) (o:=PX vs k) (by rw[<-l];exact rel.val k);have AV:(keyPart u).isSome=true:=by
  cases k with
  |inl i=>obtain⟨t,q⟩:=(show ∃t,u=SH i t from Bm);subst q;rfl
  |inr x=>obtain⟨t,q⟩:=(show ∃t,u=SI x t from Bm);subst q;rfl
 have AF:argsOk "dict.pop" ⟨.ref a::u::more,[]⟩:=by
  rcases hm with q|⟨x,q⟩
  .subst q;exact PySem.F.args_dict_pop_2 _ _
  .subst q;exact PySem.F.args_dict_pop_3 _ _ _
 refine SD sG dd.typeIs PySem.F.entry_dict_pop AF (meets_dict_pop_there (GI X.prog X.w) a (Od Bm) more hm AV)
  ⟨vs,CZ,dd,by rw[<- ⇑rel];exact z,hw,λh' L0 AO=>h CZ _ ?_ IC⟩
 have he:∃q,h'.get? a=↥q:=let⟨q,_,_,AY,_⟩:=L0;⟨q,AY⟩
 exact Vk J (by rw[e];exact Hz) AO he (YX (Im (jN A8 k) z) hd (rel.drop k) L0)
end
noncomputable def cC(i:Al):Prop:=∀CF H4,Xj i false CF H4=operate [CF,H4] (PW CF H4)
def aeu{prog:C5}{w:Bo}{A:DA}{E:A7->AQ->Prop}{s:AQ}{env:Env}{value slice:Al}{pos:Pos}{T id:String}{Q:A7->AQ->Prop}(AG:typeLookup (.type T) "__getitem__"=pure ↥(.builtin id))(AO:cC slice)(h:An (B2 prog w) A (Bc value env) (λo Cw=>An (B2 prog w) A (Bc slice env) (λi JQ=>JQ.TypeIs o T/\An (B2 prog w) A (PW o i) Q E JQ) E Cw) E s) :
  An (B2 prog w) A (Bc (.Subscript value slice pos) env) Q E s:=by
 refine Subscript_ (HQ h (λo Cw Ny=>HQ Ny (λi JQ O_=>?_) λ_ _ x=>x) λ_ _ x=>x);obtain⟨Dt,O_⟩:=O_;unfold subscriptTail;refine Ad ?_;rw[getitemInPython_of_ne Dt.not_modules];refine Ad (gz Dt AG ?_);have fin:An (B2 prog w) A (Xj slice false o i) (λr QR=>An (B2 prog w) A (letTemporaryGo value o r>>=λ_=>pure r) Q E QR) E JQ:=by rw[AO o i];exact wpAny_operating (HQ O_ (λr QR Oa=>Ad (wpAny_letTemporaryGo (BZ Oa))) λ_ _ x=>x)
 first
  |exact BZ (Ad fin)
  |exact Ad (BZ (Ad fin))
  |exact Ad fin
def hl{X:Ar}{A3:ν}{σ :St}{H:AE}{s:AQ}{a:A6}{y:V}{o:Option V}(J:θ)(g:JV H a y o):s.TypeIs (.ref a) "dict":=by
 rcases g with⟨A8,k,e,_,_⟩|⟨A8,k,b,e,_,_,_⟩
 .obtain⟨_,_,vs,_,dd⟩:=Nm J.B0 e;exact dd.typeIs
 .obtain⟨_,_,xs,_,dd⟩:=R2 J.B0 e;exact dd.typeIs
noncomputable def qq(HB ty:TE):TE:=λσ H Q=>HB σ H λx H1=>ty σ H1 λy AU=>∃a v,x=.ref a/\JV AU a y ↥v/\Q v AU
noncomputable def nh(HB ty KU:TE):F3:=λD σ H=>KU σ H λv H1=>HB σ H1 λx AU=>ty σ AU λy Bv=>∃a Cb,x=.ref a/\QA Bv a y v Cb/\D.AR σ Cb
section
variable{X:Ar}{o i e value:Al}{pos pos' Ng:Pos}{HB ty KU:TE}
def adD(BQ:X.A.units+16<Dv)(ho:Ag X o HB)(AD:Ag X i ty)(AO:cC i):Ag X (.Subscript o i pos) (qq HB ty):=by intro A3 s σ H Q J h;refine aeu PySem.F.slot_dict_getitem.lookup AO (BS (ho A3 s σ H _ J h) λu s1⟨x,H1,Ac,Az,q1⟩=>BS (AD A3 s1 σ H1 _ Ac q1) λH4 s2⟨y,AU,BN,Bm,a,v,ex,g,q2⟩=>?_);subst ex;obtain rfl:u=Cm a:=Az;exact⟨hl BN g,hk BQ BN g Bm λCZ s3 Cx IC=>⟨v,AU,Cx,IC,q2⟩⟩
def ae5(BQ:X.A.units+16<Dv)(ho:Ag X o HB)(AD:Ag X i ty)(Bk:Ag X value KU)(AO:NE value ↥(.Subscript o i pos') pos.line X.env=pure false) :
  DO X (.Assign [.Subscript o i pos'] value pos) (nh HB ty KU):=by
 intro A3 s σ H D J h;refine wpAny_Assign_Subscript (BS (Bk A3 s σ H _ J h) λr s1⟨v,H1,Ac,C0,q1⟩=>BS (ho A3 s1 σ H1 _ Ac q1) λu s2⟨x,AU,BN,Az,q2⟩=>BS (AD A3 s2 σ AU _ BN q2) λH4 s3⟨y,Bv,Cx,Bm,a,Cb,ex,g,Ea⟩=>?_) AO;subst ex;obtain rfl:u=Cm a:=Az;exact v8 BQ Cx g Bm C0 λs4 Lz=>⟨σ,Cb,Lz,Ea⟩
end
def hn{P:C5}{w:Bo}{H:AE}(h:BH)(A4:KF<h.objs.size):Dn P w H (h.push { cls:=.type "dict",data:=.dict #[] }) h.objs.size (.Ak []):=
 ⟨Hy _,beq_eq_false_iff_ne.mpr (Lj (Et A4)),[],.nil,Heap.DictOf.new h⟩
def vL{P:C5}{w:Bo}{H:AE}(h:BH)(A4:KF<h.objs.size):Dn P w H (h.push { cls:=.type "dict",data:=.dict #[] }) h.objs.size (.Dy []):=
 ⟨Hy _,beq_eq_false_iff_ne.mpr (Lj (Et A4)),[],.nil,_,#[],0,FP _ rfl,⟨rfl,rfl,rfl⟩,rfl,rfl,SG⟩
noncomputable def fz:TE:=λ_ H Q=>∀p,H p=none->Q (.ref p) (upd H p (.Ak []))
noncomputable def qs:TE:=λ_ H Q=>∀p,H p=none->Q (.ref p) (upd H p (.Dy []))
section
variable{X:Ar}{pos:Pos}
def WL:Ag X (.Dict [] [] pos) fz:=λA3 s σ H Q J h=>
 wpAny_Dict_empty ⟨.ref s.heap.objs.size,_,J.laid (a:=s.heap.objs.size) (o:=.Ak []) (t':=s.toks) (λ_ _ q=>Cr _ q) (C9 _) (hn s.heap J.big),rfl,h _ (J.B0.fresh (C9 _))⟩
def adG:Ag X (.Dict [] [] pos) qs:=λA3 s σ H Q J h=>
 wpAny_Dict_empty ⟨.ref s.heap.objs.size,_,J.laid (a:=s.heap.objs.size) (o:=.Dy []) (t':=s.toks) (λ_ _ q=>Cr _ q) (C9 _) (vL s.heap J.big),rfl,h _ (J.B0.fresh (C9 _))⟩
end
noncomputable def aZ:↑(TE×TE)->St->AE->(↑(V×V)->AE->Prop)->Prop
 |[],_,H,Q=>Q [] H
 |(CW,KU)::r,σ,H,Q=>CW σ H λx H1=>KU σ H1 λy AU=>aZ r σ AU λps Bv=>Q ((x,y)::ps) Bv
abbrev hJ:↑(V×V)->↑(A7×A7)->Prop:=Paired λp q=>RelV p.1 q.1/\RelV p.2 q.2
noncomputable def V0(X:Ar)(pos:Pos)(keys:↑(Option Al))(values:↑Al)(KR:↑(TE×TE)):Prop:=
 ∀(A3:ν)(s:AQ)(σ :St)(H:AE)(Q:↑(V×V)->AE->Prop),θ->aZ KR σ H Q->
  An ο X.A (evalPairs (pairTrees keys values X.env pos)) (λvs s'=>∃ps A9,Inv X A3 σ A9 s'/\hJ ps vs/\Q ps A9) X.D1 s
def ae2{X:Ar}{pos:Pos}:V0 X pos [] [] []:=λA3 s σ H Q J h=>pairTrees_nil_walk ⟨[],H,J,.nil,h⟩
def ae1{X:Ar}{pos:Pos}{k v:Al}{AJ:↑(Option Al)}{vs:↑Al}{CW KU:TE}{KR:↑(TE×TE)}(AP:Ag X k CW)(Bk:Ag X v KU)(BF:V0 X pos AJ vs KR) :
  V0 X pos (↥k::AJ) (v::vs) ((CW,KU)::KR):=λA3 s σ H Q J h=>
 pairTrees_cons_walk (BS (AP A3 s σ H _ J h) λu s1⟨x,H1,Ac,Az,q1⟩=>BS (Bk A3 s1 σ H1 _ Ac q1) λGq s2⟨y,AU,BN,Bm,q2⟩=>
  BS (BF A3 s2 σ AU _ BN q2) λws s3⟨ps,Bv,Cx,rel,Ea⟩=>⟨(x,y)::ps,Bv,Cx,.cons ⟨Az,Bm⟩ rel,Ea⟩)
noncomputable def Pa(A8 more:↑(Key×V)):↑(Key×V):=more.foldl (λacc Bs=>putK acc Bs.1 Bs.2) A8
def Ef.merge:∀{more:↑(Key×V)}{rs:↑(Key×A7)}{A8:↑(Key×V)}{vs:↑(Key×A7)},Ef more rs->Ef A8 vs->Ef (Pa A8 more) (merged vs rs):=by
 intro more rs A8 vs r;unfold Ef at r;induction r generalizing A8 vs with
 |nil=>intro q;exact q
 | @cons p q ps Ee h t CC=>
   intro JL;have e:Ef (putK A8 p.1 p.2) (stored vs q.1 q.2):=by have:=JL.put p.1 h.2;rw[<-h.1];exact this
   exact CC e
theorem lM:∀(more A8:↑(Key×V)),⇑(Pa A8 more)<=⇑A8+⇑more
 |[],A8=>by show⇑A8<=⇑A8+0;lia
 |p::r,A8=>by have h1:=lM r (putK A8 p.1 p.2);have h2:=dv A8 p.1 p.2;show⇑(Pa (putK A8 p.1 p.2) r)<=_;rw[DX];lia
theorem i2{P:C5}{w:Bo}:∀{A8:↑(Key×V)}{ws:↑(A7×A7)},hJ (A8.map λBs=>(Cd Bs.1,Bs.2)) ws->∃rs,Carries (GI P w) ws rs/\Ef A8 rs
 |[],_,r=>by rw[I2]at r;cases r;exact⟨[],Hz,.nil⟩
 |p::A8,_,r=>by
  rw[D9]at r;cases r with
  | @cons a b as bs h t=>obtain⟨rs,c,q⟩:=i2 (P:=P) (w:=w) t;obtain⟨DY,Fe⟩:=b;exact⟨(p.1,Fe)::rs,⟨Od h.1,rfl,c⟩,.cons ⟨rfl,h.2⟩ q⟩
noncomputable def qu(KR:↑(TE×TE)):TE:=λσ H Q=>∀p,H p=none->aZ KR σ (upd H p (.Ak [])) λps AU=>AU p=↥(.Ak [])/\∃A8:↑(Key×V),ps=A8.map (λBs=>(Cd Bs.1,Bs.2))/\ ⇑A8<=15/\Q (.ref p) (upd AU p (.Ak (Pa [] A8)))
def adF{X:Ar}{pos:Pos}{keys:↑(Option Al)}{values:↑Al}{KR:↑(TE×TE)}(h:V0 X pos keys values KR)(VG:keys.all (·.isSome)=true)(AG:⇑keys=⇑values)(h0:keys≠[])(wn:⇑keys<=15):Ag X (.Dict keys values pos) (qu KR):=by
 intro A3 s σ H Q J q;have AZ:=J.B0.fresh (C9 s.heap.objs.size);have Ac:=J.laid (a:=s.heap.objs.size) (o:=.Ak []) (h':=s.heap.push { cls:=.type "dict",data:=.dict #[] }) (t':=s.toks) (λ_ _ q=>Cr _ q) (C9 _) (hn s.heap J.big);refine wpAny_Dict_walk (knd:=GI X.prog X.w) VG AG h0 wn (BS (h A3 _ σ _ _ Ac (q _ AZ)) λws s2⟨ps,AU,BN,rel,e,A8,Aq,lk,q2⟩=>?_);subst Aq;obtain⟨rs,c,f9⟩:=i2 (P:=X.prog) (w:=X.w) rel;obtain⟨z,hd,aja,JL,dd⟩:=P3 BN.B0 e;cases JL;refine⟨rs,c,dd,λh' L0 AO=>⟨.ref s.heap.objs.size,_,?_,rfl,q2⟩⟩;have hz:⇑(Pa [] A8)<=CL:=by have h1:=lM A8 [];rw[F2]at h1;rw[Li];lia
 have he:∃q,h'.get? s.heap.objs.size=↥q:=let⟨q,_,_,AY,_⟩:=L0;⟨q,AY⟩
 exact Vk BN (by rw[e];exact Hz) AO he (YX hz hd (f9.merge .nil) L0)
structure RU(X:Ar)(o:Al)(m:Str)(apos:Pos)(e:Al)(Cs:Pos):Prop where
 base:Ks o m X.env (Bc o X.env)=Bc o X.env
 few:((Fc Cs (CK [e] X.env)).all (λx=>!x.1)&&(Kx Cs (Kw [] X.env)).all (λx=>x.1.isSome)
  &&decide (⇑([e]:↑Al)+⇑([]:↑MW)+(if([]:↑MW).isEmpty then 0 else 1)<30))=true
 line:(apos.endLine==Cs.line)=true
 trees:Fc Cs (CK [e] X.env)=[(false,Bc e X.env)]
noncomputable def Y9(H:AE)(a:A6):Prop:=(∃A8,JX H a (.Ak A8))\/∃A8,JX H a (.Dy A8)
def a9{X:Ar}{A3:ν}{σ :St}{H:AE}{s:AQ}{a:A6}(J:θ)(d:Y9 H a) :
  s.TypeIs (.ref a) "dict"/\(∀b,Cm a=.ref b->∃BY,s.heap.get? b=↥BY/\BY.dict=none)/\(a==KF)=false:=by
 rcases d with⟨A8,e⟩|⟨A8,e⟩
 .obtain⟨_,hd,vs,_,dd⟩:=Nm J.B0 e;refine⟨dd.typeIs,λb q=>?_,hd⟩;cases q;obtain⟨BY,_,_,h1,h2,_⟩:=dd;exact⟨BY,h1,h2.2.1⟩
 .obtain⟨_,hd,xs,_,dd⟩:=R2 J.B0 e;refine⟨dd.typeIs,λb q=>?_,hd⟩;cases q;obtain⟨BY,_,_,h1,h2,_⟩:=dd;exact⟨BY,h1,h2.2.1⟩
section
variable{X:Ar}{A3:ν}{σ :St}{H:AE}{s:AQ}{a:A6}{y d:V}{u r:A7}{o:Option V}{A:DA}{E:A7->AQ->Prop}
def uz{Q:A7->AQ->Prop}(BQ:A.units+16<Dv)(J:θ)(g:JV H a y o)(Bm:RelV y u)(h:∀CZ s',Inv X A3 σ H s'->RelV (o.getD .non) CZ->Q CZ s') :
  An ο A (call (.builtin "dict.get") [.ref a,u]) Q E s:=by
 rcases g with⟨A8,k,e,DP,l⟩|⟨A8,k,b,e,DP,BI,l⟩
 .subst DP;obtain⟨z,hd,vs,rel,dd⟩:=Nm J.B0 e;refine SD gH dd.typeIs sD (rZ _ _) (meets_dict_get (GI X.prog X.w) a (Od Bm) hd) ⟨_,dd.mapOf,h _ _ (J.tok _) ?_⟩;rw[l];exact(rel.val k).getD rfl
 .subst DP;cases(show u=Cm b from Bm);obtain⟨z,hd,xs,rel,dd⟩:=R2 J.B0 e;refine SD gH dd.typeIs sD (rZ _ _) (meetsH_dict_get (tupleKind (GI X.prog X.w)) a b hd) ⟨UG (Qe (UK (by decide:1<=16) _) BQ),k,xs,RO J.B0 BI,dd,h _ _ (J.tok _) ?_⟩;rw[l];exact(rel.val k).getD rfl
end
noncomputable def qr(HB ty:TE):TE:=λσ H Q=>HB σ H λx H1=>∃a,x=.ref a/\Y9 H1 a/\ty σ H1 λy AU=>∃o,JV AU a y o/\Q (o.getD .non) AU
noncomputable def qt(HB ty:TE):TE:=λσ H Q=>HB σ H λx H1=>∃a,x=.ref a/\Y9 H1 a/\ty σ H1 λy AU=>∃A8 k v,AU a=↥(.Ak A8)/\y=Cd k/\HV A8 k=↥v/\Q v (upd AU a (.Ak (N6 A8 k)))
section
variable{X:Ar}{o e f:Al}{apos Cs:Pos}{HB ty ajM:TE}
def adE(BQ:X.A.units+16<Dv)(ho:Ag X o HB)(he:Ag X e ty)(m:RU X o "get" apos e Cs):Ag X (.Call (.Attribute o "get" apos) [e] [] Cs) (qr HB ty):=by intro A3 s σ H Q J h;refine XP m.base m.few m.line XC gH PySem.F.type_dict_get (BS (ho A3 s σ H _ J h) λu s1⟨x,H1,Ac,Az,a,ex,d,q1⟩=>?_);subst ex;obtain rfl:u=Cm a:=Az;obtain⟨t1,Ca,_⟩:=a9 Ac d;refine⟨t1,Ca,?_⟩;rw[m.trees];refine S1 rfl (XV (UE (BS (he A3 s1 σ H1 _ Ac q1) λH4 s2⟨y,AU,BN,Bm,CF,g,q2⟩=>UU ?_)));exact uz BQ BN g Bm λCZ s3 Cx IC=>⟨_,AU,Cx,IC,q2⟩
def adH(ho:Ag X o HB)(he:Ag X e ty)(m:RU X o "pop" apos e Cs):Ag X (.Call (.Attribute o "pop" apos) [e] [] Cs) (qt HB ty):=by intro A3 s σ H Q J h;refine XP m.base m.few m.line XC sG PySem.F.type_dict_pop (BS (ho A3 s σ H _ J h) λu s1⟨x,H1,Ac,Az,a,ex,d,q1⟩=>?_);subst ex;obtain rfl:u=Cm a:=Az;obtain⟨t1,Ca,_⟩:=a9 Ac d;refine⟨t1,Ca,?_⟩;rw[m.trees];refine S1 rfl (XV (UE (BS (he A3 s1 σ H1 _ Ac q1) λH4 s2⟨y,AU,BN,Bm,A8,k,v,BW,DP,l,q2⟩=>UU ?_)));subst DP;exact v7 BN BW Bm l (.inl rfl) λCZ s3 Cx IC=>⟨v,_,Cx,IC,q2⟩
end
section
variable{X:Ar}{A3:ν}{σ :St}{H:AE}{s:AQ}{a:A6}{A8:↑(Key×V)}{A:DA}{E:A7->AQ->Prop}
end
section
variable{X:Ar}{A3:ν}{σ :St}{H:AE}{s:AQ}{a:A6}{y:V}{u:A7}{A:DA}{E:A7->AQ->Prop}
end
end B5
namespace hP
open PySem PySem.W PySem.Calls PyProof.Rows
def yo{P:Params}{h:BH}:∀(ns:↑Int)(vs:↑A7),WellAll P h vs (ns.map WData.int)->Qr vs ns:=by
 intro ns;induction ns with
 |nil=>intro vs w;rw[I2]at w;cases w;exact .nil
 |cons n ns CC=>
  intro vs w;rw[D9]at w;cases w with
  |cons a b=>cases a;exact .cons _ _ (CC _ b)
def af7{l:OpenLaw}{n:Nat}(AZ:l.most=↥n){P:Params}{h:BH}{args:↑WData}{vals:↑A7}(Zs:l.row.toRowW.claim.pre args=true)(eF:WellAll P h vals args) :
  ∃a vs ns,vals=[Cm a]/\args=[WData.list (ns.map WData.int)]/\h.get? a=some { cls:=.type "list",data:=.seq vs.toArray }/\Qr vs ns/\ ⇑ns<=n:=by
 have xv:WShape.hasAll [] args [.list .int]=true:=(pre_splitW Zs).1;have AI:l.pre.holds [] { args:=args }=true:=(pre_splitW Zs).2;obtain⟨d,r,rfl,h1,h2⟩:=hasAllW_cons xv;obtain rfl:=hasAllW_nil h2;obtain⟨xs,rfl,BO⟩:=hasW_list h1;obtain⟨ns,rfl⟩:=items_int BO;have hlen:⇑ns<=n:=by
  unfold OpenLaw.pre at AI;have Cc:(WTm.not (.lt (.lit (.int (n:Int))) (.len (.arg 0)))).holds [] { args:=[.list (ns.map .int)] }=true:=by have Cc:=(holds_andW AI).1;rw[AZ]at Cc;exact Cc
  have F7:=condW_of Cc (w_not (w_lt w_lit (w_len_list (w_arg rfl))));rw[CU]at F7;refine Nat.le_of_not_lt λq=>?_;have Ce:(n:Int)<((⇑ns:Nat):Int):=δ
  first
   |(rw[decide_eq_true Ce]at F7;exact absurd F7 ε)
   |(simp at F7;lia)
 cases eF with
 |cons GB Gq=>
  cases Gq;cases GB with
  |list ho VG=>exact⟨_,_,ns,rfl,rfl,ho,yo ns _ VG,hlen⟩
def adz(l:OpenLaw)(args:↑WData):l.row.toRowW.claim.post args (.bool true) args=true:=
 postW_of (r:=l.row.toRowW) (X:=(true==true))
  (show WShape.has [] (.bool true) .bool=true by first|rfl|decide|simp[WShape.has,WShape.arms,WShape.armsAll])
  (show(WTm.eq .res (.lit (.bool true))).value [] { args:=args,res:=↥(.bool true),after:=args }=↥(.bool (true==true))from w_eq_bool (w_res rfl) w_lit) rfl
def sz {l:OpenLaw} {n:Nat} {q:C5} {loose:↑Str} {LG:(Str->Option A7)->BH->Prop} {N0:Bo->BH->Prop} {d:DefRec}(AZ:l.most=↥n) (RF:d.params.defaults=[])(call:∀(w:Bo)(G8 Cw:AQ)(mg Gb:Str->Option A7)(K0:A6)(o:Obj)(pm cd doc:A7)(a:A6)(vs:↑A7)(ns:↑Int),
    Ground q loose [] LG w G8 mg Gb Cw.heap->N0 w Cw.heap->
    Cw.heap.get? K0=↥o->o.data=.func (docDef d.name d.params d.body d.scope pm cd doc)->Cw.heap.CodeRec cd d.name->mg d.name=↥(.ref K0)->
    Cw.heap.get? a=some { cls:=.type "list",data:=.seq vs.toArray }->Qr vs ns->⇑ns<=n->Cw.gens= #[]->
    MV (B2 l.prog w) PY (.call (.ref K0) ⟨[.ref a],[]⟩) (λr s'=>r=.ok (.ret (.bool true))/\OldK Cw.heap s'.heap/\s'.os=Cw.os/\NF s'.gens) Cw) :
  WalkO q loose LG N0 l.row.toRowW d [] (λf vs=>Xn f vs):=by
 intro w G8 Cw mg Gb G Y K0 o pm cd doc YV Cd ho hd LI jB e5 Aj args vals as Zs aj5 aj9 eF aj6;obtain rfl:YV=.none:=Dflts.none jB RF;obtain rfl:Cd=.none:=Dflts.noKw jB;obtain⟨a,vs,ns,rfl,rfl,e7,hints,hlen⟩:=af7 AZ Zs eF;refine enter_call (Qj (call w G8 Cw mg Gb K0 o pm cd doc a vs ns G Y ho (fd_plain hd) LI e5 e7 hints hlen Aj) λr s' AY=>?_);obtain⟨rfl,h2,BO,Cc⟩:=AY;exact⟨.inl ⟨.bool true,.bool true,[],rfl,λ_=>rfl,.bool true,adz l _,λ_=>⟨sM,λ_ hm=>(nomatch hm)⟩⟩,h2,BO,Cc⟩
section
variable{prog:C5}{w:Bo}{A:DA}{E:A7->AQ->Prop}{s:AQ}{K:Frag}
end
end hP
namespace B5
open PySem PySem.Spec PyProof.Rows
theorem qh:∀{vs:↑A7}{ns:↑Int},Qr vs ns->Vals (ns.map V.int) vs
 |_,_,.nil=>.nil
 |_,_,.cons n t h=>.cons ⟨t,rfl⟩ (qh h)
noncomputable def cE(H:AE):Prop:=∀b,H b=none\/∃o xs,H b=↥(.D0 o (.lst xs))
def aay{P:C5}{w:Bo}{K:As}{mg Gb:Str->Option A7}{CX:L7}{k:Nat}{K0 a:A6}{fd:Hj}{x:Str}{sp:Cq}{Cw:AQ}{vs:↑A7}{ns:↑Int}(IH:K.In Cw.heap)(kT:Cw.heap.Ns FQ mg)(A4:Cw.heap.Ns builtinsNs Gb)(wW:∀x:Str,x≠"__name__"->Gb x=O3 x)(yF:Cw.heap.NoLimit)(Aj:Cw.gens= #[])(AF:Cw.heap.get? a=some { cls:=.type "list",data:=.seq vs.toArray })(AD:Qr vs ns)(AG:⇑ns<=CL)(BF:D4 k PY)(F:∀base:BH,K.In base->base.Ns FQ mg->IZ P w K mg base CX k K0 fd [x] sp)(wX:∀(s:AQ)(u:A7),BindsTo s fd ⟨[u],[]⟩ [(x,u)])(M7:∀H:AE,cE H->EV K H a (ns.map V.int)->sp [.ref a] H (λv _=>v=.AL true) λ_ _ _=>False)(cr:∀H e s',CX [] H Cw (λ_ _ _=>False) e s'->False) :
  MV (B2 P w) PY (.call (.ref K0) ⟨[.ref a],[]⟩) (λr s'=>r=.ok (.ret (.bool true))/\OldK Cw.heap s'.heap/\s'.os=Cw.os/\NF s'.gens) Cw:=by
 have C0:=qh AD;have ab8:=⇑AD
 have core:∀H:AE,cE H->EV K H a (ns.map V.int)->Ev P w H Cw.heap->(∀b,H b≠none->b=a)->(H a≠none->K.lookup a=none)->
   MV (B2 P w) PY (.call (.ref K0) ⟨[.ref a],[]⟩) (λr s'=>r=.ok (.ret (.bool true))/\OldK Cw.heap s'.heap/\s'.os=Cw.os/\NF s'.gens) Cw:=by
  intro H TR Ma B0 Hl Aa;have iX:∀{b:A6}{o:Obj},Cw.heap.get? b=↥o->H b=none->(PE Cw.heap H).get? b=↥o:=λe n=>y7 e n;have WB:∀{b:A6}{o:Obj}{es:Array Kv}{Aq:Nat},Cw.heap.get? b=↥o->o.data=.dict es Aq->H b=none:=λ{b o es Aq} e d=>by
   cases q:H b with
   |none=>rfl
   |some u=>have Ba:b=a:=Hl b (by rw[q];simp);subst Ba;rw[AF]at e;cases e;have d':Data.seq vs.toArray _=Data.dict es Aq:=d;cases d'
  have Zl:∀{b:A6}{m:Str->Option A7},Cw.heap.Ns b m->(PE Cw.heap H).Ns b m:=λ{b m}⟨o,es,Aq,e,d,r⟩=>⟨o,es,Aq,iX e (WB e d),d,r⟩;have jD:K.In (PE Cw.heap H):=λb o e=>iX (IH b o e) (by
   cases q:H b with
   |none=>rfl
   |some u=>have Ba:b=a:=Hl b (by rw[q];simp);subst Ba;rw[Aa (by rw[q];simp)]at e;cases e)
  have PA:Mod K mg (PE Cw.heap H):=⟨jD,Zl kT,⟨Gb,Zl A4,wW⟩,let⟨Wq,h1,h2⟩:=yF;⟨Wq,Zl h1,h2⟩⟩;have El:RR P w K mg (PE Cw.heap H) PY [] Cw H:=⟨rfl,PA,λb o e=>abY e,Nat.le_of_eq (y8 _ _),trivial,λb A4=>absurd (show b∈([]:↑A6)from A4) γ,B0,.of_eq Aj⟩;refine Qj ((F _ jD (Zl kT)).run PY [] Cw H ⟨[.ref a],[]⟩ [.ref a] [.ref a] _ _ BF El (wX Cw (.ref a)) (.cons rfl .nil) (M7 H TR Ma)) λr s' h=>?_;cases r with
  |error e=>exact(cr H e s' h).elim
  |ok Di=>
   cases Di with
   |next=>exact HR h
   |brk=>exact HR h
   |cont=>exact HR h
   |ret u=>
    obtain⟨v,A9,os,bare,un,xl,Bf,q⟩:=h;have Ce:v=.AL true:=q;subst Ce;obtain rfl:u=Qp true:=Bf;refine⟨rfl,OldK.of_keep λb o e=>?_,os,bare⟩;cases q:H b with
    |none=>exact un.keep b o e q (by intro z;exact absurd (show b∈([]:↑A6)from z) γ) γ
    |some u=>
     rcases TR b with z|⟨BY,xs,z⟩
     .rw[q]at z;cases z
     .have Ec:=un.Ii b BY _ z;obtain⟨AC,_⟩:=B0 b _ z;obtain⟨AH,_⟩:=xl b _ Ec;rw[e]at AC;cases AC;exact AH
 cases AP:K.lookup a with
 |some o=>have e:=IH a o AP;rw[AF]at e;cases e;refine core (λ_=>none) (λ_=>.inl rfl) (.inr ⟨_,vs.toArray,_,AP,rfl,rfl,rfl,by rw[DW,ab8];exact AG,(C0:)⟩) (λb u z=>by have FE:(none:Option Eu)=↥u:=z;cases FE) (λb z=>absurd rfl z) λz=>absurd rfl z
 |none=>
  refine core (λb=>if b=a then↥(.D0 { cls:=.type "list",data:=.seq vs.toArray } (.lst (ns.map V.int)))else none) (λb=>?_) (.inl (.inr ⟨{ cls:=.type "list",data:=.seq vs.toArray },if_pos rfl⟩)) (λb u z=>?_) (λb z=>?_) λ_=>AP
  .by_cases A4:b=a
   .exact .inr ⟨_,_,if_pos A4⟩
   .exact .inl (if_neg A4)
  .by_cases A4:b=a
   .have FE:=(if_pos A4).symm.trans z;cases FE;subst A4;exact⟨AF,by rw[CU];exact AG,vs,_,C0,AF⟩
   .have FE:=(if_neg A4).symm.trans z;cases FE
  .by_cases A4:b=a
   .exact A4
   .exact absurd (if_neg A4) z
def afd {l:h3} {n k:Nat} {q:C5} {loose:↑Str} {LG:(Str->Option A7)->BH->Prop} {N0:Bo->BH->Prop} {d:DefRec} {K:Params->As} {CX:Bo->L7} {sp:Bo->Cq} {x:Str}(AZ:l.most=↥n) (Yr:n<=CL) (RF:d.params.defaults=[]) (BF:D4 k PY)(VE:∀(w:Bo)(h:BH),N0 w h->(K w.params).In h)(F:∀(w:Bo)(mg:Str->Option A7)(K0:A6)(h:BH),(K w.params).In h->h.Ns FQ mg->mg d.name=↥(.ref K0)->
    ∃fd:Hj,(∀(s:AQ)(u:A7),BindsTo s fd ⟨[u],[]⟩ [(x,u)])/\
     ∀base:BH,(K w.params).In base->base.Ns FQ mg->IZ l.prog w (K w.params) mg base (CX w) k K0 fd [x] (sp w))
  (M7:∀(w:Bo)(H:AE)(a:A6)(ns:↑Int),⇑ns<=n->cE H->EV (K w.params) H a (ns.map V.int)->sp w [.ref a] H (λv _=>v=.AL true) λ_ _ _=>False)
  (cr:∀(w:Bo)(H:AE)(s:AQ)(e:A7)(s':AQ),CX w [] H s (λ_ _ _=>False) e s'->False) :
  gj q loose LG N0 l.row.toRowW d [] (λf vs=>Xn f vs):=by
 refine hP.sz AZ RF λw G8 Cw mg Gb K0 o pm cd doc a vs ns G Y ho hd LI e5 e7 hints hlen Aj=>?_;have IH:=VE w _ Y;obtain⟨fd,A4,jC⟩:=F w mg K0 _ IH G.T.g e5;exact aay IH G.T.g G.T.b G.T.builtins G.T.nolimit Aj e7 hints (Im hlen Yr) BF jC A4 (λH TR Ma=>M7 w H a ns hlen TR Ma) λH e s'=>cr w H Cw e s'
noncomputable def inClass(s:BG)(j:Nat):BG:=match s with
 |.ClassDef _ _ _ body _ _ _ _ _ _ _=>body.getD j (.Pass ⟨0,0,0,0⟩)
 |_=>.Pass ⟨0,0,0,0⟩
noncomputable def M5(s:BG):Arguments:=match s with
 |.FunctionDef _ a _ _ _ _ _ _ _ _=>a
 |_=>{ posonlyargs:=[],args:=[],vararg:=none,kwonlyargs:=[],kw_defaults:=[],kwarg:=none,defaults:=[] }
noncomputable def Ki(s:BG):↑BG:=match s with
 |.FunctionDef _ _ b _ _ _ _ _ _ _=>b
 |_=>[]
noncomputable def Bj(s:BG):FF:=match s with
 |.FunctionDef _ _ _ _ _ _ sc _ _ _=>sc
 |_=>{ kind:=.function,names:=[],isGenerator:=false,isCoroutine:=false }
abbrev hQ:L7:=λ_ _ _ _ _ _=>False
abbrev bw:Ex:=λ_ _ _=>False
structure ON(K:As)(x qual:Str)(st:BG)(f:A6)(fd:Hj):Prop where
 ex:∃(GJ:A7)(E1:Option A6)(Cd doc pm:A7)(an:Option A6)(FU DL:A7)(Ox:Array (Option A7)),
  fd=KB x qual (M5 st) (Ki st) (Bj st) .none Cd doc pm an FU DL/\K.lookup f=↥⟨GJ,E1,.func fd,Ox⟩/\ND K FU qual=true
 Bl:KA K (.ref f)=true
section
variable{P:C5}{w:Bo}{K:As}{mg:Str->Option A7}{base:BH}
def ON.ok {x qual:Str} {st:BG} {f:A6} {fd:Hj} {N ps:↑Str} {k:Nat} {sp:Cq} (F:ON K x qual st f fd) (S:By N ps (Bj st)) (len:∀vs H Q E,sp vs H Q E->⇑vs=⇑ps)(cK:∀(FU:A7)(A:DA)(outer:↑Env)(s:AQ)(H:AE)(vs:↑V)(Q:CR)(E:Ex),D4 k (A.deeper (O9 qual (Bj st) s.heap.objs.size f FU))->sp vs H Q E->
    ∃t,HG (Kh hQ P w K mg base N qual (Bj st) f FU A outer s H E).Fv (Ki st) t/\t { AR:=λ_ A9=>Q .non A9,EM:=Q } (start N vs) H):IZ P w K mg base hQ (k+1) f fd ps sp:=by
 obtain⟨GJ,E1,Cd,doc,pm,an,FU,DL,Ox,rfl,lk,LI⟩:=F.ex;refine iw lk LI S len λA outer s H vs Q E BF M7=>?_;obtain⟨t,h,q⟩:=cK FU A outer s H vs Q E BF M7;exact⟨t,h.Fv,q⟩
def ON.binds{x qual:Str}{st:BG}{f:A6}{fd:Hj}{ps:↑Str}(F:ON K x qual st f fd)(h:∀(Cd doc pm:A7)(an:Option A6)(FU DL:A7)(us:↑A7),⇑us=⇑ps->bindArgs (KB x qual (M5 st) (Ki st) (Bj st) .none Cd doc pm an FU DL) ⟨us,[]⟩=pure (ps.zip us)):Binds K fd ps []:=by obtain⟨GJ,E1,Cd,doc,pm,an,FU,DL,Ox,rfl,lk,LI⟩:=F.ex;exact .all (h Cd doc pm an FU DL)
def RB{x qual:Str}{st:BG}{f:A6}{GJ:A7}{E1 an:Option A6}{Ox:Array (Option A7)}{Cd doc pm FU DL:A7}(l:K.lookup f=↥⟨GJ,E1,.func (KB x qual (M5 st) (Ki st) (Bj st) .none Cd doc pm an FU DL),Ox⟩)(c:ND K FU qual=true)(k:KA K (.ref f)=true):ON K x qual st f (KB x qual (M5 st) (Ki st) (Bj st) .none Cd doc pm an FU DL):=⟨⟨GJ,E1,Cd,doc,pm,an,FU,DL,Ox,rfl,l,c⟩,k⟩
end
section
variable{X:Ar}
end
def hG(H A9:AE):Prop:=∀b o,H b=↥o->A9 b=↥o
def hG.refl(H:AE):hG H H:=λ_ _ h=>h
section
variable{X:Ar}
end
section
variable{Br:Type}[DecidableEq Br]
end
noncomputable def Hk(env:Env):↑(Str×Ky)->↑(Str×A6)->↑(Str×A6)
 |[],cs=>cs
 |(x,k)::r,cs=>Hk env r (if k==.free then(x,(env.cells.lookup x).getD 0)::cs else cs)
theorem i8{env:Env}:∀(names:↑(Str×Ky))(cs:↑(Str×A6)),(∀p∈names,p.2=.free->∃c,env.cells.lookup p.1=↥c)->
 (forIn (m:=Sem) names cs λ(x:Str×Ky) cs=>if(x.2==Jh)=true then do
   let a <-cellOf env x.1
   pure (PS ((x.1,a)::cs))else pure (PS cs))=pure (Hk env names cs)
 |[],cs,_=>rfl
 |(x,k)::r,cs,h=>by
  rw[List.forIn_cons];have CC:=i8 (env:=env) r;by_cases AP:k=.free
  .subst AP;obtain⟨c,AI⟩:=h (x,.free) HP rfl;have AC:cellOf env x=pure c:=by unfold cellOf;rw[AI]
   erw[beq_self_eq_true,if_true,Hk,AC,AI,UX,pure_bind];exact CC _ λp AV=>h p (Gg _ AV)
  .have A4:(k==Jh)=false:=by simpa using AP
   erw[A4,MO,if_false,Hk,pure_bind];exact CC _ λp AV=>h p (Gg _ AV)
def i7{env:Env}{scope:FF}(h:∀p∈scope.names,p.2=.free->∃c,env.cells.lookup p.1=↥c):closureFor scope env=pure (Hk env scope.names []):=by
 have e:=i8 (env:=env) scope.names [] h;unfold closureFor
 refine Eq.trans (b:=(forIn (m:=Sem) scope.names [] λ(x:Str×Ky) cs=>if(x.2==Jh)=true then do
   let a <-cellOf env x.1
   pure (PS ((x.1,a)::cs))else pure (PS cs))>>=pure) rfl ?_
 rw[e];rfl
theorem i6{env:Env}{x:Str}:∀(names:↑(Str×Ky))(cs:↑(Str×A6)),(∀p∈names,p.2=.free->∃c,env.cells.lookup p.1=↥c)->
  (Hk env names cs).lookup x=if(x,Jh)∈names then env.cells.lookup x else cs.lookup x
 |[],cs,_=>by simp[Hk]
 |(y,k)::r,cs,h=>by
  rw[Hk,i6 r _ λp AV=>h p (Gg _ AV)];by_cases hm:(x,Jh)∈r
  .rw[if_pos hm,if_pos (Gg _ hm)]
  .rw[if_neg hm];by_cases AP:k=.free
   .subst AP;obtain⟨c,AI⟩:=h (y,.free) HP rfl;by_cases AM:x=y
    .subst AM;rw[if_pos HP];simp[Xb,AI]
    .have nm:¬(x,Jh)∈(y,Jh)::r:=λz=>by
       rcases List.mem_cons.mp z with e|e
       .exact AM (by injection e)
       .exact hm e
     rw[if_neg nm];have A4:(x==y)=false:=(AM:)
     simp[Xb,A4]
   .have A4:(k==Jh)=false:=by simpa using AP
    have nm:¬(x,Jh)∈(y,k)::r:=λz=>by
     rcases List.mem_cons.mp z with e|e
     .exact AP (by injection e with _ AH;exact AH.symm)
     .exact hm e
    rw[if_neg nm];simp[A4]
def tr {prog:C5} {w:Bo} {A:DA} {R:Result->AQ->Prop} {s:AQ} {elt target iter:Al} {ifs:↑Al} {scope:FF} {pos:Pos} {it acc:A7} {env:Env} (J:Nat->AQ->Prop)(turn:∀n s,J n s->An (B2 prog w) A (O8 it) (λr Cw=>match r with
    |none=>R (.ok .next) Cw
    |some v=>An (B2 prog w) A (Xd target it v) (λ_ p9=>An (B2 prog w) A (Kz target env v) (λ_ JQ=>
       An (B2 prog w) A (forIn ifs true λc r=>if r=true then do let ok <-isTrue c env (Bc c env);pure (PS ok)else pure (PS r)) (λok QR=>
        if ok=true then An (B2 prog w) A (Bc elt env) (λx aR=>
         An (B2 prog w) A (call (.builtin "list.append") [acc,x]) (λ_ pA=>∃m,m<n/\J m pA) (PV (B2 prog w) A env λe s'=>R (.error e) s') aR) (PV (B2 prog w) A env λe s'=>R (.error e) s') QR
        else ∃m,m<n/\J m QR) (PV (B2 prog w) A env λe s'=>R (.error e) s') JQ) (PV (B2 prog w) A env λe s'=>R (.error e) s') p9) (PV (B2 prog w) A env λe s'=>R (.error e) s') Cw) (PV (B2 prog w) A env λe s'=>R (.error e) s') s)
  (n:Nat) (h:J n s):MV (B2 prog w) A (.compLoop (.ListComp elt [⟨target,iter,ifs,0⟩] scope pos) 0 it acc env) R s:=by
 refine codeAny_loop rfl J (λn s Pq=>?_) n h;show An _ A ((compTurn (.ListComp elt [⟨target,iter,ifs,0⟩] scope pos) 0 it acc env).onRaise (λx=>do noteFrame x env;theTreesLotGoes x)) _ _ s;refine wpAny_noted ?_;rw[compTurn_list];refine Ad (wpAny_standAt (Ad (HQ (turn n s Pq) (λr Cw Ny=>?_) λ_ _ h'=>h')));cases r with
 |none=>exact BZ Ny
 |some v=>
  refine Ad (HQ Ny (λ_ p9 xZ=>?_) λ_ _ h'=>h');refine Ad (HQ xZ (λ_ JQ O_=>Ad (HQ O_ (λok QR Oa=>?_) λ_ _ h'=>h')) λ_ _ h'=>h');cases ok with
  |false=>exact BZ ⟨rfl,Oa⟩
  |true=>exact Ad (Ad (HQ Oa (λx aR Tb=>Ad (HQ Tb (λ_ pA Ik=>BZ (BZ ⟨rfl,Ik⟩)) λ_ _ h'=>h')) λ_ _ h'=>h'))
abbrev GU(X:Ar)(scope:FF)(N:↑Str)(cl:↑(Str×A6))(C:A6)(s:AQ)(H:AE)(BP:↑A6):Ar where
 prog:=X.prog
 w:=X.w
 K:=X.K
 mg:=X.mg
 base:=X.base
 A:=X.A
 N:=N
 G8:=s
 LA:=H
 env:=compEnvC scope cl C X.env
 outer:=X.stack
 stack:=X.stack
 ex:=BP
 calm:=X.calm
 fn:=λx=>scope.names.lookup x==↥.cell
 Ci:=[]
 D1:=λ_ _=>False
noncomputable def Nl(nl:Nat)(caps:↑Nat)(σ :St):St:=GR nl none++caps.map λj=> σ.getD j none
noncomputable def a8:Option Ky->Bool
 |some .cell=>true
 |some .free=>true
 |_=>false
structure KX(sc:FF)(NM:↑Str)(scope:FF)(N:↑Str)(nl:Nat)(caps:↑Nat):Prop where
 kind:scope.kind=.function
 uniq:∀x∈scope.names,scope.names.lookup x.1=↥x.2
 free:∀x∈scope.names,x.2=.free->a8 (sc.names.lookup x.1)=true
 len:⇑N=nl+⇑caps
 ti:∀k j,caps[k]?=↥j->∃x,NM[j]?=↥x/\N[nl+k]?=↥x/\scope.names.lookup x=↥.free/\a8 (sc.names.lookup x)=true
noncomputable def R1(sc:FF)(NM:↑Str)(scope:FF)(N:↑Str)(nl:Nat)(caps:↑Nat):Bool:=
 (scope.kind==.function)&&scope.names.all (λx=>scope.names.lookup x.1==↥x.2&&(x.2 !=.free||a8 (sc.names.lookup x.1)))&&
 (⇑N==nl+⇑caps)&&(caps.zipIdx.all λk6=>match NM[k6.1]? with
   |none=>false
   |some x=>N[nl+k6.2]?==↥x&&scope.names.lookup x==↥.free&&a8 (sc.names.lookup x))
def KX.of{sc:FF}{NM:↑Str}{scope:FF}{N:↑Str}{nl:Nat}{caps:↑Nat}(h:R1 sc NM scope N nl caps=true):KX sc NM scope N nl caps:=by
 unfold R1 at h;rw[I0,I0,I0]at h;obtain⟨⟨⟨h1,h2⟩,BO⟩,Cc⟩:=h;rw[UY]at h2 Cc;refine⟨eq_of_beq h1,λx AM=>?_,λx AM e=>?_,eq_of_beq BO,λk j e=>?_⟩
 .have:=h2 x AM;rw[I0]at this;exact eq_of_beq this.1
 .have:=h2 x AM;rw[I0]at this;have q:=this.2;rw[e]at q;simpa using q
 .have m:(j,k)∈caps.zipIdx:=by
    rw[List.mem_zipIdx_iff_getElem?];exact e
  have q:=Cc _ m;dsimp only at q
  split at q
  .cases q
  .rename_i x ex;rw[I0,I0]at q;exact⟨x,ex,eq_of_beq q.1.1,eq_of_beq q.1.2,q.2⟩
def KX.locs{sc:FF}{NM:↑Str}{scope:FF}{N:↑Str}{nl:Nat}{caps:↑Nat}(S:KX sc NM scope N nl caps):∀x∈scope.names,x.2=.local->scope.names.lookup x.1=↥.local:=λx AM e=>e▸S.uniq x AM
theorem dC:∀(ns:↑(Str×Ky))(n:Nat)(a b:↑(Str×A6)),Hx n ns (a++b)=Hx n ns a++b
 |[],_,_,_=>rfl
 |(x,k)::r,n,a,b=>by
  unfold Hx
  split
  .exact dC r (n+1) ((x,n)::a) b
  .exact dC r n a b
theorem YU{x:Str}{c:A6}:∀(ns:↑(Str×Ky))(n:Nat)(a:↑(Str×A6)),(x,c)∈Hx n ns a->(x,NameKind.cell)∈ns\/(x,c)∈a
 |[],_,_,h=>.inr h
 |(y,k)::r,n,a,h=>by
  unfold Hx at h
  split at h
  .rename_i AP;rcases YU r _ _ h with z|z
   .exact .inl (Gg _ z)
   .rcases List.mem_cons.mp z with e|z
    .injection e with AC AH;subst AC;rw[eq_of_beq AP];exact .inl HP
    .exact .inr z
  .rcases YU r _ _ h with z|z
   .exact .inl (Gg _ z)
   .exact .inr z
def ac1{M:Model}{A:DA}{E:A7->AQ->Prop}{s:AQ}{scope:FF}{globals:A6}{cl:↑(Str×A6)}{qual:Str}{env:Env}{Q:Env->AQ->Prop}(FV:Q { scope:=scope,locals:=s.heap.objs.size,globals:=globals,cells:=Hx (s.heap.objs.size+1) scope.names cl,qual:=qual,func:=none,code:=env.code,frame:=env.frame,builtins:=env.builtins } { s with heap:=pushCells (s.heap.push { cls:=.type "dict",data:=.dict #[] }) scope.names }) :
  An M A (gp scope globals cl [] qual none .none ↥env) Q E s:=by
 erw[gp,rj,if_true];refine Ad (wpAny_alloc ?_);refine Ad (wpAny_layCells _ (λname kind cells=>by cases yC:kind==NameKind.cell<;>simp[yC]) _ _ _ _ ?_);rw[show({ s with heap:=s.heap.push { cls:=.type "dict",data:=.dict #[] } }:AQ).heap.objs.size=s.heap.objs.size+1 from Ld ..];exact Ad (BZ (BZ FV))
def f7{scope:FF}{env:Env}{x:Str}{k:Ky}(h:(Lk scope env).names.lookup x=↥k):(x,k)∈scope.names\/(k=.cell/\(x,Jh)∈scope.names):=by
 have m:=NA h;obtain⟨⟨y,q⟩,AS,e⟩:=List.mem_map.mp m;dsimp only at e
 split at e
 .rename_i AI;injection e with AC AH;subst AC;have hf:q=.free:=by
   rw[I0,I0]at AI;exact eq_of_beq AI.1.1
  subst hf;exact .inr ⟨AH.symm,AS⟩
 .injection e with AC AH;subst AC;subst AH;exact .inl AS
noncomputable def WT(IW:TI)(g:Jx)(HA:TT)(te:TE)(nl:Nat)(caps:↑Nat):TE:=λσ H Q=>
 IW σ H λBC H1=>∀acc,H1 acc=none->∃W:Nat->Nat->St->AE->Prop,(∃m,W 0 m (Nl nl caps σ) (upd H1 acc (.lst [])))/\
  ∀i m σ' A9,W i m σ' A9->(BC.stop i A9/\Q (.ref acc) A9)\/
   (BC.go i A9/\∀x AU,BC.X3 i A9 x AU->g x σ' AU λσ2 Bv=>HA σ2 Bv λb Cb=>
      if b=true then te σ2 Cb λy Dx=>∃ys,Dx acc=↥(.lst ys)/\ ⇑ys<CL/\∃EA,EA<m/\W (i+1) EA σ2 (upd Dx acc (.lst (ys++[y])))
      else ∃EA,EA<m/\W (i+1) EA σ2 Cb)
section
variable{X:Ar}{elt target iter:Al}{ifs:↑Al}{scope:FF}{pos:Pos}{N:↑Str}{nl:Nat}{caps:↑Nat}{IW:TI}{g:Jx}{HA:TT}{te:TE}
noncomputable def QD(X:Ar)(ifs:↑Al)(t:TT):Prop:=
 ∀(A3:ν)(s:AQ)(σ :St)(H:AE)(Q:Bool->AE->Prop),θ->t σ H Q->
  An ο X.A (forIn ifs true λc r=>if r=true then do let ok <-isTrue c X.env (Bc c X.env);pure (PS ok)else pure (PS r)) (YF X A3 σ Q) X.D1 s
def aeQ:TT:=λ_ H Q=>Q true H
def adX:QD X [] aeQ:=λ_ _ _ H _ J h=>wpAny_tests_nil ⟨H,J,h⟩
def adY{c:Al}{t:TT}(h:EU X c t):QD X [c] t:=λA3 s σ H Q J hw=>wpAny_tests_one (h A3 s σ H Q J hw)
def yp{A3:ν}{σ :St}{H:AE}{s s4:AQ}{cl:↑(Str×A6)}{BP:↑A6}(S:KX X.env.scope X.N scope N nl caps)(J:θ)(k1:∀x c,cl.lookup x=↥c->X.env.cells.lookup x=↥c\/(scope.names.lookup x=↥.cell/\s.heap.objs.size<c/\s4.heap.IsCell c none))(k2:∀x,(x,Jh)∈scope.names->cl.lookup x=X.env.cells.lookup x)(k3:∀x,scope.names.lookup x=↥.cell->∃c,cl.lookup x=↥c/\s.heap.objs.size<c)(ZQ:∀x y c,cl.lookup x=↥c->cl.lookup y=↥c->x=y)(hf:∀b∈BP,KY X A3 H b)(DD:∀b∈BP,b<s.heap.objs.size)(RJ:s4.os=s.os)(Aj:s4.gens=s.gens)(AZ:∃m,s4.heap.Ns s.heap.objs.size m)(AP:∀b o,s.heap.get? b=↥o->s4.heap.get? b=↥o) :
  Inv (GU X scope N cl s.heap.objs.size s H BP) [] (Nl nl caps σ) H s4:=by
 refine⟨⟨J.ok.mod,?_,J.ok.glob,J.ok.blt,C9 _,ZQ,λx AM=>?_,λx c z e=>?_,J.ok.hd,J.ok.frames,.inl rfl,λb A4=>⟨Et (DD b A4),λx c e=>(k1 x c e).elim (λe=>(hf b A4).2.2.2.2.1 x c e) λe=>Qi (hB (DD b A4) e.2.1)⟩,J.bs,Im J.ok.P1 J.QQ,λb o e A4=>?_,λb A4 AO=>?_,J.stack,J.fs⟩,
  RJ,?_,Gh.kept AP,?_,λx c e=>?_,J.B0.fresh (C9 _),λx c e=>(k1 x c e).elim (J.Kj x c) λe=>J.B0.fresh (PN e.2.1),λp AV=>absurd (show p∈([]:ν)from AV) γ,J.B0.kept AP,?_⟩
 .show(Lk scope X.env).kind=.function;exact S.kind
 .have AM:(Lk scope X.env).names.lookup x=↥.cell\/(Lk scope X.env).names.lookup x=↥.free:=AM;have hm:(x,Jh)∈scope.names\/scope.names.lookup x=↥.cell:=by
   rcases AM with h|h
   .rcases f7 h with m|⟨_,m⟩
    .exact .inr (S.uniq _ m)
    .exact .inl m
   .rcases f7 h with m|⟨e,_⟩
    .exact .inl m
    .cases e
  rcases hm with hm|hm
  rotate_left
  .obtain⟨c,e,_⟩:=k3 x hm;exact⟨c,e⟩
  have AY:=S.free _ hm rfl;have AI:∃c,X.env.cells.lookup x=↥c:=by
   apply J.ok.has x;show X.env.scope.names.lookup x=↥.cell\/X.env.scope.names.lookup x=↥.free;cases e:X.env.scope.names.lookup x with
   |none=>rw[e]at AY;cases AY
   |some k=>
    rw[e]at AY
    cases k<;>first
     |exact .inl rfl
     |exact .inr rfl
     |cases AY
  obtain⟨c,e⟩:=AI;exact⟨c,by show cl.lookup x=↥c;rw[k2 x hm];exact e⟩
 .obtain⟨GO,Ba,q⟩:=k3 x (eq_of_beq z);rw[show cl.lookup x=↥c from e]at Ba;cases Ba;exact PN q
 .rcases(hf b A4).2.2.2.1 with z|z
  .exact J.ok.Tz b o e z
  .exact absurd (GD (Dc (J.ok.bs b o e).1) z) (Jg _)
 .rcases List.mem_cons.mp (J.bI b AO)with z|z
  .exact(hf b A4).2.1 z
  .exact(hf b A4).2.2.1 z
 .rw[Aj];exact J.bare
 .obtain⟨m,AZ⟩:=AZ;refine⟨m,AZ,λi x v h1 h2 BO=>?_⟩;have hN:N[i]?=↥x:=h1;unfold Nl at h2;by_cases AD:i<nl
  .rw[Gr (AD:),XB,if_pos AD]at h2;cases h2
  .rw[MM (AD:),UI,E5]at h2;cases e:caps[i-nl]? with
   |none=>rw[e]at h2;cases h2
   |some j=>
    rw[e]at h2;have h2: σ.getD j none=↥v:=GC h2;obtain⟨y,AC,AH,dL,P5⟩:=S.ti _ _ e;have D_:(y,Jh)∈scope.names:=NA dL;have Jz:YG X.env.scope y:=by
     cases q:X.env.scope.names.lookup y with
     |none=>rw[q]at P5;cases P5
     |some k=>
      rw[q]at P5
      cases k<;>first
       |exact .inr (.inl q)
       |exact .inr (.inr q)
       |cases P5
    have GQ:nl+(i-nl)=i:=δ
    rw[GQ,hN]at AH;cases AH;have AO: σ[j]?=↥↥v:=by
     rw[Eh]at h2;cases q: σ[j]? with
     |none=>rw[q]at h2;cases h2
     |some o=>rw[q]at h2;exact congrArg some h2
    obtain⟨m0,_,AG⟩:=J.loc;obtain⟨u,r,l⟩:=AG j x v AC AO Jz;refine⟨u,r,.inr ⟨?_,?_⟩⟩
    .show(Lk scope X.env).names.lookup x=↥.cell\/(Lk scope X.env).names.lookup x=↥.free;rcases BO with BO|BO|BO
     .have BO:(Lk scope X.env).names.lookup x=↥.local:=BO;rcases f7 BO with z|⟨z,_⟩
      .have Ec:scope.names.lookup x=↥.local:=S.locs _ z rfl;rw[Ec]at dL;cases dL
      .cases z
     .exact .inl BO
     .exact .inr BO
    .have AY:X.env.scope.names.lookup x≠↥.local:=λz=>by rw[z]at P5;cases P5
     rcases l with⟨z,_⟩|⟨_,c,Es,Ec⟩
     .exact absurd z AY
     .refine⟨c,?_,Ec.keeps AP⟩;show cl.lookup x=↥c;rw[k2 x D_];exact Es
 .rcases k1 x c e with e|e
  .obtain⟨v,z⟩:=J.cell x c e;exact⟨v,z.keeps AP⟩
  .exact⟨_,e.2.2⟩
 .show⇑(Nl nl caps σ)=⇑N;unfold Nl;rw[Em,UI,CU,S.len]
def yr{A3:ν}{σ σ' :St}{H A9:AE}{s s':AQ}{cl:↑(Str×A6)}{BP:↑A6}{h':BH}(J:θ)(hf:∀b∈BP,KY X A3 H b)(BC:Inv (GU X scope N cl s.heap.objs.size s H BP) [] σ' A9 s')(AO:Kr s.heap.objs.size s'.heap h'):Inv X A3 σ A9 { s' with heap:=h' }:=by
 have ne:∀b o,s.heap.get? b=↥o->b≠s.heap.objs.size:=λb o e=>Et (Dc e);have u:Gh (Ez X.stack) BP H A9 s.heap s'.heap:=BC.base;have fr:A9 s.heap.objs.size=none:=BC.free;refine J.i1 (ch:=BP) (s':={ s' with heap:=h' }) BC.os ⟨λb o e n A4 AM=>(AO.2 b (ne b o e)).trans (u.keep b o e n A4 AM),λb o e n A4 AM=>?_,u.free,λb o e AM=>?_,u.KS,u.Ii,u.KQ⟩ (λb o e=>?_) BC.bare λb A4=>?_
 .obtain⟨Bt,q⟩:=u.slot b o e n A4 AM;exact⟨Bt,(AO.2 b (ne b o e)).trans q⟩
 .obtain⟨o',q⟩:=u.there b o e AM;exact⟨o',(AO.2 b (ne b o e)).trans q⟩
 .refine(BC.B0 b o e).Nd (λc v AI q=>(AO.2 c ?_).trans q) (λ_ q=>q) λ_ _ q=>q;rintro rfl;rcases AI with z|z
  .rw[<-z,fr]at e;cases e
  .rw[fr]at z;cases z
 .obtain⟨_,f1,_,Ey,f4,G5⟩:=hf b A4;exact⟨Ey,f1,f4,G5⟩
def iB {A3:ν} {σ :St} {s2:AQ} {AU:AE} {it:A6} {BP:↑A6} {HU:Nat->BH->Prop} {BC:It} {E:A7->AQ->Prop} {Q:AE->Prop} {W:Nat->Nat->St->AE->Prop} {m0:Nat}(S:KX X.env.scope X.N scope N nl caps) (AI:X.calm=true) (BN:Inv X A3 σ AU s2) (T:Turn X.prog X.w X.K target BC BP it HU) (Js:HU 0 s2.heap) (f2:∀b∈BP,KY X A3 AU b)(Aj:∀cl C s H BP,HF (GU X scope N cl C s H BP) target g) (BV:∀cl C s H BP,QD (GU X scope N cl C s H BP) ifs HA) (he:∀cl C s H BP,Ag (GU X scope N cl C s H BP) elt te)(K8:W 0 m0 (Nl nl caps σ) (upd AU s2.heap.objs.size (.lst [])))(turn:∀i m σ' A9,W i m σ' A9->(BC.stop i A9/\Q A9)\/
    (BC.go i A9/\∀x Bv,BC.X3 i A9 x Bv->g x σ' Bv λσ2 Cb=>HA σ2 Cb λb Dx=>
       if b=true then te σ2 Dx λy I_=>∃ys,I_ s2.heap.objs.size=↥(.lst ys)/\ ⇑ys<CL/\∃EA,EA<m/\W (i+1) EA σ2 (upd I_ s2.heap.objs.size (.lst (ys++[y])))
       else ∃EA,EA<m/\W (i+1) EA σ2 Dx))
  (V2:A7->A6->Result->AQ->Prop)
  (wt:∀(C:A6) s' A9,(∃m,s'.heap.Ns C m)->KY X A3 A9 C->(∀h',Kr C s'.heap h'->Inv X A3 σ A9 { s' with heap:=h' })->Q A9->V2 (.ref s2.heap.objs.size) C (.ok .next) s') :
  An ο X.A (newList []) (λacc QR=>An ο X.A (gp scope X.env.globals (Hk X.env scope.names []) [] X.env.qual none .none ↥X.env) (λi4 aR=>
   MV ο X.A (.compStart (.ListComp elt [⟨target,iter,ifs,0⟩] scope pos) 0 (.ref it) acc { i4 with scope:=Lk scope X.env }) (V2 acc i4.locals) aR) E QR) E s2:=by
 have Yp:∀p∈scope.names,p.2=.free->∃c,X.env.cells.lookup p.1=↥c:=λp AV e=>by
  have q:=S.free p AV e;apply BN.ok.has p.1;show X.env.scope.names.lookup p.1=↥.cell\/X.env.scope.names.lookup p.1=↥.free;cases AH:X.env.scope.names.lookup p.1 with
  |none=>rw[AH]at q;cases q
  |some k=>
   rw[AH]at q
   cases k<;>first
    |exact .inl rfl
    |exact .inr rfl
    |cases q
 have RE:∀x,(Hk X.env scope.names []).lookup x=if(x,Jh)∈scope.names then X.env.cells.lookup x else none:=λx=>i6 scope.names [] Yp
 have ik:AU s2.heap.objs.size=none:=BN.B0.fresh (C9 _);refine Lg (ac1 ?_);dsimp only;have Cx:Inv X A3 σ (upd AU s2.heap.objs.size (.lst [])) { s2 with heap:=s2.heap.push { cls:=.type "list",dict:=none,data:=.seq ([]:↑A7).toArray } }:=BN.e1 (its:=[]) (ys:=[]) (t':=s2.toks) .nil (Hy _);generalize eB:({ s2 with heap:=s2.heap.push { cls:=.type "list",dict:=none,data:=.seq ([]:↑A7).toArray } }:AQ)=s3 at Cx;have cP:s2.heap.push { cls:=.type "list",dict:=none,data:=.seq ([]:↑A7).toArray }=s3.heap:=by rw[<-eB]
 rw[cP];have kp:∀b o,s2.heap.get? b=↥o->s3.heap.get? b=↥o:=λb o e=>by rw[<-cP];exact Cr _ e
 have afI:s3.heap.objs.size=s2.heap.objs.size+1:=by rw[<-cP,Ld]
 have kc:=dC scope.names (s3.heap.objs.size+1) [] (Hk X.env scope.names []);have ok:=cellsFrom_ok scope.names (s3.heap.push { cls:=.type "dict",data:=.dict #[] }) (s3.heap.objs.size+1) [] ⟨λ_ _ hm=>(nomatch hm),sM⟩ (by rw[Ld];exact C9 _);have kU:=(Heap.Ns.new s3.heap (.type "dict")).keeps (pushCells_keeps scope.names _);have ZS:∀b o,s3.heap.get? b=↥o->(pushCells (s3.heap.push { cls:=.type "dict",data:=.dict #[] }) scope.names).get? b=↥o:=λb o e=>pushCells_keeps _ _ b o (Cr _ e);rw[Ld]at ok;rw[N9]at kc;rw[kc];generalize pushCells (s3.heap.push { cls:=.type "dict",data:=.dict #[] }) scope.names=Ny at kU ZS ok |-;have old:∀x c,X.env.cells.lookup x=↥c->c<s3.heap.objs.size:=λx c e=>by obtain⟨v,z⟩:=Cx.cell x c e;exact z.lt
 have k0:∀x c,(Hx (s3.heap.objs.size+1) scope.names []++Hk X.env scope.names []).lookup x=↥c->((x,c)∈Hx (s3.heap.objs.size+1) scope.names []/\scope.names.lookup x=↥.cell/\s3.heap.objs.size<c/\Ny.IsCell c none)\/X.env.cells.lookup x=↥c:=λx c e=>by
  rw[gU]at e;cases AC:(Hx (s3.heap.objs.size+1) scope.names []).lookup x with
  |some GO=>
   rw[AC]at e;have e:GO=c:=GC e;subst e;have m:=NA AC;rcases YU _ _ _ m with z|z
   .exact .inl ⟨m,S.uniq _ z,(ok.empty _ _ m).2,(ok.empty _ _ m).1⟩
   .cases z
  |none=>
   rw[AC]at e;have e:(Hk X.env scope.names []).lookup x=↥c:=e;rw[RE]at e
   split at e
   .exact .inr e
   .cases e
 have k2:∀x,(x,Jh)∈scope.names->(Hx (s3.heap.objs.size+1) scope.names []++Hk X.env scope.names []).lookup x=X.env.cells.lookup x:=λx AM=>by
  rw[gU];cases AC:(Hx (s3.heap.objs.size+1) scope.names []).lookup x with
  |some GO=>
   rcases YU _ _ _ (NA AC)with z|z
   .have q1:=S.uniq _ z;have q2:=S.uniq _ AM;dsimp only at q1 q2;rw[q1]at q2;cases q2
   .cases z
  |none=>show(Hk X.env scope.names []).lookup x=_;rw[RE,if_pos AM]
 have k3:∀x,scope.names.lookup x=↥.cell->∃c,(Hx (s3.heap.objs.size+1) scope.names []++Hk X.env scope.names []).lookup x=↥c/\s3.heap.objs.size<c:=λx AM=>by obtain⟨c,e⟩:=dB (n:=s3.heap.objs.size+1) AM;exact⟨c,by rw[gU,e];rfl,(ok.empty _ _ (NA e)).2⟩
 have ZQ:∀x y c,(Hx (s3.heap.objs.size+1) scope.names []++Hk X.env scope.names []).lookup x=↥c->(Hx (s3.heap.objs.size+1) scope.names []++Hk X.env scope.names []).lookup y=↥c->x=y:=λx y c h1 h2=>by
  rcases k0 x c h1 with Es|Es<;>rcases k0 y c h2 with Ec|Ec
  .exact name_of_addr ok.apart Es.1 Ec.1
  .exact absurd (old y c Ec) (Nat.not_lt_of_gt Es.2.2.1)
  .exact absurd (old x c Es) (Nat.not_lt_of_gt Ec.2.2.1)
  .exact Cx.ok.inj x y c Es Ec
 have k1:∀x c,(Hx (s3.heap.objs.size+1) scope.names []++Hk X.env scope.names []).lookup x=↥c->X.env.cells.lookup x=↥c\/(scope.names.lookup x=↥.cell/\s3.heap.objs.size<c/\Ny.IsCell c none):=λx c e=>(k0 x c e).elim (λz=>.inr z.2) .inl;generalize Hx (s3.heap.objs.size+1) scope.names []++Hk X.env scope.names []=cl at k0 k1 k2 k3 ZQ |-;have kS:∀b∈BP,b<s2.heap.objs.size:=λb A4=>by obtain⟨o,e,_⟩:=T.obj 0 _ Js b A4;exact Dc e
 have Ey:∀b∈BP,KY X A3 (upd AU s2.heap.objs.size (.lst [])) b:=λb A4=>by obtain⟨Hb,a1⟩:=f2 b A4;exact⟨by rw[DF (Et (kS b A4))];exact Hb,a1⟩
 have e3:∀b∈BP,b<s3.heap.objs.size:=λb A4=>by rw[afI];exact UV (kS b A4)
 have loop:∀s4:AQ,s4={ s3 with heap:=Ny }->
   MV ο X.A (.compLoop (.ListComp elt [⟨target,iter,ifs,0⟩] scope pos) 0 (.ref it) (.ref s2.heap.objs.size) (compEnvC scope cl s3.heap.objs.size X.env))
    (V2 (.ref s2.heap.objs.size) s3.heap.objs.size) s4:=by
  intro s4 Ta;have Lz:Inv (GU X scope N cl s3.heap.objs.size s3 (upd AU s2.heap.objs.size (.lst [])) BP) [] (Nl nl caps σ) (upd AU s2.heap.objs.size (.lst [])) s4:=
   yp S Cx (by rw[Ta];exact k1) k2 k3 ZQ Ey e3 (by rw[Ta]) (by rw[Ta]) ⟨_,by rw[Ta];exact kU⟩ (by rw[Ta];exact ZS)
  have aei:HU 0 s4.heap:=T.keep 0 _ _ Js λb A4 o e=>by rw[Ta];exact ZS b o (kp b o e)
  generalize M6:GU X scope N cl s3.heap.objs.size s3 (upd AU s2.heap.objs.size (.lst [])) BP=B at Lz;have stat:∀{A9:AE},(∀b∈BP,A9 b=none)->∀b∈BP,KY B [] A9 b:=λ{A9} AZ b A4=>by
   subst M6;obtain⟨Hb,a1,a2,IK,OI,NN⟩:=Ey b A4;refine⟨AZ b A4,Et (e3 b A4),λz=>?_,.inl A4,λx c e=>?_,λp AV=>absurd (show p∈([]:ν)from AV) γ⟩
   .rcases List.mem_cons.mp (Cx.bI b z)with q|q
    .exact a1 q
    .exact a2 q
   .rcases k1 x c e with e|e
    .exact OI x c e
    .exact Qi (hB (e3 b A4) e.2.1)
  have y5:HF B target g:=by subst M6;exact Aj _ _ _ _ _
  have xy:QD B ifs HA:=by subst M6;exact BV _ _ _ _ _
  have y1:Ag B elt te:=by subst M6;exact he _ _ _ _ _
  have Vo:B.prog=X.prog:=by subst M6;rfl
  have C_:B.w=X.w:=by subst M6;rfl
  have jQ:B.K=X.K:=by subst M6;rfl
  have No:B.A=X.A:=by subst M6;rfl
  have Vm:B.env=compEnvC scope cl s3.heap.objs.size X.env:=by subst M6;rfl
  have jS:B.calm=true:=by subst M6;exact AI
  have uu:B.D1=λ_ _=>False:=by subst M6;rfl
  rw[<-Vo,<-C_,<-No,<-Vm];refine tr (λn s'=>∃i σ' A9,Inv B [] σ' A9 s'/\HU i s'.heap/\(∀b∈BP,A9 b=none)/\W i n σ' A9) ?_ m0 ⟨0,_,_,Lz,aei,λb A4=>(Ey b A4).1,K8⟩;rintro n s5 ⟨i,σ5,Dx,OA,UC,Yh,ar⟩;have away:∀{α:Type}{t:Sem α}{hE:α->AQ->Prop}{t9:A7->AQ->Prop}{OQ:AQ},An (B2 B.prog B.w) B.A t hE B.D1 OQ->An (B2 B.prog B.w) B.A t hE t9 OQ:=λh=>HQ h (λ_ _ q=>q) λe s' z=>by rw[uu]at z;cases z
  rcases turn i n σ5 Dx ar with⟨stop,q⟩|⟨go,DT⟩
  .have d:=T.done B Vo C_ jQ jS i [] s5 σ5 Dx (PV (B2 B.prog B.w) B.A B.env λe s'=>V2 (.ref s2.heap.objs.size) s3.heap.objs.size (.error e) s') OA (stat Yh) UC stop;rw[<-Vo,<-C_]at d;refine BS d λr s6⟨BF,RS⟩=>?_;subst BF;refine wt _ s6 Dx ?_ (Cx.M_ (C9 _) ?_) (λh' LR=>?_) q
   .obtain⟨m,AZ,_⟩:=RS.loc;rw[Vm]at AZ;exact⟨m,AZ⟩
   .have z:=RS.free;rw[Vm]at z;exact z
   .subst M6;exact yr Cx Ey RS LR
  .have d:=T.item B Vo C_ jQ jS i [] s5 σ5 Dx (PV (B2 B.prog B.w) B.A B.env λe s'=>V2 (.ref s2.heap.objs.size) s3.heap.objs.size (.error e) s') OA (stat Yh) UC go;rw[<-Vo,<-C_]at d;refine BS d λr s6⟨u,BF,FH⟩=>?_;subst BF;refine BS FH λ_ s7⟨x,Dl,LB,Rs,ahc,fp,xJ⟩=>?_;have tF:=LB.pinned (stat xJ) (T.obj _ _ fp);refine away (BS (y5 _ s7 σ5 Dl x u _ tF Rs (DT x Dl ahc)) λ_ Gd⟨σ8,Go,tG,Pg⟩=>?_);refine away (BS (xy _ Gd σ8 Go _ tG Pg) λb EN⟨ED,hT,m5⟩=>?_);have again:∀{σa:St}{OO:AE}{OQ:AQ},Inv B ([]++WN BP s7.heap) σa OO OQ->(∃EA,EA<n/\W (i+1) EA σa OO)->∃m,m<n/\∃i σ' A9,Inv B [] σ' A9 OQ/\HU i OQ.heap/\(∀b∈BP,A9 b=none)/\W i m σ' A9:=λ{σa OO OQ} c1⟨EA,hm,afa⟩=>by
    refine⟨EA,hm,i+1,σa,OO,c1.aj,T.keep _ _ _ fp λb A4 o e=>(c1.pin (b,o) (Hw _ (Hw _ (Zh A4 e)))).1,λb A4=>?_,afa⟩;obtain⟨o,e,d⟩:=T.obj _ _ fp b A4;exact(c1.pin (b,o) (Hw _ (Hw _ (Zh A4 e)))).2.1
   cases b with
   |false=>exact again hT m5
   |true=>show An _ _ (Bc elt B.env) _ _ EN;refine away (BS (y1 _ EN σ8 ED _ hT m5) λahd Hq⟨y,hR,tC,Bm,ys,AF,hz,adg⟩=>?_);refine away (BS (kx _ Hq σ8 hR (.ref s2.heap.objs.size) [y] (.ref s2.heap.objs.size) [ahd] (λ_ hS=>hS=upd hR s2.heap.objs.size (.lst (ys++[y]))) tC rfl (.cons Bm .nil) ⟨_,ys,y,rfl,rfl,AF,hz,rfl⟩) λ_ Gm⟨z,hS,tD,_,vN⟩=>?_);subst vN;exact again tD adg
 exact codeAny_compStart_list (loop _ (by rw[<-eB])) (T.self X.A 0 _ _ _ (T.keep 0 _ _ Js λb A4 o e=>ZS b o (kp b o e)) (loop _ (by rw[<-eB])))
def kM{A3:ν}{σ :St}{s:AQ}{H:AE}(S:KX X.env.scope X.N scope N nl caps)(J:θ):∀p∈scope.names,p.2=.free->∃c,X.env.cells.lookup p.1=↥c:=λp AV e=>by
 have q:=S.free p AV e;apply J.ok.has p.1;show X.env.scope.names.lookup p.1=↥.cell\/X.env.scope.names.lookup p.1=↥.free;cases AH:X.env.scope.names.lookup p.1 with
 |none=>rw[AH]at q;cases q
 |some k=>
  rw[AH]at q
  cases k<;>first
   |exact .inl rfl
   |exact .inr rfl
   |cases q
def fW(S:KX X.env.scope X.N scope N nl caps)(AI:X.calm=true)(AD:HY X target iter IW)(Aj:∀cl C s H BP,HF (GU X scope N cl C s H BP) target g)(BV:∀cl C s H BP,QD (GU X scope N cl C s H BP) ifs HA)(he:∀cl C s H BP,Ag (GU X scope N cl C s H BP) elt te)(AO:∀x,ML iter X.env x=pure x:=by intro _;rfl):Ag X (.ListComp elt [⟨target,iter,ifs,0⟩] scope pos) (WT IW g HA te nl caps):=by intro A3 s σ H Q J h;rw[eval_ListComp];refine wpAny_comprehension_free (use:=none) rfl AO (i7 (kM S J)) S.kind S.locs ?_;refine BS (AD A3 s σ H _ J h) λv s1 h1=>BS h1 λaB s2 h2=>?_;obtain⟨it,BP,HU,BC,AU,e,BN,T,Js,f2,k⟩:=h2;subst e;obtain⟨W,⟨m0,K8⟩,turn⟩:=k s2.heap.objs.size (BN.B0.fresh (C9 _));refine iB (Q:=λA9=>Q (.ref s2.heap.objs.size) A9) S AI BN T Js f2 Aj BV he K8 turn (λacc C=>compPost ο X.A X.D1 none (Gw X A3 σ Q) acc C) ?_;intro C s' A9 AZ _ Pq q;obtain⟨m,AZ⟩:=AZ;exact⟨m,AZ,λh' LR=>⟨.ref s2.heap.objs.size,A9,Pq h' LR,rfl,q⟩⟩
def mx{i:Nat}{y:Str}{py p_:Pos}(S:KX X.env.scope X.N scope N nl caps)(AI:X.calm=true)(hN:X.N.Nodup)(AS:X.N[i]?=↥y)(AG:X.env.kindOf y=↥.local)(AD:HY X target iter IW)(Aj:∀cl C s H BP,HF (GU X scope N cl C s H BP) target g)(BV:∀cl C s H BP,QD (GU X scope N cl C s H BP) ifs HA)(he:∀cl C s H BP,Ag (GU X scope N cl C s H BP) elt te)(PH:NE (.ListComp elt [⟨target,iter,ifs,0⟩] scope pos) ↥(.Name y py) p_.line X.env=pure true:=by rfl)(AO:∀x,ML iter X.env x=pure x:=by intro _;rfl):DO X (.Assign [.Name y py] (.ListComp elt [⟨target,iter,ifs,0⟩] scope pos) p_) (fw (WT IW g HA te nl caps) (Yj i)):=by
 intro A3 s σ H De J h;rw[exec_Assign_Name_used _ _ _ _ PH];refine Ad (wpAny_standAt (Ad ?_));show An _ X.A (do let _ <-comprehension (.ListComp elt [⟨target,iter,ifs,0⟩] scope pos) scope X.env _ (newList []) false (Bc iter X.env) ↥(Kz (.Name y py) X.env)) _ _ s;refine Ad (HQ (wpAny_comprehension_free (use:=↥(Kz (.Name y py) X.env)) (Q:=λ_ s'=>QE X A3 De .next s') rfl AO (i7 (kM S J)) S.kind S.locs ?_) (λ_ s' AY=>BZ (BZ AY)) λ_ _ e=>e);refine BS (AD A3 s σ H _ J h) λv s1 h1=>BS h1 λaB s2 h2=>?_;obtain⟨it,BP,HU,BC,AU,e,BN,T,Js,f2,k⟩:=h2;subst e;obtain⟨W,⟨m0,K8⟩,turn⟩:=k s2.heap.objs.size (BN.B0.fresh (C9 _));refine iB (Q:=λA9=>De.AR (σ.set i ↥(.ref s2.heap.objs.size)) A9) S AI BN T Js f2 Aj BV he K8 turn (λacc C=>compPost ο X.A X.D1 ↥(Kz (.Name y py) X.env) (λ_ s'=>QE X A3 De .next s') acc C) ?_;intro C s' A9 AZ Jc Pq q;obtain⟨m,AZ⟩:=AZ;show An _ X.A (Kz (.Name y py) X.env (.ref s2.heap.objs.size)) _ _ s';have FM:Inv X A3 σ A9 s':=Pq s'.heap (Heap.SameBut.refl _ _);refine wpAny_assign_Name (p7 (v:=.ref s2.heap.objs.size) FM hN AS (.inl AG) (show RelV (V.ref _) _ from rfl) (λJp tA xu=>?_) (.inr AG));obtain⟨a,xt,AF⟩:=xu;obtain⟨QL,Bd,Co,F5,M4,Um⟩:=Jc;have aaR:C≠a:=by
  rcases AF with z|z
  .rw[z];exact Bd
  .exact λw=>M4 y a z w.symm
 refine⟨m,AZ.sameBut xt aaR,λh' LR=>?_⟩;exact⟨_,A9,tA.turned (t':=Jp.toks) (it:=C) (λb o A4 e=>(LR.2 b A4).trans e) QL Bd F5 M4 Um,q⟩
end
structure SZ(P:C5)(w:Bo)(outer:↑Env)(H A9:AE)(s:AQ)(a:A6)(C Hb:A7)(B:BH)(s':AQ):Prop where
 os:s'.os=s.os
 bare:NF s'.gens
 un:Gh (Ez outer) [] H A9 s.heap s'.heap
 R9:Heap.FlyingW B outer a C Hb s'.heap
 old:∀b o,s.heap.get? b=↥o->H b=none->b∉Ez outer->B.get? b=↥o
 aa:∀b o,s.heap.get? b=↥o->b∉Ez outer->∃o',B.get? b=↥o'
 B0:Ev P w A9 B
 AF:A9 a=none
noncomputable def IX(P:C5)(w:Bo):L7:=λouter H s E e s'=>∃(a:A6)(C Hb:A7)(B:BH)(A9:AE),e=.ref a/\SZ P w outer H A9 s a C Hb B s'/\E C ↥a A9
section
variable{X:Ar}{A3:ν}{σ :St}{H A9:AE}{s s':AQ}{a:A6}{C Hb:A7}{B:BH}
def Ev.part(x:Ev X.prog X.w H s.heap)(k:∀b u,(H b).isSome=true->s.heap.get? b=↥u->B.get? b=↥u):Ev X.prog X.w H B:=λb o e=>
 (x b o e).Nd (λc u AI q=>k c u (by rcases AI with rfl|AI<;>simp[*]) q) (λ_ q=>q) λ_ _ q=>q
def j1{env:Env}{outer:↑Env}{L:A6}(h:env.frame=↥L){b:A6}(A4:b∈Ez (env::outer)):b=L\/b∈Ez outer:=by unfold Ez at A4;rw[S9,h]at A4;exact List.mem_cons.mp A4
def Inv.ab6{M:Model}{A:DA}{E:A7->AQ->Prop}{h':BH}{vs:↑A7}{Q:Unit->AQ->Prop}(J:θ)(Fp:X.stack=X.env::X.outer)(Nx:X.env.frame=↥X.env.locals)(hex:X.ex=[])(Hl:A.frames=↥X.stack)(AM:Heap.MadeExcOf s.heap h' a C vs)(FV:∀Hb B Jp,SZ X.prog X.w X.outer X.LA H X.G8 a C Hb B Jp->Q () Jp):An M A (leaving X.env (.ref a)) Q E { s with heap:=h' }:=by
 have yA:∀env∈X.stack,∀b,env.frame=↥b->b∈Ez X.stack:=λenv he b A4=>List.mem_filterMap.mpr ⟨env,he,A4⟩;have H2:∀b o,s.heap.get? b=↥o->b∉Ez X.stack->(Xc s.heap (Ez X.stack)).get? b=↥o:=λb o q n=>s8 _ q n;have PG:∀b o,X.G8.heap.get? b=↥o->b∉Ez X.outer->b∉Ez X.stack:=λb o q n z=>by
  rw[Fp]at z;rcases j1 Nx z with r|r
  .subst r;exact absurd (GD (Dc q) J.ok.above) (Jg _)
  .exact n r
 have Iy:∀b,b∉X.ex:=λb z=>by rw[hex]at z;cases z
 refine PySem.wpAny_leaves_madeW (base:=Xc s.heap (Ez X.stack)) (h:=s.heap) (by rw[Hl,Fp]) Nx (λb o q=>rh _ q) (by have:=PySem.W.funFrames_hide (as:=Ez X.stack) J.stack yA;rw[Fp]at this |-;exact this) AM λRC t x1 x2 x3 x4=>?_;refine FV (.ref t) (Xc s.heap (Ez X.stack)) _ ⟨J.os,J.bare,⟨?_,?_,?_,?_,J.base.KS,J.base.Ii,J.base.KQ⟩,x1,?_,?_,?_,?_⟩
 .exact λb o q n A4 _=>x1.1 b o (H2 b o (J.base.keep b o q n A4 (Iy b)) (PG b o q A4))
 .intro b o q n A4 _;obtain⟨Bt,q1⟩:=J.base.slot b o q n A4 (Iy b);obtain⟨_,o',Ce,Lo⟩:=J.ok.K1.mem A4;rw[q]at Ce;cases Ce;obtain⟨Ph,q2⟩:=x4 b _ (AM.keeps b _ q1) Lo;exact⟨Ph,q2⟩
 .exact λb o q n _=>J.base.free b o q n (Iy b)
 .intro b o q _;by_cases A4:b∈Ez X.outer
  .obtain⟨_,o',Ce,_⟩:=x1.2.2.1.mem A4;exact⟨o',Ce⟩
  .obtain⟨o',Ce⟩:=J.base.there b o q (Iy b);exact⟨o',x1.1 b o' (H2 b o' Ce (PG b o q A4))⟩
 .exact λb o q n A4=>H2 b o (J.base.keep b o q n A4 (Iy b)) (PG b o q A4)
 .intro b o q A4;obtain⟨o',Ce⟩:=J.base.there b o q (Iy b);exact⟨o',H2 b o' Ce (PG b o q A4)⟩
 .exact Ev.part (X:=X) (s:=s) J.B0 λb u AO q=>H2 b u q λz=>by rw[J.fs b z]at AO;cases AO
 .cases q:H a with
  |none=>rfl
  |some o=>
   have k:∀o:Eu,Dn X.prog X.w H s.heap a o->∃u,s.heap.get? a=↥u:=λo x=>by
    induction o with
    |lst xs=>obtain⟨_,_,_,_,e⟩:=x;exact⟨_,e⟩
    |tup xs=>obtain⟨_,_,_,_,e,_⟩:=x;exact⟨_,e⟩
    |Ak A8=>obtain⟨_,_,_,_,o,_,_,e,_⟩:=x;exact⟨_,e⟩
    |Dy A8=>obtain⟨_,_,_,_,o,_,_,e,_⟩:=x;exact⟨_,e⟩
    |set S n=>obtain⟨o,_,_,_,e,_⟩:=x;exact⟨_,e⟩
    |ins C Bp BB=>obtain⟨_,_,_,e,_⟩:=x;exact⟨_,e⟩
    |own y=>obtain⟨_,e⟩:=x;exact⟨_,e⟩
    |S0 BB=>obtain⟨_,⟨_,_,_,e,_⟩,_⟩:=x;exact⟨_,e⟩
    |b7 lo AD=>obtain⟨_,_,_,e⟩:=x;exact⟨_,e⟩
    |D0 BY u=>obtain⟨e,_⟩:=x;exact⟨_,e⟩
    |OT ps=>exact⟨_,(show s.heap.get? a=↥_ from x)⟩
    |met f y=>exact⟨_,(show s.heap.get? a=↥_ from x)⟩
    |ext φ=>obtain⟨_,⟨_,e⟩,_⟩:=x;exact⟨_,e⟩
   obtain⟨u,e⟩:=k o (J.B0 a o q);rw[AM.new]at e;cases e
def Inv.ab7{M:Model}{A:DA}{E:A7->AQ->Prop}{Q:Unit->AQ->Prop}(J:θ)(Fp:X.stack=X.env::X.outer)(Nx:X.env.frame=↥X.env.locals)(hex:X.ex=[])(Hl:A.frames=↥X.stack)(f:SZ X.prog X.w X.stack H A9 s a C Hb B s')(FV:∀Jp,SZ X.prog X.w X.outer X.LA A9 X.G8 a C Hb B Jp->Q () Jp):An M A (leaving X.env (.ref a)) Q E s':=by
 have PG:∀b o,X.G8.heap.get? b=↥o->b∉Ez X.outer->b∉Ez X.stack:=λb o q n z=>by
  rw[Fp]at z;rcases j1 Nx z with r|r
  .subst r;exact absurd (GD (Dc q) J.ok.above) (Jg _)
  .exact n r
 have xn:∀b,b∈Ez X.outer->b∈Ez X.stack:=λb z=>by rw[Fp];unfold Ez;rw[S9,Nx];exact Gg _ z
 have Iy:∀b,b∉X.ex:=λb z=>by rw[hex]at z;cases z
 have no:∀b:A6,b∉([]:↑A6):=λb z=>by cases z
 obtain⟨os,bare,un,R9,old,aa,B0,AF⟩:=f;rw[Fp]at R9;refine PySem.wpAny_leaves_onW (by rw[Hl,Fp]) Nx R9 λRC x1 x2=>?_;refine FV _ ⟨os.trans J.os,bare,⟨?_,?_,?_,?_,λb xs q=>un.KS b xs (J.base.KS b xs q),λb o u q=>un.Ii b o u (J.base.Ii b o u q),?_⟩,x1,?_,?_,B0,AF⟩
 .exact λb o q n A4 _=>x1.1 b o (old b o (J.base.keep b o q n A4 (Iy b)) (J.base.free b o q n (Iy b)) (PG b o q A4))
 .intro b o q n A4 _;obtain⟨Bt,q1⟩:=J.base.slot b o q n A4 (Iy b);obtain⟨_,o',Ce,Lo⟩:=J.ok.K1.mem A4;rw[q]at Ce;cases Ce;obtain⟨Rt,q2⟩:=un.slot b _ q1 (J.base.free b o q n (Iy b)) (xn b A4) (no b);obtain⟨Ph,Ea⟩:=x2 b _ q2 Lo;exact⟨Ph,Ea⟩
 .intro b o q n _;obtain⟨o',Ce⟩:=J.base.there b o q (Iy b);exact un.free b o' Ce (J.base.free b o q n (Iy b)) (no b)
 .intro b o q _;by_cases A4:b∈Ez X.outer
  .obtain⟨_,o',Ce,_⟩:=x1.2.2.1.mem A4;exact⟨o',Ce⟩
  .obtain⟨o',Ce⟩:=J.base.there b o q (Iy b);obtain⟨E0,q2⟩:=aa b o' Ce (PG b o q A4);exact⟨E0,x1.1 b E0 q2⟩
 .intro b ps q;obtain⟨H5,AC⟩:=J.base.KQ b ps q;obtain⟨H6,AH⟩:=un.KQ b _ AC;exact⟨H5++H6,by rw[AH,Array.append_assoc]⟩
 .exact λb o q n A4=>old b o (J.base.keep b o q n A4 (Iy b)) (J.base.free b o q n (Iy b)) (PG b o q A4)
 .intro b o q A4;obtain⟨o',Ce⟩:=J.base.there b o q (Iy b);exact aa b o' Ce (PG b o q A4)
end
def ut{K:As}{h:BH}{C:A6}{Ul:↑A7}{newId:String}(X:K.In h)(q:Ub K C Ul newId=true) :
  ∃bm N nm q bs hdct sn sub ab col dd k0 k1 k2 k3 k5 mN,h.get? C=↥(excClassObj nm q C N bs bm hdct sn sub ab col dd k0 k1 k2 k3 k5 newId)/\h.Ns N mN/\mN "__init__"=none/\OwnTail h Ul bm:=by
 unfold Ub at q
 split at q
 .rename_i dd cd Bt ho
  split at q
  .rename_i Lx bm k0 k1 k2 k3 n k5 hm AO;erw[I0,beq_iff_eq,Bool.not_eq_true']at q;obtain⟨⟨⟨⟨⟨rfl,rfl⟩,kJ⟩,BV⟩,B0⟩,Zq⟩:=q;obtain⟨nm,bs,mro,ns,qn,hd,sn,sub,ab,col,del⟩:=cd;dsimp only at hm kJ B0 Zq;subst hm kJ;have xw:Bt= #[k0,k1,k2,k3,↥(.builtin n),k5]:=by
    obtain⟨l⟩:=Bt;simp only at AO;rw[AO]
   subst xw;exact⟨bm,ns,nm,qn,bs,hd,sn,sub,ab,col,dd,k0,k1,k2,k3,k5,_,X _ _ ho,.of_isNs (PySem.W.isNs_of_in X B0),PySem.W.nsMap_none_of_in X B0 Zq,PySem.W.tail_of_in X BV⟩
  .cases q
 .cases q
noncomputable def r8(X:Ar)(C:A6):F3:=λ_ σ H=>∀A3 s h' a vs,θ->Heap.MadeExcOf s.heap h' a (.ref C) vs->X.D1 (.ref a) { s with heap:=h' }
section
variable{X:Ar}{x:Str}{np Cs pos Su:Pos}{C:A6}{Ul:↑A7}{B newId ym:String}{m:Str}{j:Nat}
def aeB(FB:ExcBaseFacts B newId ym Ul)(q:Ub X.K C Ul newId=true)(hm:X.mg x=↥(.ref C))(AI:X.calm=true:=by rfl)(Aj:ET X x:=by rfl)(hd:(x==("__debug__" :Str))=false:=by decide) :
  DO X (.Raise ↥(.Call (.Name x np) [.Constant (.str m) j Su] [] Cs) none pos) (r8 X C):=by
 intro A3 s σ H D J h;obtain⟨bm,N,nm,qn,bs,hdct,sn,sub,ab,col,dd,k0,k1,k2,k3,k5,mN,Jc,hN,Zq,hI⟩:=ut J.mod.RP q;refine wpAny_Raise_call_subT (mN:=mN) (C:=C) (nm:=nm) (q:=qn) (N:=N) (bs:=bs) (bm:=bm) (hdct:=hdct) (sn:=sn) (sub:=sub) (ab:=ab) (col:=col) (dd:=dd) (k0:=k0) (k1:=k1) (k2:=k2) (k3:=k3) (k5:=k5) FB (hI.hasType FB.hasBase) (J.ok.hd AI) rfl Zq (VB J Aj hm ⟨rfl,?_⟩ hd);refine XV (UE (BS (fX (X:=X) (x:=m) (j:=j) (pos:=Su) A3 s σ H (λ_ H1=>H1=H) J rfl) λu s1⟨v,H1,Ac,Av,AC⟩=>?_));subst AC;refine UU ⟨rfl,rk rfl,Ac.B_ _ _ Jc,hN.keeps Ac.B_,hI.keeps Ac.B_,λh' a AM=>h A3 s1 h' a _ Ac AM⟩
def ahJ{P:C5}{w:Bo}{K:As}{mg:Str->Option A7}{base:BH}{N:↑Str}{qual:Str}{scope:FF}{f:A6}{cd:A7}{A:DA}{outer:↑Env}{s0:AQ}{BM:AE}{E:Ex}{σ :St}{H:AE}{De:Ends}(h:∀a,H a=none->E (.ref C) ↥a H):r8 (Kh (IX P w) P w K mg base N qual scope f cd A outer s0 BM E) C De σ H:=λA3 s h' a vs J AM=>
 J.ab6 (C:=.ref C) rfl rfl rfl J.ok.frames AM λHb B Jp Di=>⟨a,.ref C,Hb,B,H,rfl,Di,h a Di.AF⟩
def ad7{P:C5}{w:Bo}{K:As}{mg:Str->Option A7}{base:BH}{N:↑Str}{qual:Str}{scope:FF}{f:A6}{cd:A7}{A:DA}{outer:↑Env}{s0:AQ}{BM:AE}{E:Ex} :
  Passes (IX P w) (Kh (IX P w) P w K mg base N qual scope f cd A outer s0 BM E) E:=λA3 σ H s e s' J AM=>by
 obtain⟨a,C,Hb,B,A9,rfl,Di,Nv⟩:=AM;exact J.ab7 (X:=Kh (IX P w) P w K mg base N qual scope f cd A outer s0 BM E) rfl rfl rfl J.ok.frames Di λJp xE=>⟨a,C,Hb,B,A9,rfl,xE,Nv⟩
end
abbrev ur(a:A6)(C:A7):Eu:=.ext λh=>∃BY,h.get? a=↥BY/\BY.cls=C
section
variable{X:Ar}{A3:ν}{σ :St}{H A9:AE}{s s':AQ}{a:A6}{C Hb:A7}{B:BH}{RC:BH}
def SZ.inv(f:SZ X.prog X.w X.stack H A9 s a C Hb B s')(J:θ)(st:B.StaysIn RC)(R7:RC.FunFrames B X.stack)(up:s'.heap.UpToSlots RC):Inv X A3 σ A9 { s' with heap:=RC }:=by
 have no:∀b:A6,b∉([]:↑A6):=λb z=>by cases z
 refine J.i1 (s':={ s' with heap:=RC }) (ch:=[]) f.os ⟨λb o q n A4 _=>st b o (f.old b o q n A4),λb o q n A4 _=>?_,f.un.free,λb o q _=>?_,f.un.KS,f.un.Ii,f.un.KQ⟩ (f.B0.kept λb u q=>st b u q) f.bare (λb A4=>nomatch A4)
 .obtain⟨Bt,q1⟩:=f.un.slot b o q n A4 (no b);obtain⟨_,o',Ce,Lo⟩:=J.stack.mem A4;rw[q]at Ce;cases Ce;obtain⟨Ph,q2⟩:=up b _ q1 Lo;exact⟨Ph,q2⟩
 .by_cases A4:b∈Ez X.stack
  .obtain⟨_,o',Ce,_⟩:=R7.mem A4;exact⟨o',Ce⟩
  .obtain⟨o',Ce⟩:=f.aa b o q A4;exact⟨o',st b o' Ce⟩
end
noncomputable def cF(X:Ar)(e:Al)(t:TE)(E:Ex):Prop:=∀(A3:ν)(s:AQ)(σ :St)(H:AE)(Q:CR),θ->t σ H Q->
 An ο X.A (Bc e X.env) (Gw X A3 σ Q) (λx s'=>∃H1 s1,Inv X A3 σ H1 s1/\IX X.prog X.w X.stack H1 s1 E x s') s
section
variable{X:Ar}{k:Nat}{f C:A6}{fd:Hj}{ps:↑Str}{sp:Cq}{E:Ex}{x:Str}{p pos:Pos}{e:Al}{es:↑Al}{t:Fd}
end
abbrev Ar.marked(X:Ar)(a:A6):Ar:={ X with A:=X.A.mark ↥(.ref a),calm:=false,D1:=λ_ _=>False }
section
variable{X:Ar}{A3:ν}{σ :St}{H A9:AE}{s s':AQ}{a:A6}
theorem Ar.Ok.marked(ok:X.Ok)(a:A6):(X.marked a).Ok:=
 ⟨ok.mod,ok.kind,ok.glob,ok.blt,ok.above,ok.inj,ok.has,ok.Sr,(λz=>Bool.noConfusion z),ok.frames,ok.WR,ok.cg,ok.bs,ok.P1,ok.Tz,ok.Vr,ok.K1,ok.Pp⟩
theorem Inv.marked(J:θ)(a:A6):Inv (X.marked a) A3 σ H s:=⟨J.ok.marked a,J.os,J.bare,J.base,J.loc,J.cell,J.free,J.Kj,J.pin,J.B0,J.len⟩
def Inv.unmarked(ok:X.Ok)(J:Inv (X.marked a) A3 σ H s):θ:=⟨ok,J.os,J.bare,J.base,J.loc,J.cell,J.free,J.Kj,J.pin,J.B0,J.len⟩
end
section
variable{X:Ar}{i:Nat}{x n:Str}{W:A6}{e:Al}{te:TE}{E:Ex}{Sn:BG}{UD:↑BG}{ts:F3}{U4 np AV pos:Pos}
end
end B5
namespace B5
open PySem PySem.Spec
section
variable{prog:C5}{w:Bo}{A:DA}{E:A7->AQ->Prop}{s:AQ}
def ac3{it t:A6}{i:Nat}{items:Array A7}{x:A7}{Q:A7->AQ->Prop}(hit:s.heap.IsTupleIter it t i)(BV:s.heap.IsTuple t items)(AM:items[i]?=↥x)(FV:∀h',h'.IsTupleIter it t (i+1)->Kr it s.heap h'->Q x { s with heap:=h' }):An (B2 prog w) A (S3 (.ref it)) Q E s:=by
 obtain⟨o,ho,AI,hd⟩:=id hit;obtain⟨ol,TZ,_,nl,TV⟩:=BV;unfold S3
 refine Ad (S4 (name:=SC "__next__") hit.typeIs XH
  (O1 XH hit.typeIs rf ?_ (rd _)))
 show An _ _ (field (.ref it) 0>>=_) _ _ s;refine Ad (MP ho hd (x:=.ref t) rfl ?_);show An _ _ (if(Cm t==JA)=true then _ else _) _ _ s;rw[if_neg (show¬((Cm t==JA)=true)from Kt)];show An _ _ (field (.ref it) 1>>=_) _ _ s;refine Ad (MP ho hd (x:=.int i 0) rfl ?_);show An _ _ (seqItems? (.ref t)>>=_) _ _ s;refine Ad (PO TZ TV ?_);erw[Qg,AM];refine Ad (X_ ho hd γ (BZ ⟨x,rfl,BZ (FV _ ?_ (SA ..))⟩));exact⟨_,S8 _ ho (rl (XM hd _)),(Obj.cls_mapFields ..).trans AI,by
  rw[XM hd];simp[NG]⟩
def ac2{it t:A6}{i:Nat}{items:Array A7}{Q:A7->AQ->Prop}(hh:A.handled=none)(hit:s.heap.IsTupleIter it t i)(BV:s.heap.IsTuple t items)(AM:items[i]?=none)(Nv:∀h' e,Heap.ExtBut it s.heap h'->(∃o,h'.get? e=↥o/\o.cls=.type "StopIteration")->E (.ref e) { s with heap:=h' }):An (B2 prog w) A (S3 (.ref it)) Q E s:=by
 obtain⟨o,ho,AI,hd⟩:=id hit;obtain⟨ol,TZ,_,nl,TV⟩:=BV;unfold S3
 refine Ad (S4 (name:=SC "__next__") hit.typeIs XH
  (O1 XH hit.typeIs rf ?_ (rd _)))
 show An _ _ (field (.ref it) 0>>=_) _ _ s;refine Ad (MP ho hd (x:=.ref t) rfl ?_);show An _ _ (if(Cm t==JA)=true then _ else _) _ _ s;rw[if_neg (show¬((Cm t==JA)=true)from Kt)];show An _ _ (field (.ref it) 1>>=_) _ _ s;refine Ad (MP ho hd (x:=.int i 0) rfl ?_);show An _ _ (seqItems? (.ref t)>>=_) _ _ s;refine Ad (PO TZ TV ?_);erw[Qg,AM];refine Ad (wpAny_rule (Ad (X_ ho hd γ ?_)));show An _ _ (newExc (.type "StopIteration") []>>=_) _ _ _;refine Ad ?_;erw[newExc,newTuple];refine Ad (Lg ?_ (by size_fits));refine Ad (m:=Xa _ _) (wpAny_of_eq (a:=JA) (by first|rfl|(erw[Xa];rfl)) ?_);refine Lg ?_ (by size_fits);erw[raiseNew];refine Ad (wpAny_handled ?_)
 first|rw[show A.in1.handled=none from hh]|rw[hh]
 refine Ad (BZ (wpAny_throw ?_));exact Nv _ _ (((SA ..).extBut.push _).push _) ⟨_,FP _ rfl,rfl⟩
def vH(hh:A.handled=none)(it l:A6)(Iz:l≠it)(items:Array A7) :
  Draws prog w A it [it,l] items.size (λi v=>items[i]?=↥v) (λi h=>h.IsTupleIter it l i/\h.IsTuple l items) where
 live:=λ_ _ st=>let⟨o,ho,_⟩:=st.1;⟨o,ho⟩
 frame:=λ_ _ _ st AP=>⟨st.1.at λo e=>AP it γ o e,st.2.at λo e=>AP l γ o e⟩
 item:=λi s Q E AD st FV=>by refine ac3 st.1 st.2 (x:=items[i]) (by simp[AD]) λh' TX LR=>?_;exact FV _ h' s.toks (by simp[AD]) ⟨TX,st.2.extBut LR.extBut Iz⟩ LR
 done:=λs Q E st Nv=>ac2 hh st.1 st.2 γ Nv
end
def Inv.W2{X:Ar}{A3:ν}{σ :St}{H:AE}{s:AQ}{h':BH}{t':Nat}{ch:↑A6}(J:θ)(k:∀b o,b∉ch->s.heap.get? b=↥o->h'.get? b=↥o)(hf:∀b∈ch,KY X A3 H b):Inv X A3 σ H { s with heap:=h',toks:=t' }:=by
 have Pb:∀b u,H b=↥u->b∉ch:=λb u e z=>by rw[(hf b z).1]at e;cases e
 refine J.step (g':=s.gens) (d':=s.drawn) (ch:=ch) (λb A4=>?_) (λb o _ _ AI e _=>k b o AI e) (λb o _ _ AI e _=>⟨o.slots,k b o AI e⟩) (λ_ _ _ _ n=>n)
  (λb o AI e=>⟨o,k b o AI e⟩) (λ_ _ e=>e) (λ_ _ _ e=>e) (λb ps e=>⟨#[],by rw[e];simp⟩) (λm hm=>?_) (λb u e=>?_) J.bare
 .obtain⟨_,f1,_,Ey,f4,G5⟩:=hf b A4;exact⟨Ey,f1,f4,G5⟩
 .obtain⟨o,es,Aq,ho,r⟩:=hm;exact⟨o,es,Aq,k _ o (λz=>(hf _ z).2.1 rfl) ho,r⟩
 .refine(J.B0 b u e).Nd (λc v AI q=>k c v ?_ q) (λ_ q=>q) λ_ _ q=>q;rcases AI with z|z
  .rw[z];exact Pb b u e
  .exact Pb c _ z
def Inv.g9{X:Ar}{A3:ν}{σ :St}{H:AE}{s:AQ}{h':BH}{t':Nat}{ch:↑A6}{T:A6}{xs:↑V}{its:↑A7}(J:θ)(k:∀b o,b∉ch->s.heap.get? b=↥o->h'.get? b=↥o)(hf:∀b∈ch,KY X A3 H b)(Dt:s.heap.objs.size<=T)(BV:XN h' T its.toArray)(C0:Vals xs its)(hz:⇑xs<=CL):Inv X A3 σ (upd H T (.tup xs)) { s with heap:=h',toks:=t' }:=by
 have Pb:∀b u,H b=↥u->b∉ch:=λb u e z=>by rw[(hf b z).1]at e;cases e
 have AZ:H T=none:=J.B0.fresh Dt;have neT:∀b o,s.heap.get? b=↥o->b≠T:=λb o e=>Et (GD (Dc e) Dt)
 refine J.step (g':=s.gens) (d':=s.drawn) (ch:=ch) (λb A4=>?_) (λb o _ _ AI e _=>k b o AI e) (λb o _ _ AI e _=>⟨o.slots,k b o AI e⟩) (λb o _ e n=>by rw[DF (neT b o e)];exact n)
  (λb o AI e=>⟨o,k b o AI e⟩) (λb ys e=>by rw[DF (L_ e AZ)];exact e) (λb _ _ e=>by rw[DF (L_ e AZ)];exact e) (λb ps e=>⟨#[],by rw[DF (L_ e AZ),e];simp⟩) (λm hm=>?_) (λb u e=>?_) J.bare
 .obtain⟨_,f1,_,Ey,f4,G5⟩:=hf b A4;exact⟨Ey,f1,f4,G5⟩
 .obtain⟨o,es,Aq,ho,r⟩:=hm;exact⟨o,es,Aq,k _ o (λz=>(hf _ z).2.1 rfl) ho,r⟩
 .by_cases A4:b=T
  .subst A4;rw[E3]at e;cases e;exact⟨hz,its,C0,BV⟩
  .rw[DF A4]at e;refine(J.B0 b u e).Nd (λc v AI q=>k c v ?_ q) (λc q=>by rw[DF (L_ q AZ)];exact q) λc ys q=>by rw[DF (L_ q AZ)];exact q
   rcases AI with z|z
   .rw[z];exact Pb b u e
   .exact Pb c _ z
noncomputable def c7(x:Str):It:=⟨λi _=>i<x.cps.size,λi H v A9=>A9=H/\∃c,x.cps[i]?=↥c/\v=.str ⟨#[c]⟩,λi _=>i=x.cps.size⟩
def qm{prog:C5}{w:Bo}{A:DA}(hh:A.handled=none)(J:A6)(x:Str)(t:Tok):Walks prog w A J [J] [J] x.cps.size (SignAt x) (λi h=>h.IsStrIter J (KC x) x t i):=by
 unfold KC;cases AF:x.cps.all (· <128)
 .rw[if_neg Kt];exact Walks.strWide hh J x t
 .rw[if_pos rfl];exact Walks.strAscii hh J x t
def vG{prog:C5}{w:Bo}{A:DA}(hh:A.handled=none)(J:A6)(x:Str)(t:Tok):Draws prog w A J [J] x.cps.size (λi v=>∃c u,x.cps[i]?=↥c/\v=.str ⟨#[c]⟩ u) (λi h=>h.IsStrIter J (KC x) x t i):=by
 unfold KC;cases AF:x.cps.all (· <128)
 .rw[if_neg Kt];exact Draws.strWide hh J x t
 .rw[if_pos rfl];exact Draws.strAscii hh J x t
def aeq(x:Str):["enumerate","zip","dict_itemiterator","dict_reverseitemiterator","odict_iterator","itertools.zip_longest","itertools.pairwise"].contains (KC x)=false:=by
 unfold KC
 split<;>decide
def ag4{P:C5}{w:Bo}{K:As}{C1:Al}(it:A6)(x:Str)(t:Tok):Turn P w K C1 (c7 x) [it] it (λi h=>h.IsStrIter it (KC x) x t i) where
 mem:=γ
 obj:=λi h st b A4=>by
  have e:b=it:=(A4:)
  subst e;obtain⟨o,e,c,d⟩:=st;exact⟨o,e,λv z=>by rw[d]at z;cases z⟩
 keep:=λi h h' st k=>by obtain⟨o,e,r⟩:=st;exact⟨o,k it γ o e,r⟩
 item:=by nofun;have W:=qm (prog:=X.prog) (w:=X.w) (A:=X.A) (J.ok.hd AI) it x t;refine W.item i s _ _ Aj st λv h' CW Bk Gp FX=>?_;obtain⟨c,u,Mb,rfl⟩:=Bk;have Ac:Inv X A3 σ H { s with heap:=h',toks:=CW }:=J.W2 (ch:=[it]) FX hf;obtain⟨o,e,Bd,d1⟩:=id Gp;exact⟨_,rfl,TQ (s:={ s with heap:=h',toks:=CW }) e Bd d1 (aeq x) ⟨.str ⟨#[c]⟩,H,Ac,⟨u,rfl⟩,⟨rfl,c,Mb,rfl⟩,Gp,λb A4=>(hf b A4).1⟩⟩
 done:=by nofun;have W:=qm (prog:=X.prog) (w:=X.w) (A:=X.A) (J.ok.hd AI) it x t;have AD:i=x.cps.size:=Aj;subst AD;exact W.done s _ _ st λh' CW FX=>⟨rfl,J.W2 (ch:=[it]) FX hf⟩
 self:=λA i s Q E st h=>by
  unfold KC at st;cases AF:x.cps.all (· <128)
  .rw[AF,if_neg Kt]at st;exact wpAny_pyIter_striter_wide st h
  .rw[AF,if_pos rfl]at st;exact wpAny_pyIter_striter_ascii st h
section
variable{X:Ar}{C1:Al}
end
noncomputable def c3(K:As)(l:A6):It:=⟨λi H=>∃xs x,EV K H l xs/\xs[i]?=↥x,λi H v A9=>∃p x,H p=none/\A9=upd H p (.tup [.int (i:Int),x])/\v=.ref p/\∀xs,EV K H l xs->xs[i]?=↥x,λi H=>∃xs,EV K H l xs/\ ⇑xs=i⟩
def afz{P:C5}{w:Bo}{K:As}{elts:↑Al}{FX:Nat}{pos:Pos}(e it l:A6)(kK:e≠it) :
  Turn P w K (.Tuple elts FX pos) (c3 K l) [e,it] e (λi h=>(∃old,IsEnum h e it i old)/\h.IsListIter it l i) where
 mem:=γ
 obj:=λi h st b A4=>by
  obtain⟨⟨old,he⟩,o,AC,c,d⟩:=st;rcases List.mem_cons.mp A4 with z|z
  .subst z;exact⟨_,he,λv z=>by have FE:Xi _=SJ v:=z;cases FE⟩
  .have z:b=it:=by simpa using z
   subst z;exact⟨o,AC,λv z=>by rw[d]at z;cases z⟩
 keep:=λi h h' st k=>by obtain⟨⟨old,he⟩,hit⟩:=st;exact⟨⟨old,k e γ _ he⟩,hit.at λo x=>k it γ o x⟩
 item:=by
  nofun;obtain⟨xs,x,AY,AM⟩:=Aj;obtain⟨its,C0,pl,hz⟩:=J.list AY;obtain⟨⟨old,he⟩,hit⟩:=st;have GZ:=pl.isList;have hle:l≠e:=λz=>by subst z;obtain⟨o,ho,K2,_⟩:=GZ;rw[he]at ho;cases ho;have K2:O7 "enumerate"=O7 "list":=K2;injection K2 with K2;exact absurd K2 ε
  have YP:l≠it:=λz=>by subst z;obtain⟨o,ho,K2,_⟩:=GZ;obtain⟨o',I5,PC,_⟩:=hit;rw[I5]at ho;cases ho;rw[K2]at PC;injection PC with PC;exact absurd PC ε
  have W:=WalksT.enumerate (prog:=X.prog) (w:=X.w) (A:=X.A) (J.ok.hd AI) e it l kK hle YP its.toArray;have hlen:=⇑C0;have kO:i< ⇑xs:=(List.getElem?_eq_some_iff.mp AM).1;refine W.item i s _ _ (by rw[DW,<-hlen];exact kO) ⟨⟨old,he⟩,hit,GZ⟩ λT vals h' CW Da Dt wy PA AP=>?_;obtain⟨t,u,BQ,rfl⟩:=Da;obtain⟨JR,eD,Fj⟩:=C0.get AM;have GF:JR=u:=by rw[rm]at BQ;rw[eD]at BQ;exact GC BQ
  subst GF;refine⟨_,rfl,?_⟩;refine W.go elts FX pos i T { s with heap:=h',toks:=CW } _ _ PA λh2 Js PF=>?_;have ii:T∉[e,it]:=W.apart i T h' PA;have keep:∀b o,b∉[e,it]->s.heap.get? b=↥o->h2.get? b=↥o:=λb o A4 q=>PF b o A4 (AP b o A4 q);have VO:XN h2 T (#[.int i t,JR]:Array A7):=by obtain⟨o,ho,r⟩:=wy;exact⟨o,PF T o ii ho,r⟩
  have AZ:H T=none:=J.B0.fresh Dt;have BN:Inv X A3 σ (upd H T (.tup [.int (i:Int),x])) { s with heap:=h2,toks:=CW }:=J.g9 (its:=[.int i t,JR]) (ch:=[e,it]) keep hf Dt VO (.cons ⟨t,rfl⟩ (.cons Fj .nil)) (by show 2<=CL;decide);refine⟨.ref T,upd H T (.tup [.int (i:Int),x]),BN,rfl,⟨T,x,AZ,rfl,rfl,λys AS=>by rw[J.dx AS AY];exact AM⟩,⟨Js.1,Js.2.1⟩,λb A4=>?_⟩;have nb:b≠T:=λz=>ii (z▸A4);rw[DF nb];exact(hf b A4).1
 done:=by
  nofun;obtain⟨xs,AY,AM⟩:=Aj;obtain⟨its,C0,pl,hz⟩:=J.list AY;obtain⟨⟨old,he⟩,hit⟩:=st;have GZ:=pl.isList;have hle:l≠e:=λz=>by subst z;obtain⟨o,ho,K2,_⟩:=GZ;rw[he]at ho;cases ho;have K2:O7 "enumerate"=O7 "list":=K2;injection K2 with K2;exact absurd K2 ε
  have YP:l≠it:=λz=>by subst z;obtain⟨o,ho,K2,_⟩:=GZ;obtain⟨o',I5,PC,_⟩:=hit;rw[I5]at ho;cases ho;rw[K2]at PC;injection PC with PC;exact absurd PC ε
  have W:=WalksT.enumerate (prog:=X.prog) (w:=X.w) (A:=X.A) (J.ok.hd AI) e it l kK hle YP its.toArray;have GQ:i=its.toArray.size:=by rw[DW,<- ⇑C0];exact AM.symm
  subst GQ;exact W.done s _ _ ⟨⟨old,he⟩,hit,GZ⟩ λh' CW FX=>⟨rfl,J.W2 (ch:=[e,it]) FX hf⟩
 self:=λA i s Q E st h=>by obtain⟨⟨old,he⟩,_⟩:=st;exact wpAny_pyIter_enum he h
section
variable{X:Ar}{elts:↑Al}{FX:Nat}{Ng:Pos}
noncomputable def xd(K:As)(Bu:Fd):TI:=λσ H R=>Bu σ H λvs H1=>∃l,vs=[.ref l]/\(∃xs,EV K H1 l xs)/\R (c3 K l) H1
def acm{a:Al}{Bu:Fd}{p pos:Pos}(Aj:ET X "enumerate")(hm:X.mg "enumerate"=none)(AF:Gz X [a] Bu)(AO:CK [a] X.env=[(false,Bc a X.env)]:=by rfl):HY X (.Tuple elts FX Ng) (.Call (.Name "enumerate" p) [a] [] pos) (xd X.K Bu):=by
 have A4:O3 "enumerate"=↥(.type "enumerate"):=by kernel_rfl
 intro A3 s σ H R J h;refine s9 (Oh J Aj hm A4 (QZ (BS (AF pos A3 s σ H _ J h) λus s1⟨vs,H1,Ac,Av,q1⟩=>?_) AO rfl));obtain⟨l,e,⟨xs,AY⟩,q⟩:=q1;subst e;obtain⟨u,rfl,Fj⟩:=vals1 Av;cases Fj;obtain⟨its,C0,pl,hz⟩:=Ac.list AY;refine call_enumerate_list pl.isList λh' he hit hsz AP=>?_;have BN:Inv X A3 σ H1 { s1 with heap:=h' }:=Ac.kept (t':=s1.toks) AP;refine wpAny_pyIter_enum he ?_;refine⟨s1.heap.objs.size+1,[s1.heap.objs.size+1,s1.heap.objs.size],_,_,H1,rfl,BN,afz _ _ l (Nat.succ_ne_self _),⟨⟨_,he⟩,hit⟩,λb A4=>?_,q⟩;have A4:b=s1.heap.objs.size+1\/b=s1.heap.objs.size:=(A4:)
 rcases A4 with z|z
 .subst z;exact Ac.M_ (PT _) (Ac.B0.fresh (PT _))
 .subst z;exact Ac.M_ (C9 _) (Ac.B0.fresh (C9 _))
end
abbrev aI(h:BH)(x:Str)(t:Tok):BH:=h.push { cls:=.type (KC x),data:=.fields #[.str x t,.int 0 0] }
abbrev aJ(h:BH)(x:Str)(t:Tok)(l:A6):BH:=(aI h x t).push { cls:=.type "tuple_iterator",data:=.fields #[.ref l,.int 0 0] }
abbrev aK(h:BH)(x:Str)(t:Tok)(l:A6):BH:=(aJ h x t l).push { cls:=.type "tuple",data:=.seq #[.ref h.objs.size,.ref (aI h x t).objs.size] }
abbrev aL(h:BH)(x:Str)(t:Tok)(l:A6):BH:=(aK h x t l).push { cls:=.type "tuple",data:=.seq #[.none,.none] }
abbrev Rf(h:BH)(x:Str)(t:Tok)(l:A6):BH:=(aL h x t l).push { cls:=.type "zip",data:=.fields #[.none,.bool false,.bool false,.ref (aJ h x t l).objs.size,.ref (aK h x t l).objs.size] }
set_option maxHeartbeats 4000000 in
def aan(x:Str)(t:Tok)(CV:A6)(ys:Array A7) :
  Meets (Builtin.«zip.__new__» ⟨[.type "zip",.str x t,.ref CV],[]⟩) (λ_ R s=>s.heap.IsTuple CV ys/\R (.ok (.ret (.ref (aL s.heap x t CV).objs.size))) { s with heap:=Rf s.heap x t CV }):=
 .of_wp λprog w A R s h=>by
   obtain⟨AV,g,d,CW,os⟩:=s;obtain⟨TY,h⟩:=h;have Pt:=sub_zip;have wp:Heap.IsTuple (Shared.heap ⟨AV.push { cls:=.type (KC x),data:=.fields #[.str x t,.int 0 0] },g,d,CW,os⟩) CV ys:=Heap.IsTuple.push TY _
   wp_walk using wpAny_pyIter_strU,wpAny_pyIter_tuple wp
   exact⟨_,rfl,h⟩
theorem th {prog:C5} {w:Bo} {A:DA} {E:A7->AQ->Prop} {s:AQ} {x:Str} {t:Tok} {CV:A6} {ys:Array A7} {Q:A7->AQ->Prop} (TY:s.heap.IsTuple CV ys)(h:∀h',IsZip h' (s.heap.objs.size+4) (s.heap.objs.size+2) (s.heap.objs.size+3) .none->NH h' (s.heap.objs.size+2) (.ref s.heap.objs.size) (.ref (s.heap.objs.size+1))->
    NH h' (s.heap.objs.size+3) .none .none->h'.IsStrIter s.heap.objs.size (KC x) x t 0->h'.IsTupleIter (s.heap.objs.size+1) CV 0->h'.objs.size=s.heap.objs.size+5->
    (∀c o,s.heap.get? c=↥o->h'.get? c=↥o)->Q (.ref (s.heap.objs.size+4)) { s with heap:=h' }) :
  An (B2 prog w) A (call (.type "zip") [.str x t,.ref CV]) Q E s:=by
 refine callType_new F.called_zip ε (F.typeCall_zip_2 _ _) (F.newCall_zip_2 _ _) (λobj=>F.args_object_init_3 obj _ _) F.entry_zip_new (aan x t CV ys) ⟨TY,?_⟩;have Es:(aI s.heap x t).objs.size=s.heap.objs.size+1:=Ld ..;have Ec:(aJ s.heap x t CV).objs.size=s.heap.objs.size+2:=by rw[Ld,Es]
 have fj:(aK s.heap x t CV).objs.size=s.heap.objs.size+3:=by rw[Ld,Ec]
 have X4:(aL s.heap x t CV).objs.size=s.heap.objs.size+4:=by rw[Ld,fj]
 have aG:(Rf s.heap x t CV).objs.size=s.heap.objs.size+5:=by rw[Ld,X4]
 have Kk:(Rf s.heap x t CV).get? (aL s.heap x t CV).objs.size=↥_:=FP _ rfl;have g4:(Rf s.heap x t CV).get? (aK s.heap x t CV).objs.size=↥_:=Cr _ (FP _ rfl);have g3:(Rf s.heap x t CV).get? (aJ s.heap x t CV).objs.size=↥_:=Cr _ (Cr _ (FP _ rfl));have g2:(Rf s.heap x t CV).get? (aI s.heap x t).objs.size=↥_:=Cr _ (Cr _ (Cr _ (FP _ rfl)));have g1:(Rf s.heap x t CV).get? s.heap.objs.size=↥_:=Cr _ (Cr _ (Cr _ (Cr _ (FP _ rfl))));show _/\_;rw[Ec,fj,X4]at Kk;rw[Es,Ec]at g3;rw[fj]at g4;rw[Es]at g2;rw[X4];exact⟨⟨_,Kk,rfl⟩,h _ Kk g3 g4 ⟨_,g1,rfl,rfl⟩ ⟨_,g2,rfl,rfl⟩ aG λc o x=>
  Cr _ (Cr _ (Cr _ (Cr _ (Cr _ x))))⟩
noncomputable def hU(K:As)(x:Str)(l:A6):It:=⟨λi H=>i<x.cps.size/\∃ys y,EW K H l ys/\ys[i]?=↥y,
 λi H v A9=>∃p c y,x.cps[i]?=↥c/\H p=none/\A9=upd H p (.tup [.str ⟨#[c]⟩,y])/\v=.ref p/\∀ys,EW K H l ys->ys[i]?=↥y,
 λi H=>∃ys,EW K H l ys/\i=min x.cps.size ⇑ys⟩
section
variable{prog:C5}{w:Bo}{A:DA}{E:A7->AQ->Prop}{s:AQ}
def na{n a b:Nat}(h:a≠b):n+a≠n+b:=λe=>h (Nat.add_left_cancel e)
def Ro{n a:Nat}:n≠n+(a+1):=Et (Nat.lt_add_of_pos_right (Nat.succ_pos a))
def p8{n b:Nat}(h:b∈[n,n+1,n+3,n+4]):b∈[n,n+1,n+2,n+3,n+4]:=by erw[Ip]at h |-;rcases h with h|h|h|h|h<;>simp[h]
noncomputable def bX(h:BH)(n:A6)(f0:A7)(x:Str)(t:Tok)(l:A6)(i:Nat):Prop:=IsZip h (n+4) (n+2) (n+3) f0/\NH h (n+2) (.ref n) (.ref (n+1))/\(∃a b,NH h (n+3) a b)/\h.IsStrIter n (KC x) x t i/\h.IsTupleIter (n+1) l i
theorem m4 {n l:A6} {x:Str} {t:Tok} {i:Nat} {ys:Array A7} {Q:Option A7->AQ->Prop} (hh:A.in1.handled=none) (ln:l<n) (BV:s.heap.IsTuple l ys) (st:bX s.heap n .none x t l i) (Ck:i<=x.cps.size) (F8:i<=ys.size)(FV:∀c y u h' CW,x.cps[i]?=↥c->ys[i]?=↥y->bX h' n (NG s.heap.objs.size) x t l (i+1)->NH h' s.heap.objs.size (.str ⟨#[c]⟩ u) y->
    (∀b o,b∉[n,n+1,n+3,n+4]->s.heap.get? b=↥o->h'.get? b=↥o)->Q ↥(.ref s.heap.objs.size) { s with heap:=h',toks:=CW })
  (Nv:i=x.cps.size\/i=ys.size->∀h' CW,(∀b o,b∉[n,n+1,n+3,n+4]->s.heap.get? b=↥o->h'.get? b=↥o)->Q none { s with heap:=h',toks:=CW }) :
  An (B2 prog w) A (O8 (.ref (n+4))) Q E s:=by
 obtain⟨hz,TU,⟨a,b,Vy⟩,h1,h2⟩:=st;have Y0:=vG (prog:=prog) (w:=w) (A:=A.in1) hh n x t;have Y1:=vH (prog:=prog) (w:=w) (A:=A.in1) hh (n+1) l (Et (UV ln)) ys;have EC:∀{b:A6},b∉[n,n+1,n+3,n+4]->b≠n/\b≠n+1/\b≠n+3/\b≠n+4:=λh=>(h:)
 have f1:∀{b:Nat}{h h':BH}{i:Nat},Kr (n+(b+1)) h h'->h.IsStrIter n (KC x) x t i->h'.IsStrIter n (KC x) x t i:=λAO st=>Y0.frame _ _ _ st λc AI o e=>AO.extBut c o (by rw[List.mem_singleton.mp AI];exact Ro) e;have f2:∀{b:A6}{h h':BH}{i:Nat},Kr b h h'->n+1≠b->n<=b->h.IsTupleIter (n+1) l i/\h.IsTuple l ys->h'.IsTupleIter (n+1) l i/\h'.IsTuple l ys:=λAO EC nb st=>Y1.frame _ _ _ st λc AI o e=>AO.extBut c o (by
  rcases List.mem_cons.mp AI with rfl|AI
  .exact EC
  .rw[List.mem_singleton.mp AI];exact Et (GD ln nb)) e
 have Dt:s.TypeIs (.ref (n+4)) "zip":=⟨_,hz,rfl⟩;unfold O8
 have fin:∀h' e CW,(∀b o,b∉[n,n+1,n+3,n+4]->s.heap.get? b=↥o->h'.get? b=↥o)->(i=x.cps.size\/i=ys.size)->(∃o,h'.get? e=↥o/\o.cls=.type "StopIteration")->An (B2 prog w) A (do
   if<-isInstance (.ref e) (.type "StopIteration")then pure none else throw (.ref e)) Q E { s with heap:=h',toks:=CW }:=λh' e CW AP he⟨o,ho,AI⟩=>Ad (gr (T:="StopIteration") (b:=true) ⟨o,ho,AI⟩ isSubtype_stop (BZ (Nv he h' CW AP)))
 refine Ad (wpAny_attempt (S4 (name:=SC "__next__") Dt F.slot_zip_next (O1 F.slot_zip_next Dt F.entry_zip_next ?_ (F.args_zip_next_1 _))));show An _ _ (field (.ref (n+4)) 2>>=_) _ _ _;refine Ad (MP hz rfl (x:=.bool false) rfl ?_);show An _ _ (field (.ref (n+4)) 3>>=_) _ _ _;refine Ad (MP hz rfl (x:=.ref (n+2)) rfl ?_);refine Ad (PO TU rfl ?_);show An _ _ (rN (.ref (n+4))>>=_) _ _ _;refine Ad ?_;unfold rN;refine Ad (MP hz rfl (x:=.none) rfl (BZ ?_));erw[if_true];refine Ad (wpAny_rule ?_);refine Ad (MP hz rfl (x:=.ref (n+3)) rfl ?_);refine Ad (UH hz γ λNy Zy RK=>?_);replace Zy:IsZip Ny (n+4) (n+2) (n+3) .ellipsis:=Zy;refine Ad ?_;erw[List.zipIdx_cons,List.zipIdx_nil,List.forIn_cons,List.forIn_nil];refine Ad (Ad (wpAny_onRaise ?_));show An _ _ (S3 (.ref n)>>=_) _ _ _;have Na:=f1 RK h1;by_cases Cp:i<x.cps.size
 .refine Ad (Y0.item i _ _ _ Cp Na λv O_ ajN AM aes PI=>BZ ?_);obtain⟨c,u,AM,rfl⟩:=AM;have ig:NH O_ (n+3) a b:=PI.extBut _ _ Ro.symm (RK.extBut _ _ (na ε) Vy);refine Ad (PO ig rfl ?_);refine Ad (wpAny_updateSeq_pair ig λOa cv PJ=>?_);replace cv:NH Oa (n+3) (.str ⟨#[c]⟩ u) b:=cv;refine Ad (wpAny_letGo (BZ ?_));refine Ad (Ad (wpAny_onRaise ?_));show An _ _ (S3 (.ref (n+1))>>=_) _ _ _;have pb:=f2 PJ (na ε) (PP _ _) (f2 PI Ro.symm (C9 _) (f2 RK (na ε) (PP _ _) ⟨h2,BV⟩));have ka:IsZip Oa (n+4) (n+2) (n+3) .ellipsis:=PJ.extBut _ _ (na ε) (PI.extBut _ _ Ro.symm Zy);by_cases CV:i<ys.size
  .refine Ad (Y1.item i _ _ _ CV pb λy Tb ajO AS aet Pu=>BZ ?_);have ih:NH Tb (n+3) (.str ⟨#[c]⟩ u) b:=Pu.extBut _ _ (na ε) cv;refine Ad (PO ih rfl ?_);refine Ad (wpAny_updateSeq_pair ih λIk Ym Pv=>?_);replace Ym:NH Ik (n+3) (.str ⟨#[c]⟩ u) y:=Ym;refine Ad (wpAny_letGo (BZ (BZ ?_)));refine Ad (PO Ym rfl ?_);refine Ad (wpAny_newTuple ?_);have hsz:Ik.objs.size=s.heap.objs.size:=by rw[Pv.1,Pu.1,PJ.1,PI.1,RK.1]
   have kd:IsZip Ik (n+4) (n+2) (n+3) .ellipsis:=Pv.extBut _ _ (na ε) (Pu.extBut _ _ (na ε) ka);have kQ:∀b o,b∉[n,n+1,n+3,n+4]->s.heap.get? b=↥o->Ik.get? b=↥o:=λb o A4 e=>
    let⟨Bd,Co,F5,M4⟩:=EC A4
    Pv.extBut _ _ F5 (Pu.extBut _ _ Co (PJ.extBut _ _ F5 (PI.extBut _ _ Bd (RK.extBut _ _ M4 e))))
   have kZ:n+4<Ik.objs.size:=Dc kd;show An _ _ (rM (.ref (n+4)) (.ref Ik.objs.size)>>=_) _ _ _;refine Ad ?_;unfold rM;have xY:IsZip (Ik.push { cls:=.type "tuple",data:=.seq #[.str ⟨#[c]⟩ u,y] }) (n+4) (n+2) (n+3) .ellipsis:=Cr _ kd;refine Ad (UH xY γ λxa eG kW=>?_);replace eG:IsZip xa (n+4) (n+2) (n+3) (NG Ik.objs.size):=eG;refine UH eG γ λa0 Zz kX=>?_;replace Zz:IsZip a0 (n+4) (n+2) (n+3) (NG Ik.objs.size):=Zz;have up:∀c o,c≠n+4->Ik.get? c=↥o->a0.get? c=↥o:=λc o Bd e=>kX.extBut _ _ Bd (kW.extBut _ _ Bd (Cr _ e));have ij:NH a0 Ik.objs.size (.str ⟨#[c]⟩ u) y:=kX.extBut _ _ (Qi kZ) (kW.extBut _ _ (Qi kZ) (FP _ rfl));refine BZ ⟨_,rfl,?_⟩;rw[hsz]at Zz ij |-;refine BZ (FV c y u a0 _ AM AS ⟨Zz,up _ _ (na ε) (kQ _ _ γ TU),⟨_,_,up _ _ (na ε) Ym⟩,?_,?_⟩ ij λb o A4 e=>up b o (EC A4).2.2.2 (kQ b o A4 e))
   .exact Y0.frame _ _ _ (f1 Pv (f1 Pu (f1 PJ aes))) λc AI o e=>up c o (by rw[List.mem_singleton.mp AI];exact Ro) e
   .exact(Y1.frame _ _ _ (f2 Pv (na ε) (PP _ _) aet) λc AI o e=>up c o (by
      rcases List.mem_cons.mp AI with rfl|AI
      .exact na ε
      .rw[List.mem_singleton.mp AI];exact Et (GD ln (PP _ _))) e).1
  .obtain rfl:i=ys.size:=δ
   refine Ad (Y1.done _ _ _ pb λTb e Pu he=>?_);obtain⟨WC,RI,VI⟩:=he;have kb:IsZip Tb (n+4) (n+2) (n+3) .ellipsis:=Pu _ _ (na ε) ka;have cN:e≠n+4:=λx=>by subst x;rw[kb]at RI;cases RI;simp at VI
   exact UH kb γ λIk _ Pv=>fin Ik e _ (λb o A4 x=>
    let⟨Bd,Co,F5,M4⟩:=EC A4
    Pv.extBut _ _ M4 (Pu _ _ Co (PJ.extBut _ _ F5 (PI.extBut _ _ Bd (RK.extBut _ _ M4 x))))) (.inr rfl) ⟨WC,Pv.extBut _ _ cN RI,VI⟩
 .obtain rfl:i=x.cps.size:=δ
  refine Ad (Y0.done _ _ _ Na λO_ e PI he=>?_);obtain⟨WC,RI,VI⟩:=he;have k_:IsZip O_ (n+4) (n+2) (n+3) .ellipsis:=PI _ _ Ro.symm Zy;have cN:e≠n+4:=λx=>by subst x;rw[k_]at RI;cases RI;simp at VI
  exact UH k_ γ λOa _ PJ=>fin Oa e _ (λb o A4 x=>
   let⟨Bd,Co,F5,M4⟩:=EC A4
   PJ.extBut _ _ M4 (PI _ _ Bd (RK.extBut _ _ M4 x))) (.inl rfl) ⟨WC,PJ.extBut _ _ cN RI,VI⟩
end
def ag7{P:C5}{w:Bo}{K:As}{elts:↑Al}{FX:Nat}{pos:Pos}(x:Str)(t:Tok){l n:A6}(ln:l<n) :
  Turn P w K (.Tuple elts FX pos) (hU K x l) [n,n+1,n+2,n+3,n+4] (n+4) (λi h=>bX h n .none x t l i) where
 mem:=γ
 obj:=λi h st b A4=>by
  obtain⟨hz,TU,⟨a,Ic,Vy⟩,⟨Cu,AC,Bd,d1⟩,E0,AH,Co,F6⟩:=st;have A4:b=n\/b=n+1\/b=n+2\/b=n+3\/b=n+4:=(A4:)
  rcases A4 with q|q|q|q|q<;>subst q
  .exact⟨Cu,AC,λv z=>by rw[d1]at z;cases z⟩
  .exact⟨E0,AH,λv z=>by rw[F6]at z;cases z⟩
  .exact⟨_,TU,λv z=>by have FE:Data.seq _ _=SJ v:=z;cases FE⟩
  .exact⟨_,Vy,λv z=>by have FE:Data.seq _ _=SJ v:=z;cases FE⟩
  .exact⟨_,hz,λv z=>by have FE:Xi _=SJ v:=z;cases FE⟩
 keep:=λi h h' st k=>by obtain⟨hz,TU,⟨a,Ic,Vy⟩,⟨Cu,AC,Av⟩,E0,AH,BJ⟩:=st;exact⟨k _ γ _ hz,k _ γ _ TU,⟨a,Ic,k _ γ _ Vy⟩,⟨Cu,k _ γ _ AC,Av⟩,E0,k _ γ _ AH,BJ⟩
 item:=by
  nofun;obtain⟨AD,ys,y,AY,AS⟩:=Aj;obtain⟨its,C0,BV,xz⟩:=J.tuple AY;have hlen:=⇑C0;have kO:i< ⇑ys:=(List.getElem?_eq_some_iff.mp AS).1;refine m4 (J.ok.hd AI) ln BV st (PN AD) (by rw[DW];lia) (λc QT u h' CW cL Cv Gp NN AP=>?_) λh=>h.elim (λh=>absurd h (Et AD)) λh=>absurd h (by rw[DW];lia);obtain⟨JR,eD,Fj⟩:=C0.get AS;obtain rfl:JR=QT:=by rw[rm,eD]at Cv;exact GC Cv
  obtain⟨a1,a2,IK,OI,hL⟩:=Gp;refine⟨_,rfl,wpAny_letOwnedTupleGo_zip a1 λh2 xW T_=>?_⟩;have QQ:n+4<s.heap.objs.size:=Dc st.1;have aaV:∀b∈[n,n+1,n+2,n+3,n+4],b≠s.heap.objs.size:=λb A4=>by
   have A4:b=n\/b=n+1\/b=n+2\/b=n+3\/b=n+4:=(A4:)
   change(n:Nat)+4<s.heap.objs.size at QQ;have:(b:Nat)<=n+4:=by rcases A4 with q|q|q|q|q<;>subst q<;>simp
   exact Et (Qe this QQ)
  have VO:XN h2 s.heap.objs.size ([.str ⟨#[c]⟩ u,JR]:↑A7).toArray:=⟨_,T_.extBut _ _ (Qi QQ) NN,rfl,_,rfl⟩;have AZ:H s.heap.objs.size=none:=J.B0.fresh (C9 _);have BN:Inv X A3 σ (upd H s.heap.objs.size (.tup [.str ⟨#[c]⟩,y])) { s with heap:=h2,toks:=CW }:=J.g9 (its:=[.str ⟨#[c]⟩ u,JR]) (ch:=[n,n+1,n+3,n+4]) (λb o A4 q=>T_.extBut b o (λz=>A4 (by simp[z])) (AP b o A4 q)) (λb A4=>hf b (p8 A4)) (C9 _) VO (.cons ⟨u,rfl⟩ (.cons Fj .nil)) (by show 2<=CL;decide);refine⟨.ref s.heap.objs.size,_,BN,rfl,⟨s.heap.objs.size,c,y,cL,AZ,rfl,rfl,λzs xX=>by rw[J.g8 xX AY];exact AS⟩,⟨xW,T_.extBut _ _ (na ε) a2,?_,?_,?_⟩,λb A4=>?_⟩
  .obtain⟨a,b,IK⟩:=IK;exact⟨a,b,T_.extBut _ _ (na ε) IK⟩
  .obtain⟨Cu,AC,Av⟩:=OI;exact⟨Cu,T_.extBut _ _ Ro AC,Av⟩
  .obtain⟨E0,AH,BJ⟩:=hL;exact⟨E0,T_.extBut _ _ (na ε) AH,BJ⟩
  .rw[DF (aaV b A4)];exact(hf b A4).1
 done:=by
  nofun;obtain⟨ys,AY,AD⟩:=Aj;obtain⟨its,C0,BV,xz⟩:=J.tuple AY;have hlen:=⇑C0;have z:its.toArray.size=⇑ys:=by rw[DW,hlen]
  refine m4 (J.ok.hd AI) ln BV st δ δ (λc QT u h' CW cL Cv _ _ _=>?_) λ_ h' CW FX=>⟨rfl,J.W2 (ch:=[n,n+1,n+3,n+4]) FX λb A4=>hf b (p8 A4)⟩;have:=(Array.getElem?_eq_some_iff.mp cL).1;have:=(Array.getElem?_eq_some_iff.mp Cv).1;lia
 self:=λA i s Q E st h=>wpAny_pyIter_zip st.1 h
section
variable{X:Ar}{elts:↑Al}{FX:Nat}{Ng:Pos}
noncomputable def z0(K:As)(Bu:Fd):TI:=λσ H R=>Bu σ H λvs H1=>∃x l,vs=[.str x,.ref l]/\(∃ys,EW K H1 l ys)/\R (hU K x l) H1
def acr{a b:Al}{Bu:Fd}{p pos:Pos}(Aj:ET X "zip")(hm:X.mg "zip"=none)(AF:Gz X [a,b] Bu)(AO:CK [a,b] X.env=[(false,Bc a X.env),(false,Bc b X.env)]:=by rfl)(Hm:CK [b] X.env=[(false,Bc b X.env)]:=by rfl) :
  HY X (.Tuple elts FX Ng) (.Call (.Name "zip" p) [a,b] [] pos) (z0 X.K Bu):=by
 have A4:O3 "zip"=↥(.type "zip"):=by kernel_rfl
 intro A3 s σ H R J h;refine s9 (Oh J Aj hm A4 (QZ (BS (AF pos A3 s σ H _ J h) λus s1⟨vs,H1,Ac,Av,q1⟩=>?_) (by rw[AO,Hm]) (by rw[Hm];rfl)));obtain⟨x,l,e,⟨ys,AY⟩,q⟩:=q1;subst e;obtain⟨u,QT,rfl,⟨t,rfl⟩,Fj⟩:=vals2 Av;cases Fj;obtain⟨its,C0,BV,hz⟩:=Ac.tuple AY;have E9:l<s1.heap.objs.size:=let⟨_,e,_⟩:=BV;Dc e
 refine th (show s1.heap.IsTuple l its.toArray from BV) λh' a1 a2 IK OI NN hL AP=>?_;have BN:Inv X A3 σ H1 { s1 with heap:=h' }:=Ac.kept (t':=s1.toks) AP;refine wpAny_pyIter_zip a1 ?_;refine⟨s1.heap.objs.size+4,[s1.heap.objs.size,s1.heap.objs.size+1,s1.heap.objs.size+2,s1.heap.objs.size+3,s1.heap.objs.size+4],_,_,H1,rfl,BN,ag7 x t E9,⟨a1,a2,⟨_,_,IK⟩,OI,NN⟩,λb A4=>?_,q⟩;have A4:s1.heap.objs.size<=b:=by erw[Ip,PQ,or_false]at A4;rcases A4 with q|q|q|q|q<;>rw[q]<;>first|exact C9 _|exact PP _ _
 exact Ac.M_ A4 (Ac.B0.fresh A4)
end
end B5
namespace Xp
open PySem PySem.SetTable
theorem d6(xs:Array Nat)(j:Nat)(AO:xs.toList.Pairwise (· <·)):∀fuel lo AD,AD<=lo+fuel->lo<=AD->AD<=xs.size->(∀k,k<lo->xs.getD k j<j)->(∀k,AD<=k->k<xs.size->j<=xs.getD k j)->
  below.go xs j fuel lo AD<=xs.size/\(∀k,k<below.go xs j fuel lo AD->xs.getD k j<j)/\(∀k,below.go xs j fuel lo AD<=k->k<xs.size->j<=xs.getD k j)
 |0,lo,AD,h1,h2,BO,Cc,F7=>by
  have e:lo=AD:=δ
  subst e;exact⟨BO,Cc,F7⟩
 |fuel+1,lo,AD,h1,h2,BO,Cc,F7=>by
  have mono:∀a b,a<=b->b<xs.size->xs.getD a j<=xs.getD b j:=by
   intro a b VF A4;rcases Nat.eq_or_lt_of_le VF with rfl|VF
   .exact C9 _
   have:=List.pairwise_iff_getElem.mp AO a b (by simp;lia) (A4:) VF;erw[Array.getElem_toList]at this;rw[S2,S2,Le δ,Le A4];exact PN this
  unfold below.go;by_cases h:lo<AD
  .rw[if_pos h];dsimp only;by_cases q:xs.getD ((lo+AD)/2) j<j
   .rw[if_pos q];refine d6 xs j AO fuel _ AD δ δ BO (λk AP=>?_) F7;exact Qe (mono k ((lo+AD)/2) δ δ) q
   .rw[if_neg q];refine d6 xs j AO fuel lo _ δ δ δ Cc λk AP LR=>?_;exact Im (Nat.not_lt.mp q) (mono _ k AP LR)
  .rw[if_neg h];have e:lo=AD:=δ
   subst e;exact⟨BO,Cc,F7⟩
def iY{xs:Array Nat}(AO:xs.toList.Pairwise (· <·))(j:Nat):below xs j<=xs.size/\(∀y∈xs.toList.take (below xs j),y<j)/\(∀y∈xs.toList.drop (below xs j),j<=y):=by
 obtain⟨a,b,c⟩:=d6 xs j AO xs.size 0 xs.size δ δ (C9 _) (λk AP=>absurd AP (Nat.not_lt_zero _)) (λk h1 h2=>absurd h2 δ);refine⟨a,λy AS=>?_,λy AS=>?_⟩
 .obtain⟨k,AP,rfl⟩:=UL AS;have RH:k<below xs j/\k<xs.size:=by simpa[Ku,Nat.lt_min]using AP
  have:=b k RH.1;rw[S2,Le RH.2]at this;simpa using this
 .obtain⟨k,AP,rfl⟩:=UL AS;have RH:below xs j+k<xs.size:=by simp at AP;lia
  have:=c (below xs j+k) (PP _ _) RH;rw[S2,Le RH]at this;simpa using this
def eP{α:Type}(xs:Array α)(p:Nat)(x:α):(insertAt xs p x).toList=xs.toList.take p++x::xs.toList.drop p:=by unfold insertAt;simp[Array.toList_extract,List.extract_eq_take_drop];exact UO γ
structure Tab(t:Iq)(n:Nat):Prop where
 SN:t.dummies= #[]
 Mu:t.place.size=n
 U7:t.place.toList.Pairwise (· <·)
 le:∀j∈t.place.toList,j<=t.mask
def slot_of{t:Iq}{n:Nat}(T:Tab t n)(j:Nat):(∃i,t.slot j=.live i/\t.place.toList[i]?=↥j)\/(t.slot j=.empty/\j∉t.place.toList):=by
 obtain⟨a,b,c⟩:=iY T.U7 j;unfold slot;dsimp only;by_cases h:t.place[below t.place j]?=↥j
 .left
  refine⟨below t.place j,?_,(h:)⟩;rw[h];simp
 .right
  constructor
  .have:(t.place[below t.place j]?==↥j)=false:=by simpa using h
   rw[this,T.SN];simp[has]
  .intro m;have EA:=m;rw[<-PM (below t.place j) t.place.toList]at EA;rcases List.mem_append.mp EA with EA|EA
   .exact absurd (b j EA) (Jg _)
   .cases hd:t.place.toList.drop (below t.place j)with
    |nil=>rw[hd]at EA;cases EA
    |cons y r=>
     have AS:t.place[below t.place j]?=↥y:=by
      have:(t.place.toList.drop (below t.place j))[0]?=↥y:=by rw[hd];rfl
      rw[List.getElem?_drop]at this;simpa using this
     have BF:=T.U7;rw[<-PM (below t.place j) t.place.toList,hd]at BF;have BF:=(List.pairwise_append.mp BF).2.1;rw[hd]at EA;rcases List.mem_cons.mp EA with rfl|EA
     .exact h AS
     .have h1:=(List.pairwise_cons.mp BF).1 j EA;have h2:=c y (by rw[hd];simp);lia
def aea{t:Iq}{n:Nat}(T:Tab t n){j:Nat}(m:j∈t.place.toList):∃i,t.slot j=.live i/\t.place.toList[i]?=↥j:=by
 rcases slot_of T j with h|h
 .exact h
 .exact absurd m h.2
def ae_{t:Iq}{n:Nat}(T:Tab t n){j:Nat}(m:j∉t.place.toList):t.slot j=.empty:=by
 rcases slot_of T j with⟨i,h,e⟩|h
 .exact absurd (KD e) m
 .exact h.1
def adZ{t:Iq}{n:Nat}(T:Tab t n){j:Nat}(m:j∉t.place.toList)(Am:j<=t.mask):∃p,(t.put j).2=p/\p<=n/\Tab (t.put j).1 (n+1)/\(t.put j).1.place.toList=t.place.toList.take p++j::t.place.toList.drop p/\(t.put j).1={ t with place:=(t.put j).1.place }:=by
 obtain⟨a,b,c⟩:=iY T.U7 j;have e:(t.put j).1.place.toList=t.place.toList.take (below t.place j)++j::t.place.toList.drop (below t.place j):=by unfold put;exact eP _ _ _
 have CH:(t.put j).1.dummies= #[]:=by unfold put;simp[has,T.SN]
 have em:(t.put j).1.mask=t.mask:=rfl;refine⟨below t.place j,rfl,T.Mu▸a,⟨CH,?_,?_,?_⟩,e,?_⟩
 .have:(t.put j).1.place.toList.length=n+1:=by
    rw[e,Em,DX,Ku,XT];have:=T.Mu;erw[QX];lia
  simpa using this
 .rw[e];have BF:=T.U7;rw[<-PM (below t.place j) t.place.toList]at BF;obtain⟨Av,BJ,Fi⟩:=List.pairwise_append.mp BF;refine List.pairwise_append.mpr ⟨Av,List.pairwise_cons.mpr ⟨λy AS=>?_,BJ⟩,λx AM y AS=>?_⟩
  .rcases Nat.eq_or_lt_of_le (c y AS)with q|q
   .exact absurd (q▸XW AS) m
   .exact q
  .rcases List.mem_cons.mp AS with rfl|AS
   .exact b x AM
   .exact Fi x AM y AS
 .intro y AS;rw[em];rw[e]at AS;rcases List.mem_append.mp AS with AS|AS
  .exact T.le y (gb AS)
  .rcases List.mem_cons.mp AS with rfl|AS
   .exact Am
   .exact T.le y (XW AS)
 .have Y_:(t.put j).1.dummies=t.dummies:=CH.trans T.SN.symm;show(t.put j).1=_;have:(t.put j).1={ t with place:=(t.put j).1.place,dummies:=(t.put j).1.dummies }:=rfl;rw[this,Y_]
noncomputable def M3(mask:Nat)(p:Probe):Probe:=
 if p.more>0 then{ p with j:=p.j+1,more:=p.more-1 }else
 { p with j:=(leap mask p.i p.perturb).1,more:=runEnd mask (leap mask p.i p.perturb).1-(leap mask p.i p.perturb).1,i:=(leap mask p.i p.perturb).1,perturb:=(leap mask p.i p.perturb).2 }
def hO(t:Iq)(p:Probe):t.advance p=M3 t.mask p:=rfl
noncomputable def my(mask:Nat)(i q:Nat):Probe:={ j:=i,more:=runEnd mask i-i,i,perturb:=q,dummy:=none }
noncomputable def Ed(mask:Nat)(h:Int):Nat->Probe
 |0=>my mask (bits h%(mask+1)) (bits h)
 |n+1=>M3 mask (Ed mask h n)
noncomputable def B3(mask:Nat)(h:Int):Nat->Nat×Nat
 |0=>(bits h%(mask+1),bits h)
 |n+1=>leap mask (B3 mask h n).1 (B3 mask h n).2
def JO(mask i:Nat):Nat:=runEnd mask i-i
noncomputable def Fa(mask:Nat)(h:Int):Nat->Nat
 |0=>0
 |n+1=>Fa mask h n+JO mask (B3 mask h n).1+1
def adT(mask i:Nat):JO mask i<=9:=by unfold JO runEnd;split<;>lia
def eT(mask i:Nat):i<=runEnd mask i:=by unfold runEnd;split<;>lia
theorem pU(mask:Nat)(h:Int):∀n,Fa mask h n<=10*n
 |0=>C9 _
 |n+1=>by have:=pU mask h n;have:=adT mask (B3 mask h n).1;unfold Fa;lia
def sk{mask i q r:Nat}(BF:r<JO mask i):M3 mask { j:=i+r,more:=JO mask i-r,i:=i,perturb:=q,dummy:=none }={ j:=i+(r+1),more:=JO mask i-(r+1),i:=i,perturb:=q,dummy:=none }:=by unfold M3;rw[if_pos (by show JO mask i-r>0;lia)];erw[Probe.mk.injEq];refine⟨δ,δ,trivial,trivial,trivial⟩
def sl{mask i q:Nat}:M3 mask { j:=i+JO mask i,more:=JO mask i-JO mask i,i:=i,perturb:=q,dummy:=none }=my mask (leap mask i q).1 (leap mask i q).2:=by unfold M3;rw[if_neg (by show¬(JO mask i-JO mask i>0);lia)];rfl
theorem ep(mask:Nat)(h:Int):∀L r,r<=JO mask (B3 mask h L).1->Ed mask h (Fa mask h L+r)={ j:=(B3 mask h L).1+r,more:=JO mask (B3 mask h L).1-r,i:=(B3 mask h L).1,perturb:=(B3 mask h L).2,dummy:=none }
 |0,0,_=>rfl
 |L,r+1,BF=>by have:=ep mask h L r δ;show M3 mask (Ed mask h (Fa mask h L+r))=_;rw[this];exact sk δ
 |L+1,0,_=>by have:=ep mask h L (JO mask (B3 mask h L).1) (C9 _);show M3 mask (Ed mask h (Fa mask h L+JO mask (B3 mask h L).1))=_;rw[this,sl];rfl
def u4(h:Int):bits h<2^64:=by unfold bits;have:=Int.emod_lt_of_pos h (b:=2^64) ε;have:=Int.emod_nonneg h (b:=2^64) ε;lia
theorem lS(mask:Nat)(h:Int):∀n,(B3 mask h n).2=bits h/32^n
 |0=>by simp[B3]
 |n+1=>by show(B3 mask h n).2/32=_;rw[lS mask h n,Nat.div_div_eq_div_mul,Nat.pow_succ]
def abH(mask:Nat)(h:Int)(n:Nat)(AZ:13<=n):(B3 mask h n).2=0:=by
 rw[lS];apply Nat.div_eq_of_lt;have h1:=u4 h;have h2:32^13<=32^n:=Nat.pow_le_pow_right ε AZ;have BO:(2:Nat)^64<32^13:=ε
 lia
noncomputable def LU(mask:Nat):Nat->Nat->Nat
 |0,i=>i
 |n+1,i=>(LU mask n i*5+1)%(mask+1)
theorem lR(mask:Nat)(h:Int):∀m,(B3 mask h (13+m)).1=LU mask m (B3 mask h 13).1
 |0=>rfl
 |m+1=>by have e:(B3 mask h (13+(m+1))).2=0:=abH mask h _ δ;have AH:(B3 mask h (13+m)).2/32=0:=e;show((B3 mask h (13+m)).1*5+1+(B3 mask h (13+m)).2/32)%(mask+1)=_;rw[AH,lR mask h m];rfl
theorem ZV(mask:Nat)(a:Nat):∀b i,LU mask (a+b) i=LU mask b (LU mask a i)
 |0,_=>rfl
 |b+1,i=>by show(LU mask (a+b) i*5+1)%(mask+1)=_;rw[ZV mask a b i];rfl
noncomputable def av(mask:Nat):Nat->Nat->↑Nat
 |0,_=>[]
 |n+1,i=>i::av mask n ((i*5+1)%(mask+1))
theorem lK(mask i:Nat):∀n,LU mask n ((i*5+1)%(mask+1))=LU mask (n+1) i
 |0=>rfl
 |n+1=>by show(LU mask n _*5+1)%_=_;rw[lK mask i n];rfl
theorem dZ(mask:Nat):∀n i j,j∈av mask n i->∃m,m<n/\LU mask m i=j
 |0,_,_,h=>by cases h
 |n+1,i,j,h=>by
  rcases List.mem_cons.mp h with rfl|h
  .exact⟨0,δ,rfl⟩
  .obtain⟨m,h1,h2⟩:=dZ mask n _ j h;exact⟨m+1,δ,by rw[<-lK];exact h2⟩
structure IG(mask:Nat):Prop where
 all:∀j,j<=mask->j∈av mask (mask+1) 0
 back:LU mask (mask+1) 0=0
def IG.reach{mask:Nat}(C:IG mask){i j:Nat}(AD:i<=mask)(Am:j<=mask):∃m,m<=mask/\LU mask m i=j:=by
 obtain⟨a,a1,a2⟩:=dZ _ _ _ _ (C.all i AD);obtain⟨b,DY,Fe⟩:=dZ _ _ _ _ (C.all j Am);by_cases h:a<=b
 .refine⟨b-a,δ,?_⟩;rw[<-a2,<-ZV,show a+(b-a)=b by lia,Fe]
 .refine⟨mask+1-a+b,δ,?_⟩;rw[<-a2,<-ZV,show a+(mask+1-a+b)=(mask+1)+b by lia,ZV,C.back,Fe]
def dG{mask:Nat}(h:(Ch (mask+1)).all (λj=>(av mask (mask+1) 0).contains j)=true)(b:LU mask (mask+1) 0=0):IG mask:=
 ⟨λj Am=>by have:=List.all_eq_true.mp h j (List.mem_range.mpr δ);exact List.contains_iff_mem.mp this,b⟩
def hj:IG 7:=dG (by decide+kernel) (by decide+kernel)
def hi:IG 31:=dG (by decide+kernel) (by decide+kernel)
def hg:IG 127:=dG (by decide+kernel) (by decide+kernel)
def dR(mask:Nat)(h:Int):∀n,(B3 mask h n).1<=mask
 |0=>gY (Uf _ δ)
 |n+1=>gY (Uf _ δ)
def IG.leap{mask:Nat}(C:IG mask)(h:Int){j:Nat}(Am:j<=mask):∃L,L<mask+15/\(B3 mask h L).1=j:=by obtain⟨m,h1,h2⟩:=C.reach (dR mask h 13) Am;exact⟨13+m,δ,by rw[lR];exact h2⟩
def IG.cover{mask:Nat}(C:IG mask)(h:Int){j:Nat}(Am:j<=mask):∃n,n<10*turns mask/\(Ed mask h n).j=j:=by
 obtain⟨L,h1,h2⟩:=C.leap h Am;refine⟨Fa mask h L,?_,?_⟩
 .have:=pU mask h L;unfold turns;lia
 .have:=ep mask h L 0 (Hy _);erw[Nat.add_zero]at this;rw[this];exact h2
def xN{P:↑Nat}{mask:Nat}(AO:P.Pairwise (· <·))(AZ:⇑P<=mask):∃j,j<=mask/\j∉P:=by
 apply UN;intro no;have all:∀j,j<=mask->j∈P:=λj Am=>UN λz=>no ⟨j,Am,z⟩;have C7:(Ch (mask+1)).Nodup:=List.nodup_range;have sub:∀x∈Ch (mask+1),x∈P:=λx AM=>all x (by have:=List.mem_range.mp AM;lia);have key:∀(l:↑Nat),l.Nodup->∀(P:↑Nat),(∀x∈l,x∈P)->⇑l<=⇑P:=by
  intro l;induction l with
  |nil=>intro _ P _;simp
  |cons a r CC=>intro C7 P sub;obtain⟨EC,FZ⟩:=List.nodup_cons.mp C7;have AF:=sub a γ;have:=CC FZ (P.erase a) (λx AM=>(rv (by intro e;subst e;exact EC AM)).mpr (sub x (by simp[AM])));rw[rY AF]at this;have:0< ⇑P:=gN AF;simp;lia
 have:=key _ C7 P sub;simp at this;lia
def least(p:Nat->Prop):(∃n,p n)->∃n,p n/\∀m,m<n->¬p m:=by
 rintro⟨n,h⟩;induction n using Nat.strongRecOn with
 |_ n CC=>
  by_cases q:∃m,m<n/\p m
  .obtain⟨m,H5,H6⟩:=q;exact CC m H5 H6
  .exact⟨n,h,λm hm AV=>q ⟨m,hm,AV⟩⟩
def IG.first{mask:Nat}(C:IG mask){P:↑Nat}(AO:P.Pairwise (· <·))(AZ:⇑P<=mask)(h:Int):∃N,N<10*turns mask/\(Ed mask h N).j∉P/\∀m,m<N->(Ed mask h m).j∈P:=by obtain⟨j,K4,Kp⟩:=xN AO AZ;obtain⟨n,EC,FZ⟩:=C.cover h K4;obtain⟨N,YC,YD⟩:=least (λn=>(Ed mask h n).j∉P) ⟨n,by rw[FZ];exact Kp⟩;refine⟨N,?_,YC,λm hm=>UN (YD m hm)⟩;have:¬n<N:=λz=>YD n z (by rw[FZ];exact Kp);lia
theorem lQ(mask:Nat)(h:Int):∀n,(Ed mask h n).dummy=none
 |0=>rfl
 |n+1=>by
  show(M3 mask (Ed mask h n)).dummy=none;unfold M3
  split<;>exact lQ mask h n
def eU{mask i:Nat}(AD:i<=mask):runEnd mask i<=mask:=by unfold runEnd;split<;>lia
structure hY(mask:Nat)(p:Probe):Prop where
 i:p.i<=mask
 j:p.j+p.more<=mask
theorem m3(mask:Nat)(h:Int):∀n,hY mask (Ed mask h n)
 |0=>by have:=dR mask h 0;have h2:=eU this;have BO:=eT mask (B3 mask h 0).1;exact⟨this,by show(B3 mask h 0).1+(runEnd mask (B3 mask h 0).1-(B3 mask h 0).1)<=mask;lia⟩
 |n+1=>by
  obtain⟨a,b⟩:=m3 mask h n;show hY mask (M3 mask (Ed mask h n));unfold M3
  split
  .rename_i q;refine⟨a,?_⟩;show(Ed mask h n).j+1+((Ed mask h n).more-1)<=mask;lia
  .have h1:(h4 mask (Ed mask h n).i (Ed mask h n).perturb).1<=mask:=gY (Uf _ δ);have h2:=eU h1;have BO:=eT mask (h4 mask (Ed mask h n).i (Ed mask h n).perturb).1;refine⟨h1,?_⟩;show(h4 mask (Ed mask h n).i (Ed mask h n).perturb).1+(runEnd mask _-_)<=mask;lia
def aeO(mask:Nat)(h:Int)(n:Nat):(Ed mask h n).j<=mask:=by have:=(m3 mask h n).j;lia
section
variable{α:Type}
structure Kc(t:Iq)(es:Array (Int×α)):Prop where
 tab:Tab t es.size
 uy:IG t.mask
 room:es.size<=t.mask
def Kc.len{t:Iq}{es:Array (Int×α)}(J:Kc t es):⇑t.place.toList=es.size:=(J.tab.Mu:)
theorem Kc.first{t:Iq}{es:Array (Int×α)}(J:Kc t es)(h:Int):∃N,N<10*turns t.mask/\(Ed t.mask h N).j∉t.place.toList/\∀m,m<N->(Ed t.mask h m).j∈t.place.toList:=
 J.uy.first J.tab.U7 (by rw[J.len];exact J.room) h
theorem Kc.fits{t:Iq}{es:Array (Int×α)}(J:Kc t es):t.fits es.size=true:=by unfold SetTable.fits SetTable.fill;rw[J.tab.SN,J.tab.Mu];have:=J.room;simp;lia
theorem mu{t:Iq}{es:Array (Int×α)}(J:Kc t es)(f:Nat->Int)(h:Int){N:Nat}(h1:(Ed t.mask h N).j∉t.place.toList)(h2:∀m,m<N->(Ed t.mask h m).j∈t.place.toList) :
  ∀fuel n,n<=N->N-n<fuel->
  probe.go t f h fuel (Ed t.mask h n)=↥(.empty (Ed t.mask h N).j none)\/
  ∃m i e,n<=m/\m<N/\t.slot (Ed t.mask h m).j=.live i/\es[i]?=↥e/\probe.go t f h fuel (Ed t.mask h n)=↥(.candidate (Ed t.mask h m).j i (Ed t.mask h (m+1)))
 |0,n,_,aj3=>δ
 |fuel+1,n,AZ,jC=>by
  unfold probe.go;by_cases q:n=N
  .subst q;rw[ae_ J.tab h1];exact .inl (by dsimp only;rw[lQ])
  .obtain⟨i,s1,s2⟩:=aea J.tab (h2 n δ);have AD:i<es.size:=by rw[<-J.len];exact(List.getElem?_eq_some_iff.mp s2).1
   by_cases w:f i=h
   .exact .inr ⟨n,i,_,C9 _,δ,s1,Le AD,by rw[s1];dsimp only;rw[if_pos (w:),hO];rfl⟩
   .rw[s1];dsimp only;rw[if_neg (w:),hO];exact(mu J f h h1 h2 fuel (n+1) δ δ).imp_right λ⟨m,VP,e,a1,a⟩=>⟨m,VP,e,δ,a⟩
def yn{es:Array α}{p:Nat}{e:α}(AV:p<=es.size):(insertAt es p e).size=es.size+1:=by
 have:(insertAt es p e).toList.length=es.size+1:=by rw[eP,Em,DX,Ku,XT,QX];lia
 simpa using this
def la{es:Array α}{p:Nat}{x e:α}:e∈(insertAt es p x).toList↔e=x\/e∈es.toList:=by
 rw[eP]
 conv=>rhs;rw[<-PM p es.toList]
 erw[Hi,Ip];exact⟨λh=>h.elim (λh=>.inr (.inl h)) λh=>h.imp_right .inr,λh=>h.elim (λh=>.inr (.inl h)) λh=>h.imp_right .inr⟩
end
structure Own(M:Nat)(owner:Array (Option Nat))(a:↑Nat):Prop where
 Mu:owner.size=M+1
 C7:a.Nodup
 le:∀j∈a,j<=M
 of:∀j k:Nat,owner[j]?=↥↥k↔a[k]?=↥j
def Own.free{M:Nat}{owner:Array (Option Nat)}{a:↑Nat}(O:Own M owner a){j:Nat}(Am:j<=M):(owner.getD j ↥0).isNone=true↔j∉a:=by
 have AO:j<owner.size:=by have:=O.Mu;lia
 rw[S2,Le AO,UX];constructor
 .intro h m;obtain⟨k,AP,rfl⟩:=UL m;have:=(O.of _ k).mpr (CP AP);rw[Le AO]at this;rw[GC this]at h;cases h
 .intro h;cases e:owner[j]with
  |none=>rfl
  |some k=>exact absurd (KD ((O.of j k).mp (by rw[Le AO,e]))) h
theorem j0{M:Nat}{owner:Array (Option Nat)}{a:↑Nat}(O:Own M owner a)(h:Int):∀fuel L,(∃LC,L<=LC/\LC<L+fuel/\(B3 M h LC).1∉a)->
  ∃j,layClean.free M owner fuel (B3 M h L).1 (B3 M h L).2=↥j/\j<=M/\j∉a
 |0,L,⟨LC,h1,h2,_⟩=>δ
 |fuel+1,L,⟨LC,h1,h2,BO⟩=>by
  unfold layClean.free;have hle:=dR M h L;have ajA:=eU hle;have aj4:=eT M (B3 M h L).1;cases hf:(Ch (runEnd M (B3 M h L).1+1-(B3 M h L).1)).find? λk=>(owner.getD ((B3 M h L).1+k) ↥0).isNone with
  |some k=>have AP:=List.mem_range.mp (rW hf);exact⟨_,rfl,δ,(O.free δ).mp (by have:=List.find?_some hf;exact this)⟩
  |none=>
   have ne:L≠LC:=by rintro rfl;exact List.find?_eq_none.mp hf 0 (List.mem_range.mpr δ) ((O.free δ).mpr BO)
   exact j0 O h fuel (L+1) ⟨LC,δ,δ,BO⟩
def fK{l P:↑Nat}(C7:l.Nodup)(sub:∀x∈l,x∈P):⇑l<=⇑P:=by
 induction l generalizing P with
 |nil=>simp
 |cons a r CC=>obtain⟨EC,FZ⟩:=List.nodup_cons.mp C7;have AF:=sub a γ;have:=CC FZ (P:=P.erase a) (λx AM=>(rv (by intro e;subst e;exact EC AM)).mpr (sub x (by simp[AM])));rw[rY AF]at this;have:0< ⇑P:=gN AF;simp;lia
def xO{M:Nat}(C:IG M){owner:Array (Option Nat)}{a:↑Nat}(O:Own M owner a)(AG:⇑a<=M)(h:Int):∃j,layClean.free M owner (turns M) (bits h%(M+1)) (bits h)=↥j/\j<=M/\j∉a:=by
 obtain⟨j,K4,Kp⟩:∃j,j<=M/\j∉a:=by apply UN;intro no;have:=fK (List.nodup_range (n:=M+1)) (P:=a) λx AM=>UN λz=>no ⟨x,by have:=List.mem_range.mp AM;lia,z⟩;simp at this;lia
 obtain⟨LC,Cp,CV⟩:=C.leap h K4;exact j0 O h (turns M) 0 ⟨LC,Hy _,by unfold turns;lia,by rw[CV];exact Kp⟩
noncomputable def bH(M:Nat)(acc:Option (Array (Option Nat)×Nat))(h:Int):Option (Array (Option Nat)×Nat):=do
 let(owner,k) <-acc
 let j <-layClean.free M owner (turns M) (bits h%(M+1)) (bits h)
 pure (owner.setIfInBounds j ↥k,k+1)
def ab0(M:Nat)(AO:Array Int):layClean M AO=(AO.toList.foldl (bH M) ↥(Array.replicate (M+1) none,0)).map (·.1):=by unfold layClean;rw[<-Array.foldl_toList];rfl
def Own.add{M:Nat}{owner:Array (Option Nat)}{a:↑Nat}(O:Own M owner a){j:Nat}(Am:j<=M)(AZ:j∉a):Own M (owner.setIfInBounds j (some ⇑a)) (a++[j]):=by
 have AO:j<owner.size:=by have:=O.Mu;lia
 refine⟨by simp[O.Mu],?_,?_,λi k=>?_⟩
 .refine List.nodup_append.mpr ⟨O.C7,γ,λx AM y AS=>?_⟩;simp at AS;subst AS;intro e;subst e;exact AZ AM
 .intro i AD;rcases List.mem_append.mp AD with AD|AD
  .exact O.le i AD
  .simp at AD;lia
 .rw[Array.getElem?_setIfInBounds,List.getElem?_append];by_cases q:j=i
  .subst q;rw[if_pos rfl,if_pos AO];constructor
   .intro e;have e:=GC (GC e);subst e;rw[if_neg (Jg _)];simp
   .intro e
    split at e
    .exact absurd (KD e) AZ
    .have:k- ⇑a<1:=(List.getElem?_eq_some_iff.mp e).1;rw[show k=⇑a by lia]
  .rw[if_neg q,O.of i k]
   split
   .rfl
   .rw[J9 δ];refine⟨(λe=>nomatch e),λe=>?_⟩;obtain⟨l,e⟩:=List.getElem?_eq_some_iff.mp e;simp at l e;exact absurd e q
theorem ix{M:Nat}(C:IG M):∀(AO:↑Int)(owner:Array (Option Nat))(a:↑Nat),Own M owner a->⇑a+⇑AO<=M->
  ∃aw GT,AO.foldl (bH M) ↥(owner,⇑a)=↥(aw,⇑GT)/\Own M aw GT/\ ⇑GT=⇑a+⇑AO
 |[],owner,a,O,_=>⟨owner,a,rfl,O,rfl⟩
 |h::AO,owner,a,O,AG=>by
  erw[DX]at AG;obtain⟨j,f1,f2,Ey⟩:=xO C O δ h;obtain⟨aw,GT,Av,BJ,Fi⟩:=ix C AO _ _ (O.add f2 Ey) (by simp;lia);refine⟨aw,GT,?_,BJ,by simp at Fi |-;lia⟩;have DT:bH M ↥(owner,⇑a) h=↥(owner.setIfInBounds j (some ⇑a),⇑(a++[j])):=by unfold bH;erw[Option.bind_eq_bind,gs,f1];simp
  rw[List.foldl_cons,DT];exact Av
section
variable{α:Type}
theorem ir{es:↑α}:∀{l:↑Nat},(∀k∈l,k< ⇑es)->⇑(l.filterMap (es[·]?))=⇑l
 |[],_=>rfl
 |k::l,AP=>by rw[S9,CP (AP k γ)];simp[ir (es:=es) (l:=l) λx AM=>AP x (by simp[AM])]
def aax{M:Nat}(C:IG M){es:Array (Int×α)}(AG:es.size<=M)(finger moves:Nat)(led plain:Bool) :
  ∃t' order,laid M finger moves led plain (es.map (·.1))=↥(t',order)/\t'.mask=M/\
   (order.filterMap (es[·]?)).size=es.size/\Kc t' (order.filterMap (es[·]?))/\∀e,e∈(order.filterMap (es[·]?)).toList↔e∈es.toList:=by
 obtain⟨owner,a,Bd,O,dy⟩:=ix C (es.map (·.1)).toList (Array.replicate (M+1) none) [] ⟨γ,γ,γ,λj k=>by
  rw[Array.getElem?_replicate]
  split<;>simp⟩ (AG:)
 have dy:⇑a=es.size:=(dy:)
 have Bd:layClean M (es.map (·.1))=↥owner:=by rw[ab0];rw[show(UZ ([]:↑Nat))=0 from rfl]at Bd;rw[Bd];rfl
 obtain⟨live,dO⟩:∃live,live=(Ch (M+1)).filterMap λj=>(owner.getD j none).map (j,·):=π;have mem:∀j k,(j,k)∈live↔a[k]?=↥j:=by
  intro j k;rw[dO,List.mem_filterMap,<-O.of j k];erw[S2,List.mem_range,Option.map_eq_some_iff,Prod.mk.injEq];constructor
  .rintro⟨i,AD,y,e,rfl,rfl⟩;cases q:owner[i]? with
   |none=>rw[q]at e;cases e
   |some x=>rw[q]at e;exact congrArg some e
  .intro e;have:=(Array.getElem?_eq_some_iff.mp e).1;exact⟨j,by have:=O.Mu;lia,k,by rw[e];rfl,rfl,rfl⟩
 have rise:(live.map (·.1)).Pairwise (· <·):=by rw[dO,S6];refine List.Pairwise.filterMap _ (R:=(· <·)) ?_ (List.pairwise_lt_range:);intro i VP y9 b A4 Ic cw;obtain⟨_,_,rfl⟩:=Option.map_eq_some_iff.mp A4;obtain⟨_,_,rfl⟩:=Option.map_eq_some_iff.mp cw;exact y9
 have Je:⇑live=es.size:=by
  apply Nat.le_antisymm
  .have:=fK (rise.imp λh=>Et h) (P:=a) (λx AM=>by
     obtain⟨p,ER,rfl⟩:=List.mem_map.mp AM;exact KD ((mem p.1 p.2).mp ER))
   simp at this;lia
  .have:=fK O.C7 (P:=live.map (·.1)) (λx AM=>by
     obtain⟨k,AP,rfl⟩:=UL AM;exact List.mem_map.mpr ⟨(a[k],k),(mem _ _).mpr (CP AP),rfl⟩)
   simp at this;lia
 have ad2:∀k∈live.map (·.2),k< ⇑es.toList:=λk AP=>by obtain⟨p,ER,rfl⟩:=List.mem_map.mp AP;have:=(List.getElem?_eq_some_iff.mp ((mem p.1 p.2).mp ER)).1;simp;lia
 have Yf:((live.map (·.2)).toArray.filterMap (es[·]?)).toList=(live.map (·.2)).filterMap (es.toList[·]?):=by rw[Array.toList_filterMap];simp
 have hsz:((live.map (·.2)).toArray.filterMap (es[·]?)).size=es.size:=by
  have:((live.map (·.2)).toArray.filterMap (es[·]?)).toList.length=es.size:=by rw[Yf,ir ad2];simp[Je]
  simpa using this
 refine⟨_,_,by
  unfold laid;rw[Bd];show↥_=_;rw[<-dO],rfl,hsz,⟨⟨rfl,?_,?_,?_⟩,C,by rw[hsz];exact AG⟩,λe=>?_⟩
 .rw[hsz];simp[Je]
 .simpa using rise
 .intro j Am;have Am:j∈live.map (·.1):=by simpa using Am
  obtain⟨p,ER,rfl⟩:=List.mem_map.mp Am;exact O.le _ (KD ((mem p.1 p.2).mp ER))
 .rw[Yf,List.mem_filterMap];constructor
  .rintro⟨k,_,q⟩;exact KD q
  .intro q;obtain⟨k,AP,rfl⟩:=UL q;have yB:k< ⇑a:=by rw[dy];simpa using AP
   exact⟨k,List.mem_map.mpr ⟨(a[k],k),(mem _ _).mpr (CP yB),rfl⟩,CP AP⟩
end
section
variable{prog:C5}{w:Bo}{A:DA}{E:A7->AQ->Prop}{s:AQ}{K:Type}[DecidableEq K]{knd:KeyKind prog w K}
def lC{AJ:↑K}{a:A6}{n:Nat}{Q:Bool->AQ->Prop}(AP:O6 knd s.heap AJ a)(h:Q false s):An (B2 prog w) A (XQ (n+1) (.ref a)) Q E s:=by
 have Dt:=AP.typeIs;obtain⟨o,items,m,ho,_,hd,AD⟩:=AP;unfold XQ;refine Ad (Xm Dt ?_);dsimp only;rw[if_pos (by rfl)];refine Ad (BZ ?_);erw[h5,MO,if_false];refine Ad (PO ho hd ?_);refine Ad ?_;rw[<-Array.forIn_toList];refine gt _ (λrest r s'=>r.1=none/\s'=s/\∀v∈rest,UR v=true) _ ?_ ?_ _ _ ⟨rfl,rfl,AD.byValue⟩
 .rintro v rest r s' ⟨BF,rfl,al⟩;have e:XQ n v=pure false:=by
   have:=al v HP;cases v<;>first|(simp[UR]at this;done)|(unfold XQ;rfl)
  rw[e];exact Ad (BZ (BZ ⟨rfl,rfl,λu BQ=>al u (Gg _ BQ)⟩))
 .rintro⟨Av,BJ⟩ s' ⟨BF,rfl,_⟩;simp only at BF;subst BF;exact BZ h
theorem uI{AJ:↑K}{a:A6}{Q:Bool->AQ->Prop}(AP:O6 knd s.heap AJ a)(h:∀b,Q b s):An (B2 prog w) A (Xh 8 (.ref a)) Q E s:=by
 have Dt:=AP.typeIs;obtain⟨o,items,m,ho,_,hd,AD⟩:=AP;unfold Xh;refine Ad (gz Dt F.slot_tuple_hash.lookup ?_);refine Ad (PO ho hd ?_);erw[UX];refine Ad ?_;rw[<-Array.forIn_toList];refine gt _ (λrest r s'=>r.1=none/\s'=s/\∀v∈rest,UR v=true) _ ?_ ?_ _ _ ⟨rfl,rfl,AD.byValue⟩
 .rintro v rest r s' ⟨BF,rfl,al⟩;have e:∃b,Xh 7 v=pure b:=by
   have:=al v HP;cases v<;>first|(simp[UR]at this;done)|(unfold Xh;exact⟨_,rfl⟩)
  obtain⟨b,e⟩:=e;rw[e];refine Ad (BZ ?_);cases b with
  |true=>exact BZ ⟨rfl,rfl,λu BQ=>al u (Gg _ BQ)⟩
  |false=>exact BZ (BZ (h _))
 .rintro⟨Av,BJ⟩ s' ⟨BF,rfl,_⟩;simp only at BF;subst BF;exact BZ (h _)
noncomputable def OB(knd:KeyKind prog w K)(ok:A6->Prop)(h:BH)(S:↑↑K)(v:A7):Prop:=∃AJ b,v=.ref b/\O6 knd h AJ b/\AJ∈S/\ok b
def OB.to{ok km:A6->Prop}{h h':BH}{S GS:↑↑K}{v:A7}(x:OB knd ok h S v)(m:∀b o,ok b->h.get? b=↥o->h'.get? b=↥o)(s:∀AJ∈S,AJ∈GS)(k:∀b,ok b->km b):OB knd km h' GS v:=
 let⟨AJ,b,e,⟨o,i,n,ho,r⟩,q,z⟩:=x;⟨AJ,b,e,⟨o,i,n,m b o z ho,r⟩,s AJ q,k b z⟩
def acA{AJ:↑K}{x:A6}{ok:A6->Prop}{S:↑↑K}(AM:O6 knd s.heap AJ x):∀(l:↑A7),(∀y∈l,OB knd ok s.heap S y)->∀{Q:Bool->AQ->Prop},Q false s->An (B2 prog w) A (searchCouldBeSeen (.ref x) l) Q E s:=by
 intro l AG Q h;unfold searchCouldBeSeen;refine Ad ?_;refine gt _ (λrest r s'=>r.1=none/\s'=s/\∀y∈rest,OB knd ok s.heap S y) _ ?_ ?_ _ _ ⟨rfl,rfl,AG⟩
 .rintro v rest r s' ⟨BF,rfl,al⟩;obtain⟨NQ,b,rfl,A4,_⟩:=al v HP;have h_:=λu(BQ:u∈rest)=>al u (Gg _ BQ);dsimp only;by_cases q:(x==b)=true
  .rw[if_pos (by simp[q])];exact BZ ⟨rfl,rfl,h_⟩
  .rw[if_neg (by simp[UR];simpa using q)];exact Ad (wpAny_eqIsQuiet_tuple AM (Ad (wpAny_eqIsQuiet_tuple A4 (Ad (lC AM (Ad (lC A4 (BZ ⟨rfl,rfl,h_⟩))))))))
 .rintro⟨Av,BJ⟩ s' ⟨BF,rfl,_⟩;simp only at BF;subst BF;exact BZ h
def af8{α:Type}{c:Bool}{m:Sem Bool}{U R:Sem α}{Q:α->AQ->Prop}(hm:∀{Q:Bool->AQ->Prop},Q false s->An (B2 prog w) A m Q E s)(h:An (B2 prog w) A R Q E s) :
  An (B2 prog w) A (if c=true then m>>=λb=>if b=true then U else R else R) Q E s:=by
 split
 .exact Ad (hm (by rw[if_neg γ];exact h))
 .exact h
theorem pT{a x:A6}{o:Obj}{Aq:Nat}{t:Iq}{es:Array (Int×A7)}{AJ:↑K}{ok:A6->Prop}{S:↑↑K}(BQ:A.units<Dv)(ho:s.heap.get? a=↥o)(hd:o.data=.set es Aq t)(J:Kc t es)(X:∀e∈es.toList,OB knd ok s.heap S e.2)(AM:O6 knd s.heap AJ x)(no:AJ∉S)(ZL:t.mask%2=1){N:Nat}(hN:N<10*turns t.mask)(h1:(Ed t.mask (IP knd AJ) N).j∉t.place.toList)(h2:∀m,m<N->(Ed t.mask (IP knd AJ) m).j∈t.place.toList){Q:SetFound->AQ->Prop}(q:Q (.free (Ed t.mask (IP knd AJ) N).j false) s) :
  ∀(fuel n:Nat)(st:Option Probe),n<=N->N-n<fuel->st.getD (t.probeStart (IP knd AJ))=Ed t.mask (IP knd AJ) n->
   An (B2 prog w) A (setSearchFrom a (.ref x) (IP knd AJ) true fuel st) Q E s
 |0,n,_,_,z,_=>δ
 |fuel+1,n,st,AZ,hf,Fp=>by
  unfold setSearchFrom;refine Ad (UW ho hd J.fits ?_);dsimp only;rw[if_neg (by unfold SetTable.gaveWay;simp[ZL]),Fp];unfold SetTable.probe;have G:=mu J (λi=>(es[i]?.map (·.1)).getD 0) (IP knd AJ) h1 h2 (10*turns t.mask) n AZ δ;generalize hz:probe.go t _ (IP knd AJ) (10*turns t.mask) (Ed t.mask (IP knd AJ) n)=z;rcases G with g|⟨m,i,e,H5,H6,Bt,GQ,g⟩
  .have g:=hz.symm.trans g;subst g;exact BZ q
  .have g:=hz.symm.trans g;subst g;dsimp only;obtain⟨NQ,b,BI,Sy,ms,_⟩:=X e (by rw[<-XU]at GQ;exact KD GQ);have GQ:es[i]?=↥(e.1,.ref b):=by rw[GQ,<-BI]
   refine af8 (λh=>acA (S:=S) (ok:=ok) AM _ (λy AS=>?_) h) ?_
   .obtain⟨e,he,rfl⟩:=List.mem_map.mp AS;exact X e (by simp at he;simpa using he.1)
   .rw[GQ];refine Ad (MR (wpAny_eqBool_tuple BQ Sy AM ?_));refine Ad (UW ho hd J.fits ?_);have ne:decide (NQ=AJ)=false:=decide_eq_false λz=>no (z▸ms);rw[ne];dsimp only;rw[if_neg γ,show t.sameMemory t.moves t.mask=↥true by unfold SetTable.sameMemory;simp];dsimp only;rw[if_pos rfl,Bt];dsimp only;rw[GQ];refine Ad (wpAny_isSame_ref_self ?_);rw[if_pos rfl];refine Ad (BZ ?_);dsimp only;rw[if_neg γ];exact pT BQ ho hd J X AM no ZL hN h1 h2 q fuel (m+1) _ δ δ rfl
noncomputable def OD(knd:KeyKind prog w K)(ok:A6->Prop)(h:BH)(a:A6)(S:↑↑K):Prop:=
 ∃o es Aq t,h.get? a=↥o/\o.ExactSet/\o.data=.set es Aq t/\Kc t es/\(∀e∈es.toList,OB knd ok h S e.2)/\es.size=⇑S/\((t.mask=7/\es.size<5)\/(t.mask=31/\es.size<19)\/(t.mask=127/\es.size<77))
end
section
variable{prog:C5}{w:Bo}{A:DA}{E:A7->AQ->Prop}{s:AQ}{K:Type}[DecidableEq K]{knd:KeyKind prog w K}
def j9{h:BH}{a:A6}{o:Obj}{es es':Array (Int×A7)}{Aq:Nat}{t t':Iq}(ho:h.get? a=↥o)(AM:o.ExactSet)(hd:o.data=.set es Aq t):∃o',(h.update a (Obj.putSet es' t')).get? a=↥o'/\o'.ExactSet/\o'.data=.set es' (Aq+1) t':=by
 refine⟨_,S8 _ ho (by rw[putSet_of es' t' hd];rfl),?_,?_⟩
 .rw[putSet_of es' t' hd];exact AM
 .rw[putSet_of es' t' hd]
def adQ{a:A6}{o:Obj}{Aq:Nat}{t:Iq}{es:Array (Int×A7)}{M wanted:Nat}{Q:Unit->AQ->Prop}(ho:s.heap.get? a=↥o)(AM:o.ExactSet)(hd:o.data=.set es Aq t)(J:Kc t es)(C:IG M)(AG:es.size<=M)(PA:sH wanted=M+1)(hm:M<=127)(h:∀es' t' o' h',Kr a s.heap h'->h'.get? a=↥o'->o'.ExactSet->o'.data=.set es' (Aq+1) t'->t'.mask=M->Kc t' es'->es'.size=es.size->(∀e,e∈es'.toList↔e∈es.toList)->Q () { s with heap:=h' }) :
  An (B2 prog w) A (setRelay a wanted) Q E s:=by
 unfold setRelay;refine Ad (UW ho hd J.fits ?_);dsimp only;rw[if_neg (by rw[PA];show¬(M+1>CL);rw[Li];lia)];obtain⟨t',order,Av,BJ,Rs,adi,adn⟩:=aax C AG t.finger (t.movedTo M) t.led t.plain;have e:t.relaid (es.map (·.1)) wanted=↥(t',order):=by unfold SetTable.relaid;rw[PA];exact Av
 rw[e];have DT:An (B2 prog w) A (if((order.filterMap (es[·]?)).size !=es.size)=true then(do unsupported "internal:set-table-lost-an-element";pure (order.filterMap (es[·]?),t'))else pure (order.filterMap (es[·]?),t')) (λr s'=>An (B2 prog w) A (storeSet a r.1 r.2) Q E s') E s:=by rw[if_neg (by rw[Rs];simp)];refine BZ ?_;obtain⟨o',g1,g2,g3⟩:=j9 (es':=order.filterMap (es[·]?)) (t':=t') ho AM hd;exact wpAny_storeSet_of ho hd (h _ t' o' _ (SA _ _ _) g1 g2 g3 BJ adi Rs adn) (by rw[Rs,Li];lia)
 exact Ad DT
def sh{ok:A6->Prop}{a x:A6}{S:↑↑K}{AJ:↑K}{Q:Bool->AQ->Prop}(BQ:A.units<Dv)(T:OD knd ok s.heap a S)(AM:O6 knd s.heap AJ x)(B0:ok x)(na:∀b,ok b->b≠a)(no:AJ∉S)(Ma:⇑S<76)(h:∀b h',Kr a s.heap h'->OD knd ok h' a (S++[AJ])->Q b { s with heap:=h' }) :
  An (B2 prog w) A (setAddHashed a (.ref x) (IP knd AJ)) Q E s:=by
 obtain⟨o,es,Aq,t,ho,hex,hd,J,X,AZ,BF⟩:=T;obtain⟨C,ZL⟩:IG t.mask/\t.mask%2=1:=by
  rcases BF with⟨e,_⟩|⟨e,_⟩|⟨e,_⟩<;>rw[e]
  .exact⟨hj,rfl⟩
  .exact⟨hi,rfl⟩
  .exact⟨hg,rfl⟩
 obtain⟨N,sX,YC,YD⟩:=J.first (IP knd AJ);unfold setAddHashed setAddHashedIn;refine MR (Ad (UW ho hd J.fits ?_));dsimp only;rw[if_neg (by simp[byScan,Value.scannable])];unfold setSearch;refine Ad (pT BQ ho hd J X AM no ZL sX YC YD ?_ 100000 0 none (Hy _) (by
  have:turns t.mask<=142:=by unfold turns;lia
  lia) rfl)
 dsimp only;refine Ad (UW ho hd J.fits ?_);dsimp only;obtain⟨p,ER,Cv,Sd,-,Ix⟩:=adZ J.tab YC (aeO _ _ _);generalize Am:(Ed t.mask (IP knd AJ) N).j=j at*;have Hh:=yn (e:=(IP knd AJ,Cm x)) Cv
 have fin:∀pl:Bool,An (B2 prog w) A (do
       storeSet a (XR es (t.put j).2 (IP knd AJ,Cm x)) { (t.put j).1 with plain:=pl }
       if(!false&&({ (t.put j).1 with plain:=pl }:Iq).tooFull)=true then do
          setRelay a (SetTable.grown (es.size+1))
          pure true
        else pure true) Q E s:=by
  intro pl;have Ix:(t.put j).1.mask=t.mask:=by rw[Ix]
  have Ac:Kc { (t.put j).1 with plain:=pl } (XR es (t.put j).2 (IP knd AJ,Cm x)):=⟨⟨Sd.SN,by rw[ER,Hh];exact Sd.Mu,Sd.U7,Sd.le⟩,by rw[<-Ix]at C;exact C,by rw[ER,Hh];show es.size+1<=(t.put j).1.mask;lia⟩;rw[ER]at Ac |-;obtain⟨Cu,g1,g2,g3⟩:=j9 (es':=XR es p (IP knd AJ,Cm x)) (t':={ (t.put j).1 with plain:=pl }) ho hex hd;have oE:=SA s.heap a (Obj.putSet (XR es p (IP knd AJ,Cm x)) { (t.put j).1 with plain:=pl });have done:∀(h':BH)(es':Array (Int×A7))(t':Iq)(o':Obj)(Nr:Nat),Kr a s.heap h'->h'.get? a=↥o'->o'.ExactSet->o'.data=.set es' Nr t'->Kc t' es'->es'.size=es.size+1->(∀e,e∈es'.toList↔e=(IP knd AJ,Cm x)\/e∈es.toList)->((t'.mask=7/\es'.size<5)\/(t'.mask=31/\es'.size<19)\/(t'.mask=127/\es'.size<77))->Q true { s with heap:=h' }:=by
   intro h' es' t' o' Nr Fk q1 q2 Ea KM U5 Pf LL;have m:∀b o,ok b->s.heap.get? b=↥o->h'.get? b=↥o:=λb o z e=>(Fk.2 b (na b z)).trans e;refine h true h' Fk ⟨o',es',Nr,t',q1,q2,Ea,KM,λe he=>?_,by rw[U5,AZ];simp,LL⟩;rcases(Pf e).mp he with rfl|he
   .exact OB.to (S:=[AJ]) ⟨AJ,x,rfl,AM,gL _,B0⟩ m (λk AP=>Hw _ AP) λ_ z=>z
   .exact(X e he).to m (λk AP=>JC _ AP) λ_ z=>z
  refine Ad (wpAny_storeSet_of ho hd ?_ (by rw[Hh,Li];lia));have aeU:({ (t.put j).1 with plain:=pl }:Iq).tooFull=decide ((es.size+1)*5≥t.mask*3):=by unfold SetTable.tooFull SetTable.fill;rw[Ac.tab.Mu,Ac.tab.SN,Hh];show decide ((es.size+1+0)*5≥(t.put j).1.mask*3)=_;rw[Ix]
  rw[aeU];by_cases full:(es.size+1)*5≥t.mask*3
  .rw[if_pos (full:)];obtain⟨M,Bd,Co,F5,M4,Um⟩:∃M,IG M/\sH (SetTable.grown (es.size+1))=M+1/\M<=127/\es.size+1<=M/\((M=7/\es.size+1<5)\/(M=31/\es.size+1<19)\/(M=127/\es.size+1<77)):=by
    rcases BF with⟨e,l⟩|⟨e,l⟩|⟨e,l⟩
    .rw[show es.size=4 by lia];exact⟨31,hi,by decide+kernel,ε⟩
    .rw[show es.size=18 by lia];exact⟨127,hg,by decide+kernel,ε⟩
    .lia
   refine Ad (adQ g1 g2 g3 Ac Bd (by rw[Hh];exact M4) Co F5 λes' t' o' h' Fk q1 q2 Ea KM U5 Pf LL=>BZ ?_);exact done h' es' t' o' _ (oE.trans Fk) q1 q2 Ea U5 (by rw[Pf,Hh]) (λe=>by rw[LL e,la]) (by rw[KM,Pf,Hh];exact Um)
  .rw[if_neg (full:)];refine BZ (done _ _ _ Cu _ oE g1 g2 g3 Ac Hh (λe=>la) ?_);rw[Hh];show((t.put j).1.mask=7/\_)\/((t.put j).1.mask=31/\_)\/((t.put j).1.mask=127/\_);lia
 split
 .exact Ad (uI AM λb=>by cases b<;>exact fin _)
 .exact Ad (BZ (fin _))
end
end Xp
namespace Xp
open PySem PySem.Spec PyProof.Rows
section
variable{prog:C5}{w:Bo}{A:DA}{E:A7->AQ->Prop}{s:AQ}{K:Type}[DecidableEq K]{knd:gg prog w K}
section
variable{R:Result->AQ->Prop}{J:A6}{BP wr:↑A6}{G:Array GenState->Array GenState->Prop}{n:Nat}{P:Nat->A7->Prop}{St:Nat->AQ->Prop}
noncomputable def Keyed(knd:gg prog w K)(keys:↑↑K)(P:Nat->A7->Prop)(no:↑A6)(h:BH):Prop:=∀i v,P i v->∃AJ,keys[i]?=↥AJ/\OB knd (· ∉no) h [AJ] v
def OD.moved{ok:A6->Prop}{h h':BH}{S:A6}{L:↑↑K}(T:OD knd ok h S L)(aaf:∀o,h.get? S=↥o->h'.get? S=↥o)(m:∀b o,ok b->h.get? b=↥o->h'.get? b=↥o):OD knd ok h' S L:=
 let⟨o,es,Aq,t,ho,hex,hd,J,X,r⟩:=T
 ⟨o,es,Aq,t,aaf o ho,hex,hd,J,λe he=>(X e he).to m (λ_ z=>z) λ_ z=>z,r⟩
def abG(W:WalksS prog w A.in1 J BP wr G n P St)(S:A6)(Vx:S∉BP)(keys:↑↑K)(AZ:⇑keys=n)(C7:keys.Nodup)(A4:n<77)(BQ:A.in1.units<Dv) :
  ∀(k i:Nat)(s:AQ),n-i=k->i<=n->St i s->Keyed knd keys P (S::wr) s.heap->OD knd (· ∉S::wr) s.heap S (keys.take i)->
   (∀s',Moved (S::wr) G s s'->OD knd (· ∉S::wr) s'.heap S keys->R (.ok (.ret .none)) s')->
   MV (B2 prog w) A (.builtin "set.update.loop" ⟨[.ref S,.ref J],[]⟩) R s:=by
 have ww:S∉wr:=λh=>Vx (W.sub _ h);have Pt:∀b∈wr,b∈S::wr:=λb A4=>Gg _ A4;have keep:∀{s s':AQ}{L:↑↑K},Moved wr G s s'->OD knd (· ∉S::wr) s.heap S L->OD knd (· ∉S::wr) s'.heap S L:=λm T=>
  T.moved (λo e=>m.heap S o ww e) λb o nb e=>m.heap b o (λz=>nb (Pt b z)) e
 intro k;induction k with
 |zero=>
  intro i s AP AD Fp V7 T TS;obtain rfl:i=n:=δ
  refine SF sA ?_;rw[UJ gM _];refine Ad (W.done s _ _ Fp λs' hm=>?_);rw[<-AZ,gu]at T;exact BZ (TS s' (hm.mono Pt) (keep hm T))
 |succ k CC=>
  intro i s AP AD Fp V7 T TS;have DD:i<n:=δ
  refine SF sA ?_;rw[UJ gM _];refine Ad (W.item i s _ _ DD Fp λv s' Da xx hm=>?_);have Sd:=keep hm T;obtain⟨AJ,DH,NQ,b,rfl,Sy,yE,nb⟩:=V7 i v Da;obtain rfl:=List.mem_singleton.mp yE;have Sy:O6 knd s'.heap NQ b:=let⟨o,it,c,ho,r⟩:=Sy;⟨o,it,c,hm.heap b o (λz=>nb (Pt b z)) ho,r⟩
  show An _ A.in1 (JF [Cm b] (setAdd S (.ref b))>>=_) _ _ s';refine Ad (MR ?_);unfold setAdd;refine MR (Ad (wpAny_pyHash_tuple BQ Sy ?_));have AC:keys.take (i+1)=keys.take i++[NQ]:=by rw[XS,DH];rfl
  have no:NQ∉keys.take i:=λz=>by have:=C7.sublist (List.take_sublist (i+1) keys);rw[AC,gZ]at this;exact this.2.2 _ z _ (gL _) rfl
  refine sh (s:={ s' with toks:=s'.toks+(⇑NQ+1) }) BQ Sd Sy nb (λb z e=>z (e▸HP)) no (by rw[Ku];lia) λc h' Fk sb=>?_;have Vs:∀Ic o,Ic∉S::wr->s'.heap.get? Ic=↥o->h'.get? Ic=↥o:=λIc o aaW e=>by rw[Fk.2 Ic (λz=>aaW (by rw[z];exact HP))];exact e
  refine BZ ⟨Xk gM _,CC (i+1) _ δ DD (W.frame _ s' _ _ xx (PP _ _) λIc cw o e=>?_) (λj v p=>?_) (by rw[AC];exact sb) λJp yH wu=>?_⟩
  .rw[Fk.2 Ic (λh:Ic=S=>Vx (by rw[<-h];exact cw))];exact e
  .obtain⟨AJ,e,x⟩:=V7 j v p;exact⟨AJ,e,x.to (λb o nb e=>Vs b o nb (hm.heap b o (λz=>nb (Pt b z)) e)) (λ_ z=>z) λ_ z=>z⟩
  .exact TS Jp (Moved.trans W.gtrans ((hm.mono Pt).then_heap (PP _ _) Vs) yH) wu
end
noncomputable def Mt(led:Bool):Obj:={ cls:=.type "set",dict:=none,data:=.set #[] 0 (.fresh 0 0 led) }
theorem afA(a:A7){Q₁:A7->AQ->Prop}(h:Q₁ (.ref s.heap.objs.size) { s with heap:=s.heap.push (Mt (!w.params.followText "set-order")) }):MV (B2 prog w) A (.call (.builtin "set.__new__") { pos:=[.type "set",a] }) (wants Q₁ E) s:=by
 have Pt:=sub_set_self;refine codeAny_of_tree ?_;refine Ad (wpAny_of_eq (F.newCall_set_1 a) (BZ ⟨Xk F.plain_set_new _,SF F.entry_set_new ?_⟩));rw[UJ F.plain_set_new _];obtain⟨AV,g,d,CW,os⟩:=s;have nn:∀{A:DA}{Q:A7->AQ->Prop}{E:A7->AQ->Prop},Q (.ref AV.objs.size) ⟨AV.push (Mt (!w.params.followText "set-order")),g,d,CW,os⟩->An (B2 prog w) A (newSet (.type "set")) Q E ⟨AV,g,d,CW,os⟩:=λ{A Q E} AY=>by unfold newSet setsByText;exact Ad (Ad (wpAny_askSetting (BZ (Lg AY))))
 unfold Builtin.«set.__new__»;generalize hN:newSet=aiB at nn |-
 wp_walk
 exact nn (BZ h)
set_option maxHeartbeats 3200000 in
theorem tc{l:A6}{items:Array A7}{keys:↑↑K}{Q:A7->AQ->Prop}(hh:A.handled=none)(BQ:A.units+64<Dv)(AG:s.heap.IsList l items)(AP:⇑keys=items.size)(C7:keys.Nodup)(A4:items.size<77)(AD:∀(i:Nat) v,items[i]?=↥v->∃b AJ,v=.ref b/\keys[i]?=↥AJ/\O6 knd s.heap AJ b)(h:∀(h':BH)(CW:Nat),(∃o es Aq t,h'.get? s.heap.objs.size=↥o/\o.ExactSet/\o.data=.set es Aq t/\t.fits es.size=true/\es.size=⇑keys)->(∀b o,s.heap.get? b=↥o->h'.get? b=↥o)->Q (.ref s.heap.objs.size) { s with heap:=h',toks:=CW }) :
  An (B2 prog w) A (call (.type "set") [.ref l]) Q E s:=by
 obtain⟨c,Jt,aj8⟩:=F.called_set.mro;have aj7:=F.called_set.made;have Pt:=F.called_set.sub;refine wpAny_call (codeAny_of_tree ?_);show An _ _ (callAny (.type "set") _) _ _ _;refine BZ ⟨Code.quiet_builtin _ (by decide+kernel),SF F.entry_type_call ?_⟩;rw[Around.under_plain (weight_type_call_type "set" [.ref l] []) rfl];have h1:=F.called_set.notType;have h2:=F.called_set.canCreate;have aj2:=F.typeCall_set_1 (.ref l)
 repeat (any_goals (first|assumption|wp_step))
 refine Qj (afA (.ref l) (E:=E) (Q₁:=λobj Cw=>∃led:Bool,obj=.ref s.heap.objs.size/\Cw={ s with heap:=s.heap.push (Mt led) }) ⟨_,rfl,rfl⟩) λr Cw BF=>?_;rcases r with e|Di
 .exact BF
 .cases Di with
  |ret obj=>
   obtain⟨led,rfl,rfl⟩:=BF;have Ma:(s.heap.push (Mt led)).get? s.heap.objs.size=↥(Mt led):=FP _ rfl;have Dt:Shared.TypeIs { s with heap:=s.heap.push (Mt led) } (.ref s.heap.objs.size) "set":=⟨_,Ma,rfl⟩;have YP:=F.called_set.init.lookup;have Yn:=F.called_set.init.bind (.ref s.heap.objs.size)
   repeat (any_goals (first|assumption|wp_step))
   refine Qj (codeAny_call_builtin (R:=wants (λr JQ=>r=.none/\Q (.ref s.heap.objs.size) JQ) E) F.called_set.init.plain F.entry_set_init (check_set_init_1 Dt ?_)) λaf4 JQ eA=>?_
   .obtain⟨ol,TZ,RE,nl,TV⟩:=AG;obtain⟨aiJ,abX,aiK,ad3⟩:=ol;simp only at RE TV;subst RE;subst TV;have xm:(s.heap.push (Mt led)).get? l=some { cls:=.type "list",dict:=abX,data:=.seq items nl,slots:=ad3 }:=Cr _ TZ;have ajC:=F.sub_list_set;have ajB:=F.sub_list_frozenset;have Iz:(O7 "list"==O7 "dict")=false:=ε
    have cS:(s.heap.push (Mt led)).IsList l items:=⟨_,xm,rfl,nl,rfl⟩;unfold Builtin.«set.__init__» noKeywords Builtin.Frozenset.updateFrom;generalize wq:pyIter=HY
    wp_walk
    subst wq;refine g_ cS ?_;refine Ad (wpAny_runValue ?_);have kR:l<s.heap.objs.size:=Dc TZ;have cf:(s.heap.push (Mt led)).objs.size=s.heap.objs.size+1:=Ld _ _;have j6:∀b o,s.heap.get? b=↥o->((s.heap.push (Mt led)).push { cls:=.type "list_iterator",data:=.fields #[.ref l,.int 0 0] }).get? b=↥o:=λb o e=>Cr _ (Cr _ e);have Vs:∀b o,s.heap.get? b=↥o->b∉s.heap.objs.size::[(s.heap.push (Mt led)).objs.size]:=λb o e=>by have:=Dc e;rw[cf];erw[Ip,PQ,or_false,not_or];exact⟨Et this,Et (UV this)⟩
    refine abG (knd:=knd) ((Walks.list (by simp[hh]) _ l (by rw[cf];exact Et (UV kR)) items).toS) s.heap.objs.size (by
     rw[cf];erw[Ip,PQ,or_false,not_or];exact⟨Et (Qh _),Qi kR⟩) keys AP C7 A4 (by erw[Around.in1_units];lia) (items.size-0) 0 _ δ (Hy _)
     ⟨⟨_,FP _ rfl,rfl,rfl⟩,(cS.push _)⟩ (λi v p=>?_) ⟨_,#[],0,_,Cr _ Ma,⟨rfl,rfl,rfl⟩,rfl,⟨⟨rfl,rfl,by simp[SetTable.fresh],by simp[SetTable.fresh]⟩,hj,Hy _⟩,λe he=>(by simp at he),rfl,.inl ⟨rfl,ε⟩⟩ λs' hm T=>?_
    .obtain⟨b,AJ,rfl,q,o,it,c,ho,r⟩:=AD i v p;exact⟨AJ,q,AJ,b,rfl,⟨o,it,c,j6 b o ho,r⟩,gL _,Vs b o ho⟩
    .obtain⟨h',g',d',aeV,fO⟩:=s';obtain rfl:g'=s.gens:=hm.gens;obtain rfl:d'=s.drawn:=hm.drawn;obtain rfl:fO=s.os:=hm.os;obtain⟨o,es,Aq,t,q1,q2,Ea,KM,U5,Pf,LL⟩:=T;exact BZ (BZ ⟨rfl,h h' aeV ⟨o,es,Aq,t,q1,q2,Ea,KM.fits,Pf⟩ λb o e=>hm.heap b o (Vs b o e) (j6 b o e)⟩)
   .rcases af4 with e|xH
    .exact eA
    .cases xH with
     |ret r=>
      obtain⟨rfl,AY⟩:=eA
      repeat (any_goals (first|assumption|wp_step))
     |_=>cases eA
  |_=>cases BF
end
end Xp
namespace LT
open PySem PyProof.Rows
noncomputable def L8(h:BH)(d:A6)(es:Array Kv)(Aq:Nat):Prop:=∃o,h.get? d=↥o/\o.ExactDict/\o.data=.dict es Aq
def L8.at{h h':BH}{d:A6}{es:Array Kv}{Aq:Nat}(x:L8 h d es Aq)(e:∀o,h.get? d=↥o->h'.get? d=↥o):L8 h' d es Aq:=let⟨o,ho,r⟩:=x;⟨o,e _ ho,r⟩
def L8.typeIs{s:AQ}{d:A6}{es:Array Kv}{Aq:Nat}(x:L8 s.heap d es Aq):s.TypeIs (.ref d) "dict":=let⟨o,ho,c,_⟩:=x;⟨o,ho,c.1⟩
def NS(a b:Int):Bool:=decide (a<=b)
def Jr(AJ:↑Int):↑Int:=AJ.mergeSort NS
def ab4(a b c:Int)(h1:NS a b=true)(h2:NS b c=true):NS a c=true:=by unfold NS at*;have h1:=of_decide_eq_true h1;have h2:=of_decide_eq_true h2;exact decide_eq_true δ
def ab3(a b:Int):(NS a b||NS b a)=true:=by
 unfold NS;by_cases h:a<=b
 .simp[h]
 .have:b<=a:=δ
  simp[this]
def aef{AJ l:↑Int}(p:l.Perm AJ)(h:l.Pairwise λa b=>NS a b=true):l=Jr AJ:=
 List.Perm.eq_of_pairwise (le:=λa b=>NS a b=true) (λa b _ _ h1 h2=>by
  have h1:=of_decide_eq_true h1;have h2:=of_decide_eq_true h2
  lia) h (List.pairwise_mergeSort ab4 ab3 AJ) (p.trans (XX _ _).symm)
theorem eQ:∀{vs:↑A7}{ns:↑Int},Qr vs ns->vs.map numOf=ns/\∀v∈vs,∃k t,v=.int k t
 |_,_,.nil=>⟨rfl,λ_ h=>nomatch h⟩
 |_,_,.cons n t h=>⟨by rw[D9,(eQ h).1];rfl,λv Bk=>by
  rcases List.mem_cons.mp Bk with rfl|Bk
  .exact⟨n,t,rfl⟩
  .exact(eQ h).2 v Bk⟩
def pa{us:↑A7}{out:Array A7}{ns:↑Int}(a:Qr out.toList ns)(p:ns.Perm (us.map numOf))(h:ns.Pairwise (· <=·)):⇑out.toList=⇑us/\(∀v∈out.toList,∃k t,v=.int k t)/\out.toList.map numOf=Jr (us.map numOf):=by obtain⟨e,g⟩:=eQ a;have Cp:=congrArg UZ e;have CV:=p.length_eq;rw[CU]at Cp CV;exact⟨Cp.trans CV,g,e.trans (aef p (h.imp decide_eq_true))⟩
section
variable{prog:C5}{w:Bo}{A:DA}{E:A7->AQ->Prop}{s:AQ}{es:Array Kv}
theorem lq{d:A6}{Aq:Nat}{Q:A7->AQ->Prop}(hd:(d==KF)=false)(hm:L8 s.heap d es Aq)(FV:Q (.ref s.heap.objs.size) { s with heap:=s.heap.push { cls:=.type "dict_keyiterator",data:=.fields #[.ref d,.int 0 0,.int es.size 0,.int Aq 0] } }) :
  An (B2 prog w) A (pyIter (.ref d)) Q E s:=by
 have Dt:s.TypeIs (.ref d) "dict":=hm.typeIs;obtain⟨o,ho,AI,kI⟩:=hm;refine wpAny_pyIter_slot Dt F.slot_dict_iter (O1 F.slot_dict_iter Dt F.entry_dict_iter ?_ (F.args_dict_iter_1 _));unfold Builtin.«dict.__iter__»;refine Ad ?_;unfold Builtin.Dict.dictSlotNone;refine Ad (wpAny_notOrdered_dict Dt ?_);show An _ _ (pure (Cm d)) _ _ s;refine BZ ?_;show An _ _ (rn d>>=_) _ _ s;unfold rn;rw[if_neg (by rw[hd];exact Kt)];refine Ad (BZ ?_);refine Ad (gR ho kI ?_);refine Ad (gk ho kI ?_);refine Ad (Lg (BZ ⟨_,rfl,"dict_keyiterator",_,⟨_,FP _ rfl,rfl⟩,F.slot_dict_keyiterator_next.lookup,?_⟩));simpa[NG]using FV
def lp{it d:A6}{i Aq:Nat}{Q:Option A7->AQ->Prop}(hit:s.heap.IsKeyIter it d i es.size Aq)(hm:L8 s.heap d es Aq)(yG:i<es.size)(FV:∀h',h'.IsKeyIter it d (i+1) es.size Aq->Kr it s.heap h'->Q (↥es[i].key) { s with heap:=h' }) :
  An (B2 prog w) A (O8 (.ref it)) Q E s:=by
 obtain⟨o,ho,AI,hd⟩:=id hit;obtain⟨E1,VL,LI,VJ⟩:=id hm;unfold O8
 refine Ad (wpAny_attempt (S4 (name:=SC "__next__") hit.typeIs XG
  (O1 XG hit.typeIs r_ ?_ (rI _))))
 refine Ad (BZ ?_);refine Ad ?_;refine Ad ?_
 first|refine Ad (XF hit.typeIs (BZ ?_))|refine Ad (XA hit.typeIs (BZ ?_))
 refine Ad (wpAny_fieldsOf ho hd ?_);have e8:re "dict_keyiterator"=false:=ε
 erw[e8,MO,if_false];show An _ _ (if(Cm d==JA)=true then _ else _) _ _ s;rw[if_neg (show¬((Cm d==JA)=true)from Kt)];refine Ad (BZ ?_);refine Ad (gR VL VJ ?_);rw[if_neg γ];refine Ad (BZ ?_);refine Ad (gk VL VJ ?_);rw[if_neg γ];refine BZ ?_;erw[show¬((i:Int)<0)from δ,if_false,Qg,Le yG];refine Ad ?_
 first|refine Ad (XF hit.typeIs (BZ ?_))|refine Ad (XA hit.typeIs (BZ ?_))
 refine Ad (wpAny_isOneOf_keyiter hit.typeIs ?_);show An _ _ (setField (.ref it) 1 (NG ((i:Int)+1))>>=_) _ _ s;refine Ad (X_ ho hd γ ?_);have TX:(s.heap.update it (Obj.mapFields (·.setIfInBounds 1 (NG ((i:Int)+1))))).IsKeyIter it d (i+1) es.size Aq:=
  ⟨_,S8 _ ho (rl (XM hd _)),(Obj.cls_mapFields ..).trans AI,by rw[XM hd];simp[NG]⟩
 refine Ad (MR ?_);refine Ad (wpAny_isOneOf_keyiter (s:={ s with heap:=s.heap.update it (Obj.mapFields (·.setIfInBounds 1 (NG ((i:Int)+1)))) }) TX.typeIs ?_);show An _ _ (pure es[i].key) _ _ _;exact BZ (BZ ⟨_,rfl,BZ (FV _ TX (SA ..))⟩)
def ll{it d:A6}{Aq:Nat}{Q:Option A7->AQ->Prop}(hh:A.handled=none)(hit:s.heap.IsKeyIter it d es.size es.size Aq)(hm:L8 s.heap d es Aq)(FV:∀h',Heap.ExtBut it s.heap h'->Q none { s with heap:=h' }):An (B2 prog w) A (O8 (.ref it)) Q E s:=by
 obtain⟨o,ho,AI,hd⟩:=id hit;obtain⟨E1,VL,LI,VJ⟩:=id hm;unfold O8
 refine Ad (wpAny_attempt (S4 (name:=SC "__next__") hit.typeIs XG
  (O1 XG hit.typeIs r_ ?_ (rI _))))
 refine Ad (BZ ?_);refine Ad ?_;refine Ad ?_
 first|refine Ad (XF hit.typeIs (BZ ?_))|refine Ad (XA hit.typeIs (BZ ?_))
 refine Ad (wpAny_fieldsOf ho hd ?_);have e8:re "dict_keyiterator"=false:=ε
 erw[e8,MO,if_false];show An _ _ (if(Cm d==JA)=true then _ else _) _ _ s;rw[if_neg (show¬((Cm d==JA)=true)from Kt)];refine Ad (BZ ?_);refine Ad (gR VL VJ ?_);rw[if_neg γ];refine Ad (BZ ?_);refine Ad (gk VL VJ ?_);rw[if_neg γ];refine BZ ?_;erw[show¬((es.size:Int)<0)from δ,if_false,Qg,Array.getElem?_eq_none (C9 es.size)];refine Ad ?_
 first|refine Ad (XF hit.typeIs (BZ ?_))|refine Ad (XA hit.typeIs (BZ ?_))
 show An _ _ (setField (.ref it) 0 .none>>=_) _ _ s;refine Ad (X_ ho hd γ ?_);show An _ _ (newExc (.type "StopIteration") []>>=_) _ _ _;refine Ad ?_;erw[newExc,newTuple];refine Ad (Lg ?_ (by size_fits));refine Ad (m:=Xa _ _) (wpAny_of_eq (a:=JA) (by first|rfl|(erw[Xa];rfl)) ?_);refine Lg ?_ (by size_fits);erw[raiseNew];refine Ad (wpAny_handled ?_);rw[show A.in1.handled=none from hh];refine Ad (BZ (wpAny_throw ?_));refine Ad (gr (T:="StopIteration") (b:=true) ⟨_,FP _ rfl,rfl⟩ isSubtype_stop ?_);exact BZ (FV _ (((SA ..).extBut.push _).push _))
def adN(hh:A.handled=none)(J d:A6)(Iz:d≠J)(es:Array Kv)(Aq:Nat) :
  Walks prog w A J [J,d] [J] es.size (λi v=>es[i]?.map (·.key)=↥v) (λi h=>h.IsKeyIter J d i es.size Aq/\L8 h d es Aq) where
 sub:=λb A4=>by simp at A4;simp[A4]
 frame:=λ_ _ _ st AP=>⟨st.1.at λo e=>AP J γ o e,st.2.at λo e=>AP d γ o e⟩
 item:=λi s Q E AD st FV=>lp st.1 st.2 AD λh' TX LR=>
  FV _ h' s.toks (by rw[Le AD];rfl) ⟨TX,st.2.at λo e=>LR.extBut d o Iz e⟩ λb o A4 e=>LR.extBut b o (λh=>A4 (by simp[h])) e
 done:=λs Q E st FV=>ll hh st.1 st.2 λh' x7=>FV h' s.toks λb o A4 e=>x7 b o (λh=>A4 (by simp[h])) e
 self:=λ_ _ _ _ st FV=>wpAny_pyIter_keyiter st.1 FV
def vD:typeLookup (.type "dict") "__len__"=pure ↥(.builtin "dict.__len__"):=by rw[typeLookup_type,builtinLookup_eq_fast];kernel_rfl
def aa4{acc:Array A7}{es:Array Kv}(h:ItemsOf (λi v=>es[i]?.map (·.key)=↥v) acc es.size):acc.toList=es.toList.map (·.key):=by
 apply gS;intro i;have AC:acc.toList[i]?=acc[i]?:=γ
 rw[E5,AC];cases e:acc[i]? with
 |none=>
  have:acc.size<=i:=(e:)
  rw[h.1]at this;have AH:es.toList[i]?=none:=J9 (this:);rw[AH];rfl
 |some v=>have:=h.2 i v e;rw[<-this];simp
theorem tu{d:A6}{Aq:Nat}{Q:↑A7->AQ->Prop}(hh:A.handled=none)(hd:(d==KF)=false)(hm:L8 s.heap d es Aq)(AZ:es.size<=CL)(FV:∀h' CW,(∀b o,s.heap.get? b=↥o->h'.get? b=↥o)->s.heap.objs.size<h'.objs.size->Q (es.toList.map (·.key)) { s with heap:=h',toks:=CW }):An (B2 prog w) A (collect (.ref d)) Q E s:=by
 have DD:d<s.heap.objs.size:=by obtain⟨o,ho,_⟩:=hm;exact Dc ho
 have ie:s.heap.objs.size≠d:=λe=>Jg _ (e▸DD);unfold collect;refine Ad (wpAny_runValue (SF F.entry_proto_collect ?_));rw[UJ F.plain_proto_collect _];show An _ A.in1 (newList []>>=λl=>again (.builtin "list.__iadd__" ⟨[l,.ref d],[]⟩)) _ _ s;refine Ad (Lg ?_);refine BZ ⟨Xk F.plain_list_iadd _,SF F.entry_list_iadd ?_⟩;rw[UJ F.plain_list_iadd _];have YR:L8 (s.heap.push { cls:=.type "list",data:=.seq ([]:↑A7).toArray }) d es Aq:=hm.at λo e=>Cr _ e;have jF:(s.heap.push { cls:=.type "list",data:=.seq ([]:↑A7).toArray }).get? s.heap.objs.size=some { cls:=.type "list",data:=.seq ([]:↑A7).toArray }:=FP _ rfl;show An _ A.in1 (rg (.ref s.heap.objs.size) (.ref d) (.ref s.heap.objs.size)) _ _ { s with heap:=s.heap.push { cls:=.type "list",data:=.seq ([]:↑A7).toArray } };generalize CI:s.heap.push { cls:=.type "list",data:=.seq ([]:↑A7).toArray }=f1 at YR jF |-;unfold rg;refine Ad (Xm (s:={ s with heap:=f1 }) (YR.typeIs (s:={ s with heap:=f1 })) ?_);have h1:rO (.ref s.heap.objs.size) (.ref d)=false:=by simp[rO,ie]
 rw[if_neg (by rw[h1];decide)];refine Ad (lq (s:={ s with heap:=f1 }) hd YR ?_);dsimp only;have Pq:(f1.push { cls:=.type "dict_keyiterator",data:=.fields #[.ref d,.int 0 0,.int es.size 0,.int Aq 0] }).IsKeyIter f1.objs.size d 0 es.size Aq:=⟨_,FP _ rfl,rfl,rfl⟩;have Md:L8 (f1.push { cls:=.type "dict_keyiterator",data:=.fields #[.ref d,.int 0 0,.int es.size 0,.int Aq 0] }) d es Aq:=YR.at λo e=>Cr _ e;have cu:(f1.push { cls:=.type "dict_keyiterator",data:=.fields #[.ref d,.int 0 0,.int es.size 0,.int Aq 0] }).get? s.heap.objs.size=some { cls:=.type "list",data:=.seq ([]:↑A7).toArray }:=Cr _ jF;have PF:∀b o,s.heap.get? b=↥o->(f1.push { cls:=.type "dict_keyiterator",data:=.fields #[.ref d,.int 0 0,.int es.size 0,.int Aq 0] }).get? b=↥o:=λb o e=>Cr _ (by rw[<-CI];exact Cr _ e);have hz:f1.objs.size=s.heap.objs.size+1:=by rw[<-CI];exact size_push' _ _
 generalize f1.push { cls:=.type "dict_keyiterator",data:=.fields #[.ref d,.int 0 0,.int es.size 0,.int Aq 0] }=f2 at Pq Md cu PF |-;have aaT:d≠f1.objs.size:=Et (by rw[hz];exact UV DD);have W:=(adN (prog:=prog) (w:=w) (A:=A.in1) hh f1.objs.size d aaT es Aq).toS;have Vx:s.heap.objs.size∉[f1.objs.size,d]:=λh=>by
  rcases List.mem_cons.mp h with e|h
  .lia
  .exact ie (List.mem_singleton.mp h)
 refine Ad (MR ?_);unfold Builtin.List.listLengthHint;refine Ad (gz (s:={ s with heap:=f2 }) (Md.typeIs (s:={ s with heap:=f2 })) vD ?_)
 (generalize cQ:("dict.__len__" :String)=jp;(fail_if_success (clear cQ jp));wp_delta;rw[show splitId jp=↥("dict","__len__")from by subst cQ;decide+kernel];subst cQ)
 refine Ad (gr (b:=true) (Md.typeIs (s:={ s with heap:=f2 })) (by rw[isSubtype_type];kernel_rfl) ?_);rw[if_neg γ];dsimp only;rw[if_pos (by decide+kernel)];refine Ad (Xm (Md.typeIs (s:={ s with heap:=f2 })) ?_);refine BZ ?_;rw[if_pos (by decide+kernel)];refine Ad (wpAny_rule (Ad ?_));show An _ A.in1 (updateSeq s.heap.objs.size (·.push .none)>>=λ_=>updateSeq s.heap.objs.size (·.pop)) _ _ { s with heap:=f2 };refine Ad (wpAny_updateSeq (s:={ s with heap:=f2 }) cu rfl ?_);have ic:=S8 (O5 (·.push JA)) cu rfl;refine wpAny_updateSeq ic rfl ?_;have wv:=S8 (O5 (·.pop)) ic rfl
 have WE:∀b o,b≠s.heap.objs.size->f2.get? b=↥o->
   ((f2.update s.heap.objs.size (O5 (·.push JA))).update s.heap.objs.size (O5 (·.pop))).get? b=↥o:=
  λb o A4 e=>(X6 _ _ (Lj A4)).trans ((X6 _ _ (Lj A4)).trans e)
 refine BZ ⟨Xk F.plain_extend_loop _,codeAny_extend_loopS W AZ _ Vx _ es.size 0 _ _ _ δ (Hy _)
  (W.frame 0 ({ s with heap:=f2 }:AQ) _ s.toks ⟨Pq,Md⟩ (C9 _) λb A4 o e=>WE b o (λh=>Vx (h▸A4)) e) wv (ItemsOf.nil _) λs' YJ GO yJ jE ik=>?_⟩
 show An _ A (load s.heap.objs.size>>=_) _ _ s';refine Ad (wpAny_load jE ?_);refine BZ ?_;show Q YJ.toList s';rw[aa4 ik];obtain⟨H5,H6,Za,lW,aiU⟩:=yJ;have GZ:=Dc jE;obtain⟨a1,a2,IK,OI,NN⟩:=s';dsimp only at H5 H6 Za lW GZ;subst H6 Za lW;refine FV a1 OI (λb o e=>?_) GZ;have A4:=Dc e;exact H5 b o (λz=>by
  rcases List.mem_cons.mp z with e|z
  .rw[e]at A4;exact Jg _ A4
  .rw[List.mem_singleton.mp z,hz]at A4;exact absurd A4 (Nat.not_lt.mpr (PT _))) (WE b o (λz=>by rw[z]at A4;exact Jg _ A4) (PF b o e))
def aeb{d:A6}{Aq:Nat}{us:↑A7}{Q:A7->AQ->Prop}(hh:A.handled=none)(hd:(d==KF)=false)(hm:L8 s.heap d es Aq)(GF:es.toList.map (·.key)=us)(AZ:⇑us<64)(AP:∀v∈us,∃k t,v=.int k t)(h:∀(vs:↑A7)(l:A6)(h':BH) CW e,⇑vs=⇑us->(∀v∈vs,∃k t,v=.int k t)->vs.map numOf=Jr (us.map numOf)->s.heap.objs.size<=l->(∀b o,s.heap.get? b=↥o->h'.get? b=↥o)->h'.get? l=↥(seqObj "list" vs.toArray e)->Q (.ref l) { s with heap:=h',toks:=CW }) :
  An (B2 prog w) A (call (.builtin "sorted") [.ref d]) Q E s:=by
 have hz:es.size<=CL:=by have:=congrArg UZ GF;rw[CU,QX]at this;rw[Li];lia
 refine Calls.call_function_entry kind_sorted plain_sorted entry_sorted (args_sorted1 _) ?_;unfold Builtin.«sorted»;refine Ad (m:=checkCount "sorted" 1 1 _) (BZ (Ad (tu (A:=A.in1) hh hd hm hz λf CW Bl hz=>?_)));rw[GF];refine Ad (wpAny_newList (hsz:=by rw[Li];lia) ?_);have g:(f.push (seqObj "list" us.toArray 0)).get? f.objs.size=↥(seqObj "list" us.toArray 0):=FP _ rfl;have hz:=PN hz;show An _ _ _ _ _ { s with heap:=f.push (seqObj "list" us.toArray 0),toks:=CW };refine Ad (MR (O1 slot_list_sort ⟨_,g,rfl⟩ entry_list_sort (list_sort_tree (s:={ s with heap:=f.push (seqObj "list" us.toArray 0),toks:=CW }) g (intsAre_map us AP) AZ λout ns' a1 a2 IK=>⟨_,rfl,?_⟩) (args_list_sort _)));obtain⟨e,ge⟩:=sortedHeap_at (out:=out) g;obtain⟨Cu,E0,Zo⟩:=pa (us:=us) a1 a2 IK;refine BZ ⟨_,rfl,h out.toList _ _ CW e Cu E0 Zo hz (λb o q=>?_) ge⟩;have m6:=Cr (seqObj "list" us.toArray 0) (Bl b o q);exact(sortedHeap_old (λz:b=f.objs.size=>absurd (z▸Dc q) (Nat.not_lt.mpr hz)) (Dc m6)).trans m6
end
end LT
namespace C2
open PySem B5
inductive W where
 |non|AL (b:Bool)|int (i:Int)|str (x:Str)|tup (ws:↑W)|I6 (ws:↑W)|Df (ws:↑W)|ref (n:Nat)|P7 (c:Str)
inductive QB where
 |lst|Ak (AJ:↑Key)|G0 (AJ:↑Key)|Dy (AJ:↑Ew)|ins (c:Str) (ns:↑Str)
 deriving DecidableEq
structure O where
 k:QB
 ws:↑W
abbrev A5:=↑O
noncomputable def IY(K:As)(c:Str)(C:A6):Prop:=JB K FQ c=↥↥(.ref C)
noncomputable def cI(K:As)(H:AE)(a:A6)(xs:↑V):Prop:=(∃o,H a=↥(.D0 o (.lst xs)))\/∃(o:Obj)(its:Array A7)(n:Nat),K.lookup a=↥o/\o.cls=.type "list"/\o.dict=none/\o.data=.seq its n/\its.size<=CL/\Vals xs its.toList
def cI.Cg{K:As}{H:AE}{a:A6}{xs:↑V}(h:cI K H a xs):EV K H a xs:=h.elim (λ⟨o,e⟩=>.inl (.inr ⟨o,e⟩)) .inr
mutual
noncomputable def AW(K:As)(φ:↑A6)(H:AE):W->V->Prop
 |.non,v=>v=.non
 |.AL b,v=>v=.AL b
 |.int i,v=>v=.int i
 |.str x,v=>v=.str x
 |.tup ws,v=>∃a xs,v=.ref a/\H a=↥(.tup xs)/\Ao K φ H ws xs
 |.I6 ws,v=>∃a xs,v=.ref a/\EW K H a xs/\Ao K φ H ws xs
 |.Df ws,v=>∃a xs,v=.ref a/\cI K H a xs/\Ao K φ H ws xs
 |.ref n,v=>∃a,v=.ref a/\φ[n]?=↥a
 |.P7 c,v=>∃a C,v=.ref a/\IY K c C/\H a=↥(ur a (.ref C))
noncomputable def Ao(K:As)(φ:↑A6)(H:AE):↑W->↑V->Prop
 |[],vs=>vs=[]
 |w::ws,vs=>∃v r,vs=v::r/\AW K φ H w v/\Ao K φ H ws r
end
noncomputable def Still:Eu->Prop
 |.tup _=>True
 |.D0 _ _=>True
 |.ext _=>True
 |_=>False
structure Ah(φ:↑A6)(H:AE)(BL:↑A6)(A9:AE):Prop where
 p:φ<+: BL
 t:∀b o,H b=↥o->Still o->A9 b=↥o
section
variable{K:As}{φ BL CJ:↑A6}{H A9 AU:AE}
def Ah.refl(φ:↑A6)(H:AE):Ah φ H φ H:=⟨UP,λ_ _ e _=>e⟩
theorem Ah.trans(a:Ah φ H BL A9)(b:Ah BL A9 CJ AU):Ah φ H CJ AU:=⟨a.p.trans b.p,λc o e s=>b.t c o (a.t c o e s) s⟩
def F_{α:Type}{l Mg:↑α}(p:l<+: Mg){n:Nat}{a:α}(e:l[n]?=↥a):Mg[n]?=↥a:=by obtain⟨r,rfl⟩:=p;rw[Gr (List.getElem?_eq_some_iff.mp e).1];exact e
def EW.ex(x:Ah φ H BL A9){a:A6}{xs:↑V}(h:EW K H a xs):EW K A9 a xs:=by
 rcases h with(h|⟨o,h⟩)|h
 .exact .inl (.inl (x.t _ _ h trivial))
 .exact .inl (.inr ⟨o,x.t _ _ h trivial⟩)
 .exact .inr h
mutual
theorem AW.ex(x:Ah φ H BL A9):∀{w:W}{v:V},AW K φ H w v->AW K BL A9 w v
 |.non,_,h|.AL _,_,h|.int _,_,h|.str _,_,h=>by simpa only[AW]using h
 |.tup _,_,h=>by erw[AW]at h |-;obtain⟨a,xs,e,q,r⟩:=h;exact⟨a,xs,e,x.t _ _ q trivial,Ao.ex x r⟩
 |.I6 _,_,h=>by erw[AW]at h |-;obtain⟨a,xs,e,q,r⟩:=h;exact⟨a,xs,e,EW.ex x q,Ao.ex x r⟩
 |.Df _,_,h=>by erw[AW]at h |-;obtain⟨a,xs,e,q,r⟩:=h;exact⟨a,xs,e,q.elim (λ⟨o,q⟩=>.inl ⟨o,x.t _ _ q trivial⟩) .inr,Ao.ex x r⟩
 |.ref _,_,h=>by erw[AW]at h |-;obtain⟨a,e,q⟩:=h;exact⟨a,e,F_ x.p q⟩
 |.P7 _,_,h=>by erw[AW]at h |-;obtain⟨a,C,e,c,q⟩:=h;exact⟨a,C,e,c,x.t _ _ q trivial⟩
theorem Ao.ex(x:Ah φ H BL A9):∀{ws:↑W}{vs:↑V},Ao K φ H ws vs->Ao K BL A9 ws vs
 |[],_,h=>by simpa only[Ao]using h
 |_::_,_,h=>by erw[Ao]at h |-;obtain⟨v,r,e,q,t⟩:=h;exact⟨v,r,e,AW.ex x q,Ao.ex x t⟩
end
def Ao.nil:Ao K φ H [] []:=by erw[Ao]
def Ao.cons{w:W}{ws:↑W}{v:V}{vs:↑V}(a:AW K φ H w v)(b:Ao K φ H ws vs):Ao K φ H (w::ws) (v::vs):=by erw[Ao];exact⟨v,vs,rfl,a,b⟩
theorem Ao.length:∀{ws:↑W}{vs:↑V},Ao K φ H ws vs->⇑ws=⇑vs
 |[],_,h=>by erw[Ao]at h;subst h;rfl
 |_::_,_,h=>by erw[Ao]at h;obtain⟨v,r,rfl,_,t⟩:=h;simp[Ao.length t]
theorem Ao.get:∀{ws:↑W}{vs:↑V}{i:Nat}{w:W},Ao K φ H ws vs->ws[i]?=↥w->∃v,vs[i]?=↥v/\AW K φ H w v
 |[],_,_,_,_,e=>by simp at e
 |_::_,_,0,_,h,e=>by erw[Ao]at h;obtain⟨v,r,rfl,q,_⟩:=h;simp at e;subst e;exact⟨v,rfl,q⟩
 |_::_,_,i+1,w,h,e=>by erw[Ao]at h;obtain⟨v,r,rfl,_,t⟩:=h;obtain⟨u,h1,h2⟩:=Ao.get (i:=i) (w:=w) t (e:);exact⟨u,(h1:),h2⟩
theorem Ao.append:∀{ws us:↑W}{vs ys:↑V},Ao K φ H ws vs->Ao K φ H us ys->Ao K φ H (ws++us) (vs++ys)
 |[],_,_,_,h,t=>by erw[Ao]at h;subst h;exact t
 |_::_,_,_,_,h,t=>by erw[Ao]at h;obtain⟨v,r,rfl,q,s⟩:=h;exact .cons q (Ao.append s t)
theorem Ao.take:∀(n:Nat){ws:↑W}{vs:↑V},Ao K φ H ws vs->Ao K φ H (ws.take n) (vs.take n)
 |0,_,_,_=>(Ao.nil:)
 |_+1,[],_,h=>by erw[Ao]at h;subst h;simpa using Ao.nil
 |n+1,_::_,_,h=>by erw[Ao]at h;obtain⟨v,r,rfl,q,t⟩:=h;exact .cons q (Ao.take n t)
theorem Ao.drop:∀(n:Nat){ws:↑W}{vs:↑V},Ao K φ H ws vs->Ao K φ H (ws.drop n) (vs.drop n)
 |0,_,_,h=>h
 |_+1,[],_,h=>by erw[Ao]at h;subst h;simpa using Ao.nil
 |n+1,_::_,_,h=>by erw[Ao]at h;obtain⟨v,r,rfl,_,t⟩:=h;exact Ao.drop n t
theorem Ao.set{w:W}{v:V}(q:AW K φ H w v):∀(n:Nat){ws:↑W}{vs:↑V},Ao K φ H ws vs->Ao K φ H (ws.set n w) (vs.set n v)
 |_,[],_,h=>by erw[Ao]at h;subst h;simpa using Ao.nil
 |0,_::_,_,h=>by erw[Ao]at h;obtain⟨u,r,rfl,_,t⟩:=h;exact .cons q t
 |n+1,_::_,_,h=>by erw[Ao]at h;obtain⟨u,r,rfl,p,t⟩:=h;exact .cons p (Ao.set q n t)
end
noncomputable def Mz(K:As)(H:AE)(a:A6)(xs:↑V):QB->Prop
 |.lst=>H a=↥(.lst xs)
 |.Ak AJ=>∃A8,H a=↥(.Ak A8)/\A8.map (·.1)=AJ/\A8.map (·.2)=xs
 |.G0 AJ=>∃o A8,H a=↥(.D0 o (.Ak A8))/\A8.map (·.1)=AJ/\A8.map (·.2)=xs
 |.Dy AJ=>∃A8,H a=↥(.Dy A8)/\A8.map (·.1)=AJ/\A8.map (·.2)=xs
 |.ins c ns=>∃C Bp BB,IY K c C/\H a=↥(.ins C Bp BB)/\BB.map (·.1)=ns/\BB.map (·.2)=xs
structure DB(K:As)(φ:↑A6)(h:A5)(H:AE):Prop where
 C7:φ.Nodup
 len:⇑φ=⇑h
 BY:∀(n:Nat) o a,h[n]?=↥o->φ[n]?=↥a->∃xs,Mz K H a xs o.k/\Ao K φ H o.ws xs
abbrev B9:=↑(Option W)
structure D2 where
 K:As
 DJ:↑A6
 BM:AE
 My:Str->AE->Prop
structure Rel(F:D2)(φ:↑A6)(h:A5)(H:AE)(σ :St)(ρ:B9):Prop where
 hd:DB F.K φ h H
 x0:Ah F.DJ F.BM φ H
 len:⇑σ =⇑ρ
 Bt:∀(i:Nat) w,ρ[i]?=↥↥w->∃v,σ[i]?=↥↥v/\AW F.K φ H w v
inductive R(α:Type) where
 |ok (a:α)|exc (c:Str) (h:A5)|bad
noncomputable def R.bind{α β:Type}:R α->(α->R β)->R β
 |.ok a,k=>k a
 |.exc c h,_=>.exc c h
 |.bad,_=>.bad
abbrev M(α:Type):=B9->A5->R (α×A5)
noncomputable def df(F:D2)(φ:↑A6)(H:AE)(c:Str)(h':A5):Prop:=∀BL A9,Ah φ H BL A9->DB F.K BL h' A9->F.My c A9
noncomputable def D5{α β:Type}(rel:As->↑A6->AE->α->β->Prop)(F:D2)(φ:↑A6)(H:AE)(σ :St)(ρ:B9)(Q:β->AE->Prop):R (α×A5)->Prop
 |.ok (a,h')=>∀b BL A9,Rel F BL h' A9 σ ρ->Ah φ H BL A9->rel F.K BL A9 a b->Q b A9
 |.exc c h'=>df F φ H c h'
 |.bad=>False
noncomputable def LP{α β:Type}(rel:As->↑A6->AE->α->β->Prop)(F:D2)(m:M α)(σ :St)(H:AE)(Q:β->AE->Prop):Prop:=∃φ ρ h,Rel F φ h H σ ρ/\D5 rel F φ H σ ρ Q (m ρ h)
noncomputable def m9(_:As)(_:↑A6)(_:AE)(a b:Bool):Prop:=b=a
abbrev B7:=M W
abbrev DN:=M Bool
abbrev EP:=M ↑W
abbrev C8(F:D2)(m:B7):TE:=LP AW F m
abbrev HT(F:D2)(m:DN):TT:=LP m9 F m
abbrev Ge(F:D2)(m:EP):Fd:=LP Ao F m
noncomputable def bd{α β:Type}(m:M α)(k:α->M β):M β:=λρ h=>(m ρ h).bind λp=>k p.1 ρ p.2
section
variable{F:D2}{φ BL:↑A6}{H A9:AE}{σ :St}{ρ:B9}{h:A5}{α β MJ fl:Type}{rel:As->↑A6->AE->α->β->Prop}{b6:As->↑A6->AE->MJ->fl->Prop}
def D5.ex{Q:β->AE->Prop}(x:Ah φ H BL A9):∀{r:R (α×A5)},D5 rel F φ H σ ρ Q r->D5 rel F BL A9 σ ρ Q r
 |.ok (_,_),k=>λb CJ AU r y z=>k b CJ AU r (x.trans y) z
 |.exc _ _,k=>λCJ AU y d=>k CJ AU (x.trans y) d
 |.bad,k=>k
def D5.imp{Q H_:β->AE->Prop}(f:∀b H,Q b H->H_ b H):∀{r:R (α×A5)},D5 rel F φ H σ ρ Q r->D5 rel F φ H σ ρ H_ r
 |.ok (_,_),k=>λb CJ AU r y z=>f _ _ (k b CJ AU r y z)
 |.exc _ _,k=>k
 |.bad,k=>k
theorem D5.bd{m:M α}{k:α->M MJ}{Q:fl->AE->Prop}{H_:β->AE->Prop}(q:D5 b6 F φ H σ ρ Q (bd m k ρ h))(f:∀a b Bw h1 H1,Rel F Bw h1 H1 σ ρ->Ah φ H Bw H1->rel F.K Bw H1 a b->D5 b6 F Bw H1 σ ρ Q (k a ρ h1)->H_ b H1):D5 rel F φ H σ ρ H_ (m ρ h):=by
 unfold C2.bd at q;cases e:m ρ h with
 |ok p=>rw[e]at q;obtain⟨a,h1⟩:=p;exact λb Bw H1 r x z=>f a b Bw h1 H1 r x z (D5.ex x q)
 |exc c h'=>rw[e]at q;exact q
 |bad=>rw[e]at q;cases q
theorem LP.bd{m:M α}{k:α->M MJ}{Q:fl->AE->Prop}{H_:β->AE->Prop}(q:LP b6 F (bd m k) σ H Q)(f:∀a b Bw ρ h1 H1,Rel F Bw h1 H1 σ ρ->rel F.K Bw H1 a b->D5 b6 F Bw H1 σ ρ Q (k a ρ h1)->H_ b H1):LP rel F m σ H H_:=by obtain⟨φ,ρ,h,r,q⟩:=q;exact⟨φ,ρ,h,r,q.bd λa b Bw h1 H1 r x z q=>f a b Bw ρ h1 H1 r z q⟩
end
section
variable{K:As}{φ:↑A6}{h:A5}{H:AE}{F:D2}{σ :St}{ρ:B9}
def Mz.is{a:A6}{xs:↑V}{k:QB}(q:Mz K H a xs k):∃o,H a=↥o:=by
 cases k with
 |lst=>exact⟨_,q⟩
 |Ak AJ=>obtain⟨_,e,_⟩:=q;exact⟨_,e⟩
 |G0 AJ=>obtain⟨_,_,e,_⟩:=q;exact⟨_,e⟩
 |Dy AJ=>obtain⟨_,e,_⟩:=q;exact⟨_,e⟩
 |ins c ns=>obtain⟨C,Bp,BB,_,e,_⟩:=q;exact⟨_,e⟩
def Mz.same{A9:AE}{a:A6}{xs:↑V}{k:QB}(q:Mz K H a xs k)(e:A9 a=H a):Mz K A9 a xs k:=by cases k<;>erw[Mz]at q |-<;>rw[e]<;>exact q
def DB.has(d:DB K φ h H){a:A6}(m:a∈φ):∃o,H a=↥o:=by
 obtain⟨n,e⟩:=gc m;have AZ:n< ⇑h:=by rw[<-d.len];exact(List.getElem?_eq_some_iff.mp e).1
 obtain⟨xs,q,_⟩:=d.BY n _ a (CP AZ) e;exact q.is
def DB.out(d:DB K φ h H){p:A6}(AV:H p=none):p∉φ:=λm=>by obtain⟨o,e⟩:=d.has m;rw[AV]at e;cases e
def Ah.lay{p:A6}{o:Eu}(AV:H p=none):Ah φ H φ (upd H p o):=⟨UP,λb u e _=>by rw[DF (L_ e AV)];exact e⟩
def Ah.Q1{p:A6}{o:Eu}(AV:H p=none):Ah φ H (φ++[p]) (upd H p o):=⟨Fy _ _,(Ah.lay (φ:=φ) AV).t⟩
def Ah.put{p:A6}{o u:Eu}(e:H p=↥u)(s:¬Still u):Ah φ H φ (upd H p o):=⟨UP,λb v q z=>by
 rw[DF]
 .exact q
 .rintro rfl;rw[e]at q;cases q;exact s z⟩
def DB.over{A9:AE}(d:DB K φ h H)(x:Ah φ H φ A9)(k:∀a∈φ,A9 a=H a):DB K φ h A9:=⟨d.C7,d.len,λn o a AC AH=>by obtain⟨xs,q,r⟩:=d.BY n o a AC AH;exact⟨xs,q.same (k a (KD AH)),r.ex x⟩⟩
theorem DB.lay{p:A6}{o:Eu}(d:DB K φ h H)(AV:H p=none):DB K φ h (upd H p o):=d.over (Ah.lay AV) λa m=>DF λz=>d.out AV (z▸m)
def DB.new{p:A6}{ho:Eu}{k:QB}{ws:↑W}{xs:↑V}(d:DB K φ h H)(AV:H p=none)(q:Mz K (upd H p ho) p xs k)(r:Ao K φ H ws xs):DB K (φ++[p]) (h++[⟨k,ws⟩]) (upd H p ho):=by
 have x:=Ah.Q1 (φ:=φ) (o:=ho) AV;refine⟨?_,by simp[d.len],λn o a AC AH=>?_⟩
 .rw[gZ];exact⟨d.C7,γ,λa AF b A4 z=>d.out AV (by rw[<-List.mem_singleton.mp A4,<-z];exact AF)⟩
 .by_cases AZ:n< ⇑h
  .rw[Gr AZ]at AC;rw[Gr (by rw[d.len];exact AZ)]at AH;obtain⟨ys,Ce,Bf⟩:=d.BY n o a AC AH;exact⟨ys,Ce.same (DF λz=>d.out AV (z▸KD AH)),Bf.ex x⟩
  .have e6:n=⇑h:=by
     have:=(List.getElem?_eq_some_iff.mp AC).1;simp at this;lia
   subst e6;simp at AC;rw[<-d.len]at AH;simp at AH;subst AC AH;exact⟨xs,q,r.ex x⟩
theorem DB.put{n:Nat}{a:A6}{o o':O}{u ho:Eu}{xs:↑V}(d:DB K φ h H)(Ay:h[n]?=↥o)(BW:φ[n]?=↥a)(GF:H a=↥u)(st:¬Still u)(q:Mz K (upd H a ho) a xs o'.k)(r:Ao K φ H o'.ws xs):DB K φ (h.set n o') (upd H a ho):=by
 have x:Ah φ H φ (upd H a ho):=Ah.put GF st;refine⟨d.C7,by simp[d.len],λm E0 b AC AH=>?_⟩;by_cases hm:n=m
 .subst hm;rw[J8 (List.getElem?_eq_some_iff.mp Ay).1]at AC;rw[BW]at AH;cases AC;cases AH;exact⟨xs,q,r.ex x⟩
 .rw[MN hm]at AC;obtain⟨ys,Ce,Bf⟩:=d.BY m E0 b AC AH;refine⟨ys,Ce.same (DF λz=>?_),Bf.ex x⟩;subst z;obtain⟨Ck,K4⟩:=List.getElem?_eq_some_iff.mp BW;obtain⟨F8,Kp⟩:=List.getElem?_eq_some_iff.mp AH;exact hm ((XJ d.C7).mp (K4.trans Kp.symm))
theorem DB.at(d:DB K φ h H){n:Nat}{o:O}{v:V}(e:h[n]?=↥o)(q:AW K φ H (.ref n) v):∃a xs,v=.ref a/\φ[n]?=↥a/\Mz K H a xs o.k/\Ao K φ H o.ws xs:=by erw[AW]at q;obtain⟨a,rfl,BW⟩:=q;obtain⟨xs,q,r⟩:=d.BY n o a e BW;exact⟨a,xs,rfl,BW,q,r⟩
def Rel.to{BL:↑A6}{h':A5}{A9:AE}(r:Rel F φ h H σ ρ)(d:DB F.K BL h' A9)(x:Ah φ H BL A9):Rel F BL h' A9 σ ρ:=⟨d,r.x0.trans x,r.len,λi w e=>by obtain⟨v,AC,q⟩:=r.Bt i w e;exact⟨v,AC,q.ex x⟩⟩
theorem Rel.set{i:Nat}{w:W}{v:V}(r:Rel F φ h H σ ρ)(AD:i< ⇑ρ)(q:AW F.K φ H w v):Rel F φ h H (σ.set i ↥v) (ρ.set i ↥w):=⟨r.hd,r.x0,by simp[r.len],λj CZ e=>by
 by_cases Am:i=j
 .subst Am;rw[J8 AD]at e;cases e;exact⟨v,J8 (by rw[r.len];exact AD),q⟩
 .rw[MN Am]at e |-;exact r.Bt j CZ e⟩
def AW.GK{n:Nat}{a:A6}(e:φ[n]?=↥a):AW K φ H (.ref n) (.ref a):=by erw[AW];exact⟨a,rfl,e⟩
def VA{p:A6}(d:DB K φ h H):(φ++[p])[⇑h]?=↥p:=by rw[<-d.len];simp
end
section
variable{F:D2}
abbrev FR(t' t:TE):Prop:=∀ σ H Q,t' σ H Q->t σ H Q
abbrev RT(t' t:TT):Prop:=∀ σ H Q,t' σ H Q->t σ H Q
abbrev c2(t' t:Fd):Prop:=∀ σ H Q,t' σ H Q->t σ H Q
abbrev KZ(t' t:F3):Prop:=∀De σ H,t' De σ H->t De σ H
def pu{α:Type}(a:α):M α:=λ_ h=>.ok (a,h)
noncomputable def I(i:Nat):B7:=λρ h=>match ρ[i]? with
 |some ↥w=>.ok (w,h)
 |_=>.bad
def yi(i:Nat):FR (C8 F (I i)) (qT i):=by
 rintro σ H Q ⟨φ,ρ,h,r,q⟩;unfold I at q
 split at q
 .rename_i w e;obtain⟨v,AC,a⟩:=r.Bt i w e;exact⟨v,AC,q v φ H r (Ah.refl _ _) a⟩
 .exact q.elim
def VR{w:W}{v:V}(a:∀φ H,AW F.K φ H w v):FR (C8 F (pu w)) (OS v):=by rintro σ H Q ⟨φ,ρ,h,r,q⟩;exact q v φ H r (Ah.refl _ _) (a _ _)
noncomputable def A0(f:W->W->A5->R (W×A5))(a b:B7):B7:=bd a λx=>bd b λy _ h=>f x y h
noncomputable def II(F:D2)(r:En)(f:W->W->A5->R (W×A5)):Prop:=∀ σ ρ φ h H x y GB Gq Q,Rel F φ h H σ ρ->AW F.K φ H GB x->AW F.K φ H Gq y->D5 AW F φ H σ ρ Q (f GB Gq h)->r x y H Q
def Ft{r:En}{f:W->W->A5->R (W×A5)}{a b:B7}(ho:II F r f):FR (C8 F (A0 f a b)) (Tk r (C8 F a) (C8 F b)):=λσ H Q q=>
 q.bd λx v φ ρ h H1 r EQ q=>⟨φ,ρ,h,r,q.bd λy u CJ h2 AU BJ x2 Gi q=>ho σ ρ CJ h2 AU v u x y Q BJ (EQ.ex x2) Gi q⟩
noncomputable def Aw(f:W->A5->R (W×A5))(a:B7):B7:=bd a λx _ h=>f x h
noncomputable def sf(F:D2)(r:V->AE->CR->Prop)(f:W->A5->R (W×A5)):Prop:=∀ σ ρ φ h H x w Q,Rel F φ h H σ ρ->AW F.K φ H w x->D5 AW F φ H σ ρ Q (f w h)->r x H Q
def yh{r:V->AE->CR->Prop}{f:W->A5->R (W×A5)}{a:B7}(ho:sf F r f):FR (C8 F (Aw f a)) (qS r (C8 F a)):=λσ H Q q=>
 q.bd λx v φ ρ h H1 r EQ q=>ho σ ρ φ h H1 v x Q r EQ q
def A1:EP:=pu []
noncomputable def Z(a:B7)(r:EP):EP:=bd a λx=>bd r λxs=>pu (x::xs)
def VT:c2 (Ge F A1) aY:=by rintro σ H Q ⟨φ,ρ,h,r,q⟩;exact q [] φ H r (Ah.refl _ _) .nil
def a3{a:B7}{m:EP}:c2 (Ge F (Z a m)) (aU (C8 F a) (Ge F m)):=λσ H Q q=>
 q.bd λx v φ ρ h H1 r EQ q=>⟨φ,ρ,h,r,q.bd λxs vs CJ h2 AU BJ x2 as q=>q (v::vs) CJ AU BJ (Ah.refl _ _) (.cons (EQ.ex x2) as)⟩
def At:Nat:=1000000
noncomputable def BE(m:EP):B7:=bd m λxs=>if ⇑xs<=At then pu (.tup xs)else λ_ _=>.bad
def yg{m:EP}:FR (C8 F (BE m)) (qR (Ge F m)):=λσ H Q q=>
 q.bd λxs vs φ ρ h H1 r as q=>by
   by_cases AG:⇑xs<=At
   .rw[if_pos AG]at q;refine⟨by rw[<- ⇑as];exact Im AG ε,λp AV=>?_⟩;refine q (.ref p) φ _ (r.to (r.hd.lay AV) (Ah.lay AV)) (Ah.lay AV) ?_;erw[AW];exact⟨p,vs,rfl,E3,as.ex (Ah.lay AV)⟩
   .rw[if_neg AG]at q;cases q
noncomputable def nw(k:QB)(ws:↑W)(h:A5):R (W×A5):=if ⇑ws<=At then .ok (.ref ⇑h,h++[⟨k,ws⟩])else .bad
def Ov{φ:↑A6}{h:A5}{H:AE}{σ :St}{ρ:B9}{Q:CR}{k:QB}{ws:↑W}{xs:↑V}{ho:Eu}{p:A6}(r:Rel F φ h H σ ρ)(q:D5 AW F φ H σ ρ Q (nw k ws h))(AV:H p=none)(o:Mz F.K (upd H p ho) p xs k)(as:Ao F.K φ H ws xs):Q (.ref p) (upd H p ho):=by
 unfold nw at q
 split at q
 .exact q (.ref p) (φ++[p]) _ (r.to (r.hd.new AV o as) (Ah.Q1 AV)) (Ah.Q1 AV) (.GK (VA r.hd))
 .exact q.elim
def fL{φ:↑A6}{h:A5}{H:AE}{σ :St}{ρ:B9}{Q:CR}{k:QB}{ws:↑W}(q:D5 AW F φ H σ ρ Q (nw k ws h)):⇑ws<=At:=by
 unfold nw at q
 split at q
 .assumption
 .exact q.elim
def Bg(m:EP):B7:=bd m λxs _ h=>nw .lst xs h
def zI{m:EP}:FR (C8 F (Bg m)) (qz (Ge F m)):=λσ H Q q=>
 q.bd λxs vs φ ρ h H1 r as q=>⟨by rw[<- ⇑as];exact Im (fL q) ε,λp AV=>Ov r q AV E3 as⟩
noncomputable def N1{α:Type}(k:Bool->M α):W->M α
 |.AL b=>k b
 |_=>λ_ _=>.bad
def AT(m:B7):DN:=bd m (N1 pu)
def Uh{α β:Type}{rel:As->↑A6->AE->α->β->Prop}{k:Bool->M α}{φ:↑A6}{h:A5}{H:AE}{σ :St}{ρ:B9}{Q:β->AE->Prop}{w:W}{v:V}(a:AW F.K φ H w v)(q:D5 rel F φ H σ ρ Q (N1 k w ρ h)):∃c,v=.AL c/\D5 rel F φ H σ ρ Q (k c ρ h):=by cases w<;>first|exact q.elim|(erw[AW]at a;exact⟨_,a,q⟩)
def Km{m:B7}:RT (HT F (AT m)) (fx (C8 F m)):=λσ H Q q=>
 q.bd λx v φ ρ h H1 r EQ q=>let⟨c,e,q⟩:=Uh EQ q;⟨c,e,q c φ H1 r (Ah.refl _ _) rfl⟩
noncomputable def Eg(a b:DN):DN:=bd a λc=>if c=true then b else pu false
noncomputable def FY(a b:DN):DN:=bd a λc=>if c=true then pu true else b
def Dj(a:DN):DN:=bd a λc=>pu (!c)
def z1{a b:DN}:RT (HT F (Eg a b)) (pC (HT F a) (HT F b)):=λσ H Q q=>
 q.bd λx c φ ρ h H1 r e q=>by
   cases e;cases x with
   |true=>exact⟨φ,ρ,h,r,q⟩
   |false=>exact q false φ H1 r (Ah.refl _ _) rfl
def zN{a b:DN}:RT (HT F (FY a b)) (r5 (HT F a) (HT F b)):=λσ H Q q=>
 q.bd λx c φ ρ h H1 r e q=>by
   cases e;cases x with
   |false=>exact⟨φ,ρ,h,r,q⟩
   |true=>exact q true φ H1 r (Ah.refl _ _) rfl
def zL{a:DN}:RT (HT F (Dj a)) (r3 (HT F a)):=λσ H Q q=>
 q.bd λx c φ ρ h H1 r e q=>by cases e;exact q _ φ H1 r (Ah.refl _ _) rfl
noncomputable def MC(a b:B7):B7:=bd a (N1 λc=>if c=true then b else pu (.AL false))
noncomputable def WX(a b:B7):B7:=bd a (N1 λc=>if c=true then pu (.AL true)else b)
def WW(a:B7):B7:=bd a (N1 λc=>pu (.AL (!c)))
def NZ{K:As}{φ:↑A6}{H:AE}(b:Bool):AW K φ H (.AL b) (.AL b):=by erw[AW]
def z2{a b:B7}:FR (C8 F (MC a b)) (pD (C8 F a) (C8 F b)):=λσ H Q q=>
 q.bd λx v φ ρ h H1 r EQ q=>by
   obtain⟨c,e,q⟩:=Uh EQ q;refine⟨c,e,?_⟩;cases c with
   |true=>exact⟨φ,ρ,h,r,q⟩
   |false=>exact q _ φ H1 r (Ah.refl _ _) (NZ _)
def yW{a b:B7}:FR (C8 F (WX a b)) (r6 (C8 F a) (C8 F b)):=λσ H Q q=>
 q.bd λx v φ ρ h H1 r EQ q=>by
   obtain⟨c,e,q⟩:=Uh EQ q;refine⟨c,e,?_⟩;cases c with
   |false=>exact⟨φ,ρ,h,r,q⟩
   |true=>exact q _ φ H1 r (Ah.refl _ _) (NZ _)
def zM{a:B7}:FR (C8 F (WW a)) (r4 (C8 F a)):=λσ H Q q=>
 q.bd λx v φ ρ h H1 r EQ q=>let⟨c,e,q⟩:=Uh EQ q;⟨c,e,q _ φ H1 r (Ah.refl _ _) (NZ _)⟩
noncomputable def LX{α:Type}(c:DN)(a b:M α):M α:=bd c λk=>if k=true then a else b
def zF{c:DN}{a b:B7}:FR (C8 F (LX c a b)) (qx (HT F c) (C8 F a) (C8 F b)):=λσ H Q q=>
 q.bd λx k φ ρ h H1 r e q=>by cases e;cases x<;>exact⟨φ,ρ,h,r,q⟩
inductive FL where
 |AR (ρ:B9)|EM (w:W)|B_ (ρ:B9)|DL (ρ:B9)
abbrev Ai:=M FL
noncomputable def E8(F:D2)(φ:↑A6)(H:AE)(De:Ends):R (FL×A5)->Prop
 |.ok (.AR E4,h')=>∀ σ' BL A9,Rel F BL h' A9 σ' E4->Ah φ H BL A9->De.AR σ' A9
 |.ok (.B_ E4,h')=>∀ σ' BL A9,Rel F BL h' A9 σ' E4->Ah φ H BL A9->De.B_ σ' A9
 |.ok (.DL E4,h')=>∀ σ' BL A9,Rel F BL h' A9 σ' E4->Ah φ H BL A9->De.DL σ' A9
 |.ok (.EM w,h')=>∀v BL A9,DB F.K BL h' A9->Ah φ H BL A9->AW F.K BL A9 w v->De.EM v A9
 |.exc c h'=>df F φ H c h'
 |.bad=>False
noncomputable def G9(F:D2)(m:Ai):F3:=λDe σ H=>∃φ ρ h,Rel F φ h H σ ρ/\E8 F φ H De (m ρ h)
def E8.ex{φ BL:↑A6}{H A9:AE}{De:Ends}(x:Ah φ H BL A9):∀{r:R (FL×A5)},E8 F φ H De r->E8 F BL A9 De r
 |.ok (.AR _,_),k|.ok (.B_ _,_),k|.ok (.DL _,_),k=>λσ' CJ AU r y=>k σ' CJ AU r (x.trans y)
 |.ok (.EM _,_),k=>λv CJ AU d y a=>k v CJ AU d (x.trans y) a
 |.exc _ _,k=>λCJ AU y d=>k CJ AU (x.trans y) d
 |.bad,k=>k
theorem E8.bd{α β:Type}{rel:As->↑A6->AE->α->β->Prop}{m:M α}{k:α->Ai}{φ:↑A6}{h:A5}{H:AE}{σ :St}{ρ:B9}{De:Ends}{H_:β->AE->Prop}(q:E8 F φ H De (bd m k ρ h))(f:∀a b Bw h1 H1,Rel F Bw h1 H1 σ ρ->Ah φ H Bw H1->rel F.K Bw H1 a b->E8 F Bw H1 De (k a ρ h1)->H_ b H1):D5 rel F φ H σ ρ H_ (m ρ h):=by
 unfold C2.bd at q;cases e:m ρ h with
 |ok p=>rw[e]at q;obtain⟨a,h1⟩:=p;exact λb Bw H1 r x z=>f a b Bw h1 H1 r x z (E8.ex x q)
 |exc c h'=>rw[e]at q;exact q
 |bad=>rw[e]at q;cases q
theorem G9.bd{α β:Type}{rel:As->↑A6->AE->α->β->Prop}{m:M α}{k:α->Ai}{H:AE}{σ :St}{De:Ends}{H_:β->AE->Prop}(q:G9 F (bd m k) De σ H)(f:∀a b Bw ρ h1 H1,Rel F Bw h1 H1 σ ρ->rel F.K Bw H1 a b->E8 F Bw H1 De (k a ρ h1)->H_ b H1):LP rel F m σ H H_:=by obtain⟨φ,ρ,h,r,q⟩:=q;exact⟨φ,ρ,h,r,E8.bd q λa b Bw h1 H1 r x z q=>f a b Bw ρ h1 H1 r z q⟩
def BR:Ai:=λρ h=>.ok (.AR ρ,h)
noncomputable def AN(a b:Ai):Ai:=λρ h=>(a ρ h).bind λp=>match p with
 |(.AR E4,h')=>b E4 h'
 |p=>.ok p
def eL:KZ (G9 F BR) aX:=by rintro De σ H ⟨φ,ρ,h,r,q⟩;exact q σ φ H r (Ah.refl _ _)
def yb{a b:Ai}:KZ (G9 F (AN a b)) (rB (G9 F a) (G9 F b)):=by
 rintro De σ H ⟨φ,ρ,h,r,q⟩;refine⟨φ,ρ,h,r,?_⟩;unfold AN at q;cases e:a ρ h with
 |ok p=>
  rw[e]at q;obtain⟨f,h1⟩:=p;cases f with
  |AR E4=>exact λσ' BL A9 Bf x=>⟨BL,E4,h1,Bf,E8.ex x q⟩
  |_=>exact q
 |exc c h'=>rw[e]at q;exact q
 |bad=>rw[e]at q;cases q
def E_(a:B7):Ai:=bd a λ_=>BR
def zB{a:B7}:KZ (G9 F (E_ a)) (qv (C8 F a)):=λDe σ H q=>
 q.bd λx v φ ρ h H1 r EQ q=>q σ φ H1 r (Ah.refl _ _)
def Au(a:B7):Ai:=bd a λw _ h=>.ok (.EM w,h)
def yZ{a:B7}:KZ (G9 F (Au a)) (r9 (C8 F a)):=λDe σ H q=>
 q.bd λx v φ ρ h H1 r EQ q=>q v φ H1 r.hd (Ah.refl _ _) EQ
def y_:KZ (G9 F (Au (pu .non))) rA:=by rintro De σ H ⟨φ,ρ,h,r,q⟩;exact q .non φ H r.hd (Ah.refl _ _) (by erw[AW])
noncomputable def BU(c:DN)(a b:Ai):Ai:=bd c λk=>if k=true then a else b
def zG{c:DN}{a b:Ai}:KZ (G9 F (BU c a b)) (qy (HT F c) (G9 F a) (G9 F b)):=λDe σ H q=>
 q.bd λx k φ ρ h H1 r e q=>by cases e;cases x<;>exact⟨φ,ρ,h,r,q⟩
abbrev DG:=W->Ai
noncomputable def AA(i:Nat):DG:=λw ρ h=>if i< ⇑ρ then .ok (.AR (ρ.set i ↥w),h)else .bad
noncomputable def MH(F:D2)(g:DG):Jx:=λv σ H Q=>∃φ ρ h w,Rel F φ h H σ ρ/\AW F.K φ H w v/\E8 F φ H ⟨Q,λ_ _=>False,λ_ _=>False,λ_ _=>False⟩ (g w ρ h)
abbrev Y8(t' t:Jx):Prop:=∀v σ H Q,t' v σ H Q->t v σ H Q
def VS(i:Nat):Y8 (MH F (AA i)) (Yj i):=by
 rintro v σ H Q ⟨φ,ρ,h,w,r,a,q⟩;unfold AA at q
 split at q
 .rename_i AD;exact q _ φ H (r.set AD a) (Ah.refl _ _)
 .exact q.elim
def AX(a:B7)(g:DG):Ai:=bd a g
end
end C2
namespace C2
open PySem PySem.Spec B5
inductive Cn where
 |non|AL (b:Bool)|int (i:Int)|str (x:Str)|Cg (t:Bool) (ds:↑Cn)
mutual
noncomputable def Gn(K:As)(H:AE):Cn->V->Prop
 |.non,v=>v=.non
 |.AL b,v=>v=.AL b
 |.int i,v=>v=.int i
 |.str x,v=>v=.str x
 |.Cg t ds,v=>∃a xs,v=.ref a/\(if t=true then EW K H a xs else EV K H a xs)/\IF K H ds xs
noncomputable def IF(K:As)(H:AE):↑Cn->↑V->Prop
 |[],vs=>vs=[]
 |d::ds,vs=>∃v r,vs=v::r/\Gn K H d v/\IF K H ds r
end
mutual
noncomputable def eqT:Cn->Cn->Bool
 |.non,d=>match d with
  |.non=>true
  |_=>false
 |.AL a,d=>match d with
  |.AL b=>a==b
  |.int b=>(if a then 1 else 0)==b
  |_=>false
 |.int a,d=>match d with
  |.AL b=>a==(if b then 1 else 0)
  |.int b=>a==b
  |_=>false
 |.str a,d=>match d with
  |.str b=>a==b
  |_=>false
 |.Cg t xs,d=>match d with
  |.Cg u ys=>t==u&&GE xs ys
  |_=>false
noncomputable def GE:↑Cn->↑Cn->Bool
 |[],ys=>ys.isEmpty
 |x::xs,ys=>match ys with
  |y::ys=>eqT x y&&GE xs ys
  |[]=>false
end
noncomputable def Fw:Nat->Cn->Bool
 |0,.Cg _ _=>false
 |n+1,.Cg _ ds=>ds.all (Fw n)
 |_,_=>true
noncomputable def NI(K:As)(H:AE)(d:Cn)(u:A7):Prop:=∃x,Gn K H d x/\RelV x u
section
variable{X:Ar}{A3:ν}{σ :St}{H:AE}{s:AQ}{K:As}
theorem IF.length:∀{ds:↑Cn}{vs:↑V},IF K H ds vs->⇑ds=⇑vs
 |[],_,h=>by erw[IF]at h;subst h;rfl
 |_::_,_,h=>by erw[IF]at h;obtain⟨v,r,rfl,_,t⟩:=h;simp[IF.length t]
theorem IF.get:∀{ds:↑Cn}{vs:↑V}{i:Nat}{d:Cn},IF K H ds vs->ds[i]?=↥d->∃v,vs[i]?=↥v/\Gn K H d v
 |[],_,_,_,_,e=>by simp at e
 |_::_,_,0,_,h,e=>by erw[IF]at h;obtain⟨v,r,rfl,q,_⟩:=h;simp at e;subst e;exact⟨v,rfl,q⟩
 |_::_,_,i+1,d,h,e=>by erw[IF]at h;obtain⟨v,r,rfl,_,t⟩:=h;obtain⟨u,h1,h2⟩:=IF.get (i:=i) (d:=d) t (e:);exact⟨u,(h1:),h2⟩
def jx{ds:↑Cn}{xs:↑V}{its:↑A7}(q:IF K H ds xs)(r:Vals xs its):∀(i:Nat) d u,ds[i]?=↥d->its[i]?=↥u->NI K H d u:=λi d u AC AH=>by obtain⟨v,D_,a⟩:=q.get AC;obtain⟨JR,Jz,C0⟩:=r.get D_;rw[AH]at Jz;cases Jz;exact⟨v,a,C0⟩
inductive RZ(s:AQ)(P:Cn->A7->Prop):Cn->A7->Prop where
 |non:RZ s P .non .none
 |AL (b:Bool):RZ s P (.AL b) (.bool b)
 |int (i:Int) (t:Tok):RZ s P (.int i) (.int i t)
 |str (x:Str) (t:Tok):RZ s P (.str x) (.str x t)
 |tup (a:A6) (ds:↑Cn) (its:↑A7) (h:s.heap.IsTuple a its.toArray) (l:⇑ds=⇑its) (p:∀(i:Nat) d u,ds[i]?=↥d->its[i]?=↥u->P d u):RZ s P (.Cg true ds) (.ref a)
 |lst (a:A6) (ds:↑Cn) (its:↑A7) (h:s.heap.IsList a its.toArray) (l:⇑ds=⇑its) (p:∀(i:Nat) d u,ds[i]?=↥d->its[i]?=↥u->P d u):RZ s P (.Cg false ds) (.ref a)
def bC(J:θ){d:Cn}{u:A7}(h:NI X.K H d u):RZ s (NI X.K H) d u:=by
 obtain⟨x,a,r⟩:=h;cases d with
 |non=>erw[Gn]at a;subst a;cases r;exact .non
 |AL b=>erw[Gn]at a;subst a;cases r;exact .AL b
 |int i=>erw[Gn]at a;subst a;obtain⟨t,rfl⟩:=r;exact .int i t
 |str i=>erw[Gn]at a;subst a;obtain⟨t,rfl⟩:=r;exact .str i t
 |Cg t ds=>
  erw[Gn]at a;obtain⟨p,xs,rfl,AY,al⟩:=a;cases r;cases t with
  |true=>obtain⟨its,C0,BV,_⟩:=J.tuple AY;exact .tup p ds its BV (al.length.trans ⇑C0) (jx al C0)
  |false=>obtain⟨its,C0,BV,_⟩:=J.list AY;exact .lst p ds its BV.isList (al.length.trans ⇑C0) (jx al C0)
theorem ca:∀{xs ys:↑Cn},⇑xs≠⇑ys->GE xs ys=false
 |[],[],h=>absurd rfl h
 |[],_::_,_=>by erw[GE];rfl
 |_::_,[],_=>by erw[GE]
 |x::xs,y::ys,h=>by erw[GE];rw[ca (λe=>h (by simp[e])),UQ]
noncomputable def Me(xs ys:↑Cn)(j:Nat):Bool:=match xs[j]?,ys[j]? with
 |some x,↥y=>eqT x y
 |_,_=>true
def su(f:Nat->Bool)(n:Nat):(Ch (n+1)).all f=(f 0&&(Ch n).all λj=>f (j+1)):=by rw[List.range_succ_eq_map,Xl,SE];rfl
theorem cb:∀{xs ys:↑Cn},⇑xs=⇑ys->(Ch ⇑xs).all (Me xs ys)=GE xs ys
 |[],[],_=>by simp[GE]
 |[],_::_,h=>by simp at h
 |_::_,[],h=>by simp at h
 |x::xs,y::ys,h=>by
  rw[DX,su];have e:(λj=>Me (x::xs) (y::ys) (j+1))=Me xs ys:=by funext j;simp[Me]
  rw[e,cb (h:)];erw[GE];rfl
def Xq{f:Cn->Bool}{ds:↑Cn}(h:ds.all f=true){i:Nat}{d:Cn}(e:ds[i]?=↥d):f d=true:=List.all_eq_true.mp h d (KD e)
theorem c_:∀(n:Nat){d:Cn},Fw n d=true->eqT d d=true
 |_,.non,_|_,.AL _,_|_,.int _,_|_,.str _,_=>by simp[eqT]
 |0,.Cg _ _,o=>by cases o
 |n+1,.Cg t ds,o=>by
  erw[eqT,beq_self_eq_true,h6];have go:∀l:↑Cn,l.all (Fw n)=true->GE l l=true:=λl=>by
   induction l with
   |nil=>intro _;simp[GE]
   |cons x l CC=>intro h;rw[Xl,I0]at h;erw[GE];rw[c_ n h.1,CC h.2];rfl
  exact go ds o
def iI(J:θ):∀(n:Nat){d1 F6:Cn}{x:V},Fw n d1=true->Fw n F6=true->Gn X.K H d1 x->Gn X.K H F6 x->d1=F6:=by
 intro n;induction n with
 |zero=>
  intro d1 F6 x Cu E0 a1 a2
  cases d1<;>cases F6<;>erw[Gn]at a1 a2<;>first
   |(cases Cu;done)
   |(cases E0;done)
   |(subst a1;cases a2;done)
   |(subst a1;cases a2;rfl)
 |succ n CC=>
  intro d1 F6 x Cu E0 a1 a2
  cases d1<;>cases F6<;>erw[Gn]at a1 a2<;>first
   |(subst a1;cases a2;done)
   |(subst a1;cases a2;rfl)
   |(obtain⟨_,_,e,_⟩:=a2;subst a1;cases e;done)
   |(obtain⟨_,_,e,_⟩:=a1;subst a2;cases e;done)
   |skip
  .rename_i t1 Fl Ca Fm;obtain⟨p,xs,rfl,h1,q1⟩:=a1;obtain⟨FK,ys,e,h2,q2⟩:=a2;cases e;have key:t1=Ca/\xs=ys:=by
    cases t1<;>cases Ca
    .exact⟨rfl,J.dx h1 h2⟩
    .obtain⟨_,_,Cp,_⟩:=J.list h1;obtain⟨_,_,CV,_⟩:=J.tuple h2;exact absurd rfl (sE Cp.isList CV)
    .obtain⟨_,_,Cp,_⟩:=J.tuple h1;obtain⟨_,_,CV,_⟩:=J.list h2;exact absurd rfl (sE CV.isList Cp)
    .exact⟨rfl,J.g8 h1 h2⟩
   obtain⟨rfl,rfl⟩:=key;have:Fl=Fm:=by
    have AG:=q1.length.trans q2.length.symm;apply gS;intro i;by_cases AD:i< ⇑Fl
    .have AC:=CP AD;have AH:=CP (l:=Fm) (i:=i) δ;obtain⟨v,ev,EH⟩:=q1.get AC;obtain⟨J7,jZ,bv⟩:=q2.get AH;rw[ev]at jZ;cases jZ;rw[AC,AH,CC (Xq Cu AC) (Xq E0 AH) EH bv]
    .rw[J9 δ,J9 δ]
   rw[this]
def jU(J:θ):∀(n:Nat){d1 F6:Cn}{u v:A7}{A:DA},Fw n d1=true->Fw n F6=true->NI X.K H d1 u->NI X.K H F6 v->A.units+n<Dv->
  Xo A s u v (eqT d1 F6)/\Ug A s u v (eqT d1 F6)/\SeqAt.RcNeAt A s u v (!eqT d1 F6):=by
 intro n;induction n with
 |zero=>
  intro d1 F6 u v A Cu E0 a1 a2 BQ;have h1:=bC J a1;have h2:=bC J a2
  cases h1<;>cases h2<;>first
   |(cases Cu;done)
   |(cases E0;done)
   |(erw[eqT,h5,Bool.not_false];refine⟨?_,?_,?_⟩<;>with_reducible first|exact .same _|exact .none_none|exact .none_bool _|exact .none_int _ _|exact .none_str _ _|exact .bool_none _|exact .bool_bool _ _|exact .bool_int _ _ _|exact .bool_str _ _ _|exact .int_none _ _|exact .int_bool _ _ _|exact .int_int _ _ _ _|exact .int_str _ _ _ _|exact .str_none _ _|exact .str_bool _ _ _|exact .str_int _ _ _ _|exact .str_str _ _ _ _)
 |succ n CC=>
  intro d1 F6 u v A Cu E0 a1 a2 BQ;have GG:A.units<Dv:=δ
  have h1:=bC J a1;have h2:=bC J a2
  have item:∀{Fl Fm:↑Cn}{Ko H3:↑A7},Fl.all (Fw n)=true->Fm.all (Fw n)=true->⇑Fl=⇑Ko->⇑Fm=⇑H3->(∀(i:Nat) d u,Fl[i]?=↥d->Ko[i]?=↥u->NI X.K H d u)->(∀(i:Nat) d u,Fm[i]?=↥d->H3[i]?=↥u->NI X.K H d u)->
    ∀j(h1:j<Ko.toArray.size)(h2:j<H3.toArray.size),Xo A.in1 s Ko.toArray[j] H3.toArray[j] (Me Fl Fm j):=λ{Fl Fm Ko H3} k1 k2 Je MB ER Cv j h1 h2=>by
   have K4:j< ⇑Fl:=by rw[Je];simpa using h1
   have Kp:j< ⇑Fm:=by rw[MB];simpa using h2
   have:=(CC (A:=A.in1) (Xq k1 (CP K4)) (Xq k2 (CP Kp)) (ER j _ Ko.toArray[j] (CP K4) (by simp at h1;simp[h1])) (Cv j _ H3.toArray[j] (CP Kp) (by simp at h2;simp[h2])) (by show A.units+1+n<Dv;lia)).1;unfold Me;rw[CP K4,CP Kp];exact this
  have same:∀{ER Cv:A6},u=.ref ER->v=.ref Cv->Ug A s (.ref ER) (.ref Cv) (eqT d1 F6)->Xo A s (.ref ER) (.ref Cv) (eqT d1 F6):=λ{ER Cv} AC AH w=>by
   by_cases AV:ER=Cv
   .subst AV AC AH;obtain⟨x1,DY,Av⟩:=id a1;obtain⟨x2,Fe,BJ⟩:=id a2;have:x1=x2:=RelV.inj Av BJ;subst this;rw[iI J (n+1) Cu E0 DY Fe,c_ _ E0];exact SeqAt.EqAt.same _
   .exact SeqAt.EqAt.of_refs AV w
  cases h1<;>cases h2<;>first
   |(erw[eqT,h5,Bool.not_false];refine⟨?_,?_,?_⟩<;>with_reducible first|exact .same _|exact .none_none|exact .none_bool _|exact .none_int _ _|exact .none_str _ _|exact .bool_none _|exact .bool_bool _ _|exact .bool_int _ _ _|exact .bool_str _ _ _|exact .int_none _ _|exact .int_bool _ _ _|exact .int_int _ _ _ _|exact .int_str _ _ _ _|exact .str_none _ _|exact .str_bool _ _ _|exact .str_int _ _ _ _|exact .str_str _ _ _ _|exact .none_tuple ‹_› GG|exact .none_list ‹_› GG|exact .bool_tuple _ ‹_› GG|exact .bool_list _ ‹_› GG|exact .int_tuple _ _ ‹_› GG|exact .int_list _ _ ‹_› GG|exact .str_tuple _ _ ‹_› GG|exact .str_list _ _ ‹_› GG|exact .tuple_none ‹_› GG|exact .list_none ‹_› GG|exact .tuple_bool _ ‹_› GG|exact .list_bool _ ‹_› GG|exact .tuple_int _ _ ‹_› GG|exact .list_int _ _ ‹_› GG|exact .tuple_str _ _ ‹_› GG|exact .list_str _ _ ‹_› GG)
   |skip
  .rename_i ER Fl Ko t1 Je q1 Cv Fm H3 Ca MB q2;have Bd:=SeqAt.RcAt.tuples (e:=Me Fl Fm) t1 Ca GG (item Cu E0 Je MB q1 q2);have Co:=SeqAt.RcNeAt.tuples (e:=Me Fl Fm) t1 Ca GG (item Cu E0 Je MB q1 q2);have eq:((Ch (min Ko.toArray.size H3.toArray.size)).all (Me Fl Fm)&&Ko.toArray.size==H3.toArray.size)=eqT (.Cg true Fl) (.Cg true Fm):=by
    rw[DW,DW,<-Je,<-MB];erw[eqT,beq_self_eq_true,h6];by_cases AG:⇑Fl=⇑Fm
    .rw[<-AG,Nat.min_self,cb AG,beq_self_eq_true,Bool.and_true]
    .rw[ca AG];have:(⇑Fl==⇑Fm)=false:=by simpa using AG
     rw[this,UQ]
   rw[eq]at Bd Co;exact⟨same rfl rfl Bd,Bd,Co⟩
  .rename_i ER Fl Ko t1 Je q1 Cv Fm H3 Ca MB q2;have Bd:Ug A s (.ref ER) (.ref Cv) (eqT (.Cg true Fl) (.Cg false Fm)):=by erw[eqT];exact SeqAt.RcAt.tuple_list t1 Ca GG
   exact⟨same rfl rfl Bd,Bd,by erw[eqT];exact SeqAt.RcNeAt.tuple_list t1 Ca GG⟩
  .rename_i ER Fl Ko t1 Je q1 Cv Fm H3 Ca MB q2;have Bd:Ug A s (.ref ER) (.ref Cv) (eqT (.Cg false Fl) (.Cg true Fm)):=by erw[eqT];exact SeqAt.RcAt.list_tuple t1 Ca GG
   exact⟨same rfl rfl Bd,Bd,by erw[eqT];exact SeqAt.RcNeAt.list_tuple t1 Ca GG⟩
  .rename_i ER Fl Ko t1 Je q1 Cv Fm H3 Ca MB q2;have hsz:(Ko.toArray.size=H3.toArray.size)=(⇑Fl=⇑Fm):=by rw[DW,DW,<-Je,<-MB]
   by_cases AG:⇑Fl=⇑Fm
   .have Bd:=SeqAt.RcAt.lists (e:=Me Fl Fm) t1 Ca (by rw[hsz];exact AG) GG (item Cu E0 Je MB q1 q2);have Co:=SeqAt.RcNeAt.lists (e:=Me Fl Fm) t1 Ca (by rw[hsz];exact AG) GG (item Cu E0 Je MB q1 q2);rw[DW,<-Je,cb AG]at Bd Co;have e:GE Fl Fm=eqT (.Cg false Fl) (.Cg false Fm):=by simp[eqT]
    rw[e]at Bd Co;exact⟨same rfl rfl Bd,Bd,Co⟩
   .have hz:(Ko.toArray.size !=H3.toArray.size)=true:=by
      rw[DW,DW,<-Je,<-MB];simpa using AG
    have e:eqT (.Cg false Fl) (.Cg false Fm)=false:=by erw[eqT];rw[ca AG,UQ]
    have Bd:Ug A s (.ref ER) (.ref Cv) (eqT (.Cg false Fl) (.Cg false Fm)):=by rw[e];exact SeqAt.RcAt.lists_lengths t1 Ca hz GG
    exact⟨same rfl rfl Bd,Bd,by rw[e];exact SeqAt.RcNeAt.lists_lengths t1 Ca hz GG⟩
open Classical in
noncomputable def NO(K:As)(H:AE)(d:Cn)(u:A7):Bool:=if h:∃d',Fw 7 d'=true/\NI K H d' u then eqT (Classical.choose h) d else false
def sw(J:θ){d d1:Cn}{u:A7}(o:Fw 7 d=true)(h:NI X.K H d u):NO X.K H d1 u=eqT d d1:=by have AM:∃d',Fw 7 d'=true/\NI X.K H d' u:=⟨d,o,h⟩;unfold NO;rw[dif_pos AM];obtain⟨o',Fx,GT,Bf⟩:=Classical.choose_spec AM;obtain⟨x,a,r⟩:=h;have:Fx=x:=Bf.inj r;subst this;rw[iI J 7 o' o GT a]
theorem b_(J:θ){d1:Cn}{x:V}{v:A7}{A:DA}(BQ:A.units+8<Dv)(Cu:Fw 7 d1=true)(a1:Gn X.K H d1 x)(Az:RelV x v):∀{ds:↑Cn}{xs:↑V}{its:↑A7},IF X.K H ds xs->Vals xs its->ds.all (Fw 7)=true->
  (∀u∈its,Xo A s u v (NO X.K H d1 u))/\its.map (NO X.K H d1)=ds.map λy=>eqT y d1
 |[],_,_,q,r,_=>by erw[IF]at q;subst q;cases r;exact⟨(λu BQ=>nomatch BQ),rfl⟩
 |d::ds,_,_,q,r,o=>by
  erw[IF]at q;obtain⟨w,wr,rfl,EH,ba⟩:=q;cases r with
  |cons Av BJ=>
   rw[Xl,I0]at o;obtain⟨h1,h2⟩:=b_ J BQ Cu a1 Az ba BJ o.2;have e:=sw J (d1:=d1) o.1 ⟨w,EH,Av⟩;refine⟨λJR hm=>?_,by rw[D9,D9,e,h2]⟩;rcases List.mem_cons.mp hm with z|hm
   .subst z;rw[e];exact(jU J 7 (A:=A) o.1 Cu ⟨w,EH,Av⟩ ⟨x,a1,Az⟩ δ).1
   .exact h1 JR hm
theorem any_map{α:Type}(l:↑α)(f:α->Bool):l.any f=(l.map f).any id:=by simp[List.any_map]
noncomputable def b3(K:As)(b:Bool):En:=λx y H Q=>∃d1 t ds,Gn K H d1 x/\Gn K H (.Cg t ds) y/\Fw 7 d1=true/\ds.all (Fw 7)=true/\Q (.AL (if b then ds.any (λy=>eqT y d1)else !ds.any λy=>eqT y d1)) H
def ZP(BQ:X.A.units+64<Dv):Do X (G3 .In) (b3 X.K true)/\Do X (G3 .NotIn) (b3 X.K false):=by
 refine⟨?_,?_⟩<;>
 .intro A3 s σ H x y v u Q J Az Bm h;obtain⟨d1,t,ds,a1,a2,Cu,E0,q⟩:=h;erw[Gn]at a2;obtain⟨p,xs,rfl,AY,al⟩:=a2;cases Bm;cases t with
  |true=>
   obtain⟨its,C0,BV,_⟩:=J.tuple AY;obtain⟨h1,h2⟩:=b_ J (A:=X.A.in1) (d1:=d1) (by show X.A.units+1+8<Dv;lia) Cu a1 Az al C0 E0;have e:its.any (NO X.K H d1)=ds.any λy=>eqT y d1:=by rw[any_map,h2,<-any_map]
   erw[if_true,MO,if_false]at q;rw[<-e]at q
   first
    |exact SeqAt.in_tupleAt (NO X.K H d1) BV (λw hw=>h1 w (hw:)) ⟨.AL _,H,J,rfl,(q:)⟩
    |exact SeqAt.notIn_tupleAt (NO X.K H d1) BV (λw hw=>h1 w (hw:)) ⟨.AL _,H,J,rfl,(q:)⟩
  |false=>
   obtain⟨its,C0,BV,_⟩:=J.list AY;obtain⟨h1,h2⟩:=b_ J (A:=X.A.in1) (d1:=d1) (by show X.A.units+1+8<Dv;lia) Cu a1 Az al C0 E0;have e:its.any (NO X.K H d1)=ds.any λy=>eqT y d1:=by rw[any_map,h2,<-any_map]
   erw[if_true,MO,if_false]at q;rw[<-e]at q
   first
    |exact SeqAt.in_listAt (NO X.K H d1) BV.isList (λw hw=>h1 w (hw:)) ⟨.AL _,H,J,rfl,(q:)⟩
    |exact SeqAt.notIn_listAt (NO X.K H d1) BV.isList (λw hw=>h1 w (hw:)) ⟨.AL _,H,J,rfl,(q:)⟩
noncomputable def ez(K:As)(b:Bool):En:=λx y H Q=>∃d1 F6,Gn K H d1 x/\Gn K H F6 y/\Fw 8 d1=true/\Fw 8 F6=true/\Q (.AL (if b then eqT d1 F6 else !eqT d1 F6)) H
def ZO(BQ:X.A.units+64<Dv):Do X (G3 .Eq) (ez X.K true)/\Do X (G3 .NotEq) (ez X.K false):=by
 refine⟨?_,?_⟩<;>
 .intro A3 s σ H x y v u Q J Az Bm h;obtain⟨d1,F6,a1,a2,Cu,E0,q⟩:=h;have z:=jU J 8 (A:=X.A) Cu E0 ⟨x,a1,Az⟩ ⟨y,a2,Bm⟩ δ
  first
   |exact z.2.1 X.prog X.w X.D1 _ ⟨.AL _,H,J,rfl,q⟩
   |exact z.2.2 X.prog X.w X.D1 _ ⟨.AL _,H,J,rfl,q⟩
end
noncomputable def E2(h:A5):W->Option (Bool×↑W)
 |.tup ws=>↥(true,ws)
 |.I6 ws=>↥(true,ws)
 |.Df ws=>↥(false,ws)
 |.ref n=>match h[n]? with
  |some ⟨.lst,ws⟩=>↥(false,ws)
  |_=>none
 |_=>none
section
variable{K:As}{φ:↑A6}{h:A5}{H:AE}{F:D2}{σ :St}{ρ:B9}{X:Ar}
def J6(d:DB K φ h H){w:W}{v:V}{t:Bool}{ws:↑W}(a:AW K φ H w v)(e:E2 h w=↥(t,ws)):∃p xs,v=.ref p/\(if t=true then EW K H p xs else EV K H p xs)/\Ao K φ H ws xs:=by
 unfold E2 at e
 split at e
 .cases e;erw[AW]at a;obtain⟨p,xs,rfl,q,r⟩:=a;exact⟨p,xs,rfl,.inl (.inl q),r⟩
 .cases e;erw[AW]at a;obtain⟨p,xs,rfl,q,r⟩:=a;exact⟨p,xs,rfl,q,r⟩
 .cases e;erw[AW]at a;obtain⟨p,xs,rfl,q,r⟩:=a;exact⟨p,xs,rfl,q.Cg,r⟩
 .rename_i n
  split at e
  .rename_i Ay;cases e;obtain⟨p,xs,rfl,_,q,r⟩:=d.at Ay a;exact⟨p,xs,rfl,.inl (.inl q),r⟩
  .cases e
 .cases e
noncomputable def CD:Nat->A5->W->Option Cn
 |_,_,.non=>↥.non
 |_,_,.AL b=>↥(.AL b)
 |_,_,.int i=>↥(.int i)
 |_,_,.str x=>↥(.str x)
 |0,_,_=>none
 |n+1,h,w=>match E2 h w with
  |some (t,ws)=>(ws.mapM (CD n h)).map (.Cg t)
  |none=>none
theorem nW{n:Nat}(CC:∀{w:W}{v:V}{d:Cn},CD n h w=↥d->AW K φ H w v->Gn K H d v/\Fw n d=true):∀{ws:↑W}{xs:↑V}{ds:↑Cn},ws.mapM (CD n h)=↥ds->Ao K φ H ws xs->IF K H ds xs/\ds.all (Fw n)=true
 |[],_,_,e,a=>by simp at e;subst e;erw[Ao]at a;subst a;simp[IF]
 |w::ws,_,_,e,a=>by
  erw[Ao]at a;obtain⟨v,r,rfl,a1,a2⟩:=a;rw[Q_]at e;cases AC:CD n h w with
  |none=>rw[AC]at e;cases e
  |some d=>
   rw[AC]at e;cases AH:ws.mapM (CD n h)with
   |none=>rw[AH]at e;cases e
   |some ds=>rw[AH]at e;cases e;obtain⟨DY,Fe⟩:=CC AC a1;obtain⟨Bd,Co⟩:=nW CC AH a2;exact⟨by erw[IF];exact⟨v,r,rfl,DY,Bd⟩,by rw[Xl,Fe,Co];rfl⟩
def b5(d:DB K φ h H):∀(n:Nat){w:W}{v:V}{t:Cn},CD n h w=↥t->AW K φ H w v->Gn K H t v/\Fw n t=true:=by
 intro n;induction n with
 |zero=>
  intro w v t e a
  cases w<;>erw[CD]at e<;>first
   |(cases e;done)
   |(cases e;erw[AW]at a;exact⟨by erw[Gn];exact a,rfl⟩)
 |succ m CC=>
  intro w v t e a;have Cg:∀w,(match E2 h w with|some (t,ws)=>(ws.mapM (CD m h)).map (Cn.Cg t)|none=>none)=↥t->AW K φ H w v->Gn K H t v/\Fw (m+1) t=true:=λw e a=>by
   split at e
   .rename_i t' ws es;obtain⟨p,xs,rfl,q,r⟩:=J6 d a es;cases AH:ws.mapM (CD m h)with
    |none=>rw[AH]at e;cases e
    |some ds=>rw[AH]at e;cases e;obtain⟨Bd,Co⟩:=nW (λe a=>CC e a) AH r;exact⟨by erw[Gn];exact⟨p,xs,rfl,q,Bd⟩,Co⟩
   .cases e
  cases w<;>erw[CD]at e<;>first
   |exact Cg _ e a
   |(cases e;erw[AW]at a;exact⟨by erw[Gn];exact a,rfl⟩)
def Ao.one{w:W}{vs:↑V}(a:Ao K φ H [w] vs):∃v,vs=[v]/\AW K φ H w v:=by erw[Ao]at a;obtain⟨v,r,rfl,h,rfl⟩:=a;exact⟨v,rfl,h⟩
def Ao.two{w u:W}{vs:↑V}(a:Ao K φ H [w,u] vs):∃v J7,vs=[v,J7]/\AW K φ H w v/\AW K φ H u J7:=by erw[Ao]at a;obtain⟨v,r,rfl,h,J7,Bf,rfl,h',rfl⟩:=a;exact⟨v,J7,rfl,h,h'⟩
abbrev Ir:=W->W->A5->R (W×A5)
noncomputable def Ap(b:Bool):Ir:=λx y h=>match CD 8 h x,CD 8 h y with
 |some d,↥e=>.ok (.AL (if b then eqT d e else !eqT d e),h)
 |_,_=>.bad
def ZH(Aa:F.K=X.K)(b:Bool):II F (ez X.K b) (Ap b):=by
 intro σ ρ φ h H x y GB Gq Q r a1 a2 q;unfold Ap at q
 split at q
 .rename_i d e AC AH;obtain⟨DY,Bd⟩:=b5 r.hd 8 AC a1;obtain⟨Fe,Co⟩:=b5 r.hd 8 AH a2;rw[Aa]at DY Fe;exact⟨d,e,DY,Fe,Bd,Co,q _ φ H r (Ah.refl _ _) (NZ _)⟩
 .exact q.elim
noncomputable def a6(b:Bool):Ir:=λx y h=>match CD 7 h x,CD 8 h y with
 |some d,↥(.Cg _ ds)=>.ok (.AL (if b then ds.any (λy=>eqT y d)else !ds.any λy=>eqT y d),h)
 |_,_=>.bad
def abe(Aa:F.K=X.K)(b:Bool):II F (b3 X.K b) (a6 b):=by
 intro σ ρ φ h H x y GB Gq Q r a1 a2 q;unfold a6 at q
 split at q
 .rename_i d t ds AC AH;obtain⟨DY,Bd⟩:=b5 r.hd 7 AC a1;obtain⟨Fe,Co⟩:=b5 r.hd 8 AH a2;rw[Aa]at DY Fe;exact⟨d,t,ds,DY,Fe,Bd,Co,q _ φ H r (Ah.refl _ _) (NZ _)⟩
 .exact q.elim
noncomputable def Kn(f:Int->Int->Option W):Ir:=λx y h=>match x,y with
 |.int i,.int j=>match f i j with
  |some w=>.ok (w,h)
  |none=>.bad
 |_,_=>.bad
def Lp{g:Int->Int->V}{f:Int->Int->W}(e:∀i j K φ H,AW K φ H (f i j) (g i j)):II F (LM g) (Kn λi j=>↥(f i j)):=by
 intro σ ρ φ h H x y GB Gq Q r a1 a2 q;unfold Kn at q
 split at q
 .rename_i i j;erw[AW]at a1 a2;exact⟨i,j,a1,a2,q _ φ H r (Ah.refl _ _) (e _ _ _ _ _)⟩
 .exact q.elim
def ZJ{C:Int->Int->Prop}[∀i j,Decidable (C i j)]{g:Int->Int->V}{f:Int->Int->W}(e:∀i j K φ H,AW K φ H (f i j) (g i j)):II F (IS C g) (Kn λi j=>if C i j then↥(f i j)else none):=by
 intro σ ρ φ h H x y GB Gq Q r a1 a2 q;unfold Kn at q
 split at q
 .rename_i i j;erw[AW]at a1 a2;dsimp only at q
  split at q
  .rename_i w hw
   split at hw
   .rename_i AI;cases hw;exact⟨i,j,a1,a2,AI,q _ φ H r (Ah.refl _ _) (e _ _ _ _ _)⟩
   .cases hw
  .exact q.elim
 .exact q.elim
instance(i j:Int):Decidable (SX i j):=by unfold SX;infer_instance
instance(i j:Int):Decidable (L6 i j):=by unfold L6;infer_instance
instance(i j:Int):Decidable (OL i j):=by unfold OL;infer_instance
def Nf:=Kn λi j=>↥(.int (i-j))
noncomputable def CT:=Kn λi j=>if SX i j then↥(.int (i/j))else none
noncomputable def BK:=Kn λi j=>if 0<j then↥(.int (i%j))else none
noncomputable def Oy:=Kn λi j=>if OL i j then↥(.int (i^j.toNat))else none
def Jf:=Kn λi j=>↥(.AL (decide (i<j)))
def HL:=Kn λi j=>↥(.AL (decide (i<=j)))
def Kl:=Kn λi j=>↥(.AL (decide (j<i)))
def cn:=Kn λi j=>↥(.AL (decide (j<=i)))
noncomputable def afG:=Kn λi j=>if 0<=j then↥(.int (i/2^j.toNat))else none
def sv:=Kn λi j=>↥(.int (Builtin.bitAnd i j))
noncomputable def LV(h:A5):W->Option (Nat×↑W)
 |.ref n=>match h[n]? with
  |some ⟨.lst,ws⟩=>↥(n,ws)
  |_=>none
 |_=>none
def Q3(d:DB K φ h H){w:W}{v:V}{n:Nat}{ws:↑W}(a:AW K φ H w v)(e:LV h w=↥(n,ws)):∃p xs,v=.ref p/\h[n]?=↥⟨.lst,ws⟩/\φ[n]?=↥p/\H p=↥(.lst xs)/\Ao K φ H ws xs:=by
 unfold LV at e
 split at e
 .split at e
  .rename_i Ay;cases e;obtain⟨p,xs,rfl,BW,q,r⟩:=d.at Ay a;exact⟨p,xs,rfl,Ay,BW,q,r⟩
  .cases e
 .cases e
noncomputable def addW:Ir:=λx y h=>match x,y with
 |.int i,.int j=>.ok (.int (i+j),h)
 |.str a,.str b=>if ⇑a+⇑b<=At then .ok (.str (a++b),h)else .bad
 |.tup a,y=>match E2 h y with
  |some (true,b)=>if a≠[]/\ ⇑a+⇑b<=At then .ok (.tup (a++b),h)else .bad
  |_=>.bad
 |x,y=>match LV h x,LV h y with
  |some (_,a),↥(_,b)=>nw .lst (a++b) h
  |_,_=>.bad
noncomputable def m7(K:As):En:=λx y H Q=>LM (λi j=>.int (i+j)) x y H Q\/(∃i j,x=.str i/\y=.str j/\ ⇑i+⇑j<=CL/\Q (.str (i++j)) H)\/mB K x y H Q\/mA x y H Q
def abO:Do X (Jj .Add) (m7 X.K):=abN.or (abP.or (abS.or abR))
def big{n:Nat}(h:n<=At):n<=CL:=Im h ε
def aba(Aa:F.K=X.K):II F (m7 X.K) addW:=by
 intro σ ρ φ h H x y GB Gq Q r a1 a2 q;unfold addW at q
 split at q
 .rename_i i j;erw[AW]at a1 a2;exact .inl ⟨i,j,a1,a2,q _ φ H r (Ah.refl _ _) (by erw[AW])⟩
 .rename_i i j;erw[AW]at a1 a2
  split at q
  .rename_i AG;exact .inr (.inl ⟨i,j,a1,a2,big AG,q _ φ H r (Ah.refl _ _) (by erw[AW])⟩)
  .exact q.elim
 .rename_i ws;erw[AW]at a1;obtain⟨p,xs,rfl,AF,BX⟩:=a1
  split at q
  .rename_i b BI;obtain⟨Cv,ys,rfl,A4,rb⟩:=J6 r.hd a2 BI;rw[Aa]at A4
   split at q
   .rename_i AG;refine .inr (.inr (.inl ⟨p,Cv,xs,ys,rfl,rfl,.inl (.inl AF),A4,λz=>AG.1 ?_,by rw[<- ⇑BX,<- ⇑rb];exact big AG.2,λz=>?_,λ_ FK AV=>?_⟩))
    .have:=⇑BX;rw[z]at this;exact ra this
    .subst z;have:=⇑rb;have:b=[]:=ra this;subst this;exact q _ φ H r (Ah.refl _ _) (by erw[AW,Io];exact⟨p,xs,rfl,AF,BX⟩)
    .exact q _ φ _ (r.to (r.hd.lay AV) (Ah.lay AV)) (Ah.lay AV) (by erw[AW];exact⟨FK,_,rfl,E3,(BX.append rb).ex (Ah.lay AV)⟩)
   .exact q.elim
  .exact q.elim
 .split at q
  .rename_i na a nb b AC AH;obtain⟨p,xs,rfl,_,_,AF,BX⟩:=Q3 r.hd a1 AC;obtain⟨Cv,ys,rfl,_,_,A4,rb⟩:=Q3 r.hd a2 AH;have U6:=BX.append rb;refine .inr (.inr (.inr ⟨p,Cv,xs,ys,rfl,rfl,AF,A4,?_,λFK AV=>Ov r q AV E3 U6⟩));have:=fL q;rw[⇑U6,Em]at this;exact big this
  .exact q.elim
noncomputable def KJ:Ir:=λx y h=>match x,y with
 |.int i,.int j=>if L6 i j then .ok (.int (i*j),h)else .bad
 |x,.int k=>match LV h x with
  |some (_,a)=>if-(2^63)<=k/\k<2^63 then nw .lst (GR k.toNat a).flatten h else .bad
  |none=>.bad
 |_,_=>.bad
theorem Ao.rep{ws:↑W}{xs:↑V}(a:Ao K φ H ws xs):∀k:Nat,Ao K φ H (GR k ws).flatten (GR k xs).flatten
 |0=>(Ao.nil:)
 |k+1=>by rw[QY,QY,PL,PL];exact a.append (a.rep k)
def abl:II F (λx y H Q=>IS L6 (λi j=>.int (i*j)) x y H Q\/mL x y H Q) KJ:=by
 intro σ ρ φ h H x y GB Gq Q r a1 a2 q;unfold KJ at q
 split at q
 .rename_i i j;erw[AW]at a1 a2
  split at q
  .rename_i AI;exact .inl ⟨i,j,a1,a2,AI,q _ φ H r (Ah.refl _ _) (by erw[AW])⟩
  .exact q.elim
 .rename_i k _;erw[AW]at a2
  split at q
  .rename_i a AC;obtain⟨p,xs,rfl,_,_,AF,BX⟩:=Q3 r.hd a1 AC
   split at q
   .rename_i AP;have KO:=BX.rep k.toNat;refine .inr ⟨p,k,xs,rfl,a2,AF,AP.1,AP.2,?_,λFK AV=>Ov r q AV E3 KO⟩;have:=fL q;rw[⇑KO,len_rep]at this;rw[Nat.mul_comm];exact big this
   .exact q.elim
  .exact q.elim
 .exact q.elim
def O0:W->Bool
 |.non=>true
 |_=>false
noncomputable def EZ(b:Bool):Ir:=λx y h=>match y with
 |.non=>.ok (.AL (if b then O0 x else !O0 x),h)
 |_=>.bad
def yv{w:W}{x:V}(a:AW K φ H w x):O0 w=decide (x=.non):=by
 cases w<;>erw[AW,O0]at a |-<;>first
  |(subst a;rfl)
  |(subst a;simp;done)
  |(obtain⟨_,_,rfl,_⟩:=a;simp;done)
  |(obtain⟨_,rfl,_⟩:=a;simp;done)
def ZK(b:Bool):II F (λx y H Q=>y=.non/\Q (.AL (if b then decide (x=.non)else !decide (x=.non))) H) (EZ b):=by
 intro σ ρ φ h H x y GB Gq Q r a1 a2 q;unfold EZ at q
 split at q
 .erw[AW]at a2;rw[yv a1]at q;exact⟨a2,q _ φ H r (Ah.refl _ _) (NZ _)⟩
 .exact q.elim
noncomputable def Py:Ir:=λx y h=>match y with
 |.int i=>match x with
  |.str z=>if ⇑z<=At then match JY z.cps.toList i with
      |some c=>.ok (.str ⟨#[c]⟩,h)
      |none=>.bad
   else .bad
  |x=>match E2 h x with
   |some (_,ws)=>match JY ws i with
    |some w=>.ok (w,h)
    |none=>.bad
   |none=>.bad
 |_=>.bad
def sy{ws:↑W}{xs:↑V}{i:Int}{w:W}(a:Ao K φ H ws xs)(e:JY ws i=↥w):∃v,JY xs i=↥v/\AW K φ H w v:=by
 unfold JY at e |-;rw[<- ⇑a];cases Am:M8 ⇑ws i with
 |none=>rw[Am]at e;cases e
 |some j=>rw[Am]at e;exact a.get e
def abf(Aa:F.K=X.K):II F (f5 X.K) Py:=by
 intro σ ρ φ h H x y GB Gq Q r a1 a2 q;unfold Py at q
 split at q
 .rename_i i;erw[AW]at a2;subst a2
  split at q
  .rename_i z;erw[AW]at a1
   split at q
   .rename_i AG
    split at q
    .rename_i c ec;exact .inr (.inr ⟨z,i,c,a1,rfl,big AG,ec,q _ φ H r (Ah.refl _ _) (by erw[AW])⟩)
    .exact q.elim
   .exact q.elim
  .split at q
   .rename_i t ws es;obtain⟨p,xs,rfl,AY,BX⟩:=J6 r.hd a1 es;rw[Aa]at AY
    split at q
    .rename_i w C_;obtain⟨v,ev,EH⟩:=sy BX C_;have q:=q v φ H r (Ah.refl _ _) EH;cases t with
     |true=>exact .inr (.inl ⟨p,xs,i,v,rfl,rfl,AY,ev,q⟩)
     |false=>exact .inl ⟨p,xs,i,v,rfl,rfl,AY,ev,q⟩
    .exact q.elim
   .exact q.elim
 .exact q.elim
end
abbrev L9:=↑W->A5->R (W×A5)
def B6(f:L9)(m:EP):B7:=bd m λws _ h=>f ws h
section
variable{K:As}{φ:↑A6}{h:A5}{H:AE}{F:D2}{σ :St}{ρ:B9}{X:Ar}{ma:EP}
noncomputable def OM(F:D2)(r:↑V->AE->CR->Prop)(f:L9):Prop:=∀ σ ρ φ h H xs ws Q,Rel F φ h H σ ρ->Ao F.K φ H ws xs->D5 AW F φ H σ ρ Q (f ws h)->r xs H Q
def Pw{r:↑V->AE->CR->Prop}{f:L9}(hf:OM F r f):FR (C8 F (B6 f ma)) (WS r (Ge F ma)):=λσ H Q q=>
 q.bd λws xs φ ρ h H1 r as q=>hf σ ρ φ h H1 xs ws Q r as q
noncomputable def Be:L9:=λws h=>match ws with
 |[.str x]=>if ⇑x<=At then .ok (.int ⇑x,h)else .bad
 |[w]=>match E2 h w with
  |some (_,us)=>.ok (.int ⇑us,h)
  |none=>.bad
 |_=>.bad
def abi(Aa:F.K=X.K):OM F (λxs H Q=>∃x n,xs=[x]/\hW X.K x H n/\Q (.int n) H) Be:=by
 intro σ ρ φ h H xs ws Q r as q;unfold Be at q
 split at q
 .rename_i x;obtain⟨v,rfl,a⟩:=as.one;erw[AW]at a;subst a
  split at q
  .rename_i AG;exact⟨_,⇑x,rfl,⟨big AG,rfl⟩,q _ φ H r (Ah.refl _ _) (by erw[AW])⟩
  .exact q.elim
 .obtain⟨v,rfl,a⟩:=as.one
  split at q
  .rename_i t us es;obtain⟨p,xs,rfl,AY,BX⟩:=J6 r.hd a es;rw[Aa]at AY;rw[⇑BX]at q;refine⟨_,⇑xs,rfl,?_,q _ φ H r (Ah.refl _ _) (by erw[AW])⟩;cases t with
   |true=>exact .inr ⟨xs,AY,rfl⟩
   |false=>exact .inl ⟨xs,AY,rfl⟩
  .exact q.elim
 .exact q.elim
noncomputable def FA:L9:=λws h=>match ws with
 |[w]=>match E2 h w with
  |some (_,us)=>nw .lst us h
  |none=>.bad
 |_=>.bad
def abj(Aa:F.K=X.K):OM F (λxs H Q=>∃p ys,xs=[.ref p]/\(EV X.K H p ys\/EW X.K H p ys)/\∀l,H l=none->Q (.ref l) (upd H l (.lst ys))) FA:=by
 intro σ ρ φ h H xs ws Q r as q;unfold FA at q
 split at q
 .obtain⟨v,rfl,a⟩:=as.one
  split at q
  .rename_i t us es;obtain⟨p,xs,rfl,AY,BX⟩:=J6 r.hd a es;rw[Aa]at AY;refine⟨p,xs,rfl,?_,λl AG=>Ov r q AG E3 BX⟩;cases t with
   |true=>exact .inr AY
   |false=>exact .inl AY
  .exact q.elim
 .exact q.elim
noncomputable def OU:L9:=λws h=>match ws with
 |[w]=>match E2 h w with
  |some (false,us)=>.ok (.tup us,h)
  |some (true,_)=>.ok (w,h)
  |none=>.bad
 |_=>.bad
def abq(Aa:F.K=X.K):OM F (λxs H Q=>∃p ys,xs=[.ref p]/\((EV X.K H p ys/\∀l,H l=none->Q (.ref l) (upd H l (.tup ys)))\/(EW X.K H p ys/\Q (.ref p) H))) OU:=by
 intro σ ρ φ h H xs ws Q r as q;unfold OU at q
 split at q
 .obtain⟨v,rfl,a⟩:=as.one
  split at q
  .rename_i us es;obtain⟨p,xs,rfl,AY,BX⟩:=J6 r.hd a es;rw[Aa]at AY;exact⟨p,xs,rfl,.inl ⟨AY,λl AG=>q _ φ _ (r.to (r.hd.lay AG) (Ah.lay AG)) (Ah.lay AG) (by erw[AW];exact⟨l,_,rfl,E3,BX.ex (Ah.lay AG)⟩)⟩⟩
  .rename_i us es;obtain⟨p,xs,rfl,AY,BX⟩:=J6 r.hd a es;rw[Aa]at AY;exact⟨p,xs,rfl,.inr ⟨AY,q _ φ H r (Ah.refl _ _) a⟩⟩
  .exact q.elim
 .exact q.elim
noncomputable def QO:L9:=λws h=>match ws with
 |[.int i]=>if i.natAbs.log2<1920 then .ok (.str (toString i),h)else .bad
 |_=>.bad
def abo:OM F (λxs H Q=>∃i,xs=[.int i]/\i.natAbs.log2<1920/\Q (.str (toString i)) H) QO:=by
 intro σ ρ φ h H xs ws Q r as q;unfold QO at q
 split at q
 .rename_i i;obtain⟨v,rfl,a⟩:=as.one;erw[AW]at a;subst a
  split at q
  .rename_i AG;exact⟨i,rfl,AG,q _ φ H r (Ah.refl _ _) (by erw[AW])⟩
  .exact q.elim
 .exact q.elim
noncomputable def Rw:L9:=λws h=>match ws with
 |[.int i]=>.ok (.int i,h)
 |[.AL b]=>.ok (.int (if b then 1 else 0),h)
 |_=>.bad
def abp:OM F (λxs H Q=>(∃i,xs=[.int i]/\Q (.int i) H)\/∃k,xs=[.AL k]/\Q (.int (if k then 1 else 0)) H) Rw:=by
 intro σ ρ φ h H xs ws Q r as q;unfold Rw at q
 split at q
 .rename_i i;obtain⟨v,rfl,a⟩:=as.one;erw[AW]at a;subst a;exact .inl ⟨i,rfl,q _ φ H r (Ah.refl _ _) (by erw[AW])⟩
 .rename_i i;obtain⟨v,rfl,a⟩:=as.one;erw[AW]at a;subst a;exact .inr ⟨i,rfl,q _ φ H r (Ah.refl _ _) (by erw[AW])⟩
 .exact q.elim
noncomputable def MI(h:A5):W->Option String
 |.non=>some "NoneType"
 |.AL _=>some "bool"
 |.int _=>some "int"
 |.str _=>some "str"
 |.tup _=>some "tuple"
 |.I6 _=>some "tuple"
 |.ref n=>match h[n]? with
  |some ⟨.lst,_⟩=>some "list"
  |some ⟨.Ak _,_⟩=>some "dict"
  |some ⟨.Dy _,_⟩=>some "dict"
  |_=>none
 |_=>none
noncomputable def fu(T U:String):Bool:=T==U||(T=="bool"&&U=="int")
noncomputable def bU(K:As)(U:String):Prop:=∀T,T="NoneType"\/T="bool"\/T="int"\/T="str"\/T="list"\/T="tuple"\/T="dict"->XZ K (.type T) (.type U)=↥(fu T U)
def W1(K:As){U:String}(h:U="int"\/U="bool"\/U="str"\/U="list"\/U="tuple"\/U="dict"):bU K U:=λT t=>by rcases h with rfl|rfl|rfl|rfl|rfl|rfl<;>rcases t with rfl|rfl|rfl|rfl|rfl|rfl|rfl<;>kernel_rfl
def agA{w:W}{T:String}(e:MI h w=↥T):T="NoneType"\/T="bool"\/T="int"\/T="str"\/T="list"\/T="tuple"\/T="dict":=by
 unfold MI at e
 split at e<;>first
  |(cases e;simp;done)
  |(split at e<;>first|(cases e;simp;done)|(cases e;done))
  |(cases e;done)
def yx{A3:ν}{s:AQ}{Q:A7->AQ->Prop}{E:A7->AQ->Prop}{w:W}{x:V}{u:A7}{T U:String}{k:Bool}(J:θ)(d:DB X.K φ h H)(a:AW X.K φ H w x)(Az:RelV x u)(e:MI h w=↥T)(tt:XZ X.K (.type T) (.type U)=↥k)(AY:∀CW,Q (.bool k) { s with toks:=CW }):An ο X.A (call (.builtin "isinstance") [u,.type U]) Q E s:=by
 have QS:∀{p:A6}{xs:↑V},EW X.K H p xs->XZ X.K (.type "tuple") (.type U)=↥k->An ο X.A (call (.builtin "isinstance") [.ref p,.type U]) Q E s:=λAO tt=>by obtain⟨its,_,⟨o,AC,AH,_⟩,_⟩:=J.tuple AO;exact JE ri J.F9 ⟨o,AC,AH⟩ tt (λz=>nomatch z) AY
 unfold MI at e
 split at e
 .cases e;erw[AW]at a;subst a;cases Az;exact JE sI J.F9 Hz tt (λz=>nomatch z) AY
 .cases e;erw[AW]at a;subst a;cases Az;exact JE sJ J.F9 Hz tt (λz=>nomatch z) AY
 .cases e;erw[AW]at a;subst a;obtain⟨t,rfl⟩:=Az;exact JE PySem.W.kitx_int J.F9 Hz tt (λz=>nomatch z) AY
 .cases e;erw[AW]at a;subst a;obtain⟨t,rfl⟩:=Az;exact JE PySem.W.kitx_str J.F9 Hz tt (λz=>nomatch z) AY
 .cases e;erw[AW]at a;obtain⟨p,xs,rfl,AO,_⟩:=a;cases Az;exact QS (.inl (.inl AO)) tt
 .cases e;erw[AW]at a;obtain⟨p,xs,rfl,AO,_⟩:=a;cases Az;exact QS AO tt
 .split at e
  .rename_i Ay;cases e;obtain⟨p,xs,rfl,_,AO,_⟩:=d.at Ay a;cases Az;exact dc (x:=.ref p) J rfl (.lst AO) tt AY
  .rename_i Ay;cases e;obtain⟨p,xs,rfl,_,⟨A8,AO,_⟩,_⟩:=d.at Ay a;cases Az;exact dc (x:=.ref p) J rfl (.Ak AO) tt AY
  .rename_i Ay;cases e;obtain⟨p,xs,rfl,_,⟨A8,AO,_⟩,_⟩:=d.at Ay a;cases Az;exact dc (x:=.ref p) J rfl (.Dy AO) tt AY
  .cases e
 .cases e
noncomputable def mD(K:As)(U:String):↑V->AE->CR->Prop:=λxs H Q=>∃φ h w x T,DB K φ h H/\xs=[x,.ty U]/\AW K φ H w x/\MI h w=↥T/\Q (.AL (fu T U)) H
def tX{U:String}(tt:bU X.K U):JU X (.builtin "isinstance") (mD X.K U):=by intro A3 s σ H xs us Q J r h;obtain⟨φ,hh,w,x,T,d,rfl,a,e,q⟩:=h;obtain⟨u,CZ,rfl,Az,Fj⟩:=vals2 r;obtain rfl:CZ=O7 U:=Fj;exact yx J d a Az e (tt T (agA e)) λCW=>⟨.AL _,H,J.tok CW,rfl,q⟩
noncomputable def DQ(U:String):W->A5->R (W×A5):=λw h=>match MI h w with
 |some T=>.ok (.AL (fu T U),h)
 |none=>.bad
def zH{U:String}{m:B7}(Aa:F.K=X.K):FR (C8 F (Aw (DQ U) m)) (WS (mD X.K U) (aU (C8 F m) (aU (OS (.ty U)) aY))):=λσ H Q q=>
 q.bd λw v φ ρ h H1 r a q=>by
   unfold DQ at q
   split at q
   .rename_i T uW;have GT:=a;have d:=r.hd;rw[Aa]at GT d;exact⟨φ,h,w,v,T,d,rfl,GT,uW,q _ φ H1 r (Ah.refl _ _) (NZ _)⟩
   .exact q.elim
noncomputable def bools:↑W->Option ↑Bool
 |[]=>some []
 |.AL b::ws=>(bools ws).map (b::·)
 |_=>none
theorem i0:∀{ws:↑W}{xs:↑V}{bs:↑Bool},bools ws=↥bs->Ao K φ H ws xs->xs=bs.map V.AL
 |[],_,_,e,a=>by erw[bools]at e;cases e;erw[Ao]at a;exact a
 |w::ws,_,_,e,a=>by
  erw[Ao]at a;obtain⟨v,r,rfl,a1,a2⟩:=a;cases w<;>erw[bools]at e<;>try (cases e;done)
  rename_i b;cases AH:bools ws with
  |none=>rw[AH]at e;cases e
  |some bs=>rw[AH]at e;cases e;erw[AW]at a1;rw[a1,i0 AH a2];rfl
noncomputable def HM(all:Bool):L9:=λws h=>match ws with
 |[w]=>match E2 h w with
  |some (false,us)=>match bools us with
   |some bs=>.ok (.AL (if all then bs.all id else bs.any id),h)
   |none=>.bad
  |_=>.bad
 |_=>.bad
def abm(Aa:F.K=X.K)(b:Bool):OM F (λxs H Q=>∃(p:A6)(bs:↑Bool),xs=[.ref p]/\EV X.K H p (bs.map V.AL)/\Q (.AL (if b then bs.all id else bs.any id)) H) (HM b):=by
 intro σ ρ φ h H xs ws Q r as q;unfold HM at q
 split at q
 .obtain⟨v,rfl,a⟩:=as.one
  split at q
  .rename_i us es;obtain⟨p,xs,rfl,AY,BX⟩:=J6 r.hd a es
   split at q
   .rename_i bs BI;have:=i0 BI BX;subst this;rw[Aa]at AY;exact⟨p,bs,rfl,AY,q _ φ H r (Ah.refl _ _) (NZ _)⟩
   .exact q.elim
  .exact q.elim
 .exact q.elim
abbrev RV:=M (Option Int)
noncomputable def adq(_:As)(_:↑A6)(_:AE)(a b:Option Int):Prop:=b=a
abbrev W0(F:D2)(m:RV):Se:=LP adq F m
noncomputable def CM(m:B7):RV:=bd m λw=>match w with
 |.int i=>pu ↥i
 |_=>λ_ _=>.bad
def zK:∀ σ H Q,W0 F (pu none) σ H Q->r2 σ H Q:=λσ H Q q=>let⟨φ,ρ,h,r,q⟩:=q;q none φ H r (Ah.refl _ _) rfl
def yX{m:B7}:∀ σ H Q,W0 F (CM m) σ H Q->r7 (C8 F m) σ H Q:=λσ H Q q=>
 q.bd λw v φ ρ h H1 r a q=>by
   cases w with
   |int i=>erw[AW]at a;exact⟨i,a,q _ φ H1 r (Ah.refl _ _) rfl⟩
   |_=>cases q
noncomputable def HI(ws:↑W)(lo AD:Option Int):↑W:=(ws.drop (E6.Cf ⇑ws 0 lo)).take (E6.Cf ⇑ws ⇑ws AD-E6.Cf ⇑ws 0 lo)
def Ao.cut{ws:↑W}{xs:↑V}(a:Ao K φ H ws xs)(lo AD:Option Int):Ao K φ H (HI ws lo AD) (Pj xs lo AD):=by unfold HI Pj;rw[⇑a];exact(a.drop _).take _
noncomputable def Lu(w:W)(lo AD:Option Int):M W:=λ_ h=>match E2 h w with
 |some (false,ws)=>nw .lst (HI ws lo AD) h
 |some (true,ws)=>if E6.Cf ⇑ws 0 lo=0/\E6.Cf ⇑ws ⇑ws AD=⇑ws then .bad else .ok (.tup (HI ws lo AD),h)
 |none=>.bad
noncomputable def DI(m:B7)(lo AD:RV):B7:=bd m λw=>bd lo λl=>bd AD λu=>Lu w l u
def yd(Aa:F.K=X.K){m:B7}{lo AD:RV}:FR (C8 F (DI m lo AD)) (rC (λx lo AD H Q=>mO X.K x lo AD H Q\/lb X.K x lo AD H Q) (C8 F m) (W0 F lo) (W0 F AD)):=λσ H Q q=>
 q.bd λw v φ ρ h H1 r a q=>⟨φ,ρ,h,r,q.bd λl Mg CJ h2 AU BJ x2 e q=>by
   cases e;exact⟨CJ,ρ,h2,BJ,q.bd λu JR K9 BO Bv Fi x3 e q=>by
    cases e;have a:=a.ex (x2.trans x3);unfold Lu at q
    split at q
    .rename_i ws es;obtain⟨p,xs,rfl,AY,BX⟩:=J6 Fi.hd a es;rw[Aa]at AY;exact .inl ⟨p,xs,rfl,AY,λFK AV=>Ov Fi q AV E3 (BX.cut l u)⟩
    .rename_i ws es;obtain⟨p,xs,rfl,AY,BX⟩:=J6 Fi.hd a es;rw[Aa]at AY
     split at q
     .exact q.elim
     .rename_i AZ;rw[⇑BX]at AZ;exact .inr ⟨p,xs,rfl,AY,AZ,λFK AV=>q _ K9 _ (Fi.to (Fi.hd.lay AV) (Ah.lay AV)) (Ah.lay AV) (by erw[AW];exact⟨FK,_,rfl,E3,(BX.cut l u).ex (Ah.lay AV)⟩)⟩
    .exact q.elim⟩⟩
end
section
variable{K:As}{φ:↑A6}{h:A5}{H:AE}{F:D2}{σ :St}{ρ:B9}{X:Ar}{ma:EP}{m:B7}
abbrev NK:=↑W->↑W->Option (W×↑W)
noncomputable def ZY(f:NK)(w:W)(us:↑W):B7:=λ_ h=>match LV h w with
 |some (n,ws)=>match f ws us with
  |some (r,ws')=>if ⇑ws'<=At then .ok (r,h.set n ⟨.lst,ws'⟩)else .bad
  |none=>.bad
 |none=>.bad
noncomputable def aA{α:Type}(w:W)(m:M α):M α:=λρ h=>match LV h w with
 |some _=>m ρ h
 |none=>.bad
noncomputable def D6(f:NK)(o:B7)(ma:EP):B7:=bd o λw=>aA w (bd ma λus=>ZY f w us)
def ZZ{n:Nat}{p:A6}{ws ws':↑W}{xs Tt:↑V}{r:W}{v:V}{Q:CR}(KN:Rel F φ h H σ ρ)(Ay:h[n]?=↥⟨.lst,ws⟩)(Aq:φ[n]?=↥p)(AV:H p=↥(.lst xs))(BX:Ao F.K φ H ws' Tt)(C0:AW F.K φ H r v)(q:D5 AW F φ H σ ρ Q (.ok (r,h.set n ⟨.lst,ws'⟩))):Q v (upd H p (.lst Tt)):=by have x:Ah φ H φ (upd H p (.lst Tt)):=Ah.put AV λz=>z;exact q v φ _ (KN.to (KN.hd.put Ay Aq AV (λz=>z) (o':=⟨.lst,ws'⟩) E3 BX) x) x (C0.ex x)
noncomputable def Ux(F:D2)(r:V->↑V->AE->CR->Prop)(f:NK):Prop:=∀ σ ρ φ h H n p ws us xs vs Q CZ ws',Rel F φ h H σ ρ->h[n]?=↥⟨.lst,ws⟩->φ[n]?=↥p->H p=↥(.lst xs)->Ao F.K φ H ws xs->Ao F.K φ H us vs->f ws us=↥(CZ,ws')->⇑ws'<=At->D5 AW F φ H σ ρ Q (.ok (CZ,h.set n ⟨.lst,ws'⟩))->r (.ref p) vs H Q
def eJ(Aa:F.K=X.K){r:V->↑V->AE->CR->Prop}{f:NK}(hf:Ux F r f):FR (C8 F (D6 f m ma)) (pE X.K "list" r (C8 F m) (Ge F ma)):=λσ H Q q=>
 q.bd λw v φ ρ h H1 KN a q=>by
   unfold aA at q
   split at q
   .rename_i nw e;obtain⟨n,ws⟩:=nw;obtain⟨p,xs,rfl,Ay,Aq,AV,BX⟩:=Q3 KN.hd a e;refine⟨.inl ⟨rfl,xs,.inl (.inl AV)⟩,φ,ρ,h,KN,q.bd λus vs CJ h2 AU BJ x2 as q=>?_⟩;unfold ZY at q
    split at q
    .rename_i FZ ws2 AH;obtain⟨Cv,agU,Nr,uc,uh,VM,U6⟩:=Q3 BJ.hd (a.ex x2) AH;cases Nr
     split at q
     .rename_i CZ ws' CI
      split at q
      .rename_i AG;exact hf σ ρ CJ h2 AU FZ p ws2 us agU vs Q CZ ws' BJ uc uh VM U6 as CI AG q
      .exact q.elim
     .exact q.elim
    .exact q.elim
   .exact q.elim
def jn(Aa:F.K=X.K){r:V->↑V->AE->CR->Prop}{f:NK}(hf:Ux F r f):FR (C8 F (D6 f m A1)) (pF X.K "list" r (C8 F m)):=λσ H Q q=>by have z:=eJ (X:=X) Aa hf (m:=m) (ma:=A1) σ H Q q;obtain⟨φ,ρ,h,r,z⟩:=z;refine⟨φ,ρ,h,r,z.imp λv H1⟨ty,φ,ρ,h,r,z⟩=>⟨ty,z [] φ H1 r (Ah.refl _ _) .nil⟩⟩
noncomputable def DK:NK:=λws us=>match us with
 |[w]=>↥(.non,ws++[w])
 |_=>none
def eR:AW K φ H .non .non:=by erw[AW]
def abb:Ux F m8 DK:=by
 intro σ ρ φ h H n p ws us xs vs Q CZ ws' KN Ay Aq AV BX as CI AG q;unfold DK at CI
 split at CI
 .cases CI;obtain⟨v,rfl,EH⟩:=as.one;rw[Em,⇑BX]at AG;exact⟨p,xs,v,rfl,rfl,AV,GD (Nat.lt_of_succ_le AG) ε,ZZ KN Ay Aq AV (BX.append (.cons EH .nil)) eR q⟩
 .cases CI
noncomputable def JK:NK:=λws us=>match us with
 |[]=>(ws[⇑ws-1]?).map λw=>(w,ws.dropLast)
 |[.int i]=>if-(2^63)<=i/\i<2^63 then match SK i ⇑ws with
    |some k=>(ws[k]?).map λw=>(w,ws.eraseIdx k)
    |none=>none
  else none
 |_=>none
def Ao.erase{ws:↑W}{xs:↑V}(a:Ao K φ H ws xs)(k:Nat):Ao K φ H (ws.eraseIdx k) (xs.eraseIdx k):=by rw[rL,rL];exact(a.take k).append (a.drop (k+1))
theorem Ao.dropLast{ws:↑W}{xs:↑V}(a:Ao K φ H ws xs):Ao K φ H ws.dropLast xs.dropLast:=by rw[ro,ro,⇑a];exact a.take _
def ko:Ux F (λx vs H Q=>mJ x vs H Q\/mK x vs H Q) JK:=by
 intro σ ρ φ h H n p ws us xs vs Q CZ ws' KN Ay Aq AV BX as CI AG q;unfold JK at CI
 split at CI
 .erw[Ao]at as;subst as;cases e:ws[⇑ws-1]? with
  |none=>rw[e]at CI;cases CI
  |some w=>rw[e]at CI;cases CI;obtain⟨v,ev,EH⟩:=BX.get e;rw[⇑BX]at ev;exact .inl ⟨p,xs,v,rfl,rfl,AV,ev,ZZ KN Ay Aq AV BX.dropLast EH q⟩
 .rename_i i;obtain⟨v,rfl,EH⟩:=as.one;erw[AW]at EH;subst EH
  split at CI
  .rename_i AD
   split at CI
   .rename_i k DH;cases e:ws[k]? with
    |none=>rw[e]at CI;cases CI
    |some w=>rw[e]at CI;cases CI;obtain⟨v,ev,EH⟩:=BX.get e;rw[⇑BX]at DH;exact .inr ⟨p,xs,i,k,v,rfl,rfl,AV,AD.1,AD.2,DH,ev,ZZ KN Ay Aq AV (BX.erase k) EH q⟩
   .cases CI
  .cases CI
 .cases CI
noncomputable def Vg:NK:=λ_ us=>match us with
 |[]=>↥(.non,[])
 |_=>none
def abd:Ux F mC Vg:=by
 intro σ ρ φ h H n p ws us xs vs Q CZ ws' KN Ay Aq AV BX as CI AG q;unfold Vg at CI
 split at CI
 .cases CI;erw[Ao]at as;subst as;exact⟨p,xs,rfl,rfl,AV,ZZ KN Ay Aq AV .nil eR q⟩
 .cases CI
noncomputable def b0(o i v:W):Ai:=λρ h=>match LV h o,i with
 |some (n,ws),.int k=>match M8 ⇑ws k with
  |some j=>.ok (.AR ρ,h.set n ⟨.lst,ws.set j v⟩)
  |none=>.bad
 |_,_=>.bad
noncomputable def SV(o i:B7):DG:=λv=>bd o λWF=>bd i λjy=>b0 WF jy v
def yY{o i:B7}:Y8 (MH F (SV o i)) (j4 (C8 F o) (C8 F i) mM):=by
 rintro v σ H Q ⟨φ,ρ,h,w,r,a,q⟩;refine⟨φ,ρ,h,r,E8.bd q λWF x Bw h1 H1 Av x1 EQ q=>⟨Bw,ρ,h1,Av,E8.bd q λjy y CJ h2 AU BJ x2 Gi q=>?_⟩⟩;unfold b0 at q
 split at q
 .rename_i n ws k e;obtain⟨p,xs,rfl,Ay,Aq,AV,BX⟩:=Q3 BJ.hd (EQ.ex x2) e;erw[AW]at Gi
  split at q
  .rename_i j GW;have AH:Ah CJ AU CJ (upd AU p (.lst (xs.set j v))):=Ah.put AV λz=>z;rw[⇑BX]at GW;exact⟨p,xs,k,j,rfl,Gi,AV,GW,q σ CJ _ (BJ.to (BJ.hd.put Ay Aq AV (λz=>z) (o':=⟨.lst,ws.set j w⟩) E3 (BX.set (a.ex (x1.trans x2)) j)) AH) AH⟩
  .exact q.elim
 .exact q.elim
noncomputable def keyOf:W->Option Key
 |.int i=>↥(.inl i)
 |.str x=>↥(.inr x)
 |_=>none
noncomputable def NX:W->Option Ew
 |.tup ws=>ws.mapM keyOf
 |_=>none
def V5{w:W}{v:V}{k:Key}(e:keyOf w=↥k)(a:AW K φ H w v):v=Cd k:=by cases w<;>erw[keyOf]at e<;>first|(cases e;done)|(cases e;erw[AW]at a;exact a)
theorem dU{α:Type}{f:W->Option α}{P:α->V->Prop}(hf:∀{w v k},f w=↥k->AW K φ H w v->P k v):∀{ws:↑W}{xs:↑V}{AJ:↑α},ws.mapM f=↥AJ->Ao K φ H ws xs->Paired P AJ xs
 |[],_,_,e,a=>by simp at e;subst e;erw[Ao]at a;subst a;exact .nil
 |w::ws,_,_,e,a=>by
  erw[Ao]at a;obtain⟨v,r,rfl,a1,a2⟩:=a;rw[Q_]at e;cases AC:f w with
  |none=>rw[AC]at e;cases e
  |some k=>
   rw[AC]at e;cases AH:ws.mapM f with
   |none=>rw[AH]at e;cases e
   |some AJ=>rw[AH]at e;cases e;exact .cons (hf AC a1) (dU hf AH a2)
theorem mW:∀{AJ:↑Key}{xs:↑V},Paired (λk v=>v=Cd k) AJ xs->xs=AJ.map Cd
 |_,_,.nil=>rfl
 |_,_,.cons e t=>by rw[e,mW t];rfl
def fI{w:W}{v:V}{k:Ew}(e:NX w=↥k)(a:AW K φ H w v):∃b,v=.ref b/\OF H k b:=by
 unfold NX at e
 split at e
 .erw[AW]at a;obtain⟨b,xs,rfl,A4,BX⟩:=a;exact⟨b,rfl,by rw[OF,A4,mW (dU V5 e BX)]⟩
 .cases e
section
variable{Br:Type}[DecidableEq Br]
noncomputable def Dg:↑Br->↑W->Br->Option W
 |k'::AJ,w::ws,k=>if k'=k then↥w else Dg AJ ws k
 |_,_,_=>none
noncomputable def N_:↑Br->↑W->Br->W->↑W
 |k'::AJ,w::ws,k,u=>(if k'=k then u else w)::N_ AJ ws k u
 |_,_,_,_=>[]
noncomputable def Nn:↑Br->↑W->Br->↑W
 |k'::AJ,w::ws,k=>if k'=k then Nn AJ ws k else w::Nn AJ ws k
 |_,_,_=>[]
noncomputable def V1(K:As)(φ:↑A6)(H:AE):Option W->Option V->Prop
 |some w,↥v=>AW K φ H w v
 |none,none=>True
 |_,_=>False
theorem Ry(k:Br):∀{A8:↑(Br×V)}{ws:↑W},Ao K φ H ws (A8.map (·.2))->V1 K φ H (Dg (A8.map (·.1)) ws k) (HV A8 k)
 |[],ws,a=>by
  have:=⇑a;cases ws with
  |nil=>simp[Dg,agL,V1]
  |cons _ _=>simp at this
 |(k',v)::A8,ws,a=>by
  cases ws with
  |nil=>have:=⇑a;simp at this
  |cons w ws=>
   erw[D9,Ao]at a;obtain⟨J7,r,e,a1,a2⟩:=a;cases e;erw[D9,Dg];by_cases AP:k'=k
   .rw[if_pos AP,Wu AP];exact a1
   .rw[if_neg AP,Wt AP];exact Ry k a2
theorem nc{k:Br}{u:W}{x:V}(b:AW K φ H u x):∀{A8:↑(Br×V)}{ws:↑W},Ao K φ H ws (A8.map (·.2))->Ao K φ H (N_ (A8.map (·.1)) ws k u) ((A8.map λBs=>if Bs.1=k then(Bs.1,x)else Bs).map (·.2))
 |[],ws,a=>by
  cases ws with
  |nil=>exact .nil
  |cons _ _=>have:=⇑a;simp at this
 |(k',v)::A8,ws,a=>by
  cases ws with
  |nil=>have:=⇑a;simp at this
  |cons w ws=>
   erw[D9,Ao]at a;obtain⟨J7,r,e,a1,a2⟩:=a;cases e;erw[D9,N_];refine .cons ?_ (nc b a2);by_cases AP:k'=k
   .rw[if_pos AP,if_pos AP];exact b
   .rw[if_neg AP,if_neg AP];exact a1
theorem jK{k:Br}:∀{A8:↑(Br×V)}{ws:↑W},Ao K φ H ws (A8.map (·.2))->Ao K φ H (Nn (A8.map (·.1)) ws k) ((N6 A8 k).map (·.2))
 |[],ws,a=>by
  cases ws with
  |nil=>exact .nil
  |cons _ _=>have:=⇑a;simp at this
 |(k',v)::A8,ws,a=>by
  cases ws with
  |nil=>have:=⇑a;simp at this
  |cons w ws=>
   erw[D9,Ao]at a;obtain⟨J7,r,e,a1,a2⟩:=a;cases e;have CC:=jK (k:=k) a2;unfold N6 at CC |-;erw[D9,Nn];by_cases AP:k'=k
   .rw[if_pos AP,List.filter_cons_of_neg (by simp[AP])];exact CC
   .rw[if_neg AP,List.filter_cons_of_pos (by simp[AP])];exact .cons a1 CC
def vI(A8:↑(Br×V))(k:Br):(N6 A8 k).map (·.1)=(A8.map (·.1)).filter λx=>decide (x≠k):=by unfold N6;rw[List.filter_map];rfl
noncomputable def Mq(AJ:↑Br)(ws:↑W)(k:Br)(w:W):↑Br×↑W:=if k∈AJ then(AJ,N_ AJ ws k w)else(AJ++[k],ws++[w])
def sx(A8:↑(Br×V))(k:Br):(A8.any λBs=>decide (Bs.1=k))=decide (k∈A8.map (·.1)):=by rw[Xe];erw[List.any_eq_true,decide_eq_true_eq,Ua]
def lz{k:Br}{u:W}{x:V}{A8:↑(Br×V)}{ws:↑W}(b:AW K φ H u x)(a:Ao K φ H ws (A8.map (·.2))):(putK A8 k x).map (·.1)=(Mq (A8.map (·.1)) ws k u).1/\Ao K φ H (Mq (A8.map (·.1)) ws k u).2 ((putK A8 k x).map (·.2)):=by
 unfold putK Mq;rw[sx];by_cases AP:k∈A8.map (·.1)
 .rw[if_pos (decide_eq_true AP),if_pos AP];refine⟨?_,nc b a⟩;rw[hC];apply SB;intro Bs _;erw[Qn]
  split<;>rfl
 .rw[if_neg (by erw[decide_eq_true_eq];exact AP),if_neg AP];exact⟨γ,by rw[I1];exact a.append (.cons b .nil)⟩
end
noncomputable def Hc(h:A5)(d k:W):Option (Option W):=match d with
 |.ref n=>match h[n]? with
  |some ⟨.Ak AJ,ws⟩=>(keyOf k).map (Dg AJ ws)
  |some ⟨.G0 AJ,ws⟩=>(keyOf k).map (Dg AJ ws)
  |some ⟨.Dy AJ,ws⟩=>(NX k).map (Dg AJ ws)
  |_=>none
 |_=>none
def YW(d:DB K φ h H){J_ kw:W}{x y:V}{o:Option W}(e:Hc h J_ kw=↥o)(EQ:AW K φ H J_ x)(Gi:AW K φ H kw y):∃a CF,x=.ref a/\JV H a y CF/\V1 K φ H o CF:=by
 unfold Hc at e
 split at e
 .split at e
  .rename_i AJ ws Ay;obtain⟨a,xs,rfl,_,⟨A8,AF,rfl,rfl⟩,BX⟩:=d.at Ay EQ;cases DH:keyOf kw with
   |none=>rw[DH]at e;cases e
   |some k=>rw[DH]at e;cases e;rw[V5 DH Gi];exact⟨a,_,rfl,JV.k AF,Ry k BX⟩
  .rename_i AJ ws Ay;obtain⟨a,xs,rfl,_,⟨o,A8,AF,rfl,rfl⟩,BX⟩:=d.at Ay EQ;cases DH:keyOf kw with
   |none=>rw[DH]at e;cases e
   |some k=>rw[DH]at e;cases e;rw[V5 DH Gi];exact⟨a,_,rfl,.inl ⟨A8,k,.inr ⟨o,AF⟩,rfl,rfl⟩,Ry k BX⟩
  .rename_i AJ ws Ay;obtain⟨a,xs,rfl,_,⟨A8,AF,rfl,rfl⟩,BX⟩:=d.at Ay EQ;cases DH:NX kw with
   |none=>rw[DH]at e;cases e
   |some k=>rw[DH]at e;cases e;obtain⟨b,rfl,tb⟩:=fI DH Gi;exact⟨a,_,rfl,JV.t AF tb,Ry k BX⟩
  .cases e
 .cases e
noncomputable def dJ:Ir:=λd k h=>match Hc h d k with
 |some ↥w=>.ok (w,h)
 |_=>.bad
def z8{d k:B7}:FR (C8 F (A0 dJ d k)) (qq (C8 F d) (C8 F k)):=λσ H Q q=>
 q.bd λJ_ x φ ρ h H1 r EQ q=>⟨φ,ρ,h,r,q.bd λkw y CJ h2 AU BJ x2 Gi q=>by
   unfold dJ at q
   split at q
   .rename_i w e;obtain⟨a,CF,rfl,g,Ep⟩:=YW BJ.hd e (EQ.ex x2) Gi;cases CF with
    |none=>cases Ep
    |some v=>exact⟨a,v,rfl,g,q v CJ AU BJ (Ah.refl _ _) Ep⟩
   .exact q.elim⟩
noncomputable def ait(b:Bool):Ir:=λk d h=>match Hc h d k with
 |some o=>.ok (.AL (if b then o.isSome else !o.isSome),h)
 |none=>.bad
def V1.is{o:Option W}{CF:Option V}(r:V1 K φ H o CF):o.isSome=CF.isSome:=by cases o<;>cases CF<;>first|rfl|cases r
noncomputable def N5(d k v:W):Ai:=λρ h=>match d with
 |.ref n=>match h[n]? with
  |some ⟨.Ak AJ,ws⟩=>match keyOf k with
   |some k=>if ⇑ws<At then .ok (.AR ρ,h.set n ⟨.Ak (Mq AJ ws k v).1,(Mq AJ ws k v).2⟩)else .bad
   |none=>.bad
  |some ⟨.Dy AJ,ws⟩=>match NX k with
   |some k=>if ⇑ws<At then .ok (.AR ρ,h.set n ⟨.Dy (Mq AJ ws k v).1,(Mq AJ ws k v).2⟩)else .bad
   |none=>.bad
  |_=>.bad
 |_=>.bad
noncomputable def JG(d k v:B7):Ai:=bd v λOX=>bd d λJ_=>bd k λkw=>N5 J_ kw OX
def zA{d k v:B7}:KZ (G9 F (JG d k v)) (nh (C8 F d) (C8 F k) (C8 F v)):=λDe σ H q=>
 q.bd λOX z φ ρ h H1 r Sh q=>⟨φ,ρ,h,r,E8.bd q λJ_ x Bw h1 AU Av x1 EQ q=>⟨Bw,ρ,h1,Av,E8.bd q λkw y CJ h2 Bv BJ x2 Gi q=>by
   have Sh:=Sh.ex (x1.trans x2);have EQ:=EQ.ex x2;unfold N5 at q
   split at q
   .split at q
    .rename_i AJ ws Ay;obtain⟨a,xs,rfl,BW,⟨A8,AF,rfl,rfl⟩,BX⟩:=BJ.hd.at Ay EQ
     split at q
     .rename_i k DH
      split at q
      .rename_i AG;rw[⇑BX,CU]at AG;obtain⟨AC,AH⟩:=lz (k:=k) Sh BX;have x3:Ah CJ Bv CJ (upd Bv a (.Ak (putK A8 k z))):=Ah.put AF λz=>z;rw[V5 DH Gi];exact⟨a,_,rfl,QA.k AF (GD AG ε),q σ CJ _ (BJ.to (BJ.hd.put Ay BW AF (λz=>z) (o':=⟨.Ak _,_⟩) ⟨_,E3,AC,rfl⟩ AH) x3) x3⟩
      .exact q.elim
     .exact q.elim
    .rename_i AJ ws Ay;obtain⟨a,xs,rfl,BW,⟨A8,AF,rfl,rfl⟩,BX⟩:=BJ.hd.at Ay EQ
     split at q
     .rename_i k DH
      split at q
      .rename_i AG;rw[⇑BX,CU]at AG;obtain⟨AC,AH⟩:=lz (k:=k) Sh BX;have x3:Ah CJ Bv CJ (upd Bv a (.Dy (putK A8 k z))):=Ah.put AF λz=>z;obtain⟨b,rfl,tb⟩:=fI DH Gi;exact⟨a,_,rfl,QA.t AF tb (GD AG ε),q σ CJ _ (BJ.to (BJ.hd.put Ay BW AF (λz=>z) (o':=⟨.Dy _,_⟩) ⟨_,E3,AC,rfl⟩ AH) x3) x3⟩
      .exact q.elim
     .exact q.elim
    .exact q.elim
   .exact q.elim⟩⟩
noncomputable def Ob(h:A5):W->Bool
 |.ref n=>match h[n]? with
  |some ⟨.Ak _,_⟩=>true
  |some ⟨.Dy _,_⟩=>true
  |_=>false
 |_=>false
def jt(d:DB K φ h H){w:W}{x:V}(a:AW K φ H w x)(e:Ob h w=true):∃p,x=.ref p/\Y9 H p:=by
 unfold Ob at e
 split at e
 .split at e
  .rename_i Ay;obtain⟨p,xs,rfl,_,⟨A8,AV,_⟩,_⟩:=d.at Ay a;exact⟨p,rfl,.inl ⟨A8,.inl AV⟩⟩
  .rename_i Ay;obtain⟨p,xs,rfl,_,⟨A8,AV,_⟩,_⟩:=d.at Ay a;exact⟨p,rfl,.inr ⟨A8,.inl AV⟩⟩
  .cases e
 .cases e
noncomputable def Px{α:Type}(w:W)(m:M α):M α:=λρ h=>if Ob h w=true then m ρ h else .bad
noncomputable def Vd(d k:B7):B7:=bd d λJ_=>Px J_ (bd k λkw _ h=>match Hc h J_ kw with
 |some o=>.ok (o.getD .non,h)
 |none=>.bad)
def z6{d k:B7}:FR (C8 F (Vd d k)) (qr (C8 F d) (C8 F k)):=λσ H Q q=>
 q.bd λJ_ x φ ρ h H1 r EQ q=>by
   unfold Px at q
   split at q
   .rename_i e;obtain⟨p,rfl,AV⟩:=jt r.hd EQ e;refine⟨p,rfl,AV,φ,ρ,h,r,q.bd λkw y CJ h2 AU BJ x2 Gi q=>?_⟩
    split at q
    .rename_i o Fn;obtain⟨a,CF,BW,g,Ep⟩:=YW BJ.hd Fn (EQ.ex x2) Gi;cases BW;refine⟨CF,g,q _ CJ AU BJ (Ah.refl _ _) ?_⟩;cases o<;>cases CF<;>first|exact eR|exact Ep|cases Ep
    .exact q.elim
   .exact q.elim
noncomputable def Vl(J_ kw:W):B7:=λ_ h=>match J_ with
 |.ref n=>match h[n]? with
  |some ⟨.Ak AJ,ws⟩=>match keyOf kw with
   |some k=>match Dg AJ ws k with
    |some w=>.ok (w,h.set n ⟨.Ak (AJ.filter λx=>decide (x≠k)),Nn AJ ws k⟩)
    |none=>.bad
   |none=>.bad
  |_=>.bad
 |_=>.bad
noncomputable def Qu(d k:B7):B7:=bd d λJ_=>Px J_ (bd k λkw=>Vl J_ kw)
def z9{d k:B7}:FR (C8 F (Qu d k)) (qt (C8 F d) (C8 F k)):=λσ H Q q=>
 q.bd λJ_ x φ ρ h H1 r EQ q=>by
   unfold Px at q
   split at q
   .rename_i e;obtain⟨p,rfl,AV⟩:=jt r.hd EQ e;refine⟨p,rfl,AV,φ,ρ,h,r,q.bd λkw y CJ h2 AU BJ x2 Gi q=>?_⟩;unfold Vl at q
    split at q
    .split at q
     .rename_i AJ ws Ay;obtain⟨a,xs,BW,uX,⟨A8,AF,rfl,rfl⟩,BX⟩:=BJ.hd.at Ay (EQ.ex x2);cases BW
      split at q
      .rename_i k DH
       split at q
       .rename_i w C_;have Ep:=Ry k BX;rw[C_]at Ep;cases ev:HV A8 k with
        |none=>rw[ev]at Ep;cases Ep
        |some v=>rw[ev]at Ep;have x3:Ah CJ AU CJ (upd AU p (.Ak (N6 A8 k))):=Ah.put AF λz=>z;exact⟨A8,k,v,AF,V5 DH Gi,ev,q v CJ _ (BJ.to (BJ.hd.put Ay uX AF (λz=>z) (o':=⟨.Ak _,_⟩) ⟨_,E3,vI A8 k,rfl⟩ (jK BX)) x3) x3 (AW.ex x3 Ep)⟩
       .exact q.elim
      .exact q.elim
     .exact q.elim
    .exact q.elim
   .exact q.elim
noncomputable def Kq(t:Bool):B7:=λ_ h=>nw (if t then .Dy []else .Ak []) [] h
def z4:FR (C8 F (Kq false)) fz:=λσ H Q⟨φ,ρ,h,r,q⟩ p AV=>Ov r q AV ⟨[],E3,rfl,rfl⟩ .nil
def z5:FR (C8 F (Kq true)) qs:=λσ H Q⟨φ,ρ,h,r,q⟩ p AV=>Ov r q AV ⟨[],E3,rfl,rfl⟩ .nil
end
abbrev Gx:=Nat->A5->Option (Option W)
noncomputable def IS(K:As)(DJ:↑A6)(BM:AE)(it:Gx)(BC:It):Prop:=∀i φ h H,DB K φ h H->Ah DJ BM φ H->(it i h=↥none->BC.stop i H)/\∀w,it i h=↥↥w->BC.go i H/\∀x A9,BC.X3 i H x A9->DB K φ h A9/\Ah φ H φ A9/\AW K φ A9 w x
abbrev G4:=M Gx
abbrev g0(F:D2)(m:G4):TI:=LP IS F m
noncomputable def N8(it:Gx)(g:DG)(b:Ai):Nat->Nat->Ai
 |0,_=>λ_ _=>.bad
 |f+1,i=>λρ h=>match it i h with
  |some none=>.ok (.AR ρ,h)
  |some ↥w=>(g w ρ h).bind λp=>match p with
   |(.AR CO,h1)=>(b CO h1).bind λp=>match p with
    |(.AR Dk,h2)=>N8 it g b f (i+1) Dk h2
    |(.DL Dk,h2)=>N8 it g b f (i+1) Dk h2
    |(.B_ Dk,h2)=>.ok (.AR Dk,h2)
    |(.EM w,h2)=>.ok (.EM w,h2)
   |_=>.bad
  |none=>.bad
def Jv:Nat:=1000
noncomputable def Q6(mi:G4)(g:DG)(b:Ai):Ai:=bd mi λit=>N8 it g b Jv 0
section
variable{F:D2}{K:As}{φ:↑A6}{h:A5}{H:AE}{σ :St}{ρ:B9}{X:Ar}
def for_in{it:Gx}{BC:It}{g:DG}{b:Ai}{De:Ends}{Bw:↑A6}{CO:B9}{h1:A5}{H1:AE}(Av:Rel F Bw h1 H1 σ CO)(io:IS F.K Bw H1 it BC)(q:E8 F Bw H1 De (N8 it g b Jv 0 CO h1)):aV (λ_ H R=>R BC H) (MH F g) (G9 F b) De σ H1:=by
 refine⟨λi m σ H=>∃φ ρ h,Rel F φ h H σ ρ/\Ah Bw H1 φ H/\E8 F φ H De (N8 it g b m i ρ h),⟨Jv,Bw,CO,h1,Av,Ah.refl _ _,q⟩,?_⟩;rintro i m σ H ⟨φ,ρ,h,r,x,q⟩;cases m with
 |zero=>cases q
 |succ m=>
  unfold N8 at q;obtain⟨Ck,F8⟩:=io i φ h H r.hd x
  split at q
  .rename_i e;exact .inl ⟨Ck e,q σ φ H r (Ah.refl _ _)⟩
  .rename_i w e;obtain⟨go,fi⟩:=F8 w e;refine .inr ⟨go,λσ' A9=>∃φ ρ h,Rel F φ h A9 σ' ρ/\Ah Bw H1 φ A9/\E8 F φ A9 De (N8 it g b m (i+1) ρ h),λσ' A9 n=>⟨m,Qh _,n⟩,λy A9 AS=>?_⟩;obtain⟨d',Fx,bc⟩:=fi y A9 AS;refine⟨φ,ρ,h,w,r.to d' Fx,bc,?_⟩;have q:=E8.ex Fx q;cases eg:g w ρ h with
   |bad=>rw[eg]at q;cases q
   |exc c h'=>rw[eg]at q;exact q
   |ok p=>
    rw[eg]at q;obtain⟨f,h2⟩:=p;cases f with
    |AR Dk=>
     intro σ2 CJ AU BJ x2;refine⟨CJ,Dk,h2,BJ,?_⟩;have q:=E8.ex x2 q;have Rz:=x.trans (Fx.trans x2);erw[R.bind]at q;cases BI:b Dk h2 with
     |bad=>rw[BI]at q;cases q
     |exc c h'=>rw[BI]at q;exact q
     |ok p=>
      rw[BI]at q;obtain⟨f,BO⟩:=p;cases f with
      |AR PK=>exact λσ3 K9 Bv Fi x3=>⟨K9,PK,BO,Fi,Rz.trans x3,E8.ex x3 q⟩
      |DL PK=>exact λσ3 K9 Bv Fi x3=>⟨K9,PK,BO,Fi,Rz.trans x3,E8.ex x3 q⟩
      |B_ PK=>exact q
      |EM w=>exact q
    |_=>cases q
  .exact q.elim
def zE{mi:G4}{g:DG}{b:Ai}:KZ (G9 F (Q6 mi g b)) (aV (g0 F mi) (MH F g) (G9 F b)):=λDe σ H q=>
 q.bd λit BC Bw CO h1 H1 Av io q=>for_in Av io q
noncomputable def QV(c:DN)(b:Ai):Nat->Ai
 |0=>λ_ _=>.bad
 |f+1=>bd c λk=>if k=true then λρ h=>(b ρ h).bind λp=>match p with
   |(.AR Dk,h2)=>QV c b f Dk h2
   |(.DL Dk,h2)=>QV c b f Dk h2
   |(.B_ Dk,h2)=>.ok (.AR Dk,h2)
   |(.EM w,h2)=>.ok (.EM w,h2)
  else BR
def T4(c:DN)(b:Ai):Ai:=QV c b Jv
def yj{c:DN}{b:Ai}:KZ (G9 F (T4 c b)) (qU (HT F c) (G9 F b)):=by
 rintro De σ H ⟨φ,ρ,h,r,q⟩;refine⟨λm σ H=>∃φ ρ h,Rel F φ h H σ ρ/\E8 F φ H De (QV c b m ρ h),⟨Jv,φ,ρ,h,r,q⟩,?_⟩;rintro m σ H ⟨φ,ρ,h,r,q⟩;cases m with
 |zero=>cases q
 |succ m=>
  unfold QV at q;refine⟨φ,ρ,h,r,E8.bd q λk k' Bw h1 H1 Av x1 e q=>?_⟩;cases e;cases k with
  |false=>exact q σ Bw H1 Av (Ah.refl _ _)
  |true=>
   refine⟨λσ' A9=>∃φ ρ h,Rel F φ h A9 σ' ρ/\E8 F φ A9 De (QV c b m ρ h),λσ' A9 n=>⟨m,Qh _,n⟩,Bw,ρ,h1,Av,?_⟩;rw[if_pos rfl]at q;cases BI:b ρ h1 with
   |bad=>rw[BI]at q;cases q
   |exc c h'=>rw[BI]at q;exact q
   |ok p=>
    rw[BI]at q;obtain⟨f,BO⟩:=p;cases f with
    |AR PK=>exact λσ3 K9 Bv Fi x3=>⟨K9,PK,BO,Fi,E8.ex x3 q⟩
    |DL PK=>exact λσ3 K9 Bv Fi x3=>⟨K9,PK,BO,Fi,E8.ex x3 q⟩
    |B_ PK=>exact q
    |EM w=>exact q
noncomputable def Tp:↑DG->↑W->Ai
 |[],[]=>BR
 |g::FO,w::ws=>AN (g w) (Tp FO ws)
 |_,_=>λ_ _=>.bad
noncomputable def EY(FO:↑DG):DG:=λw ρ h=>match E2 h w with
 |some (true,ws)=>if ⇑FO=⇑ws then Tp FO ws ρ h else .bad
 |_=>.bad
noncomputable def Vz(F:D2)(FO:↑DG):OE:=λvs σ H Q=>∃φ ρ h ws,Rel F φ h H σ ρ/\Ao F.K φ H ws vs/\E8 F φ H ⟨Q,λ_ _=>False,λ_ _=>False,λ_ _=>False⟩ (Tp FO ws ρ h)
def kh:∀vs σ H Q,Vz F [] vs σ H Q->j3 vs σ H Q:=by
 rintro vs σ H Q ⟨φ,ρ,h,ws,r,as,q⟩;cases ws with
 |nil=>erw[Ao]at as;exact⟨as,q σ φ H r (Ah.refl _ _)⟩
 |cons _ _=>cases q
def eI{g:DG}{FO:↑DG}:∀vs σ H Q,Vz F (g::FO) vs σ H Q->j2 (MH F g) (Vz F FO) vs σ H Q:=by
 rintro vs σ H Q ⟨φ,ρ,h,ws,r,as,q⟩;cases ws with
 |nil=>cases q
 |cons w ws=>
  erw[Ao]at as;obtain⟨v,qk,rfl,a1,a2⟩:=as;refine⟨v,qk,rfl,φ,ρ,h,w,r,a1,?_⟩;unfold Tp AN at q;cases e:g w ρ h with
  |bad=>rw[e]at q;cases q
  |exc c h'=>rw[e]at q;exact q
  |ok p=>
   rw[e]at q;obtain⟨f,h1⟩:=p;cases f with
   |AR E4=>exact λσ' BL A9 Bf x=>⟨BL,E4,h1,ws,Bf,a2.ex x,E8.ex x q⟩
   |_=>exact q
def jm(Aa:F.K=X.K){FO:↑DG}{n:Nat}(AZ:⇑FO=n):Y8 (MH F (EY FO)) (j5 X.K n (Vz F FO)):=by
 rintro v σ H Q ⟨φ,ρ,h,w,r,a,q⟩;unfold EY at q
 split at q
 .rename_i ws e;obtain⟨p,xs,rfl,AO,BX⟩:=J6 r.hd a e;rw[Aa]at AO
  split at q
  .rename_i AG;exact⟨p,xs,rfl,AO,by rw[<- ⇑BX,<-AG];exact AZ,φ,ρ,h,ws,r,BX,q⟩
  .exact q.elim
 .exact q.elim
noncomputable def FI(w:W):Gx:=λi h=>match E2 h w with
 |some (_,ws)=>↥ws[i]?
 |none=>none
def aaY(Aa:F.K=X.K){w:W}{v:V}{p:A6}(a:AW F.K φ H w v)(e:v=.ref p)(AO:∀CJ h2 AU,DB F.K CJ h2 AU->Ah φ H CJ AU->∀t ws,E2 h2 w=↥(t,ws)->t=false):IS F.K φ H (FI w) (c5 X.K p):=λi CJ h2 AU d x=>by
 unfold FI;cases es:E2 h2 w with
 |none=>exact⟨λz=>(nomatch z),λw z=>(nomatch z)⟩
 |some OV=>
  obtain⟨t,ws⟩:=OV;have BV:=AO CJ h2 AU d x t ws es;subst BV;obtain⟨FK,xs,Ba,AY,BX⟩:=J6 d (a.ex x) es;rw[e]at Ba;cases Ba;have AY:EV F.K AU p xs:=AY;rw[Aa]at AY;refine⟨λz=>⟨xs,AY,?_⟩,λCZ z=>?_⟩
  .have:ws[i]?=none:=GC z;rw[<- ⇑BX];exact List.getElem?_eq_none_iff.mp this
  .have:ws[i]?=↥CZ:=GC z;obtain⟨v,ev,EH⟩:=BX.get this;exact⟨⟨xs,v,AY,ev⟩,λy A9 AS=>by obtain⟨rfl,AS⟩:=AS;have:=AS xs AY;rw[ev]at this;cases this;exact⟨d,Ah.refl _ _,EH⟩⟩
def dS(Aa:F.K=X.K){w:W}{v:V}{p:A6}(a:AW F.K φ H w v)(e:v=.ref p)(AO:∀h2 t ws,E2 h2 w=↥(t,ws)->t=true):IS F.K φ H (FI w) (c8 X.K p):=λi CJ h2 AU d x=>by
 unfold FI;cases es:E2 h2 w with
 |none=>exact⟨λz=>(nomatch z),λw z=>(nomatch z)⟩
 |some OV=>
  obtain⟨t,ws⟩:=OV;have BV:=AO h2 t ws es;subst BV;obtain⟨FK,xs,Ba,AY,BX⟩:=J6 d (a.ex x) es;rw[e]at Ba;cases Ba;have AY:EW F.K AU p xs:=AY;rw[Aa]at AY;refine⟨λz=>⟨xs,AY,?_⟩,λCZ z=>?_⟩
  .have:ws[i]?=none:=GC z;rw[<- ⇑BX];exact List.getElem?_eq_none_iff.mp this
  .have:ws[i]?=↥CZ:=GC z;obtain⟨v,ev,EH⟩:=BX.get this;exact⟨⟨xs,v,AY,ev⟩,λy A9 AS=>by obtain⟨rfl,AS⟩:=AS;have:=AS xs AY;rw[ev]at this;cases this;exact⟨d,Ah.refl _ _,EH⟩⟩
noncomputable def VY:W->Bool
 |.ref _=>true
 |.Df _=>true
 |_=>false
def bE{w:W}{t:Bool}{ws:↑W}(e:E2 h w=↥(t,ws)):(t=false↔VY w=true):=by
 unfold E2 at e
 split at e
 .cases e;simp[VY]
 .cases e;simp[VY]
 .cases e;simp[VY]
 .split at e<;>first|(cases e;simp[VY];done)|(cases e;done)
 .cases e
noncomputable def LO(lo:Int)(n:Nat):Gx:=λi _=>↥(if i<n then↥(.int (lo+i))else none)
def n_(lo:Int)(n:Nat):IS K φ H (LO lo n) (Us lo n):=λi CJ h2 AU d x=>by
 unfold LO;by_cases AD:i<n
 .rw[if_pos AD];exact⟨λz=>(nomatch z),λw z=>by cases z;exact⟨AD,λy A9 AS=>by obtain⟨rfl,rfl⟩:=AS;exact⟨d,Ah.refl _ _,by erw[AW]⟩⟩⟩
 .rw[if_neg AD];exact⟨λ_=>(show n<=i by lia),λw z=>(nomatch z)⟩
noncomputable def QJ(nl:Nat)(caps:↑Nat)(ρ:B9):B9:=GR nl none++caps.map λj=>ρ.getD j none
noncomputable def Kg(it:Gx)(g:DG)(HC:DN)(elt:B7)(n:Nat):Nat->Nat->B9->A5->R A5
 |0,_,_,_=>.bad
 |f+1,i,ρ,h=>match it i h with
  |some none=>.ok h
  |some ↥w=>(g w ρ h).bind λp=>match p with
   |(.AR CO,h1)=>(HC CO h1).bind λp=>if p.1=true then(elt CO p.2).bind λp=>match p.2[n]? with
      |some ⟨.lst,ws⟩=>if ⇑ws<At then Kg it g HC elt n f (i+1) CO (p.2.set n ⟨.lst,ws++[p.1]⟩)else .bad
      |_=>.bad
    else Kg it g HC elt n f (i+1) CO p.2
   |_=>.bad
  |none=>.bad
noncomputable def Dq(nl:Nat)(caps:↑Nat)(mi:G4)(g:DG)(HC:DN)(elt:B7):B7:=bd mi λit ρ h=>match Kg it g HC elt ⇑h Jv 0 (QJ nl caps ρ) (h++[⟨.lst,[]⟩])with
 |.ok h'=>.ok (.ref ⇑h,h')
 |_=>.bad
noncomputable def Ij(K:As)(φ:↑A6)(H:AE):D2:=⟨K,φ,H,λ_ _=>False⟩
abbrev D2.AR(F:D2):D2:=Ij F.K F.DJ F.BM
theorem Rel.AR(r:Rel F φ h H σ ρ):Rel F.AR φ h H σ ρ:=⟨r.hd,r.x0,r.len,r.Bt⟩
def Rel.u5(r:Rel F φ h H σ ρ)(nl:Nat)(caps:↑Nat):Rel F.AR φ h H (Nl nl caps σ) (QJ nl caps ρ):=by
 refine⟨r.hd,r.x0,by simp[Nl,QJ],λi w e=>?_⟩;unfold QJ at e;unfold Nl;by_cases AD:i<nl
 .rw[Gr (AD:),XB,if_pos AD]at e;cases e
 .rw[MM (AD:),UI,E5]at e;rw[MM (AD:),UI,E5];cases GW:caps[i-nl]? with
  |none=>rw[GW]at e;cases e
  |some j=>
   rw[GW]at e;have es:ρ.getD j none=↥w:=GC e;rw[Eh]at es;cases BA:ρ[j]? with
   |none=>rw[BA]at es;cases es
   |some t=>rw[BA]at es;have:t=↥w:=es;subst this;obtain⟨v,AC,q⟩:=r.Bt j w BA;exact⟨v,by show↥(σ.getD j none)=_;rw[Eh,AC];rfl,q⟩
def iC{nl:Nat}{caps:↑Nat}{it:Gx}{BC:It}{g:DG}{HC:DN}{elt:B7}{Q:CR}{Bw:↑A6}{CO:B9}{h1:A5}{H1:AE}(Av:Rel F Bw h1 H1 σ CO)(io:IS F.K Bw H1 it BC)(q:D5 AW F Bw H1 σ CO Q (Dq nl caps (pu it) g HC elt CO h1)):WT (λ_ H R=>R BC H) (λx σ H Q=>∃DJ BM,MH (Ij F.K DJ BM) g x σ H Q) (λσ H Q=>∃DJ BM,HT (Ij F.K DJ BM) HC σ H Q) (λσ H Q=>∃DJ BM,C8 (Ij F.K DJ BM) elt σ H Q) nl caps σ H1 Q:=by
 intro acc AF;unfold Dq bd pu at q;erw[R.bind]at q
 split at q
 .rename_i h' BA;have x0:Ah Bw H1 (Bw++[acc]) (upd H1 acc (.lst [])):=Ah.Q1 AF
  refine⟨λi m σ2 AU=>∃φ ρ h,Rel F.AR φ h AU σ2 ρ/\Ah (Bw++[acc]) (upd H1 acc (.lst [])) φ AU/\Kg it g HC elt ⇑h1 m i ρ h=.ok h',
   ⟨Jv,Bw++[acc],_,_,(Av.to (Av.hd.new AF (ho:=.lst []) (k:=.lst) E3 .nil) x0).u5 nl caps,Ah.refl _ _,BA⟩,?_⟩
  rintro i m σ2 AU ⟨φ,ρ,h,r,x,BA⟩;have uY:φ[⇑h1]?=↥acc:=F_ x.p (VA Av.hd);cases m with
  |zero=>cases BA
  |succ m=>
   unfold Kg at BA;obtain⟨Ck,F8⟩:=io i φ h AU r.hd (x0.trans x)
   split at BA
   .rename_i e;cases BA;exact .inl ⟨Ck e,q _ φ AU ⟨r.hd,Av.x0.trans (x0.trans x),Av.len,λj w e=>let⟨v,AC,a⟩:=Av.Bt j w e;⟨v,AC,a.ex (x0.trans x)⟩⟩ (x0.trans x) (.GK uY)⟩
   .rename_i w e;obtain⟨go,fi⟩:=F8 w e;refine .inr ⟨go,λy A9 AS=>?_⟩;obtain⟨d',Fx,bc⟩:=fi y A9 AS;refine⟨F.DJ,F.BM,φ,ρ,h,w,r.to d' Fx,bc,?_⟩;cases eg:g w ρ h with
    |bad=>rw[eg]at BA;cases BA
    |exc c h'=>rw[eg]at BA;cases BA
    |ok p=>
     rw[eg]at BA;obtain⟨f,h2⟩:=p;cases f with
     |AR Dk=>
      intro σ3 K9 Bv Fi x3;refine⟨F.DJ,F.BM,K9,Dk,h2,Fi,?_⟩;have qK:=x.trans (Fx.trans x3);have BA:((HC Dk h2).bind λp=>if p.1=true then(elt Dk p.2).bind λp=>match p.2[⇑h1]? with
        |some ⟨.lst,ws⟩=>if ⇑ws<At then Kg it g HC elt ⇑h1 m (i+1) Dk (p.2.set ⇑h1 ⟨.lst,ws++[p.1]⟩)else .bad
        |_=>.bad
       else Kg it g HC elt ⇑h1 m (i+1) Dk p.2)=.ok h':=BA
      cases Ix:HC Dk h2 with
      |bad=>rw[Ix]at BA;cases BA
      |exc c h'=>rw[Ix]at BA;cases BA
      |ok p=>
       rw[Ix]at BA;obtain⟨b,Cc⟩:=p;intro Ic aM Cb NY x4 BI;cases BI;have BA:(if b=true then(elt Dk Cc).bind λp=>match p.2[⇑h1]? with
         |some ⟨.lst,ws⟩=>if ⇑ws<At then Kg it g HC elt ⇑h1 m (i+1) Dk (p.2.set ⇑h1 ⟨.lst,ws++[p.1]⟩)else .bad
         |_=>.bad
        else Kg it g HC elt ⇑h1 m (i+1) Dk Cc)=.ok h':=BA
       cases b with
       |false=>exact⟨m,Qh _,aM,Dk,Cc,NY,qK.trans x4,BA⟩
       |true=>
        rw[if_pos rfl]at BA;refine⟨F.DJ,F.BM,aM,Dk,Cc,NY,?_⟩;cases Iw:elt Dk Cc with
        |bad=>rw[Iw]at BA;cases BA
        |exc c h'=>rw[Iw]at BA;cases BA
        |ok p=>
         rw[Iw]at BA;obtain⟨ar,F7⟩:=p;intro fh au Dx Rr afh NN;have BA:(match F7[⇑h1]? with
          |some ⟨.lst,ws⟩=>if ⇑ws<At then Kg it g HC elt ⇑h1 m (i+1) Dk (F7.set ⇑h1 ⟨.lst,ws++[ar]⟩)else .bad
          |_=>.bad)=.ok h':=BA
         split at BA
         .rename_i ws Ay
          split at BA
          .rename_i AG;have qL:=qK.trans (x4.trans afh);have P5:au[⇑h1]?=↥acc:=F_ qL.p (VA Av.hd);obtain⟨ys,AS,BX⟩:=Rr.hd.BY _ _ _ Ay P5;have AS:Dx acc=↥(.lst ys):=AS;have x6:Ah au Dx au (upd Dx acc (.lst (ys++[fh]))):=Ah.put AS λz=>z;rw[⇑BX]at AG;exact⟨ys,AS,GD AG ε,m,Qh _,au,Dk,_,Rr.to (Rr.hd.put Ay P5 AS (λz=>z) (o':=⟨.lst,ws++[ar]⟩) E3 (BX.append (.cons NN .nil))) x6,qL.trans x6,BA⟩
          .cases BA
         .cases BA
     |_=>cases BA
   .cases BA
 .exact q.elim
def kf{nl:Nat}{caps:↑Nat}{mi:G4}{g:DG}{HC:DN}{elt:B7}:FR (C8 F (Dq nl caps mi g HC elt)) (WT (g0 F mi) (λx σ H Q=>∃DJ BM,MH (Ij F.K DJ BM) g x σ H Q) (λσ H Q=>∃DJ BM,HT (Ij F.K DJ BM) HC σ H Q) (λσ H Q=>∃DJ BM,C8 (Ij F.K DJ BM) elt σ H Q) nl caps):=λσ H Q q=>
 q.bd λit BC Bw CO h1 H1 Av io q=>iC Av io q
end
mutual
noncomputable def DE:W->Bool
 |.ref _=>false
 |.tup ws=>Fg ws
 |.I6 ws=>Fg ws
 |.Df ws=>Fg ws
 |_=>true
noncomputable def Fg:↑W->Bool
 |[]=>true
 |w::ws=>DE w&&Fg ws
end
mutual
noncomputable def JZ:W->W->Bool
 |.non,.non=>true
 |.AL a,.AL b=>a==b
 |.int a,.int b=>a==b
 |.str a,.str b=>a==b
 |.tup a,.tup b=>Ke a b
 |.I6 a,.I6 b=>Ke a b
 |.Df a,.Df b=>Ke a b
 |.ref a,.ref b=>a==b
 |.P7 a,.P7 b=>a==b
 |_,_=>false
noncomputable def Ke:↑W->↑W->Bool
 |[],[]=>true
 |x::xs,y::ys=>JZ x y&&Ke xs ys
 |_,_=>false
end
mutual
theorem tx:∀{a b:W},JZ a b=true->a=b
 |.non,b,h=>by cases b<;>simp_all[JZ]
 |.AL _,b,h=>by cases b<;>simp_all[JZ]
 |.int _,b,h=>by cases b<;>simp_all[JZ]
 |.str _,b,h=>by cases b<;>simp_all[JZ]
 |.tup _,b,h=>by cases b<;>erw[JZ]at h<;>first|(cases h;done)|rw[Uk h]
 |.I6 _,b,h=>by cases b<;>erw[JZ]at h<;>first|(cases h;done)|rw[Uk h]
 |.Df _,b,h=>by cases b<;>erw[JZ]at h<;>first|(cases h;done)|rw[Uk h]
 |.ref _,b,h=>by cases b<;>simp_all[JZ]
 |.P7 _,b,h=>by cases b<;>simp_all[JZ]
theorem Uk:∀{a b:↑W},Ke a b=true->a=b
 |[],b,h=>by cases b<;>simp_all[Ke]
 |x::xs,b,h=>by
  cases b with
  |nil=>simp[Ke]at h
  |cons y ys=>erw[Ke,I0]at h;rw[tx h.1,Uk h.2]
end
mutual
theorem tz:∀(a:W),JZ a a=true
 |.non|.AL _|.int _|.str _|.ref _|.P7 _=>by simp[JZ]
 |.tup a=>by erw[JZ];exact Rd a
 |.I6 a=>by erw[JZ];exact Rd a
 |.Df a=>by erw[JZ];exact Rd a
theorem Rd:∀(a:↑W),Ke a a=true
 |[]=>by simp[Ke]
 |x::xs=>by erw[Ke];rw[tz x,Rd xs];rfl
end
noncomputable def G2:A5->A5->Bool
 |[],_=>true
 |o::h,o'::h'=>decide (o.k=o'.k)&&Ke o.ws o'.ws&&G2 h h'
 |_,_=>false
theorem ei:∀{h h':A5},G2 h h'=true->h<+: h'
 |[],_,_=>List.nil_prefix
 |o::h,[],e=>by simp[G2]at e
 |⟨k,ws⟩::h,⟨k',ws'⟩::h',e=>by erw[G2,I0,decide_eq_true_eq]at e;rw[e.1.1,Uk e.1.2];exact List.cons_prefix_cons.mpr ⟨rfl,ei e.2⟩
theorem Rp:∀(h g:A5),G2 h (h++g)=true
 |[],_=>by simp[G2]
 |o::h,g=>by erw[HD,G2];rw[Rd,Rp h g];simp
def ae3(h:A5):G2 h h=true:=(Rp h []:)
noncomputable def settle(h:A5)(w:W)(h1:A5):R (W×A5):=
 if G2 h h1=true then
  if DE w=true then .ok (w,h)else match w with
   |.ref n=>if ⇑h<=n then match h1[n]? with
       |some ⟨.lst,ws⟩=>if Fg ws=true then .ok (.ref ⇑h,h++[⟨.lst,ws⟩])else .ok (w,h1)
       |_=>.ok (w,h1)
    else .ok (w,h)
   |_=>.ok (w,h1)
 else .ok (w,h1)
section
variable{K:As}{φ Bw:↑A6}{h h1:A5}{H H1:AE}
mutual
theorem AW.DE{BL:↑A6}:∀{w:W}{v:V},C2.DE w=true->AW K φ H w v->AW K BL H w v
 |.non,_,_,a|.AL _,_,_,a|.int _,_,_,a|.str _,_,_,a|.P7 _,_,_,a=>by simpa only[AW]using a
 |.tup _,_,n,a=>by erw[AW,C2.DE]at a n |-;obtain⟨p,xs,e,q,r⟩:=a;exact⟨p,xs,e,q,Ao.DE n r⟩
 |.I6 _,_,n,a=>by erw[AW,C2.DE]at a n |-;obtain⟨p,xs,e,q,r⟩:=a;exact⟨p,xs,e,q,Ao.DE n r⟩
 |.Df _,_,n,a=>by erw[AW,C2.DE]at a n |-;obtain⟨p,xs,e,q,r⟩:=a;exact⟨p,xs,e,q,Ao.DE n r⟩
 |.ref _,_,n,_=>by simp[C2.DE]at n
theorem Ao.DE{BL:↑A6}:∀{ws:↑W}{vs:↑V},Fg ws=true->Ao K φ H ws vs->Ao K BL H ws vs
 |[],_,_,a=>by simpa only[Ao]using a
 |_::_,_,n,a=>by erw[Ao,Fg,I0]at a n |-;obtain⟨v,r,e,q,t⟩:=a;exact⟨v,r,e,AW.DE n.1 q,Ao.DE n.2 t⟩
end
mutual
theorem AW.back(p:φ<+: Bw):∀{w:W}{v v0:V},AW K φ H w v0->AW K Bw H1 w v->AW K φ H1 w v
 |.non,_,_,_,a|.AL _,_,_,_,a|.int _,_,_,_,a|.str _,_,_,_,a|.P7 _,_,_,_,a=>by simpa only[AW]using a
 |.tup _,_,_,b,a=>by erw[AW]at a b |-;obtain⟨q,xs,e,t,r⟩:=a;obtain⟨Ce,Tt,Ba,t',Bf⟩:=b;exact⟨q,xs,e,t,Ao.back p Bf r⟩
 |.I6 _,_,_,b,a=>by erw[AW]at a b |-;obtain⟨q,xs,e,t,r⟩:=a;obtain⟨Ce,Tt,Ba,t',Bf⟩:=b;exact⟨q,xs,e,t,Ao.back p Bf r⟩
 |.Df _,_,_,b,a=>by erw[AW]at a b |-;obtain⟨q,xs,e,t,r⟩:=a;obtain⟨Ce,Tt,Ba,t',Bf⟩:=b;exact⟨q,xs,e,t,Ao.back p Bf r⟩
 |.ref _,_,_,b,a=>by erw[AW]at a b |-;obtain⟨q,e,t⟩:=a;obtain⟨Ce,Ba,t'⟩:=b;have:=F_ p t';rw[t]at this;cases this;exact⟨q,e,t'⟩
theorem Ao.back(p:φ<+: Bw):∀{ws:↑W}{vs v0:↑V},Ao K φ H ws v0->Ao K Bw H1 ws vs->Ao K φ H1 ws vs
 |[],_,_,_,a=>by simpa only[Ao]using a
 |_::_,_,_,b,a=>by erw[Ao]at a b |-;obtain⟨v,r,e,q,t⟩:=a;obtain⟨J7,Bf,Ba,Ce,t'⟩:=b;exact⟨v,r,e,AW.back p Ce q,Ao.back p t' t⟩
end
def DB.cut(d:DB K φ h H)(d1:DB K Bw h1 H1)(p:φ<+: Bw)(eb:h<+: h1):DB K φ h H1:=⟨d.C7,d.len,λn o a AC AH=>by obtain⟨xs,q,r⟩:=d1.BY n o a (F_ eb AC) (F_ p AH);obtain⟨ys,_,Bf⟩:=d.BY n o a AC AH;exact⟨xs,q,Ao.back p Bf r⟩⟩
def fm{w CZ:W}{v:V}{h':A5}(d:DB K φ h H)(x:Ah φ H Bw H1)(d1:DB K Bw h1 H1)(a:AW K Bw H1 w v)(e:settle h w h1=.ok (CZ,h')):∃BL,Ah φ H BL H1/\DB K BL h' H1/\AW K BL H1 CZ v:=by
 have same:(CZ,h')=(w,h1)->∃BL,Ah φ H BL H1/\DB K BL h' H1/\AW K BL H1 CZ v:=λz=>by cases z;exact⟨Bw,x,d1,a⟩
 have x0:Ah φ H φ H1:=⟨UP,x.t⟩;unfold settle at e
 split at e
 .rename_i AV;have eb:=ei AV;have Ig:=d.cut d1 x.p eb
  split at e
  .rename_i AZ;cases e;exact⟨φ,x0,Ig,AW.DE AZ a⟩
  .split at e
   .rename_i n _
    split at e
    .rename_i AG
     split at e
     .rename_i ws Ay
      split at e
      .rename_i hw;cases e;obtain⟨b,xs,rfl,BI,q,r⟩:=d1.at Ay a;have nb:b∉φ:=λm=>by
        obtain⟨j,GW⟩:=gc m;have AC:=F_ x.p GW;obtain⟨Ck,K4⟩:=List.getElem?_eq_some_iff.mp AC;obtain⟨F8,Kp⟩:=List.getElem?_eq_some_iff.mp BI;have:j=n:=(XJ d1.C7).mp (K4.trans Kp.symm);have:j< ⇑φ:=(List.getElem?_eq_some_iff.mp GW).1;rw[d.len]at this;lia
       refine⟨φ++[b],⟨Fy _ _,x.t⟩,⟨?_,by simp[d.len],λm o c AC AH=>?_⟩,.GK (by rw[<-d.len];simp)⟩
       .rw[gZ];exact⟨d.C7,γ,λc AI GO Mb z=>nb (by rw[<-List.mem_singleton.mp Mb,<-z];exact AI)⟩
       .by_cases hm:m< ⇑h
        .rw[Gr hm]at AC;rw[Gr (by rw[d.len];exact hm)]at AH;obtain⟨ys,Ce,Bf⟩:=Ig.BY m o c AC AH;exact⟨ys,Ce,Ao.ex (⟨Fy _ _,λ_ _ e _=>e⟩:Ah φ H1 (φ++[b]) H1) Bf⟩
        .have e4:m=⇑h:=by
           have:=(List.getElem?_eq_some_iff.mp AC).1;simp at this;lia
         subst e4;simp at AC;rw[<-d.len]at AH;simp at AH;subst AC AH;exact⟨xs,q,Ao.DE hw r⟩
      .cases e;exact same rfl
     .cases e;exact same rfl
    .rename_i AG;cases e;have AZ:n< ⇑φ:=by rw[d.len];lia
     erw[AW]at a |-;obtain⟨b,rfl,BI⟩:=a;obtain⟨c,ec⟩:∃c,φ[n]?=↥c:=⟨_,CP AZ⟩;have:=F_ x.p ec;rw[BI]at this;cases this;exact⟨φ,x0,Ig,b,rfl,ec⟩
   .cases e;exact same rfl
 .cases e;exact same rfl
end
section
variable{F:D2}
noncomputable def Bh(m:B7):B7:=λρ h=>(m ρ h).bind λp=>settle h p.1 p.2
def fB(h:A5)(w:W)(h1:A5):∃CZ h',settle h w h1=.ok (CZ,h'):=by
 unfold settle
 repeat' split
 all_goals exact⟨_,_,rfl⟩
def ye{m:B7}:FR (C8 F (Bh m)) (C8 F m):=by
 rintro σ H Q ⟨φ,ρ,h,r,q⟩;refine⟨φ,ρ,h,r,?_⟩;unfold Bh at q;cases e:m ρ h with
 |bad=>rw[e]at q;cases q
 |exc c h'=>rw[e]at q;exact q
 |ok p=>rw[e]at q;obtain⟨w,h1⟩:=p;intro v Bw H1 Av x a;obtain⟨CZ,h',es⟩:=fB h w h1;have q:D5 AW F φ H σ ρ Q (settle h w h1):=q;rw[es]at q;obtain⟨BL,Fx,d',GT⟩:=fm r.hd x Av.hd a es;exact q v BL H1 (r.to d' Fx) Fx GT
noncomputable def Hn(m:DN):DN:=λρ h=>(m ρ h).bind λp=>.ok (p.1,if G2 h p.2=true then h else p.2)
def yf{m:DN}:RT (HT F (Hn m)) (HT F m):=by
 rintro σ H Q ⟨φ,ρ,h,r,q⟩;refine⟨φ,ρ,h,r,?_⟩;unfold Hn at q;cases e:m ρ h with
 |bad=>rw[e]at q;cases q
 |exc c h'=>rw[e]at q;exact q
 |ok p=>
  rw[e]at q;obtain⟨b,h1⟩:=p;intro Ic Bw H1 Av x a;cases a;have q:D5 m9 F φ H σ ρ Q (.ok (b,if G2 h h1=true then h else h1)):=q
  split at q
  .rename_i AV;have Fx:Ah φ H φ H1:=⟨UP,x.t⟩;exact q b φ H1 (r.to (r.hd.cut Av.hd x.p (ei AV)) Fx) Fx rfl
  .exact q b Bw H1 Av x rfl
noncomputable def QW(K:As):Ex->Str->AE->Prop:=λE c H=>∃C,IY K c C/\∀a,H a=none->E (.ref C) ↥a H
noncomputable def SU(K:As)(φ:↑A6)(H:AE)(E:Ex):D2:=⟨K,φ,H,QW K E⟩
abbrev Bi:=↑W->A5->R (W×A5)
noncomputable def J0(K:As)(φ:↑A6)(H:AE)(Q:CR)(My:Str->AE->Prop):R (W×A5)->Prop
 |.ok (w,h')=>∀v BL A9,DB K BL h' A9->Ah φ H BL A9->AW K BL A9 w v->Q v A9
 |.exc c h'=>∀BL A9,Ah φ H BL A9->DB K BL h' A9->My c A9
 |.bad=>False
noncomputable def Lv(K:As)(n:Nat)(mf:Bi):Cq:=λvs H Q E=>∃φ h ws,DB K φ h H/\Ao K φ H ws vs/\ ⇑ws=n/\J0 K φ H Q (QW K E) (mf ws h)
def aec{K:As}{n:Nat}{mf:Bi}:∀vs H Q E,Lv K n mf vs H Q E->⇑vs=n:=λvs H Q E q=>by obtain⟨φ,h,ws,_,a,l,_⟩:=q;rw[<- ⇑a];exact l
noncomputable def Nz(N:Nat)(ws:↑W):B9:=ws.map some++GR (N- ⇑ws) none
noncomputable def outF:FL×A5->R (W×A5)
 |(.AR _,h)=>.ok (.non,h)
 |(.EM w,h)=>.ok (w,h)
 |_=>.bad
noncomputable def F0(N:Nat)(m:Ai):Bi:=λws h=>(m (Nz N ws) h).bind outF
noncomputable def Ct(N:Nat)(m:Ai):Bi:=λws h=>(F0 N m ws h).bind λp=>settle h p.1 p.2
def pY{K:As}{N n:Nat}{m:Ai}:∀vs H Q E,Lv K n (Ct N m) vs H Q E->Lv K n (F0 N m) vs H Q E:=λvs H Q E q=>by
 obtain⟨φ,h,ws,d,a,l,k⟩:=q;refine⟨φ,h,ws,d,a,l,?_⟩;unfold Ct at k;cases e:F0 N m ws h with
 |bad=>rw[e]at k;cases k
 |exc c h'=>rw[e]at k;exact k
 |ok p=>rw[e]at k;obtain⟨w,h1⟩:=p;intro v Bw H1 d1 x a1;obtain⟨CZ,h',es⟩:=fB h w h1;have k:J0 K φ H Q (QW K E) (settle h w h1):=k;rw[es]at k;obtain⟨BL,Fx,d',GT⟩:=fm d x d1 a1 es;exact k v BL H1 d' Fx GT
def adP{K:As}{φ:↑A6}{h:A5}{H:AE}{E:Ex}{N:↑Str}{ws:↑W}{vs:↑V}(d:DB K φ h H)(a:Ao K φ H ws vs):Rel (SU K φ H E) φ h H (B5.start N vs) (Nz ⇑N ws):=by
 have AG:=⇑a;refine⟨d,Ah.refl _ _,by simp[B5.start,Nz,AG],λi w e=>?_⟩;unfold Nz at e;unfold B5.start;by_cases AD:i< ⇑ws
 .rw[Gr (AD:),E5]at e;cases C_:ws[i]? with
  |none=>rw[C_]at e;cases e
  |some CZ=>
   rw[C_]at e;have:CZ=w:=(e:)
   subst this;obtain⟨v,ev,EH⟩:=a.get C_;exact⟨v,by rw[Gr (by simp;lia),E5,ev];rfl,EH⟩
 .rw[MM (AD:),XB]at e
  split at e<;>cases e
def u7{K:As}{n:Nat}{N:↑Str}{m:Ai}{vs:↑V}{H:AE}{Q:CR}{E:Ex}(q:Lv K n (F0 ⇑N m) vs H Q E) :
  ∃φ,G9 (SU K φ H E) m { AR:=λ_ A9=>Q .non A9,EM:=Q } (B5.start N vs) H:=by
 obtain⟨φ,h,ws,d,a,l,k⟩:=q;refine⟨φ,φ,Nz ⇑N ws,h,adP d a,?_⟩;unfold F0 at k;cases e:m (Nz ⇑N ws) h with
 |bad=>rw[e]at k;cases k
 |exc c h'=>rw[e]at k;exact k
 |ok p=>
  rw[e]at k;obtain⟨f,h1⟩:=p;cases f with
  |AR ρ=>exact λσ' BL A9 r x=>k .non BL A9 r.hd x (by erw[AW])
  |EM w=>exact λv BL A9 d' x GT=>k v BL A9 d' x GT
  |B_ _=>cases k
  |DL _=>cases k
structure Ab(X:Ar)(F:D2)(e:Al)(m:B7):Prop where
 p:Ag X e (C8 F m)
structure Fs(X:Ar)(F:D2)(e:Al)(m:DN):Prop where
 p:EU X e (HT F m)
structure HH(X:Ar)(F:D2)(e:↑Al)(m:EP):Prop where
 p:Gz X e (Ge F m)
structure Fq(X:Ar)(F:D2)(s:BG)(m:Ai):Prop where
 p:DO X s (G9 F m)
structure Kd(X:Ar)(F:D2)(s:↑BG)(m:Ai):Prop where
 p:HG X s (G9 F m)
structure QI(X:Ar)(F:D2)(C1 e:Al)(m:G4):Prop where
 p:HY X C1 e (g0 F m)
structure QH(X:Ar)(F:D2)(e:Al)(m:DG):Prop where
 p:HF X e (MH F m)
structure Cy(K:As)(mg:Str->Option A7)(x:Str)(st:BG)(ps:↑Str):Prop where
 ex:∃(f:A6)(fd:Hj),ON K x x st f fd/\mg x=↥(.ref f)/\Binds K fd ps []
structure D3(P:C5)(w:Bo)(K:As)(mg:Str->Option A7)(base:BH)(x:Str)(n k:Nat)(mf:Bi):Prop where
 ex:∃(f:A6)(fd:Hj)(ps:↑Str),⇑ps=n/\IZ P w K mg base (IX P w) k f fd ps (Lv K n mf)/\mg x=↥(.ref f)/\KA K (.ref f)=true/\Binds K fd ps []
abbrev C6(P:C5)(w:Bo)(K:As)(mg:Str->Option A7)(base:BH)(x:Str)(st:BG)(N:↑Str)(k:Nat)(m:Ai):Prop:=∀(f:A6)(FU:A7)(A:DA)(outer:↑Env)(s:AQ)(H:AE)(E:Ex),D4 k (A.deeper (PyProof.Rows.envOfC x (Bj st) s.heap.objs.size f FU))->∀φ BM,Kd (Kh (IX P w) P w K mg base N x (Bj st) f FU A outer s H E) (SU K φ BM E) (Ki st) m
def Vu{P:C5}{w:Bo}{K:As}{mg:Str->Option A7}{base:BH}{x qual:Str}{st:BG}{N ps:↑Str}{k:Nat}{m:Ai}{f:A6}{fd:Hj}(fn:ON K x qual st f fd)(S:By N ps (Bj st))(A4:C6 P w K mg base qual st N k m) :
  IZ P w K mg base (IX P w) (k+1) f fd ps (Lv K ⇑ps (F0 ⇑N m)):=by
 obtain⟨GJ,E1,Cd,doc,pm,an,FU,DL,Ox,rfl,lk,LI⟩:=fn.ex;refine iw lk LI S aec λA outer s H vs Q E BF AO=>?_;obtain⟨φ,BV⟩:=u7 AO;exact⟨_,(A4 f FU A outer s H E BF φ H).p,BV⟩
def MY{P:C5}{w:Bo}{K:As}{mg:Str->Option A7}{base:BH}{x:Str}{st:BG}{N ps:↑Str}{k:Nat}{m:Ai}(d:Cy K mg x st ps)(S:By N ps (Bj st))(A4:C6 P w K mg base x st N k m) :
  D3 P w K mg base x ⇑ps (k+1) (F0 ⇑N m):=by
 obtain⟨f,fd,fn,hm,Yn⟩:=d.ex;exact⟨f,fd,ps,rfl,Vu fn S A4,hm,fn.Bl,Yn⟩
def EO{P:C5}{w:Bo}{K:As}{mg:Str->Option A7}{base:BH}{x:Str}{st:BG}{N ps:↑Str}{k:Nat}{m:Ai}(d:Cy K mg x st ps)(S:By N ps (Bj st))(A4:C6 P w K mg base x st N k m) :
  D3 P w K mg base x ⇑ps (k+1) (Ct ⇑N m):=by
 obtain⟨f,fd,fn,hm,Yn⟩:=d.ex;exact⟨f,fd,ps,rfl,(Vu fn S A4).imp pY,hm,fn.Bl,Yn⟩
noncomputable def Ae(n:Nat)(mf:Bi)(m:EP):B7:=bd m λws _ h=>if ⇑ws=n then mf ws h else .bad
structure S_(X:Ar)(F:D2):Prop where
 ex:∃E,Passes (IX X.prog X.w) X E/\∀c H,F.My c H->QW X.K E c H
def k8{φ:↑A6}{h:A5}{H:AE}{σ :St}{ρ:B9}{Q:CR}{K:As}{My:Str->AE->Prop}(Aa:F.K=K)(r:Rel F φ h H σ ρ)(he:∀c H,F.My c H->My c H):∀{rs:R (W×A5)},D5 AW F φ H σ ρ Q rs->J0 K φ H Q My rs
 |.ok (w,h'),q=>λv BL A9 d x a=>by subst Aa;exact q v BL A9 (r.to d x) x a
 |.exc c h',q=>λBL A9 x d=>by subst Aa;exact he c A9 (q BL A9 x d)
 |.bad,q=>q
def z3{X:Ar}{n:Nat}{mf:Bi}{m:EP}{E:Ex}(Aa:F.K=X.K)(he:∀c H,F.My c H->QW X.K E c H):FR (C8 F (Ae n mf m)) (pe (Lv X.K n mf) [] E (Ge F m)):=λσ H Q q=>
 q.bd λws vs φ ρ h H1 r as q=>by
   split at q
   .rename_i AZ;rw[Io];exact⟨φ,h,ws,Aa▸r.hd,Aa▸as,AZ,k8 Aa r he q⟩
   .exact q.elim
end
structure Q9(K:As)(c:Str)(BB:↑Str):Prop where
 ex:∃C,IY K c C/\Ju K C/\∀f∈BB,RW K C f
def IY.inj{K:As}{c:Str}{C Lx:A6}(a:IY K c C)(b:IY K c Lx):C=Lx:=by unfold IY at a b;rw[a]at b;cases b;rfl
theorem dQ(f:Str):∀BB:↑(Str×V),BB.lookup f=HV BB f
 |[]=>rfl
 |(g,x)::r=>by
  by_cases h:g=f
  .subst h;rw[Wu rfl];simp[Xb]
  .rw[Wt h,<-dQ f r];have:(f==g)=false:=by simpa using λz:f=g=>h z.symm
   simp[Xb,this]
noncomputable def RL(h:A5)(c:Str):W->Option (Nat×↑Str×↑W)
 |.ref n=>match h[n]? with
  |some ⟨.ins GO ns,ws⟩=>if GO=c then↥(n,ns,ws)else none
  |_=>none
 |_=>none
noncomputable def SP:↑Str->Str->↑Str
 |[],f=>[f]
 |g::r,f=>if g=f then g::r else g::SP r f
noncomputable def RA:↑Str->↑W->Str->W->↑W
 |g::r,w::ws,f,u=>if g=f then u::ws else w::RA r ws f u
 |_,ws,_,u=>ws++[u]
section
variable{K:As}{φ:↑A6}{h:A5}{H:AE}{F:D2}{σ :St}{ρ:B9}{X:Ar}{m:B7}{ma:EP}
def eO(d:DB K φ h H){w:W}{v:V}{c:Str}{n:Nat}{ns:↑Str}{ws:↑W}(a:AW K φ H w v)(e:RL h c w=↥(n,ns,ws)):∃p C Bp BB,v=.ref p/\h[n]?=↥⟨.ins c ns,ws⟩/\φ[n]?=↥p/\IY K c C/\H p=↥(.ins C Bp BB)/\BB.map (·.1)=ns/\Ao K φ H ws (BB.map (·.2)):=by
 unfold RL at e
 split at e
 .split at e
  .rename_i Ay
   split at e
   .rename_i AI;cases e;subst AI;obtain⟨p,xs,rfl,Aq,⟨C,Bp,BB,AI,AV,AC,rfl⟩,BX⟩:=d.at Ay a;exact⟨p,C,Bp,BB,rfl,Ay,Aq,AI,AV,AC,BX⟩
   .cases e
  .cases e
 .cases e
noncomputable def B4(c f:Str):W->A5->R (W×A5):=λw h=>match RL h c w with
 |some (_,ns,ws)=>match Dg ns ws f with
  |some u=>.ok (u,h)
  |none=>.bad
 |none=>.bad
def zC{c f:Str}{BB:↑Str}(Aa:F.K=X.K)(cl:Q9 X.K c BB)(hf:f∈BB):FR (C8 F (Aw (B4 c f) m)) (qw X.K (C8 F m) f):=λσ H Q q=>
 q.bd λw v φ ρ h H1 r a q=>by
   unfold B4 at q
   split at q
   .rename_i n ns ws e;obtain⟨p,C,Bp,Nt,rfl,Ay,Aq,AI,AV,rfl,BX⟩:=eO r.hd a e;obtain⟨Lx,Bd,Co,F5⟩:=cl.ex;rw[Aa]at AI;have:=AI.inj Bd;subst this
    split at q
    .rename_i u GF;have Ep:=Ry f BX;rw[GF]at Ep;cases ev:HV Nt f with
     |none=>rw[ev]at Ep;cases Ep
     |some x=>rw[ev]at Ep;exact⟨p,C,Bp,Nt,x,rfl,AV,Co,F5 f hf,by rw[dQ];exact ev,q x φ H1 r (Ah.refl _ _) Ep⟩
    .exact q.elim
   .exact q.elim
theorem iy{f:Str}{u:W}{x:V}(b:AW K φ H u x):∀{BB:↑(Str×V)}{ws:↑W},Ao K φ H ws (BB.map (·.2))->(HS f x BB).map (·.1)=SP (BB.map (·.1)) f/\Ao K φ H (RA (BB.map (·.1)) ws f u) ((HS f x BB).map (·.2))
 |[],ws,a=>by
  cases ws with
  |nil=>exact⟨rfl,by erw[I2,RA,HS];exact .cons b .nil⟩
  |cons _ _=>have:=⇑a;simp at this
 |(g,v)::BB,ws,a=>by
  cases ws with
  |nil=>have:=⇑a;simp at this
  |cons w ws=>
   erw[D9,Ao]at a;obtain⟨J7,r,e,a1,a2⟩:=a;cases e;obtain⟨Ck,F8⟩:=iy b a2;erw[D9,SP,RA,HS];by_cases Aj:g=f
   .rw[if_pos Aj,if_pos Aj,if_pos Aj];exact⟨rfl,.cons b a2⟩
   .rw[if_neg Aj,if_neg Aj,if_neg Aj];exact⟨by rw[D9,Ck],.cons a1 F8⟩
noncomputable def Vt(c f:Str)(o v:W):Ai:=λρ h=>match RL h c o with
 |some (n,ns,ws)=>if ⇑ns<1000 then .ok (.AR ρ,h.set n ⟨.ins c (SP ns f),RA ns ws f v⟩)else .bad
 |none=>.bad
noncomputable def F1(c f:Str)(o v:B7):Ai:=bd v λOX=>bd o λWF=>Vt c f WF OX
def zD{c f:Str}{BB:↑Str}{o v:B7}(Aa:F.K=X.K)(cl:Q9 X.K c BB)(hf:f∈BB):KZ (G9 F (F1 c f o v)) (ni X.K (C8 F o) (C8 F v) f):=λDe σ H q=>
 q.bd λOX y φ ρ h H1 r Gi q=>⟨φ,ρ,h,r,E8.bd q λWF x Bw h1 AU Av x1 EQ q=>by
   unfold Vt at q
   split at q
   .rename_i n ns ws e;obtain⟨p,C,Bp,Nt,rfl,Ay,Aq,AI,AV,rfl,BX⟩:=eO Av.hd EQ e;obtain⟨Lx,Bd,Co,F5⟩:=cl.ex;have Mb:=AI;rw[Aa]at AI;have:=AI.inj Bd;subst this
    split at q
    .rename_i AG;obtain⟨Ck,F8⟩:=iy (f:=f) (Gi.ex x1) BX;have x2:Ah Bw AU Bw (upd AU p (.ins C Bp (HS f y Nt))):=Ah.put AV λz=>z;refine⟨p,C,Bp,Nt,rfl,AV,Co,F5 f hf,(AG:),q σ Bw _ (Av.to (Av.hd.put Ay Aq AV (λz=>z) (o':=⟨.ins c _,_⟩) ⟨C,Bp,_,Mb,E3,Ck,rfl⟩ F8) x2) x2⟩
    .exact q.elim
   .exact q.elim⟩
structure InK(K:As)(mg:Str->Option A7)(DZ qual:Str)(st:BG)(ps:↑Str):Prop where
 ex:∃(C f:A6)(fd:Hj),IY K DZ C/\YB K C f/\ON K "__init__" qual st f fd/\mg DZ=↥(.ref C)/\Binds K fd ps []
structure Uu(P:C5)(w:Bo)(K:As)(mg:Str->Option A7)(base:BH)(DZ:Str)(n k:Nat)(mf:Bi):Prop where
 ex:∃(C f:A6)(fd:Hj)(ps:↑Str),⇑ps=n+1/\IY K DZ C/\YB K C f/\IZ P w K mg base (IX P w) k f fd ps (Lv K (n+1) mf)/\mg DZ=↥(.ref C)/\Binds K fd ps []
def fe{P:C5}{w:Bo}{K:As}{mg:Str->Option A7}{base:BH}{qual DZ Jo:Str}{st:BG}{N ps:↑Str}{k:Nat}{m:Ai}(d:InK K mg DZ qual st (Jo::ps))(S:By N (Jo::ps) (Bj st))(A4:C6 P w K mg base qual st N k m) :
  Uu P w K mg base DZ ⇑ps (k+1) (F0 ⇑N m):=by
 obtain⟨C,f,fd,h1,h2,BO,Cc,F7⟩:=d.ex;exact⟨C,f,fd,Jo::ps,rfl,h1,h2,Vu BO S A4,Cc,F7⟩
noncomputable def aar(n:Nat):W×A5->R (W×A5)
 |(.non,h)=>.ok (.ref n,h)
 |_=>.bad
noncomputable def J1(c:Str)(n:Nat)(mf:Bi)(m:EP):B7:=bd m λws _ h=>if ⇑ws=n then(mf (.ref ⇑h::ws) (h++[⟨.ins c [],[]⟩])).bind (aar ⇑h)else .bad
def zJ{c:Str}{C:A6}{n:Nat}{mf:Bi}{E:Ex}(Aa:F.K=X.K)(AI:IY X.K c C)(he:∀c H,F.My c H->QW X.K E c H):FR (C8 F (J1 c n mf ma)) (r0 C (Lv X.K (n+1) mf) [] E (Ge F ma)):=λσ H Q q=>
 q.bd λws vs φ ρ h H1 r as q x Bp AM hd Iz=>by
   split at q
   .rename_i AZ;have x1:Ah φ H1 φ (upd H1 Bp (.own x)):=Ah.lay hd;have d1:=r.hd.lay (o:=.own x) hd;have kY:upd H1 Bp (.own x) x=none:=by rw[DF (Lj Iz)];exact AM
    have F6:=d1.new (ho:=.ins C Bp []) (k:=.ins c []) kY ⟨C,Bp,[],Aa▸AI,E3,rfl,rfl⟩ .nil;have x2:Ah φ (upd H1 Bp (.own x)) (φ++[x]) (upd (upd H1 Bp (.own x)) x (.ins C Bp [])):=Ah.Q1 kY;have Rz:=x1.trans x2;have ex:(φ++[x])[⇑h]?=↥x:=VA r.hd;rw[Io];refine⟨φ++[x],_,.ref ⇑h::ws,Aa▸F6,.cons (.GK ex) (Aa▸as.ex Rz),by simp[AZ],?_⟩;cases e:mf (.ref ⇑h::ws) (h++[⟨.ins c [],[]⟩])with
    |bad=>rw[e]at q;cases q
    |exc GO h'=>rw[e]at q;exact λBL A9 Fx d'=>he GO A9 (q BL A9 (Rz.trans Fx) (Aa▸d'))
    |ok p=>
     rw[e]at q;obtain⟨w,h'⟩:=p;cases w<;>try cases q
     intro v BL A9 d' Fx GT;erw[AW]at GT;exact⟨GT,q _ BL A9 (r.to (Aa▸d') (Rz.trans Fx)) (Rz.trans Fx) (.GK (F_ Fx.p ex))⟩
   .exact q.elim
structure Ib(K:As)(DZ x qual:Str)(st:BG)(ps:↑Str):Prop where
 ex:∃(C f:A6)(fd:Hj),IY K DZ C/\Ju K C/\Meth K C x f/\ON K x qual st f fd/\Binds K fd ps []
structure Gy(P:C5)(w:Bo)(K:As)(mg:Str->Option A7)(base:BH)(DZ x:Str)(n k:Nat)(mf:Bi):Prop where
 ex:∃(C f:A6)(fd:Hj)(ps:↑Str),⇑ps=n+1/\IY K DZ C/\Ju K C/\Meth K C x f/\IZ P w K mg base (IX P w) k f fd ps (Lv K (n+1) mf)/\Binds K fd ps []
def JS{P:C5}{w:Bo}{K:As}{mg:Str->Option A7}{base:BH}{x qual DZ Jo:Str}{st:BG}{N ps:↑Str}{k:Nat}{m:Ai}(d:Ib K DZ x qual st (Jo::ps))(S:By N (Jo::ps) (Bj st))(A4:C6 P w K mg base qual st N k m) :
  Gy P w K mg base DZ x ⇑ps (k+1) (F0 ⇑N m):=by
 obtain⟨C,f,fd,h1,h2,BO,Cc,F7⟩:=d.ex;exact⟨C,f,fd,Jo::ps,rfl,h1,h2,BO,Vu Cc S A4,F7⟩
def Gy.st{P:C5}{w:Bo}{K:As}{mg:Str->Option A7}{base:BH}{x DZ:Str}{N n k:Nat}{m:Ai}(d:Gy P w K mg base DZ x n k (F0 N m)):Gy P w K mg base DZ x n k (Ct N m):=by obtain⟨C,f,fd,ps,h0,h1,h2,BO,Cc,F7⟩:=d.ex;exact⟨C,f,fd,ps,h0,h1,h2,BO,Cc.imp pY,F7⟩
noncomputable def VX{α:Type}(c x:Str)(w:W)(m:M α):M α:=λρ h=>match RL h c w with
 |some (_,ns,ws)=>match Dg ns ws x with
  |none=>m ρ h
  |some _=>.bad
 |none=>.bad
noncomputable def Bz(c x:Str)(n:Nat)(mf:Bi)(o:B7)(ma:EP):B7:=bd o λw=>VX c x w (bd ma λws _ h=>if ⇑ws=n then mf (w::ws) h else .bad)
def eK{c x:Str}{C:A6}{n:Nat}{mf:Bi}{E:Ex}{o:B7}(Aa:F.K=X.K)(AI:IY X.K c C)(he:∀c H,F.My c H->QW X.K E c H):FR (C8 F (Bz c x n mf o ma)) (aW C x (Lv X.K (n+1) mf) [] E (C8 F o) (Ge F ma)):=λσ H Q q=>
 q.bd λw v φ ρ h H1 r a q=>by
   unfold VX at q
   split at q
   .rename_i nn ns ws e;obtain⟨p,Lx,Bp,Nt,rfl,Ay,Aq,Mb,AV,rfl,BX⟩:=eO r.hd a e;rw[Aa]at Mb;have:=AI.inj Mb;subst this
    split at q
    .rename_i GF;have Ep:=Ry x BX;rw[GF]at Ep;cases ev:HV Nt x with
     |some _=>rw[ev]at Ep;cases Ep
     |none=>
      refine⟨p,Bp,Nt,rfl,AV,by rw[dQ];exact ev,φ,ρ,h,r,q.bd λus vs CJ h2 AU BJ x2 as q=>?_⟩
      split at q
      .rename_i AZ;rw[Io];exact⟨CJ,h2,w::us,Aa▸BJ.hd,.cons (Aa▸a.ex x2) (Aa▸as),by simp[AZ],k8 Aa BJ he q⟩
      .exact q.elim
    .exact q.elim
   .exact q.elim
structure SY(K:As)(mg:Str->Option A7)(c:Str):Prop where
 ex:∃C,IY K c C/\mg c=↥(.ref C)/\Ub K C [.type "ValueError",.type "Exception",.type "BaseException",.type "object"] "ValueError.__new__"=true
def NU(c:Str):Ai:=λ_ h=>.exc c h
end
section
variable{P:C5}{w:Bo}{K:As}{mg:Str->Option A7}{base:BH}{N:↑Str}{qual:Str}{scope:FF}{f:A6}{cd:A7}{A:DA}{outer:↑Env}{s0:AQ}{OO:AE}{E:Ex}{φ:↑A6}{BM:AE}
def aE{x:Str}{np Cs pos Su:Pos}{m:Str}{j:Nat}(k:SY K mg x)(Aj:ET (Kh (IX P w) P w K mg base N qual scope f cd A outer s0 OO E) x:=by rfl)(hd:(x==("__debug__" :Str))=false:=by decide) :
  Fq (Kh (IX P w) P w K mg base N qual scope f cd A outer s0 OO E) (SU K φ BM E) (.Raise ↥(.Call (.Name x np) [.Constant (.str m) j Su] [] Cs) none pos) (NU x):=by
 obtain⟨C,h1,h2,BO⟩:=k.ex;refine⟨λA3 s σ H D J q=>aeB (X:=Kh (IX P w) P w K mg base N qual scope f cd A outer s0 OO E) PySem.F.excBase_ValueError BO h2 rfl Aj hd A3 s σ H D J ?_⟩;obtain⟨BL,ρ,h,r,q⟩:=q;obtain⟨Lx,Bd,Co⟩:=(show df (SU K φ BM E) BL H x h from q) BL H (Ah.refl _ _) r.hd;have:=h1.inj Bd;subst this;exact ahJ Co
def b2:S_ (Kh (IX P w) P w K mg base N qual scope f cd A outer s0 OO E) (SU K φ BM E):=⟨E,ad7,λ_ _ q=>q⟩
end
def b1{X:Ar}{K:As}{φ:↑A6}{H:AE}:S_ X (Ij K φ H):=⟨λ_ _ _=>False,λ_ _ _ _ _ _ _ z=>by obtain⟨_,_,_,_,_,_,_,z⟩:=z;exact z.elim,λ_ _ q=>q.elim⟩
noncomputable def notStar:Al->Bool
 |.Starred .. =>false
 |_=>true
def pd(e:Al)(es:↑Al)(env:Env)(h:notStar e=true):CK (e::es) env=(false,Bc e env)::CK es env:=by cases e<;>first|rfl|(cases h)
noncomputable def U0:Al->Bool
 |.ListComp .. =>false
 |.SetComp .. =>false
 |.DictComp .. =>false
 |_=>true
def aP(e:Al)(t:Option Al)(l:Nat)(env:Env)(h:U0 e=true):NE e t l env=pure false:=by cases e<;>first|rfl|(cases h)
def acB:Al->Bool
 |.Slice .. =>false
 |_=>true
def er{b:Al}(h:acB b=true:=by rfl):cG b:=λo i=>by cases b<;>first|rfl|(cases h)
section
variable{X:Ar}{F:D2}{e a b c o:Al}{es:↑Al}{pos p Cv apos:Pos}{m n l:B7}{ma:EP}{st:BG}{QP:↑BG}{C1 iter:Al}{mg:DG}
def Ag.imp{t t':TE}(h:Ag X e t)(i:FR t' t):Ag X e t':=λA3 s σ H Q J hw=>h A3 s σ H Q J (i σ H Q hw)
def EU.imp{t t':TT}(h:EU X e t)(i:RT t' t):EU X e t':=λA3 s σ H Q J hw=>h A3 s σ H Q J (i σ H Q hw)
def Jw.imp{t t':TT}(h:Jw X e t)(i:RT t' t):Jw X e t':=λOY A3 s σ H Q J hw=>h OY A3 s σ H Q J (i σ H Q hw)
def Gz.imp{t t':Fd}(h:Gz X es t)(i:c2 t' t):Gz X es t':=λp A3 s σ H Q J hw=>h p A3 s σ H Q J (i σ H Q hw)
def DO.imp{t t':F3}(h:DO X st t)(i:KZ t' t):DO X st t':=λA3 s σ H De J hw=>h A3 s σ H De J (i De σ H hw)
def HG.imp{t t':F3}(h:HG X QP t)(i:KZ t' t):HG X QP t':=λA3 s σ H De J hw=>h A3 s σ H De J (i De σ H hw)
def HY.imp{t t':TI}(h:HY X C1 e t)(i:∀ σ H R,t' σ H R->t σ H R):HY X C1 e t':=λA3 s σ H Q J hw=>h A3 s σ H Q J (i σ H Q hw)
def HF.imp{t t':Jx}(h:HF X C1 t)(i:Y8 t' t):HF X C1 t':=λA3 s σ H v u Q J r hw=>h A3 s σ H v u Q J r (i v σ H Q hw)
def LD.imp{t t':OE}(h:LD X es t)(i:∀vs σ H Q,t' vs σ H Q->t vs σ H Q):LD X es t':=λA3 s σ H v u Q J r hw=>h A3 s σ H v u Q J r (i v σ H Q hw)
structure sY(X:Ar)(i:Nat)(x:Str):Prop where
 N:X.N[i]?=↥x:=by rfl
 v:YG X.env.scope x:=by first|exact Or.inl rfl|exact Or.inr (Or.inl rfl)|exact Or.inr (Or.inr rfl)
 d:(x==("__debug__" :Str))=false:=by decide
 cd:(x==("__classdict__" :Str))=false:=by decide
structure Ns(X:Ar)(i:Nat)(x:Str):Prop where
 N:X.N[i]?=↥x:=by rfl
 l:Loc X.env.scope x:=by first|exact Or.inl rfl|exact Or.inr rfl
 f:X.fn x=true\/X.env.scope.names.lookup x=↥.local:=by first|exact .inl rfl|exact .inr rfl
def agp(i:Nat){x:Str}(k:sY X i x:=by exact{}):Ab X F (.Name x pos) (I i):=⟨Ag.imp (acg k.N k.v k.d k.cd) (yi i)⟩
def ah1{i:Int}{j}:Ab X F (.Constant (.int i) j pos) (pu (.int i)):=⟨Ag.imp adL (VR λ_ _=>by erw[AW])⟩
def afv{i:Bool}{j}:Ab X F (.Constant (.bool i) j pos) (pu (.AL i)):=⟨Ag.imp ad9 (VR λ_ _=>by erw[AW])⟩
def agj{i:Str}{j}:Ab X F (.Constant (.str i) j pos) (pu (.str i)):=⟨Ag.imp fX (VR λ_ _=>by erw[AW])⟩
def agY{j}:Ab X F (.Constant .none j pos) (pu .non):=⟨Ag.imp acZ (VR λ_ _=>by erw[AW])⟩
structure Ly(K:As)(mg:Str->Option A7)(x:Str)(w:W):Prop where
 ex:∃(v:V)(u:A7),mg x=↥u/\RelV v u/\∀φ H,AW K φ H w v
def P0{x:Str}{w:W}(k:Ly X.K X.mg x w)(Aa:F.K=X.K:=by rfl)(Aj:ET X x:=by rfl)(hd:(x==("__debug__" :Str))=false:=by decide):Ab X F (.Name x pos) (pu w):=by obtain⟨v,u,h1,h2,BO⟩:=k.ex;exact⟨Ag.imp (adJ Aj h1 h2 hd) (VR (by rw[Aa];exact BO))⟩
def agi(h:Ab X F e m):Ab X F e (Bh m):=⟨Ag.imp h.p ye⟩
def ahU{k:DN}(h:Fs X F e k):Fs X F e (Hn k):=⟨EU.imp h.p yf⟩
def afo:HH X F [] A1:=⟨Gz.imp WI VT⟩
def afn(h:Ab X F e m)(t:HH X F es ma)(AO:notStar e=true:=by rfl):HH X F (e::es) (Z m ma):=⟨Gz.imp (U3 h.p t.p (pd e es X.env AO)) a3⟩
def agn{k}(h:HH X F es ma):Ab X F (.Tuple es k pos) (BE ma):=⟨Ag.imp (ace h.p) yg⟩
def ah9(h:HH X F es ma):Ab X F (.List es pos) (Bg ma):=⟨Ag.imp (acV h.p) zI⟩
structure Ra(X:Ar)(F:D2)(e:Al)(m:DN):Prop where
 p:Jw X e (HT F m)
def ahV(h:Ab X F e m)(he:∀whole,isTrue e X.env whole=(do let v <-whole;MU e.pos;JF [v] (truthy v)):=by intro _;rfl):Fs X F e (AT m):=⟨EU.imp (aeN h.p he) Km⟩
def ahY{k:DN}(h:Fs X F a k):Ra X F (.BoolOp .And [a] pos) k:=⟨ada h.p⟩
def ah_{k:DN}(h:Fs X F a k):Ra X F (.BoolOp .Or [a] pos) k:=⟨ade h.p⟩
def ahX{k j:DN}(h:Fs X F a k)(t:Ra X F (.BoolOp .And (b::es) pos) j):Ra X F (.BoolOp .And (a::b::es) pos) (Eg k j):=⟨Jw.imp (ad_ h.p t.p) z1⟩
def ahZ{k j:DN}(h:Fs X F a k)(t:Ra X F (.BoolOp .Or (b::es) pos) j):Ra X F (.BoolOp .Or (a::b::es) pos) (FY k j):=⟨Jw.imp (adb h.p t.p) zN⟩
def ahW{k:DN}(h:Ra X F e k):Fs X F e k:=⟨Jw.pt h.p⟩
def ahS{k:DN}(h:Fs X F a k):Fs X F (.UnaryOp .Not a pos) (Dj k):=⟨EU.imp (aeM h.p) zL⟩
def aga{op}(h:Ab X F a m):Ab X F (.BoolOp op [a] pos) m:=⟨aca h.p⟩
def afs(h:Ab X F a m)(k:Ab X F (.BoolOp .And (b::es) pos) n):Ab X F (.BoolOp .And (a::b::es) pos) (MC m n):=⟨Ag.imp (ad8 h.p k.p) z2⟩
def agb(h:Ab X F a m)(k:Ab X F (.BoolOp .Or (b::es) pos) n):Ab X F (.BoolOp .Or (a::b::es) pos) (WX m n):=⟨Ag.imp (acb h.p k.p) yW⟩
def agZ(h:Ab X F a m):Ab X F (.UnaryOp .Not a pos) (WW m):=⟨Ag.imp (ac_ h.p) zM⟩
def agz{k:DN}(h:Fs X F c k)(AF:Ab X F a m)(A4:Ab X F b n):Ab X F (.IfExp c a b pos) (LX k m n):=⟨Ag.imp (adK h.p AF.p A4.p) zF⟩
def ahr:Kd X F [] BR:=⟨HG.imp aeJ eL⟩
def ahj{u v:Ai}(h:Fq X F st u)(k:Kd X F QP v):Kd X F (st::QP) (AN u v):=⟨HG.imp (aeH h.p k.p) yb⟩
def ahs{u:Ai}(h:Fq X F st u):Kd X F [st] u:=⟨aeK h.p⟩
def aht:Fq X F (.Pass pos) BR:=⟨DO.imp aeA eL⟩
def ahk{x j Cv}:Fq X F (.Expr (.Constant (.str x) j pos) Cv) BR:=⟨DO.imp ae4 eL⟩
def ahm(h:Ab X F e m)(AO:U0 e=true:=by rfl):Fq X F (.Expr e pos) (E_ m):=⟨DO.imp (ae6 h.p (aP _ _ _ _ AO)) zB⟩
def ahv(h:Ab X F e m):Fq X F (.Return ↥e pos) (Au m):=⟨DO.imp (aeC h.p) yZ⟩
def ahw:Fq X F (.Return none pos) (Au (pu .non)):=⟨DO.imp aeD y_⟩
def ahq{k:DN}{u v:Ai}{xs ys:↑BG}(h:Fs X F c k)(AF:Kd X F xs u)(A4:Kd X F ys v):Fq X F (.If c xs ys pos) (BU k u v):=⟨DO.imp (ae8 h.p AF.p A4.p) zG⟩
def ahx(i:Nat){x:Str}(hN:X.N.Nodup)(he:Ab X F e m)(k:Ns X i x:=by exact{})(AO:U0 e=true:=by rfl):Fq X F (.Assign [.Name x p] e pos) (AX m (AA i)):=⟨DO.imp (aeE hN k.N k.l he.p (aP _ _ _ _ AO) k.f) λDe σ H q=>
 q.bd λw v φ ρ h H1 r a q=>by
   unfold AA at q
   split at q
   .rename_i AD;exact q _ φ H1 (r.set AD a) (Ah.refl _ _)
   .exact q.elim⟩
def agr(i:Nat){x:Str}(hN:X.N.Nodup)(k:Ns X i x:=by exact{}):QH X F (.Name x pos) (AA i):=⟨HF.imp (WM hN k.N k.l k.f) (VS i)⟩
structure YH(X:Ar)(F:D2)(es:↑Al)(FO:↑DG):Prop where
 p:LD X es (Vz F FO)
def ags:YH X F [] []:=⟨LD.imp me kh⟩
def agq{g:DG}{FO:↑DG}(h:QH X F e g)(t:YH X F es FO)(AO:(Lh (e::es) X.env).map (·.2)=Kz e X.env::(Lh es X.env).map (·.2):=by rfl):YH X F (e::es) (g::FO):=⟨LD.imp (ea h.p t.p AO) eI⟩
def agt{k:Nat}{FO:↑DG}(h:YH X F es FO)(AI:X.calm=true:=by rfl)(Aa:F.K=X.K:=by rfl)(AZ:⇑(Lh es X.env)=⇑FO:=by rfl)(Fp:(Lh es X.env).findIdx? (·.1)=none:=by rfl):QH X F (.Tuple es k pos) (EY FO):=⟨HF.imp (md AI h.p AZ Fp) (jm Aa rfl)⟩
def afq(AF:Ab X F a m)(A4:Ab X F b n)(Aa:F.K=X.K:=by rfl):Ab X F (.BinOp a .Add b pos) (A0 addW m n):=⟨Ag.imp (Pe abO AF.p A4.p) (Ft (aba Aa))⟩
def agl(AF:Ab X F a m)(A4:Ab X F b n)(Aa:F.K=X.K:=by rfl):Ab X F (.BinOp a .Sub b pos) (A0 Nf m n):=⟨Ag.imp (Pe ad1 AF.p A4.p) (Ft (Lp λ_ _ _ _ _=>by erw[AW]))⟩
def ahF(AF:Ab X F a m)(A4:Ab X F b n)(Aa:F.K=X.K:=by rfl):Ab X F (.BinOp a .Mult b pos) (A0 KJ m n):=⟨Ag.imp (Pe (acx.or acz) AF.p A4.p) (Ft abl)⟩
def afy(AF:Ab X F a m)(A4:Ab X F b n)(Aa:F.K=X.K:=by rfl):Ab X F (.BinOp a .FloorDiv b pos) (A0 CT m n):=⟨Ag.imp (Pe abT AF.p A4.p) (Ft (ZJ λ_ _ _ _ _=>by erw[AW]))⟩
def ahE(AF:Ab X F a m)(A4:Ab X F b n)(Aa:F.K=X.K:=by rfl):Ab X F (.BinOp a .Mod b pos) (A0 BK m n):=⟨Ag.imp (Pe abt AF.p A4.p) (Ft (ZJ λ_ _ _ _ _=>by erw[AW]))⟩
def age(AF:Ab X F a m)(A4:Ab X F b n)(Aa:F.K=X.K:=by rfl):Ab X F (.BinOp a .Pow b pos) (A0 Oy m n):=⟨Ag.imp (Pe acy AF.p A4.p) (Ft (ZJ λ_ _ _ _ _=>by erw[AW]))⟩
def agf(AF:Ab X F a m)(A4:Ab X F b n)(Aa:F.K=X.K:=by rfl):Ab X F (.BinOp a .RShift b pos) (A0 afG m n):=⟨Ag.imp (Pe ad0 AF.p A4.p) (Ft (ZJ λ_ _ _ _ _=>by erw[AW]))⟩
def aft(AF:Ab X F a m)(A4:Ab X F b n)(Aa:F.K=X.K:=by rfl):Ab X F (.BinOp a .BitAnd b pos) (A0 sv m n):=⟨Ag.imp (Pe abQ AF.p A4.p) (Ft (Lp λ_ _ _ _ _=>by erw[AW]))⟩
def ahA(AF:Ab X F a m)(A4:Ab X F b n)(Aa:F.K=X.K:=by rfl):Ab X F (.Compare a [.Lt] [b] pos) (A0 Jf m n):=⟨Ag.imp (Lq Zp AF.p A4.p (Hp _)) (Ft (Lp λ_ _ _ _ _=>by erw[AW]))⟩
def ahO(AF:Ab X F a m)(A4:Ab X F b n)(Aa:F.K=X.K:=by rfl):Fs X F (.Compare a [.Lt] [b] pos) (AT (A0 Jf m n)):=⟨EU.imp (Ls Zp AF.p A4.p (Hp _)) λσ H Q q=>let⟨φ,ρ,h,r,z⟩:=Km σ H Q q;Ft (Lp λ_ _ _ _ _=>by erw[AW]) σ H _ ⟨φ,ρ,h,r,z⟩⟩
def ah4(AF:Ab X F a m)(A4:Ab X F b n)(Aa:F.K=X.K:=by rfl):Ab X F (.Compare a [.LtE] [b] pos) (A0 HL m n):=⟨Ag.imp (Lq Pd AF.p A4.p (Hp _)) (Ft (Lp λ_ _ _ _ _=>by erw[AW]))⟩
def ahN(AF:Ab X F a m)(A4:Ab X F b n)(Aa:F.K=X.K:=by rfl):Fs X F (.Compare a [.LtE] [b] pos) (AT (A0 HL m n)):=⟨EU.imp (Ls Pd AF.p A4.p (Hp _)) λσ H Q q=>let⟨φ,ρ,h,r,z⟩:=Km σ H Q q;Ft (Lp λ_ _ _ _ _=>by erw[AW]) σ H _ ⟨φ,ρ,h,r,z⟩⟩
def agy(AF:Ab X F a m)(A4:Ab X F b n)(Aa:F.K=X.K:=by rfl):Ab X F (.Compare a [.Gt] [b] pos) (A0 Kl m n):=⟨Ag.imp (Lq lH AF.p A4.p (Hp _)) (Ft (Lp λ_ _ _ _ _=>by erw[AW]))⟩
def ahK(AF:Ab X F a m)(A4:Ab X F b n)(Aa:F.K=X.K:=by rfl):Fs X F (.Compare a [.Gt] [b] pos) (AT (A0 Kl m n)):=⟨EU.imp (Ls lH AF.p A4.p (Hp _)) λσ H Q q=>let⟨φ,ρ,h,r,z⟩:=Km σ H Q q;Ft (Lp λ_ _ _ _ _=>by erw[AW]) σ H _ ⟨φ,ρ,h,r,z⟩⟩
def agx(AF:Ab X F a m)(A4:Ab X F b n)(Aa:F.K=X.K:=by rfl):Ab X F (.Compare a [.GtE] [b] pos) (A0 cn m n):=⟨Ag.imp (Lq kr AF.p A4.p (Hp _)) (Ft (Lp λ_ _ _ _ _=>by erw[AW]))⟩
def ai4(AF:Ab X F a m)(A4:Ab X F b n)(Aa:F.K=X.K:=by rfl):Fs X F (.Compare a [.GtE] [b] pos) (AT (A0 cn m n)):=⟨EU.imp (Ls kr AF.p A4.p (Hp _)) λσ H Q q=>let⟨φ,ρ,h,r,z⟩:=Km σ H Q q;Ft (Lp λ_ _ _ _ _=>by erw[AW]) σ H _ ⟨φ,ρ,h,r,z⟩⟩
def afX(BQ:X.A.units+64<Dv)(AF:Ab X F a m)(A4:Ab X F b n)(Aa:F.K=X.K:=by rfl):Ab X F (.Compare a [.Eq] [b] pos) (A0 (Ap true) m n):=⟨Ag.imp (Lq (ZO BQ).1 AF.p A4.p (Hp _)) (Ft (ZH Aa true))⟩
def ai2(BQ:X.A.units+64<Dv)(AF:Ab X F a m)(A4:Ab X F b n)(Aa:F.K=X.K:=by rfl):Fs X F (.Compare a [.Eq] [b] pos) (AT (A0 (Ap true) m n)):=⟨EU.imp (Ls (ZO BQ).1 AF.p A4.p (Hp _)) λσ H Q q=>let⟨φ,ρ,h,r,z⟩:=Km σ H Q q;Ft (ZH Aa true) σ H _ ⟨φ,ρ,h,r,z⟩⟩
def ahG(BQ:X.A.units+64<Dv)(AF:Ab X F a m)(A4:Ab X F b n)(Aa:F.K=X.K:=by rfl):Ab X F (.Compare a [.NotEq] [b] pos) (A0 (Ap false) m n):=⟨Ag.imp (Lq (ZO BQ).2 AF.p A4.p (Hp _)) (Ft (ZH Aa false))⟩
def ahP(BQ:X.A.units+64<Dv)(AF:Ab X F a m)(A4:Ab X F b n)(Aa:F.K=X.K:=by rfl):Fs X F (.Compare a [.NotEq] [b] pos) (AT (A0 (Ap false) m n)):=⟨EU.imp (Ls (ZO BQ).2 AF.p A4.p (Hp _)) λσ H Q q=>let⟨φ,ρ,h,r,z⟩:=Km σ H Q q;Ft (ZH Aa false) σ H _ ⟨φ,ρ,h,r,z⟩⟩
def ah2(AF:Ab X F a m)(A4:Ab X F b n)(Aa:F.K=X.K:=by rfl):Ab X F (.Compare a [.Is] [b] pos) (A0 (EZ true) m n):=⟨Ag.imp (Lq mQ AF.p A4.p (Hp _)) (Ft (ZK true))⟩
def ahM(AF:Ab X F a m)(A4:Ab X F b n)(Aa:F.K=X.K:=by rfl):Fs X F (.Compare a [.Is] [b] pos) (AT (A0 (EZ true) m n)):=⟨EU.imp (Ls mQ AF.p A4.p (Hp _)) λσ H Q q=>let⟨φ,ρ,h,r,z⟩:=Km σ H Q q;Ft (ZK true) σ H _ ⟨φ,ρ,h,r,z⟩⟩
def ag_(AF:Ab X F a m)(A4:Ab X F b n)(Aa:F.K=X.K:=by rfl):Ab X F (.Compare a [.IsNot] [b] pos) (A0 (EZ false) m n):=⟨Ag.imp (Lq mS AF.p A4.p (Hp _)) (Ft (ZK false))⟩
def ahT(AF:Ab X F a m)(A4:Ab X F b n)(Aa:F.K=X.K:=by rfl):Fs X F (.Compare a [.IsNot] [b] pos) (AT (A0 (EZ false) m n)):=⟨EU.imp (Ls mS AF.p A4.p (Hp _)) λσ H Q q=>let⟨φ,ρ,h,r,z⟩:=Km σ H Q q;Ft (ZK false) σ H _ ⟨φ,ρ,h,r,z⟩⟩
noncomputable def Ff:W->A5->R (W×A5):=λw h=>match w with
 |.int i=>.ok (.int (-i),h)
 |_=>.bad
def ahI(AF:Ab X F a m):Ab X F (.UnaryOp .USub a pos) (Aw Ff m):=⟨Ag.imp (acf agD AF.p) (yh λσ ρ φ h H x w Q r a q=>by
 cases w with
 |int i=>erw[AW]at a;exact⟨i,a,q _ φ H r (Ah.refl _ _) (by erw[AW])⟩
 |_=>cases q)⟩
noncomputable def Oo(f g:Ir)(a b c:B7):B7:=bd a λx=>bd b λy=>bd (λ_ h=>f x y h) (N1 λk=>if k=true then bd c λz _ h=>g y z h else pu (.AL false))
def ke{r Bf:En}{f g:Ir}(hf:II F r f)(Aj:II F Bf g):FR (C8 F (Oo f g m n l)) (fy r Bf (C8 F m) (C8 F n) (C8 F l)):=λσ H Q q=>
 q.bd λx v φ ρ h H1 Av EQ q=>⟨φ,ρ,h,Av,q.bd λy u CJ h2 AU BJ x2 Gi q=>hf σ ρ CJ h2 AU v u x y _ BJ (EQ.ex x2) Gi (q.bd λk Bs K9 BO Bv Fi x3 sm q=>by
   obtain⟨c,e,q⟩:=Uh sm q;refine⟨c,e,?_⟩;cases c with
   |false=>exact q _ K9 Bv Fi (Ah.refl _ _) (NZ _)
   |true=>have q:D5 AW F K9 Bv σ ρ Q (bd l (λz _ h=>g y z h) ρ BO):=q;exact⟨K9,ρ,BO,Fi,q.bd λz ahh aM Cc Cb NY x4 Sh q=>Aj σ ρ aM Cc Cb u ahh y z Q NY (Gi.ex (x3.trans x4)) Sh q⟩)⟩
def qM{op Jn:CmpOp}{r Bf:En}{f g:Ir}(ho:Do X (G3 op) r)(I5:Do X (G3 Jn) Bf)(hf:II F r f)(Aj:II F Bf g)(AF:Ab X F a m)(A4:Ab X F b n)(AI:Ab X F c l)(hm:lastMarks [op,Jn] [b,c]=false:=by with_unfolding_all rfl):Ab X F (.Compare a [op,Jn] [b,c] pos) (Oo f g m n l):=⟨Ag.imp (adC ho I5 AF.p A4.p AI.p hm) (ke hf Aj)⟩
def U2:II F (LM λi j=>.AL (decide (i<=j))) HL:=Lp λ_ _ _ _ _=>by erw[AW]
def kn:II F (LM λi j=>.AL (decide (i<j))) Jf:=Lp λ_ _ _ _ _=>by erw[AW]
def qN{op Jn:CmpOp}{r Bf:En}{f g:Ir}(ho:Do X (G3 op) r)(I5:Do X (G3 Jn) Bf)(hf:II F r f)(Aj:II F Bf g)(AF:Ab X F a m)(A4:Ab X F b n)(AI:Ab X F c l)(hm:lastMarks [op,Jn] [b,c]=false:=by with_unfolding_all rfl):Fs X F (.Compare a [op,Jn] [b,c] pos) (AT (Oo f g m n l)):=⟨EU.imp (aeL ho I5 AF.p A4.p AI.p hm) λσ H Q q=>ke hf Aj σ H _ (Km σ H Q q)⟩
structure LG(X:Ar)(F:D2)(e:Option Al)(k:RV):Prop where
 p:Uz X e (W0 F k)
def agQ:LG X F none (pu none):=⟨λA3 s σ H Q J q=>acT A3 s σ H Q J (zK σ H Q q)⟩
def agR(h:Ab X F e m):LG X F ↥e (CM m):=⟨λA3 s σ H Q J q=>acw h.p A3 s σ H Q J (yX σ H Q q)⟩
def agg{lo AD:Option Al}{k j:RV}(AF:Ab X F a m)(AG:LG X F lo k)(hh:LG X F AD j)(Aa:F.K=X.K:=by rfl):Ab X F (.Subscript a (.Slice lo AD none Cv) pos) (DI m k j):=⟨Ag.imp (acd (afK.or afL) AF.p AG.p hh.p) (yd Aa)⟩
structure M1(X:Ar)(e:Al)(es:↑Al)(pos:Pos):Prop where
 he:CK (e::es) X.env=(false,Bc e X.env)::CK es X.env:=by rfl
 G6:(Fc pos (CK es X.env)).any (·.1)=false:=by rfl
def ah5(hm:X.mg "len"=none)(AF:HH X F [e] ma)(Aa:F.K=X.K:=by rfl)(Aj:ET X "len":=by rfl)(s:M1 X e [] pos:=by exact{}):Ab X F (.Call (.Name "len" p) [e] [] pos) (B6 Be ma):=⟨Ag.imp (WJ tY Aj hm PySem.boot_len AF.p ε ε s.he s.G6) (Pw (abi Aa))⟩
def ah7(hm:X.mg "list"=none)(AF:HH X F [e] ma)(Aa:F.K=X.K:=by rfl)(Aj:ET X "list":=by rfl)(s:M1 X e [] pos:=by exact{}):Ab X F (.Call (.Name "list" p) [e] [] pos) (B6 FA ma):=⟨Ag.imp (WK t_ Aj hm (by kernel_rfl) AF.p ε ε s.he s.G6) (Pw (abj Aa))⟩
def ago(hm:X.mg "tuple"=none)(AF:HH X F [e] ma)(Aa:F.K=X.K:=by rfl)(Aj:ET X "tuple":=by rfl)(s:M1 X e [] pos:=by exact{}):Ab X F (.Call (.Name "tuple" p) [e] [] pos) (B6 OU ma):=⟨Ag.imp (WK tg Aj hm (by kernel_rfl) AF.p ε ε s.he s.G6) (Pw (abq Aa))⟩
def agk(hm:X.mg "str"=none)(AF:HH X F [e] ma)(Aj:ET X "str":=by rfl)(s:M1 X e [] pos:=by exact{}):Ab X F (.Call (.Name "str" p) [e] [] pos) (B6 QO ma):=⟨Ag.imp (WK tf Aj hm (by kernel_rfl) AF.p ε ε s.he s.G6) (Pw abo)⟩
def agm(hm:X.mg "int"=none)(AF:HH X F [e] ma)(Aj:ET X "int":=by rfl)(s:M1 X e [] pos:=by exact{}):Ab X F (.Call (.Name "int" p) [e] [] pos) (B6 Rw ma):=⟨Ag.imp (WK tW Aj hm (by kernel_rfl) AF.p ε ε s.he s.G6) (Pw abp)⟩
def X0{U:Str}{T:String}(tt:bU X.K T)(hm:X.mg "isinstance"=none)(yI:X.mg U=none)(wz:O3 U=↥(.type T))(AF:Ab X F a m)(Aa:F.K=X.K:=by rfl)(Aj:ET X "isinstance":=by rfl)(y6:ET X U:=by rfl)(yL:U≠"__name__":=by decide)(wc:(U==("__debug__" :Str))=false:=by decide)(AO:notStar a=true:=by rfl)(s:M1 X a [.Name U Cv] pos:=by exact{}):Ab X F (.Call (.Name "isinstance" p) [a,.Name U Cv] [] pos) (Aw (DQ T) m):=
 ⟨Ag.imp (WJ (tX tt) Aj hm (by kernel_rfl) (U3 AF.p (U3 (adA (v:=.ty T) y6 yI wz rfl yL wc) WI) (pd _ _ _ AO)) ε ε s.he s.G6) (zH Aa)⟩
structure RU(X:Ar)(o:Al)(x:Str)(apos Cs:Pos)(e:Al):Prop where
 b:Ks o x X.env (Bc o X.env)=Bc o X.env:=by rfl
 l:(apos.endLine==Cs.line)=true:=by rfl
 f:((Fc Cs (CK [e] X.env)).all (λx=>!x.1)&&(Kx Cs (Kw [] X.env)).all (λx=>x.1.isSome)&&decide (⇑([e]:↑Al)+⇑([]:↑MW)+(if([]:↑MW).isEmpty then 0 else 1)<30))=true:=by rfl
 s:CK [e] X.env=(false,Bc e X.env)::CK [] X.env:=by rfl
 h:(Fc Cs (CK [] X.env)).any (·.1)=false:=by rfl
def afu(ho:Ab X F o m)(AF:Ab X F e n)(Aa:F.K=X.K:=by rfl)(k:RU X o "append" apos pos e:=by exact{}):Ab X F (.Call (.Attribute o "append" apos) [e] [] pos) (D6 DK m (Z n A1)):=⟨Ag.imp (m_ XD PySem.F.slot_list_append PySem.F.type_list_append kx ho.p (U3 AF.p WI k.s) k.b k.f k.l k.s k.h) λσ H Q q=>eJ Aa abb σ H Q q|>λ⟨φ,ρ,h,r,z⟩=>⟨φ,ρ,h,r,z.imp λv H1⟨ty,t⟩=>⟨ty,a3 σ H1 _ t|>λ⟨φ,ρ,h,r,z⟩=>⟨φ,ρ,h,r,z.imp λv AU t=>VT σ AU _ t⟩⟩⟩⟩
def agd(ho:Ab X F o m)(AF:Ab X F e n)(Aa:F.K=X.K:=by rfl)(k:RU X o "pop" apos pos e:=by exact{}):Ab X F (.Call (.Attribute o "pop" apos) [e] [] pos) (D6 JK m (Z n A1)):=⟨Ag.imp (m_ XD rp rq (QC.or ky kz) ho.p (U3 AF.p WI k.s) k.b k.f k.l k.s k.h) λσ H Q q=>eJ Aa ko σ H Q q|>λ⟨φ,ρ,h,r,z⟩=>⟨φ,ρ,h,r,z.imp λv H1⟨ty,t⟩=>⟨ty,a3 σ H1 _ t|>λ⟨φ,ρ,h,r,z⟩=>⟨φ,ρ,h,r,z.imp λv AU t=>VT σ AU _ t⟩⟩⟩⟩
def agc(ho:Ab X F o m)(Aa:F.K=X.K:=by rfl)(A4:Ks o "pop" X.env (Bc o X.env)=Bc o X.env:=by rfl)(AG:(apos.endLine==pos.line)=true:=by rfl):Ab X F (.Call (.Attribute o "pop" apos) [] [] pos) (D6 JK m A1):=⟨Ag.imp (mb XD rp rq (QC.or ky kz) ho.p A4 AG) (jn Aa ko)⟩
def afx(ho:Ab X F o m)(Aa:F.K=X.K:=by rfl)(A4:Ks o "clear" X.env (Bc o X.env)=Bc o X.env:=by rfl)(AG:(apos.endLine==pos.line)=true:=by rfl):Ab X F (.Call (.Attribute o "clear" apos) [] [] pos) (D6 Vg m A1):=⟨Ag.imp (mb XD PySem.F.slot_list_clear PySem.F.type_list_clear aaQ ho.p A4 AG) (jn Aa abd)⟩
def ahu {i v:Al} {D7:B7} (Bk:Ab X F v D7) (ho:Ab X F o m) (AD:Ab X F i n) (AO:U0 v=true:=by rfl) (h1:swapsWithSole [.Subscript o i p] v pos.line X.env=pure false:=by rfl) (h2:swappedStores [.Subscript o i p] v X.env=pure none:=by rfl) (BO:(Lh [.Subscript o i p] X.env).map (·.2)=[Kz (.Subscript o i p) X.env]:=by rfl)(AF:∀v,Kz (.Subscript o i p) X.env v=(do
    let CF <-JF [v] (Bc o X.env)
    let H4 <-JF [v,CF] (Bc i X.env)
    MU p
    JF [v,CF,H4] (setItem CF H4 v)
    release [v,CF,H4] []):=by intro _;rfl):Fq X F (.Assign [.Subscript o i p] v pos) (AX D7 (SV m n)):=⟨DO.imp (mv Bk.p (acj ho.p AD.p set_list AF) h1 h2 BO) λDe σ H q=>
 q.bd λw x φ ρ h H1 r a q=>by
   refine yY x σ H1 De.AR ⟨φ,ρ,h,w,r,a,?_⟩;have AR:∀r:R (FL×A5),(∀f h',r=.ok (f,h')->∃E4,f=.AR E4)->E8 F φ H1 De r->E8 F φ H1 ⟨De.AR,λ_ _=>False,λ_ _=>False,λ_ _=>False⟩ r:=λr g k=>by
    cases r with
    |ok p=>obtain⟨f,h'⟩:=p;obtain⟨E4,rfl⟩:=g f h' rfl;exact k
    |exc c h'=>exact k
    |bad=>exact k
   refine AR _ (λf h' e=>?_) q;unfold SV bd at e;cases AC:m ρ h with
   |ok p=>
    rw[AC]at e;cases AH:n ρ p.2 with
    |ok Cv=>
     erw[R.bind,AH]at e;unfold b0 at e
     split at e
     .split at e
      .cases e;exact⟨_,rfl⟩
      .cases e
     .cases e
    |exc c h2=>erw[R.bind,AH]at e;cases e
    |bad=>erw[R.bind,AH]at e;cases e
   |exc c h2=>rw[AC]at e;cases e
   |bad=>rw[AC]at e;cases e⟩
def afT:Ab X F (.Dict [] [] pos) (Kq false):=⟨Ag.imp WL z4⟩
def afU:Ab X F (.Dict [] [] pos) (Kq true):=⟨Ag.imp adG z5⟩
def ajb(BQ:X.A.units+64<Dv)(ho:Ab X F o m)(he:Ab X F e n)(AO:cC e):Ab X F (.Subscript o e pos) (A0 dJ m n):=⟨Ag.imp (adD δ ho.p he.p AO) z8⟩
def ahl{v:Al}{D7:B7}(BQ:X.A.units+64<Dv)(ho:Ab X F o m)(AD:Ab X F e n)(Bk:Ab X F v D7)(AO:U0 v=true:=by rfl):Fq X F (.Assign [.Subscript o e p] v pos) (JG m n D7):=⟨DO.imp (ae5 δ ho.p AD.p Bk.p (aP _ _ _ _ AO)) zA⟩
def fc{DZ f:Str}{BB:↑Str}(cl:Q9 X.K DZ BB)(AF:Ab X F a m)(hf:f∈BB:=by decide)(Aa:F.K=X.K:=by rfl)(A4:Ks a f X.env (Bc a X.env)=Bc a X.env:=by rfl):Ab X F (.Attribute a f pos) (Aw (B4 DZ f) m):=⟨Ag.imp (adI AF.p A4) (zC Aa cl hf)⟩
def fg{DZ f:Str}{BB:↑Str}{v:Al}{D7:B7}(cl:Q9 X.K DZ BB)(ho:Ab X F o m)(Bk:Ab X F v D7)(hf:f∈BB:=by decide)(Aa:F.K=X.K:=by rfl)(AO:U0 v=true:=by rfl):Fq X F (.Assign [.Attribute o f p] v pos) (F1 DZ f m D7):=⟨DO.imp (ae7 ho.p Bk.p (aP _ _ _ _ AO)) (zD Aa cl hf)⟩
def afw{x:Str}{k j:Nat}{mf:Bi}(c:D3 X.prog X.w X.K X.mg X.base x k j mf)(BF:D4 j X.A)(AF:HH X F (e::es) ma)(P:S_ X F:=by first|exact b2|exact b1)(Aa:F.K=X.K:=by rfl)(Aj:ET X x:=by rfl)(Mc:(x==("__debug__" :Str))=false:=by decide)(s:M1 X e es pos:=by exact{}):Ab X F (.Call (.Name x p) (e::es) [] pos) (Ae k mf ma):=by obtain⟨f,fd,ps,AZ,P8,hm,AP,A4⟩:=c.ex;obtain⟨E,h1,h2⟩:=P.ex;exact⟨Ag.imp (adB P8 BF Aj hm AP A4 .nil h1 AF.p Mc s.he s.G6) (z3 Aa h2)⟩
def ahB{DZ:Str}{k j:Nat}{mf:Bi}(c:Uu X.prog X.w X.K X.mg X.base DZ k j mf)(BF:D4 (j+1) X.A)(AF:HH X F (e::es) ma)(P:S_ X F:=by first|exact b2|exact b1)(Aa:F.K=X.K:=by rfl)(Aj:ET X DZ:=by rfl)(Mc:(DZ==("__debug__" :Str))=false:=by decide)(s:M1 X e es pos:=by exact{}):Ab X F (.Call (.Name DZ p) (e::es) [] pos) (J1 DZ k mf ma):=by obtain⟨C,f,fd,ps,AZ,AI,mk,P8,hm,A4⟩:=c.ex;obtain⟨E,h1,h2⟩:=P.ex;exact⟨Ag.imp (acW mk P8 BF Aj hm A4 .nil h1 AF.p Mc s.he s.G6) (zJ Aa AI h2)⟩
end
section
variable{X:Ar}{F:D2}{e a b c o elt:Al}{es ifs:↑Al}{pos p Cv apos Cs:Pos}{m n l:B7}{ma:EP}{C1 iter:Al}{g:DG}{scope:FF}{mi:G4}{mt:DN}
noncomputable def GP(sc:FF)(NM:↑Str)(nl:Nat)(caps:↑Nat):↑Str:=((sc.names.drop 1).take nl).map (·.1)++caps.map λj=>NM.getD j ""
noncomputable def OK(X:Ar)(scope:FF)(N:↑Str)(C1:Al)(g:DG):Prop:=∀cl C s H BP DJ BM,QH (GU X scope N cl C s H BP) (Ij X.K DJ BM) C1 g
noncomputable def SW(X:Ar)(scope:FF)(N:↑Str)(e:Al)(m:B7):Prop:=∀cl C s H BP DJ BM,Ab (GU X scope N cl C s H BP) (Ij X.K DJ BM) e m
noncomputable def BT(X:Ar)(scope:FF)(N:↑Str)(ifs:↑Al)(k:DN):Prop:=∀cl C s H BP DJ BM,QD (GU X scope N cl C s H BP) ifs (HT (Ij X.K DJ BM) k)
def uH{N:↑Str}:BT X scope N [] (pu true):=λcl C s H BP DJ BM A3 s' σ A9 Q J q=>by obtain⟨φ,ρ,h,r,k⟩:=q;exact adX A3 s' σ A9 Q J (k true φ A9 r (Ah.refl _ _) rfl)
def uG{N:↑Str}(h:∀cl C s H BP DJ BM,Fs (GU X scope N cl C s H BP) (Ij X.K DJ BM) c mt):BT X scope N [c] mt:=λcl C s H BP DJ BM=>adY (h cl C s H BP DJ BM).p
def u2(i:Nat){N:↑Str}{x:Str}(hN:N.Nodup:=by decide+kernel)(AD:N[i]?=↥x:=by rfl)(AG:(Lk scope X.env).names.lookup x=↥.local:=by rfl):OK X scope N (.Name x pos) (AA i):=λcl C s H BP DJ BM=>
 ⟨HF.imp (WM (X:=GU X scope N cl C s H BP) hN AD (.inl AG) (.inr AG)) (VS i)⟩
def u1(i:Nat){N:↑Str}{x:Str}(hN:N.Nodup:=by decide+kernel)(AD:N[i]?=↥x:=by rfl)(AG:(Lk scope X.env).names.lookup x=↥.cell:=by rfl)(AO:(scope.names.lookup x==↥.cell)=true:=by rfl):OK X scope N (.Name x pos) (AA i):=λcl C s H BP DJ BM=>
 ⟨HF.imp (WM (X:=GU X scope N cl C s H BP) hN AD (.inr AG) (.inl AO)) (VS i)⟩
def u3(i j:Nat){N:↑Str}{x y:Str}{er py:Pos}{k:Nat}(AI:X.calm=true:=by rfl)(hN:N.Nodup:=by decide+kernel)(AD:N[i]?=↥x:=by rfl)(Am:N[j]?=↥y:=by rfl)(AG:(Lk scope X.env).names.lookup x=↥.local:=by rfl)(hm:(Lk scope X.env).names.lookup y=↥.local:=by rfl) :
  OK X scope N (.Tuple [.Name x er,.Name y py] k pos) (EY [AA i,AA j]):=λcl C s H BP DJ BM=>
 ⟨HF.imp (md (X:=GU X scope N cl C s H BP) AI (LD.imp (ea (HF.imp (WM (X:=GU X scope N cl C s H BP) hN AD (.inl AG) (.inr AG)) (VS i)) (LD.imp (ea (HF.imp (WM (X:=GU X scope N cl C s H BP) hN Am (.inl hm) (.inr hm)) (VS j)) (LD.imp me kh) rfl) eI) rfl) eI) rfl rfl) (jm rfl rfl)⟩
def Vh(nl:Nat)(caps:↑Nat)(Aa:F.K=X.K)(Aj:OK X scope (GP scope X.N nl caps) C1 g)(BV:BT X scope (GP scope X.N nl caps) ifs mt)(he:SW X scope (GP scope X.N nl caps) elt m) :
  (∀cl C s H BP,HF (GU X scope (GP scope X.N nl caps) cl C s H BP) C1 (λx σ H Q=>∃DJ BM,MH (Ij F.K DJ BM) g x σ H Q))/\(∀cl C s H BP,QD (GU X scope (GP scope X.N nl caps) cl C s H BP) ifs (λσ H Q=>∃DJ BM,HT (Ij F.K DJ BM) mt σ H Q))/\(∀cl C s H BP,Ag (GU X scope (GP scope X.N nl caps) cl C s H BP) elt (λσ H Q=>∃DJ BM,C8 (Ij F.K DJ BM) m σ H Q)):=by
 rw[Aa];exact⟨λcl C s H BP A3 s' σ A9 v u Q J r⟨DJ,BM,q⟩=>(Aj cl C s H BP DJ BM).p A3 s' σ A9 v u Q J r q,λcl C s H BP A3 s' σ A9 Q J⟨DJ,BM,q⟩=>BV cl C s H BP DJ BM A3 s' σ A9 Q J q,λcl C s H BP A3 s' σ A9 Q J⟨DJ,BM,q⟩=>(he cl C s H BP DJ BM).p A3 s' σ A9 Q J q⟩
def afP(nl:Nat)(caps:↑Nat)(S:R1 X.env.scope X.N scope (GP scope X.N nl caps) nl caps=true)(AD:QI X F C1 iter mi)(Aj:OK X scope (GP scope X.N nl caps) C1 g)(BV:BT X scope (GP scope X.N nl caps) ifs mt)(he:SW X scope (GP scope X.N nl caps) elt m)(AI:X.calm=true:=by rfl)(Aa:F.K=X.K:=by rfl)(AO:∀x,ML iter X.env x=pure x:=by intro _;rfl) :
  Ab X F (.ListComp elt [⟨C1,iter,ifs,0⟩] scope pos) (Dq nl caps mi g mt m):=by
 obtain⟨h1,h2,BO⟩:=Vh nl caps Aa Aj BV he;exact⟨Ag.imp (fW (KX.of S) AI AD.p h1 h2 BO AO) kf⟩
def agw(i:Nat)(nl:Nat)(caps:↑Nat){y:Str}{py:Pos}(hN:X.N.Nodup)(S:R1 X.env.scope X.N scope (GP scope X.N nl caps) nl caps=true)(AD:QI X F C1 iter mi)(Aj:OK X scope (GP scope X.N nl caps) C1 g)(BV:BT X scope (GP scope X.N nl caps) ifs mt)(he:SW X scope (GP scope X.N nl caps) elt m)(AS:X.N[i]?=↥y:=by rfl)(AG:X.env.kindOf y=↥.local:=by rfl)(PH:NE (.ListComp elt [⟨C1,iter,ifs,0⟩] scope Cs) ↥(.Name y py) pos.line X.env=pure true:=by rfl)(AI:X.calm=true:=by rfl)(Aa:F.K=X.K:=by rfl)(AO:∀x,ML iter X.env x=pure x:=by intro _;rfl) :
  Fq X F (.Assign [.Name y py] (.ListComp elt [⟨C1,iter,ifs,0⟩] scope Cs) pos) (AX (Dq nl caps mi g mt m) (AA i)):=by
 obtain⟨h1,h2,BO⟩:=Vh nl caps Aa Aj BV he;refine⟨DO.imp (mx (KX.of S) AI hN AS AG AD.p h1 h2 BO PH AO) λDe σ H q=>?_⟩;obtain⟨φ,ρ,h,r,q⟩:=q;refine kf σ H _ ⟨φ,ρ,h,r,E8.bd q λw v Bw h1 H1 Av x1 a q=>?_⟩;unfold AA at q
 split at q
 .rename_i AD;exact q _ Bw H1 (Av.set AD a) (Ah.refl _ _)
 .exact q.elim
def ahy{st:BG}{i:Nat}(h:Fq X F st (AX m (AA i))):Fq X F st (AX (Bh m) (AA i)):=⟨DO.imp h.p λDe σ H q=>by
 obtain⟨φ,ρ,h,r,q⟩:=q;refine⟨φ,ρ,h,r,?_⟩;unfold AX bd Bh at*;cases e:m ρ h with
 |bad=>rw[e]at q;cases q
 |exc c h'=>rw[e]at q;exact q
 |ok p=>
  rw[e]at q;obtain⟨w,h1⟩:=p;obtain⟨CZ,h',es⟩:=fB h w h1;erw[R.bind]at q |-;rw[es]at q;unfold AA at q |-;dsimp only at q |-
  split at q
  .rename_i AD;rw[if_pos AD];intro σ' Bw H1 Av x1;obtain⟨v,ev,EH⟩:=Av.Bt i w (J8 AD);obtain⟨BL,Fx,d',GT⟩:=fm r.hd x1 Av.hd EH es;refine q σ' BL H1 ⟨d',r.x0.trans Fx,(Av.len:),λj u GW=>?_⟩ Fx;by_cases Am:i=j
   .subst Am;rw[J8 AD]at GW;cases GW;exact⟨v,ev,GT⟩
   .rw[MN Am]at GW;obtain⟨v0,_,Hb⟩:=r.Bt j u GW;obtain⟨v1,AC,a1⟩:=Av.Bt j u (by rw[MN Am];exact GW);exact⟨v1,AC,AW.ex (⟨Fx.p,λ_ _ e _=>e⟩:Ah φ H1 BL H1) (AW.back x1.p Hb a1)⟩
  .exact q.elim⟩
def ahC {DZ x:Str} {k j:Nat} {mf:Bi} {pl:Sem Bool} (c:Gy X.prog X.w X.K X.mg X.base DZ x k j mf) (BF:D4 j X.A) (ho:Ab X F o m) (AF:HH X F (e::es) ma) (P:S_ X F:=by first|exact b2|exact b1) (Aa:F.K=X.K:=by rfl) (s:M1 X e es pos:=by exact{}) (BV:Bc (.Call (.Attribute o x apos) (e::es) [] pos) X.env=(do
   let CF <-Bc o X.env
   MU apos.atName
   let(f,first) <-JF [CF] (O4 CF x pl)
   PU pos f first (Fc pos (CK (e::es) X.env)) (Kx pos (Kw [] X.env))):=by rfl):Ab X F (.Call (.Attribute o x apos) (e::es) [] pos) (Bz DZ x k mf m ma):=by
 obtain⟨C,f,fd,ps,AZ,AI,Co,F5,P8,A4⟩:=c.ex;obtain⟨E,h1,h2⟩:=P.ex;exact⟨Ag.imp (acX (pl:=pl) ho.p Co F5 P8 BF A4 .nil h1 AF.p s.he s.G6 BV) (eK Aa AI h2)⟩
def ahD {DZ x:Str} {j:Nat} {mf:Bi} {pl:Sem Bool} (c:Gy X.prog X.w X.K X.mg X.base DZ x 0 j mf) (BF:D4 j X.A) (ho:Ab X F o m) (P:S_ X F:=by first|exact b2|exact b1) (Aa:F.K=X.K:=by rfl) (BV:Bc (.Call (.Attribute o x apos) [] [] pos) X.env=(do
   let CF <-Bc o X.env
   MU apos.atName
   let(f,first) <-JF [CF] (O4 CF x pl)
   PU pos f first (Fc pos (CK [] X.env)) (Kx pos (Kw [] X.env))):=by rfl):Ab X F (.Call (.Attribute o x apos) [] [] pos) (Bz DZ x 0 mf m A1):=by
 obtain⟨C,f,fd,ps,AZ,AI,Co,F5,P8,A4⟩:=c.ex;obtain⟨E,h1,h2⟩:=P.ex;refine⟨Ag.imp (acY (pl:=pl) ho.p Co F5 P8 BF A4 .nil h1 BV) λσ H Q q=>?_⟩;obtain⟨φ,ρ,h,r,z⟩:=eK (X:=X) Aa AI h2 σ H Q q;exact⟨φ,ρ,h,r,z.imp λv H1⟨a,Bp,BB,AC,AH,D_,t⟩=>⟨a,Bp,BB,AC,AH,D_,VT σ H1 _ t⟩⟩
def afS(BQ:X.A.units+64<Dv)(ho:Ab X F o m)(he:Ab X F e n)(k:B5.RU X o "get" apos e Cs:=by exact⟨rfl,rfl,rfl,rfl⟩):Ab X F (.Call (.Attribute o "get" apos) [e] [] Cs) (Vd m n):=⟨Ag.imp (adE δ ho.p he.p k) z6⟩
def afW(ho:Ab X F o m)(he:Ab X F e n)(k:B5.RU X o "pop" apos e Cs:=by exact⟨rfl,rfl,rfl,rfl⟩):Ab X F (.Call (.Attribute o "pop" apos) [e] [] Cs) (Qu m n):=⟨Ag.imp (adH ho.p he.p k) z9⟩
noncomputable def Dr(ma:EP):G4:=bd ma λws=>match ws with
 |[.int j]=>if-(2^62)<=j/\j<2^62 then pu (LO 0 j.toNat)else λ_ _=>.bad
 |_=>λ_ _=>.bad
def agN(hm:X.mg "range"=none)(AF:HH X F [a] ma)(Aj:ET X "range":=by rfl)(AO:CK [a] X.env=[(false,Bc a X.env)]:=by rfl):QI X F C1 (.Call (.Name "range" p) [a] [] pos) (Dr ma):=⟨HY.imp (aco Aj hm AF.p AO) λσ H R q=>
 q.bd λws vs φ ρ h H1 r as q=>by
   split at q
   .rename_i j;obtain⟨v,rfl,a⟩:=as.one;erw[AW]at a;subst a
    split at q
    .rename_i Am;exact⟨j,rfl,Am.1,Am.2,q _ φ H1 r (Ah.refl _ _) (n_ _ _)⟩
    .exact q.elim
   .exact q.elim⟩
noncomputable def aae(ma:EP):G4:=bd ma λws=>match ws with
 |[.int i,.int j]=>if-(2^62)<=i/\i<2^62/\-(2^62)<=j/\j<2^62 then pu (LO i (j-i).toNat)else λ_ _=>.bad
 |_=>λ_ _=>.bad
def agO(hm:X.mg "range"=none)(AF:HH X F [a,b] ma)(Aj:ET X "range":=by rfl)(AO:CK [a,b] X.env=[(false,Bc a X.env),(false,Bc b X.env)]:=by rfl)(Hm:CK [b] X.env=[(false,Bc b X.env)]:=by rfl):QI X F C1 (.Call (.Name "range" p) [a,b] [] pos) (aae ma):=⟨HY.imp (acp Aj hm AF.p AO Hm) λσ H R q=>
 q.bd λws vs φ ρ h H1 r as q=>by
   split at q
   .rename_i i j;obtain⟨v,J7,rfl,a,b⟩:=as.two;erw[AW]at a b;subst a b
    split at q
    .rename_i Am;exact⟨i,j,rfl,Am,q _ φ H1 r (Ah.refl _ _) (n_ _ _)⟩
    .exact q.elim
   .exact q.elim⟩
noncomputable def Rv(x:Str):Gx:=λi _=>if i=x.cps.size then↥none else(x.cps[i]?).map λc=>↥(.str ⟨#[c]⟩)
noncomputable def aiV(m:B7):G4:=bd m λw=>match w with
 |.str x=>pu (Rv x)
 |_=>λ_ _=>.bad
def aer{K:As}{φ:↑A6}{H:AE}(x:Str):IS K φ H (Rv x) (c7 x):=λi CJ h2 AU d _=>by
 unfold Rv;by_cases AD:i=x.cps.size
 .rw[if_pos AD];exact⟨λ_=>AD,λw z=>by cases z⟩
 .rw[if_neg AD];cases e:x.cps[i]? with
  |none=>exact⟨(λz=>by cases z),λw z=>by cases z⟩
  |some c=>exact⟨(λz=>by cases z),λw z=>by
     cases z;exact⟨(Array.getElem?_eq_some_iff.mp e).1,λy A9 AS=>by obtain⟨rfl,GO,Ba,rfl⟩:=AS;rw[e]at Ba;cases Ba;exact⟨d,Ah.refl _ _,by erw[AW]⟩⟩⟩
noncomputable def Pn(w:W):Gx:=λi h=>match LV h w with
 |some (_,ws)=>if i=⇑ws then↥none else(ws[i]?).map λx=>↥(.tup [.int i,x])
 |none=>none
noncomputable def Q5(ma:EP):G4:=bd ma λws ρ h=>match ws with
 |[w]=>match LV h w with
  |some _=>.ok (Pn w,h)
  |none=>.bad
 |_=>.bad
def qP{K:As}{φ:↑A6}{h:A5}{H:AE}{q:A6}{ws:↑W}{xs:↑V}(d:DB K φ h H)(AV:H q=none)(a:Ao K φ H ws xs):DB K φ h (upd H q (.tup xs))/\Ah φ H φ (upd H q (.tup xs))/\AW K φ (upd H q (.tup xs)) (.tup ws) (.ref q):=
 ⟨d.lay AV,Ah.lay AV,by erw[AW];exact⟨q,xs,rfl,E3,a.ex (Ah.lay AV)⟩⟩
def ug{φ:↑A6}{H:AE}{w:W}{q:A6}(Aa:F.K=X.K)(a:AW F.K φ H w (.ref q)):IS F.K φ H (Pn w) (c3 X.K q):=λi CJ h2 AU d x=>by
 unfold Pn;cases es:LV h2 w with
 |none=>exact⟨(λz=>by cases z),λw z=>by cases z⟩
 |some OV=>
  obtain⟨n,ws⟩:=OV;obtain⟨FK,xs,Ba,_,_,AY,BX⟩:=Q3 d (a.ex x) es;cases Ba;have AY:EV X.K AU q xs:=.inl (.inl AY);dsimp only;by_cases AD:i=⇑ws
  .rw[if_pos AD];exact⟨λ_=>⟨xs,AY,by rw[<- ⇑BX,AD]⟩,λw z=>by cases z⟩
  .rw[if_neg AD];cases C_:ws[i]? with
   |none=>exact⟨(λz=>by cases z),λw z=>by cases z⟩
   |some u=>
    obtain⟨v,ev,EH⟩:=BX.get C_;exact⟨(λz=>by cases z),λCZ z=>by
     cases z;exact⟨⟨xs,v,AY,ev⟩,λy A9 AS=>by obtain⟨b,Fx,A4,rfl,rfl,g⟩:=AS;have:=g xs AY;rw[ev]at this;cases this;exact qP d A4 (.cons (by erw[AW]) (.cons EH .nil))⟩⟩
def agv{elts:↑Al}{k:Nat}{QS:Pos}(hm:X.mg "enumerate"=none)(AF:HH X F [a] ma)(Aa:F.K=X.K:=by rfl)(Aj:ET X "enumerate":=by rfl)(AO:CK [a] X.env=[(false,Bc a X.env)]:=by rfl):QI X F (.Tuple elts k QS) (.Call (.Name "enumerate" p) [a] [] pos) (Q5 ma):=⟨HY.imp (acm Aj hm AF.p AO) λσ H R q=>
 q.bd λws vs φ ρ h H1 r as q=>by
   split at q
   .obtain⟨v,rfl,a⟩:=as.one
    split at q
    .rename_i nw es;obtain⟨n,us⟩:=nw;obtain⟨Ce,xs,rfl,_,_,AY,BX⟩:=Q3 r.hd a es;exact⟨Ce,rfl,⟨xs,.inl (.inl AY)⟩,q _ φ H1 r (Ah.refl _ _) (ug Aa a)⟩
    .exact q.elim
   .exact q.elim⟩
noncomputable def aH(x:Str)(us:↑W):Gx:=λi _=>if i=min x.cps.size ⇑us then↥none else match x.cps[i]?,us[i]? with
 |some c,↥u=>↥↥(.tup [.str ⟨#[c]⟩,u])
 |_,_=>none
noncomputable def WY(ma:EP):G4:=bd ma λws ρ h=>match ws with
 |[.str x,w]=>match E2 h w with
  |some (true,us)=>.ok (aH x us,h)
  |_=>.bad
 |_=>.bad
def agP{elts:↑Al}{k:Nat}{QS:Pos}(hm:X.mg "zip"=none)(AF:HH X F [a,b] ma)(Aa:F.K=X.K:=by rfl)(Aj:ET X "zip":=by rfl)(AO:CK [a,b] X.env=[(false,Bc a X.env),(false,Bc b X.env)]:=by rfl)(Hm:CK [b] X.env=[(false,Bc b X.env)]:=by rfl):QI X F (.Tuple elts k QS) (.Call (.Name "zip" p) [a,b] [] pos) (WY ma):=⟨HY.imp (acr Aj hm AF.p AO Hm) λσ H R q=>
 q.bd λws vs φ ρ h H1 r as q=>by
   split at q
   .rename_i x w;obtain⟨v,J7,rfl,a,b⟩:=as.two;erw[AW]at a;subst a
    split at q
    .rename_i us es;obtain⟨Ce,ys,rfl,AY,BX⟩:=J6 r.hd b es;have AY:EW F.K H1 Ce ys:=AY;refine⟨x,Ce,rfl,⟨ys,Aa▸AY⟩,q _ φ H1 r (Ah.refl _ _) λi CJ h2 AU d x2=>?_⟩;have e9:EW X.K AU Ce ys:=Aa▸EW.ex x2 AY;have U6:=BX.ex x2;unfold aH;by_cases AD:i=min x.cps.size ⇑us
     .rw[if_pos AD];exact⟨λ_=>⟨ys,e9,by rw[<- ⇑BX];exact AD⟩,λw z=>by cases z⟩
     .rw[if_neg AD];cases AC:x.cps[i]? with
      |none=>exact⟨(λz=>by cases z),λw z=>by cases z⟩
      |some c=>
       cases AH:us[i]? with
       |none=>exact⟨(λz=>by cases z),λw z=>by cases z⟩
       |some u=>
        obtain⟨y,DP,Gi⟩:=U6.get AH;exact⟨(λz=>by cases z),λCZ z=>by
         cases z;exact⟨⟨(Array.getElem?_eq_some_iff.mp AC).1,ys,y,e9,DP⟩,λv A9 AS=>by obtain⟨Ic,GO,X2,f1,f2,rfl,rfl,G5⟩:=AS;rw[AC]at f1;cases f1;have:=G5 ys e9;rw[DP]at this;cases this;exact qP d f2 (.cons (by erw[AW]) (.cons Gi .nil))⟩⟩
    .exact q.elim
   .exact q.elim⟩
end
end C2
namespace C2
open PySem PySem.Spec B5 PyProof.Rows
section
variable{X:Ar}{F:D2}{e a b c o:Al}{es:↑Al}{pos p Cv apos Cs:Pos}{m n l:B7}{ma:EP}{C1 iter:Al}{st:BG}
def agW:Fq X F st (λ_ _=>.bad):=⟨DO.imp ae9 λDe σ H⟨_,_,_,_,q⟩=>q⟩
def afp{QP:↑BG}:Kd X F QP (λ_ _=>.bad):=⟨HG.imp aeI λDe σ H⟨_,_,_,_,q⟩=>q⟩
noncomputable def mE:En:=λx y H Q=>∃q v,x=.ref q/\JV H q y ↥v/\Q v H
def yO(BQ:X.A.units+64<Dv):NL X mE:=by intro value slice A3 s σ H x y v u Q J Az Bm h AO;obtain⟨q,z,rfl,g,h⟩:=h;obtain rfl:v=Cm q:=Az;exact tail_any (hl J g) PySem.F.slot_dict_getitem.lookup (hk δ J g Bm λCZ s3 Cx IC=>⟨z,H,Cx,IC,h⟩) AO
noncomputable def AB:Ir:=λx y h=>match Hc h x y with
 |some ↥w=>.ok (w,h)
 |some none=>.bad
 |none=>Py x y h
def abg(Aa:F.K=X.K):II F (λx y H Q=>mE x y H Q\/f5 X.K x y H Q) AB:=by
 intro σ ρ φ h H x y GB Gq Q r a1 a2 q;unfold AB at q
 split at q
 .rename_i w e;obtain⟨k,CF,rfl,g,Ep⟩:=YW r.hd e a1 a2;cases CF with
  |none=>cases Ep
  |some v=>exact .inl ⟨k,v,rfl,g,q v φ H r (Ah.refl _ _) Ep⟩
 .exact q.elim
 .exact .inr (abf Aa σ ρ φ h H x y GB Gq Q r a1 a2 q)
def ah3(BQ:X.A.units+64<Dv)(AF:Ab X F a m)(A4:Ab X F b n)(AO:cG b)(Aa:F.K=X.K:=by rfl):Ab X F (.Subscript a b pos) (A0 AB m n):=⟨Ag.imp (adM ((yO BQ).or yQ) AF.p A4.p AO) (Ft (abg Aa))⟩
noncomputable def ey(k:Bool):En:=λx y H Q=>∃q CF,y=.ref q/\JV H q x CF/\Q (.AL (if k then CF.isSome else !CF.isSome)) H
def ZN(BQ:X.A.units+64<Dv):Do X (G3 .In) (ey true)/\Do X (G3 .NotIn) (ey false):=by
 refine⟨?_,?_⟩<;>
 .intro A3 s σ H x y v u Q J Az Bm h;obtain⟨q,CF,rfl,g,h⟩:=h;obtain rfl:u=Cm q:=Bm
  first
   |exact v3 δ J g Az λs3 Cx=>⟨.AL CF.isSome,H,Cx,rfl,h⟩
   |exact v5 δ J g Az λs3 Cx=>⟨.AL (!CF.isSome),H,Cx,rfl,h⟩
noncomputable def Du(k:Bool):Ir:=λx y h=>match Hc h y x with
 |some o=>.ok (.AL (if k then o.isSome else !o.isSome),h)
 |none=>a6 k x y h
def ZI(Aa:F.K=X.K)(k:Bool):II F (λx y H Q=>ey k x y H Q\/b3 X.K k x y H Q) (Du k):=by
 intro σ ρ φ h H x y GB Gq Q r a1 a2 q;unfold Du at q
 split at q
 .rename_i o e;obtain⟨d,CF,rfl,g,Ep⟩:=YW r.hd e a2 a1;rw[Ep.is]at q;exact .inl ⟨d,CF,rfl,g,q _ φ H r (Ah.refl _ _) (NZ _)⟩
 .exact .inr (abe Aa k σ ρ φ h H x y GB Gq Q r a1 a2 q)
def ah0(BQ:X.A.units+64<Dv)(AF:Ab X F a m)(A4:Ab X F b n)(Aa:F.K=X.K:=by rfl)(hm:MQ .In b=false:=by with_unfolding_all rfl):Ab X F (.Compare a [.In] [b] pos) (A0 (Du true) m n):=⟨Ag.imp (Lq ((ZN BQ).1.or (ZP BQ).1) AF.p A4.p hm) (Ft (ZI Aa true))⟩
def ahL(BQ:X.A.units+64<Dv)(AF:Ab X F a m)(A4:Ab X F b n)(Aa:F.K=X.K:=by rfl)(hm:MQ .In b=false:=by with_unfolding_all rfl):Fs X F (.Compare a [.In] [b] pos) (AT (A0 (Du true) m n)):=⟨EU.imp (Ls ((ZN BQ).1.or (ZP BQ).1) AF.p A4.p hm) λσ H Q q=>Ft (ZI Aa true) σ H _ (Km σ H Q q)⟩
def agX(BQ:X.A.units+64<Dv)(AF:Ab X F a m)(A4:Ab X F b n)(Aa:F.K=X.K:=by rfl)(hm:MQ .NotIn b=false:=by with_unfolding_all rfl):Ab X F (.Compare a [.NotIn] [b] pos) (A0 (Du false) m n):=⟨Ag.imp (Lq ((ZN BQ).2.or (ZP BQ).2) AF.p A4.p hm) (Ft (ZI Aa false))⟩
def ahR(BQ:X.A.units+64<Dv)(AF:Ab X F a m)(A4:Ab X F b n)(Aa:F.K=X.K:=by rfl)(hm:MQ .NotIn b=false:=by with_unfolding_all rfl):Fs X F (.Compare a [.NotIn] [b] pos) (AT (A0 (Du false) m n)):=⟨EU.imp (Ls ((ZN BQ).2.or (ZP BQ).2) AF.p A4.p hm) λσ H Q q=>Ft (ZI Aa false) σ H _ (Km σ H Q q)⟩
noncomputable def xc(K:As)(Jt:TE):TI:=λσ H R=>Jt σ H λx H1=>(∃q,x=.ref q/\(∃xs,EV K H1 q xs)/\R (c5 K q) H1)\/(∃q,x=.ref q/\(∃xs,EW K H1 q xs)/\R (c8 K q) H1)\/∃z,x=.str z/\R (c7 z) H1
def ack{e:Al}{Jt:TE}(AG:Ag X e Jt):HY X C1 e (xc X.K Jt):=by
 intro A3 s σ H R J h;refine BS (AG A3 s σ H _ J h) λv s1⟨x,H1,Ac,Av,q1⟩=>?_;rcases q1 with⟨q,rfl,⟨xs,AY⟩,k⟩|⟨q,rfl,⟨xs,AY⟩,k⟩|⟨z,rfl,k⟩
 .cases Av;obtain⟨its,C0,pl,hz⟩:=Ac.list AY;refine g_ pl.isList ?_;refine⟨s1.heap.objs.size,[s1.heap.objs.size],_,_,H1,rfl,Ac.kept (t':=s1.toks) λb o e=>Cr _ e,ag1 q _,⟨_,FP _ rfl,rfl,rfl⟩,λb A4=>?_,k⟩;have e:b=s1.heap.objs.size:=by simpa using A4
  subst e;exact Ac.M_ (C9 _) (Ac.B0.fresh (C9 _))
 .cases Av;obtain⟨its,C0,pl,hz⟩:=Ac.tuple AY;refine wpAny_pyIter_tuple (show s1.heap.IsTuple q its.toArray from pl) ?_;refine⟨s1.heap.objs.size,[s1.heap.objs.size],_,_,H1,rfl,Ac.kept (t':=s1.toks) λb o e=>Cr _ e,ag5 q _,⟨_,FP _ rfl,rfl,rfl⟩,λb A4=>?_,k⟩;have e:b=s1.heap.objs.size:=by simpa using A4
  subst e;exact Ac.M_ (C9 _) (Ac.B0.fresh (C9 _))
 .obtain⟨t,rfl⟩:=Av;refine wpAny_pyIter_strU ?_;refine⟨s1.heap.objs.size,[s1.heap.objs.size],_,_,H1,rfl,Ac.kept (t':=s1.toks) λb o e=>Cr _ e,ag4 _ z t,⟨_,FP _ rfl,rfl,rfl⟩,λb A4=>?_,k⟩;have e:b=s1.heap.objs.size:=by simpa using A4
  subst e;exact Ac.M_ (C9 _) (Ac.B0.fresh (C9 _))
noncomputable def DR(m:B7):G4:=bd m λw ρ h=>match w with
 |.str x=>.ok (Rv x,h)
 |w=>match E2 h w with
  |some _=>.ok (FI w,h)
  |none=>.bad
def agu(h:Ab X F e m)(Aa:F.K=X.K:=by rfl):QI X F C1 e (DR m):=⟨HY.imp (ack h.p) λσ H R q=>
 q.bd λw v φ ρ h H1 r a q=>by
   split at q
   .rename_i x;erw[AW]at a;exact .inr (.inr ⟨x,a,q _ φ H1 r (Ah.refl _ _) (aer x)⟩)
   .split at q
    .rename_i OV es;obtain⟨t,ws⟩:=OV;obtain⟨Ce,xs,rfl,AY,BX⟩:=J6 r.hd a es;cases t with
     |false=>have hw:=(bE es).mp rfl;exact .inl ⟨Ce,rfl,⟨xs,Aa▸AY⟩,q _ φ H1 r (Ah.refl _ _) (aaY Aa a rfl λCJ h2 AU _ _ t ws e=>(bE e).mpr hw)⟩
     |true=>
      refine .inr (.inl ⟨Ce,rfl,⟨xs,Aa▸AY⟩,q _ φ H1 r (Ah.refl _ _) (dS Aa a rfl λh2 t ws' AH=>?_)⟩);cases t with
      |true=>rfl
      |false=>have hw:=(bE AH).mp rfl;exact(bE es).mpr hw|>.symm
    .exact q.elim⟩
theorem qg:∀{bs:↑Bool}{us:↑A7},Vals (bs.map V.AL) us->us=bs.map Qp
 |[],_,r=>by cases r;rfl
 |b::bs,_,r=>by
  cases r with
  |cons Av BJ=>cases Av;rw[qg BJ];rfl
def tV(AI:X.calm=true)(RE:X.A.handled=none):JU X (.builtin "all") (λxs H Q=>∃(p:A6)(bs:↑Bool),xs=[.ref p]/\EV X.K H p (bs.map V.AL)/\Q (.AL (bs.all id)) H):=by
 intro A3 s σ H xs us Q J r h;obtain⟨p,bs,rfl,AY,q⟩:=h;obtain⟨u,rfl,Fj⟩:=vals1 r;cases Fj;obtain⟨its,C0,pl,hz⟩:=J.list AY;have GQ:=qg C0;refine call_all_walk (g_ pl.isList ?_);have Iz:p≠s.heap.objs.size:=by obtain⟨o,ho,_⟩:=pl.isList;exact Et (Dc ho)
 refine⟨s.heap.objs.size,_,_,_,_,_,λi=>(bs[i]?).getD true,rfl,Walks.list (prog:=X.prog) (w:=X.w) (A:=X.A.in1) RE s.heap.objs.size p Iz its.toArray,⟨⟨_,FP _ rfl,rfl,rfl⟩,pl.isList.push _⟩,?_,λh' CW FX=>?_⟩
 .intro i v s' H_ ai7 Da ct;rw[GQ]at Da;have Da:(bs.map Qp)[i]?=↥v:=by simpa using Da
  rw[E5]at Da;cases BI:bs[i]? with
  |none=>rw[BI]at Da;cases Da
  |some b=>rw[BI]at Da;have ev:Qp b=v:=GC Da;subst ev;dsimp only at ct;rw[BI]at ct;exact MK ct
 .have VG:(Ch its.toArray.size).all (λi=>(bs[i]?).getD true)=bs.all id:=by
    have AG:its.toArray.size=⇑bs:=by rw[GQ];simp
    rw[AG,Xe,UY,UY];constructor
    .intro hh x AM;obtain⟨i,AD,rfl⟩:=List.mem_iff_getElem.mp AM;have:=hh i (List.mem_range.mpr AD);rw[CP AD]at this;exact this
    .intro hh i AD;have AD:=List.mem_range.mp AD;rw[CP AD];exact hh _ (JD AD)
  rw[VG];exact⟨.AL _,H,J.kept (t':=CW) λb o AH=>FX b o (by
   intro z;have z:b=s.heap.objs.size:=(z:)
   exact absurd (Dc AH) (by rw[z];exact Jg _)) (Cr _ AH),rfl,q⟩
def afr{k:Nat}(BF:D4 k X.A)(hm:X.mg "all"=none)(AF:HH X F [e] ma)(AI:X.calm=true:=by rfl)(Aa:F.K=X.K:=by rfl)(Aj:ET X "all":=by rfl)(s:M1 X e [] pos:=by exact{}):Ab X F (.Call (.Name "all" p) [e] [] pos) (B6 (HM true) ma):=⟨Ag.imp (WJ (tV AI BF.hd) Aj hm (by kernel_rfl) AF.p ε ε s.he s.G6) (Pw (abm Aa true))⟩
end
end C2
namespace B5
open PySem PySem.Spec PyProof.Rows
section
variable{X:Ar}{a e:Al}{Bu:Fd}{pos p pos' FK:Pos}
theorem qi:∀{xs:↑V}{us:↑A7},⇑xs=⇑us->(∀(i:Nat) x y,xs[i]?=↥x->us[i]?=↥y->RelV x y)->Vals xs us
 |[],[],_,_=>.nil
 |[],_::_,h,_=>by simp at h
 |_::_,[],h,_=>by simp at h
 |x::xs,u::us,h,f=>.cons (f 0 x u γ γ) (qi (h:) λi a b AC AH=>f (i+1) a b (AC:) (AH:))
def abC{A3:ν}{σ :St}{H1:AE}{s2:AQ}{Q:CR}{r:A6}{j:Int}{t u v:Tok}(BN:Inv X A3 σ H1 s2)(AI:X.calm=true)(BF:IsRange s2.heap r 0 j 1 t u v)(q1: -(2^62)<=j)(q2:j<=1000000)(q:∀l,H1 l=none->Q (.ref l) (upd H1 l (.lst ((Ch j.toNat).map λi=>.int (i:Nat))))):An ο X.A (call (.type "list") [.ref r]) (Gw X A3 σ Q) X.D1 s2:=by
 have AZ:rP 0 j 1=(j.toNat:Nat):=by rw[rangeSize_one];split<;>lia
 refine call_list_range (BN.ok.hd AI) BF (small_one δ δ δ δ) AZ δ λh' CW YJ GO Bl e it=>?_;obtain⟨acc,rfl⟩:∃l:↑A7,YJ=l.toArray:=⟨YJ.toList,γ⟩;have Bk:Vals ((Ch j.toNat).map λi=>V.int ((i:Nat):Int)) acc:=by
  have AG:⇑acc=j.toNat:=(it.1:)
  refine qi ?_ ?_
  .simp[AG]
  .intro i x y AC AH;rw[E5]at AC;have AD:i<j.toNat:=by rw[<-AG];exact(List.getElem?_eq_some_iff.mp AH).1
   rw[UM AD]at AC;cases AC;obtain⟨tt,rfl⟩:=it.2 i y (AH:);exact⟨tt,γ⟩
 exact⟨.ref _,_,BN.laid (t':=CW) Bl (C9 _) (show Dn X.prog X.w _ h' _ (.lst _)from⟨Im (m:=1000000) (by simp;lia) ε,acc,GO,Bk,e⟩),rfl,q _ (BN.B0.fresh (C9 _))⟩
noncomputable def mI:↑V->AE->CR->Prop:=λvs H1 Q=>∃j:Int,vs=[.int j]/\-(2^62)<=j/\j<=1000000/\∀l,H1 l=none->Q (.ref l) (upd H1 l (.lst ((Ch j.toNat).map λi=>.int (i:Nat))))
def acU(Aj:ET X "list")(hm:X.mg "list"=none)(VK:ET X "range")(Md:X.mg "range"=none)(AI:X.calm=true)(AF:Gz X [a] Bu)(AO:CK [a] X.env=[(false,Bc a X.env)]:=by rfl)(Hm:CK [.Call (.Name "range" FK) [a] [] pos'] X.env=[(false,Bc (.Call (.Name "range" FK) [a] [] pos') X.env)]:=by rfl) :
  Ag X (.Call (.Name "list" p) [.Call (.Name "range" FK) [a] [] pos'] [] pos) (WS mI Bu):=by
 intro A3 s σ H Q J h;refine UF (Oh (u:=.type "list") J Aj hm (by kernel_rfl) ?_);refine QZ ?_ Hm rfl;rw[Hm];refine UE ?_;refine Call_ (Oh J VK Md boot_range (QZ (BS (AF pos' A3 s σ H _ J h) λus s1⟨vs,H1,Ac,Av,q1⟩=>?_) AO rfl));obtain⟨j,e,q1,q2,q⟩:=q1;subst e;cases Av with
 |cons r KO=>cases KO;obtain⟨t,rfl⟩:=r;refine call_range_1 (UU ?_);exact abC (Ac.kept λb o e=>Cr _ e) AI (IsRange.new ..) q1 q2 q
theorem lG:∀{AJ:↑Int}{us:↑A7},Vals (AJ.map V.int) us->us.map numOf=AJ/\∀v∈us,∃k t,v=.int k t
 |[],us,r=>by cases r;exact⟨rfl,λv Bk=>by simp at Bk⟩
 |k::AJ,us,r=>by
  rw[D9]at r;cases r with
  |cons a b=>
   obtain⟨t,rfl⟩:=a;obtain⟨e,g⟩:=lG b;refine⟨by rw[D9,e];rfl,λv Bk=>?_⟩;rcases List.mem_cons.mp Bk with rfl|Bk
   .exact⟨k,t,rfl⟩
   .exact g v Bk
theorem da:∀{vs:↑A7},(∀v∈vs,∃k t,v=.int k t)->Vals ((vs.map numOf).map V.int) vs
 |[],_=>.nil
 |v::vs,h=>by obtain⟨k,t,rfl⟩:=h v γ;exact .cons ⟨t,rfl⟩ (da λu BQ=>h u (by simp[BQ]))
theorem mX{P:C5}{w:Bo}:∀{es:↑Kv}{vs:↑(Key×A7)}{A8:↑(Key×V)}{AJ:↑Int},Pairs (GI P w) es vs->Ef A8 vs->A8.map (·.1)=AJ.map MS->(es.map (·.key)).map numOf=AJ/\∀v∈es.map (·.key),∃k t,v=.int k t
 |_,_,_,AJ,.nil,.nil,e=>by
  cases AJ with
  |nil=>exact⟨rfl,λ_ h=>nomatch h⟩
  |cons _ _=>cases e
 |_,_,_,AJ,.cons a _ p,.cons b r,e=>by
  cases AJ with
  |nil=>cases e
  |cons k AJ=>
   erw[D9,gm]at e;obtain⟨AC,AH⟩:=e;obtain⟨Ck,F8⟩:=mX p r AH;rw[e2,<-b.1,AC]at a;rcases MA a with⟨i,t,z,FN⟩|⟨x,t,z,FN⟩
   .cases z;refine⟨by rw[D9,D9,Ck,FN];rfl,λv Bk=>?_⟩;rcases List.mem_cons.mp Bk with rfl|Bk
    .exact⟨k,t,FN⟩
    .exact F8 v Bk
   .cases z
noncomputable def lg(K:As):↑V->AE->CR->Prop:=λxs H Q=>∃p AJ,xs=[.ref p]/\(EV K H p (AJ.map V.int)\/∃A8,JX H p (.Ak A8)/\A8.map (·.1)=AJ.map MS)/\ ⇑AJ<64/\
 ∀l,H l=none->Q (.ref l) (upd H l (.lst ((LT.Jr AJ).map V.int)))
def td(AI:X.calm=true):JU X (.builtin "sorted") (lg X.K):=by
 intro A3 s σ H xs us Q J r h;obtain⟨p,AJ,rfl,AY,AZ,q⟩:=h;obtain⟨u,rfl,Az⟩:=vals1 r;cases Az;have lV:⇑(LT.Jr AJ)=⇑AJ:=(XX _ _).length_eq;rcases AY with AY|⟨A8,AY,DH⟩
 .obtain⟨its,Bf,pl,hz⟩:=J.list AY;have hlen:=⇑Bf;rw[CU]at hlen;obtain⟨Ay,cq⟩:=lG Bf;refine sorted_ints pl.isList (intsAre_map its cq) δ λout ns' a1 a2 IK=>?_;obtain⟨Cu,E0,Zo⟩:=LT.pa a1 a2 IK;rw[Ay]at Zo;have Ww:=da E0;rw[Zo]at Ww;obtain⟨Aq,he⟩:=sortedAll_at s.heap its out;exact⟨.ref (s.heap.objs.size+1),_,J.laid (a:=s.heap.objs.size+1) (t':=s.toks) (λb o e=>sortedAll_old e) (PT _) (show Dn X.prog X.w _ _ _ (.lst ((LT.Jr AJ).map V.int))from⟨by rw[CU,Li];lia,out.toList,Aq,Ww,(he:)⟩),rfl,q _ (J.B0.fresh (PT _))⟩
 .obtain⟨z,hd,vs,rel,o,es,Aq,g1,g2,g3,g4,Kk,Vw⟩:=Nm J.B0 AY;obtain⟨Ay,cq⟩:=mX Kk rel DH;have AG:=congrArg UZ Ay;rw[CU]at AG;refine LT.aeb (J.ok.hd AI) hd ⟨o,g1,g2,g3⟩ rfl δ cq λvs l h' CW e lv H4 ev AV Bl gl=>?_;rw[Ay]at ev;have Ww:=da H4;rw[ev]at Ww;exact⟨.ref l,_,J.laid (a:=l) (t':=CW) Bl AV (show Dn X.prog X.w _ _ _ (.lst ((LT.Jr AJ).map V.int))from⟨by rw[CU,Li];lia,vs,e,Ww,gl⟩),rfl,q l (J.B0.fresh AV)⟩
end
end B5
namespace C2
open PySem PySem.Spec B5
def CN{N P:↑Str}{sc:FF}(a:sc.kind=.function:=by rfl)(b:sc.isCoroutine=false:=by rfl)(c:sc.isGenerator=false:=by rfl)(d:N.Nodup:=by decide+kernel)(e:N.take ⇑P=P:=by rfl)(f:∀x∈P,sc.names.lookup x=↥.local\/sc.names.lookup x=↥.cell:=by decide+kernel)(g:∀y∈sc.names,y.2≠.free:=by decide+kernel):By N P sc:=⟨a,b,c,d,e,f,g⟩
section
variable{X:Ar}{F:D2}{e a b o:Al}{es:↑Al}{pos p Cv:Pos}{m n:B7}{ma:EP}{C1:Al}{g:DG}
noncomputable def Zn:R (FL×A5)->R (FL×A5)
 |.ok (.AR ρ,h)=>.ok (.AR ρ,h)
 |.ok _=>.bad
 |.exc c h=>.exc c h
 |.bad=>.bad
def acF{φ:↑A6}{H:AE}{De:Ends}:∀{r:R (FL×A5)},E8 F φ H De (Zn r)->E8 F φ H ⟨De.AR,λ_ _=>False,λ_ _=>False,λ_ _=>False⟩ r
 |.ok (.AR _,_),k=>k
 |.ok (.EM _,_),k|.ok (.B_ _,_),k|.ok (.DL _,_),k=>k.elim
 |.exc _ _,k=>k
 |.bad,k=>k
noncomputable def MD(m:B7)(g:DG):Ai:=bd m λw ρ h=>Zn (g w ρ h)
def agV(Bk:Ab X F e m)(Aj:QH X F C1 g)(h1:swapsWithSole [C1] e pos.line X.env=pure false:=by rfl)(h2:swappedStores [C1] e X.env=pure none:=by rfl)(BO:(Lh [C1] X.env).map (·.2)=[Kz C1 X.env]:=by rfl):Fq X F (.Assign [C1] e pos) (MD m g):=⟨DO.imp (mv Bk.p Aj.p h1 h2 BO) λDe σ H q=>
 q.bd λw x φ ρ h H1 r a q=>⟨φ,ρ,h,w,r,a,acF q⟩⟩
def Fh(AJ:↑Int):↑W:=AJ.map W.int
theorem d_{K:As}{φ:↑A6}{H:AE}:∀AJ:↑Int,Ao K φ H (Fh AJ) (AJ.map V.int)
 |[]=>.nil
 |_::AJ=>.cons (by erw[AW]) (d_ AJ)
noncomputable def Oj:L9:=λws h=>match ws with
 |[.int j]=>if-(2^62)<=j/\j<=1000000 then nw .lst (Fh ((Ch j.toNat).map λi:Nat=>(i:Int))) h else .bad
 |_=>.bad
def abk:OM F mI Oj:=by
 intro σ ρ φ h H xs ws Q r as q;unfold Oj at q
 split at q
 .rename_i j;obtain⟨v,rfl,a⟩:=as.one;erw[AW]at a;subst a
  split at q
  .rename_i Am;refine⟨j,rfl,Am.1,Am.2,λl AG=>Ov r q AG E3 ?_⟩;have:=d_ (K:=F.K) (φ:=φ) (H:=H) ((Ch j.toNat).map λi:Nat=>(i:Int));rw[hC]at this;exact this
  .exact q.elim
 .exact q.elim
def ah8(hm:X.mg "list"=none)(Md:X.mg "range"=none)(AF:HH X F [a] ma)(AI:X.calm=true:=by rfl)(Aj:ET X "list":=by rfl)(VK:ET X "range":=by rfl){FK pos':Pos}(AO:CK [a] X.env=[(false,Bc a X.env)]:=by rfl)(Hm:CK [.Call (.Name "range" FK) [a] [] pos'] X.env=[(false,Bc (.Call (.Name "range" FK) [a] [] pos') X.env)]:=by rfl) :
  Ab X F (.Call (.Name "list" p) [.Call (.Name "range" FK) [a] [] pos'] [] pos) (B6 Oj ma):=⟨Ag.imp (acU Aj hm VK Md AI AF.p AO Hm) (Pw abk)⟩
noncomputable def intsOf:↑W->Option ↑Int
 |[]=>some []
 |.int i::ws=>(intsOf ws).map (i::·)
 |_=>none
theorem js{K:As}{φ:↑A6}{H:AE}:∀{ws:↑W}{AJ:↑Int}{xs:↑V},intsOf ws=↥AJ->Ao K φ H ws xs->xs=AJ.map V.int
 |[],AJ,xs,e,a=>by erw[intsOf]at e;cases e;erw[Ao]at a;exact a
 |w::ws,AJ,xs,e,a=>by
  cases w<;>erw[intsOf]at e<;>first|(cases e;done)|skip
  erw[Ao,AW]at a;obtain⟨v,r,rfl,rfl,t⟩:=a;cases Ba:intsOf ws with
  |none=>rw[Ba]at e;cases e
  |some HK=>rw[Ba]at e;cases e;rw[js Ba t];rfl
noncomputable def Pz:↑Key->Option ↑Int
 |[]=>some []
 |.inl i::AJ=>(Pz AJ).map (i::·)
 |_=>none
theorem kC:∀{AJ:↑Key}{HK:↑Int},Pz AJ=↥HK->AJ=HK.map MS
 |[],HK,e=>by erw[Pz]at e;cases e;rfl
 |k::AJ,HK,e=>by
  cases k<;>erw[Pz]at e<;>first|(cases e;done)|skip
  cases Ba:Pz AJ with
  |none=>rw[Ba]at e;cases e
  |some HK=>rw[Ba]at e;cases e;rw[kC Ba];rfl
noncomputable def Zm(h:A5)(w:W):Option ↑Int:=match w with
 |.ref n=>match h[n]? with
  |some ⟨.Ak AJ,_⟩=>Pz AJ
  |_=>(E2 h w).bind λp=>if p.1=false then intsOf p.2 else none
 |_=>none
noncomputable def Mv:L9:=λws h=>match ws with
 |[w]=>match Zm h w with
  |some AJ=>if ⇑AJ<64 then nw .lst (Fh (LT.Jr AJ)) h else .bad
  |none=>.bad
 |_=>.bad
def acD{K:As}{φ:↑A6}{h:A5}{H:AE}{w:W}{v:V}{AJ:↑Int}(d:DB K φ h H)(a:AW K φ H w v)(e:Zm h w=↥AJ):∃p,v=.ref p/\(EV K H p (AJ.map V.int)\/∃A8,JX H p (.Ak A8)/\A8.map (·.1)=AJ.map MS):=by
 unfold Zm at e
 split at e
 .split at e
  .rename_i HK ws Ay;obtain⟨q,xs,rfl,_,⟨A8,AF,AC,AH⟩,BX⟩:=d.at Ay a;exact⟨q,rfl,.inr ⟨A8,.inl AF,AC.trans (kC e)⟩⟩
  .cases es:E2 h (.ref _)with
   |none=>rw[es]at e;cases e
   |some p=>
    obtain⟨t,us⟩:=p;rw[es]at e;obtain⟨q,xs,rfl,AY,BX⟩:=J6 d a es;cases t with
    |true=>cases e
    |false=>have e:intsOf us=↥AJ:=e;rw[js e BX]at AY;exact⟨q,rfl,.inl AY⟩
 .cases e
def abn(Aa:F.K=X.K):OM F (lg X.K) Mv:=by
 intro σ ρ φ h H xs ws Q r as q;unfold Mv at q
 split at q
 .obtain⟨v,rfl,a⟩:=as.one
  split at q
  .rename_i AJ e;obtain⟨p,rfl,AV⟩:=acD r.hd a e;rw[Aa]at AV
   split at q
   .rename_i AG;exact⟨p,AJ,rfl,AV,AG,λl AG=>Ov r q AG E3 (d_ _)⟩
   .exact q.elim
  .exact q.elim
 .exact q.elim
def agh(hm:X.mg "sorted"=none)(AF:HH X F [e] ma)(AI:X.calm=true:=by rfl)(Aa:F.K=X.K:=by rfl)(Aj:ET X "sorted":=by rfl)(s:M1 X e [] pos:=by exact{}):Ab X F (.Call (.Name "sorted" p) [e] [] pos) (B6 Mv ma):=⟨Ag.imp (WJ (td AI) Aj hm (by kernel_rfl) AF.p ε ε s.he s.G6) (Pw (abn Aa))⟩
end
end C2
namespace B5
open PySem PySem.Spec PyProof.Rows
section
variable{X:Ar}{st:BG}{t:F3}
theorem DO.Fv(h:DO X.Fv st t):DO X st t:=λA3 s σ H D J hw=>
 HQ (h A3 s σ H D (J.KW _) hw) (λ_ _ q=>q.KV) λ_ _ z=>HR z
end
section
variable{X:Ar}{A3:ν}{σ :St}{H:AE}{s:AQ}{r:A6}
def Inv.swap(J:θ){o o':Eu}(e:H r=↥o)(ok:Dn X.prog X.w (upd H r o') s.heap r o')(EC:∀xs,o≠.tup xs)(FZ:∀x,o≠.own x)(Rn:∀ps,o≠.OT ps)(J3:∀BY u,X.LA r≠↥(.D0 BY u)):Inv X A3 σ (upd H r o') s:=by
 have ne:∀{b:A6},H b=none->b≠r:=λz q=>by subst q;rw[e]at z;cases z
 have Bl:∀{b:A6}{u:Eu},H b=↥u->u≠o->upd H r o' b=↥u:=λ{b u} z q=>by
  by_cases A4:b=r
  .subst A4;rw[e]at z;cases z;exact absurd rfl q
  .rw[DF A4];exact z
 refine⟨J.ok,J.os,J.bare,⟨J.base.keep,J.base.slot,λb BY h1 h2 BO=>?_,J.base.there,λb xs q=>Bl (J.base.KS b xs q) λz=>EC xs z.symm,λb BY u q=>?_,λb ps q=>?_⟩,J.loc,J.cell,?_,λx c q=>?_,λp AV=>?_,λa u q=>?_,J.len⟩
 .have:=J.base.free b BY h1 h2 BO;rw[DF (ne this)];exact this
 .by_cases A4:b=r
  .subst A4;exact absurd q (J3 BY u)
  .rw[DF A4];exact J.base.Ii b BY u q
 .obtain⟨more,q⟩:=J.base.KQ b ps q;exact⟨more,Bl q λz=>Rn _ z.symm⟩
 .rw[DF (ne J.free)];exact J.free
 .rw[DF (ne (J.Kj x c q))];exact J.Kj x c q
 .obtain⟨h1,h2,BO⟩:=J.pin p AV;exact⟨h1,by rw[DF (ne h2)];exact h2,BO⟩
 .by_cases AF:a=r
  .subst AF;rw[E3]at q;cases q;exact ok
  .rw[DF AF]at q;exact(J.B0 a u q).Nd (λ_ _ _ z=>z) (λb z=>Bl z λy=>FZ _ y.symm) λb xs z=>Bl z λy=>EC _ y.symm
end
noncomputable def c4(a:A6)(o:Obj)(A8:↑(Key×V)):It:=
 ⟨λi H=>H a=↥(.D0 o (.Ak A8))/\i< ⇑A8,λi H x A9=>A9=H/\∃Bs,A8[i]?=↥Bs/\x=Cd Bs.1,λi H=>H a=↥(.D0 o (.Ak A8))/\i=⇑A8⟩
theorem mY{P:C5}{w:Bo}:∀{es:↑Kv}{vs:↑(Key×A7)}{A8:↑(Key×V)},Pairs (GI P w) es vs->Ef A8 vs->⇑es=⇑A8/\∀(i:Nat) e,es[i]?=↥e->∃Bs,A8[i]?=↥Bs/\RelV (Cd Bs.1) e.key
 |_,_,_,.nil,.nil=>⟨rfl,λi e h=>by simp at h⟩
 |_,_,Bs::_,.cons a _ p,.cons b r=>by
  obtain⟨l,g⟩:=mY p r;refine⟨by simp[l],λi e h=>?_⟩;cases i with
  |zero=>
   simp at h;subst h;refine⟨Bs,rfl,?_⟩;rw[e2,<-b.1]at a;rcases MA a with⟨j,t,AC,AH⟩|⟨x,t,AC,AH⟩
   .rw[AC,AH];exact⟨t,rfl⟩
   .rw[AC,AH];exact⟨t,rfl⟩
  |succ i=>obtain⟨ZT,h1,h2⟩:=g i e (h:);exact⟨ZT,(h1:),h2⟩
def ag0{P:C5}{w:Bo}{K:As}{C1:Al}{a it:A6}{o:Obj}{A8:↑(Key×V)}{es:Array Kv}{Aq:Nat}(Iz:a≠it)(AM:o.ExactDict)(hd:o.data=.dict es Aq)(AG:es.size=⇑A8)(AP:∀(i:Nat) e,es.toList[i]?=↥e->∃Bs,A8[i]?=↥Bs/\RelV (Cd Bs.1) e.key) :
  Turn P w K C1 (c4 a o A8) [it] it (λi h=>h.IsKeyIter it a i es.size Aq) where
 mem:=γ
 obj:=λi h st b A4=>by
  have e:b=it:=(A4:)
  subst e;obtain⟨o,e,c,d⟩:=st;exact⟨o,e,λv z=>by rw[d]at z;cases z⟩
 keep:=λi h h' st k=>st.at λo e=>k it γ o e
 item:=by
  nofun;obtain⟨AY,AD⟩:=Aj;have ho:s.heap.get? a=↥o:=(show Dn X.prog X.w H s.heap a (.D0 o (.Ak A8))from J.B0 a _ AY).1;obtain⟨f0,f1,f2,Ey,f4,G5⟩:=hf it γ;have RG:i<es.size:=δ
  refine LT.lp st ⟨o,ho,AM,hd⟩ RG λh' Gp Fk=>?_;have Ac:Inv X A3 σ H { s with heap:=h' }:=J.turned (t':=s.toks) (λb o A4 e=>(Fk.2 b A4).trans e) f0 f1 Ey f4 G5;obtain⟨Bs,AC,AH⟩:=AP i es[i] (by simp[RG]);obtain⟨o',e,c,d⟩:=id Gp;exact⟨_,rfl,TQ (s:={ s with heap:=h' }) e c d ε ⟨Cd Bs.1,H,Ac,AH,⟨rfl,Bs,AC,rfl⟩,Gp,λb A4=>(hf b A4).1⟩⟩
 done:=by nofun;obtain⟨AY,AD⟩:=Aj;have ho:s.heap.get? a=↥o:=(show Dn X.prog X.w H s.heap a (.D0 o (.Ak A8))from J.B0 a _ AY).1;obtain⟨f0,f1,f2,Ey,f4,G5⟩:=hf it γ;rw[AD,<-AG]at st;exact LT.ll (J.ok.hd AI) st ⟨o,ho,AM,hd⟩ λh' BI=>⟨rfl,J.turned (t':=s.toks) (λb o A4 e=>BI b o A4 e) f0 f1 Ey f4 G5⟩
 self:=λ_ _ _ _ _ st h=>wpAny_pyIter_keyiter st h
section
variable{X:Ar}{C1:Al}
noncomputable def VQ(X:Ar)(mk:A6->Obj->↑(Key×V)->It)(Jt:TE):TI:=λσ H R=>Jt σ H λx H1=>∃a A8,x=.ref a/\H1 a=↥(.Ak A8)/\∀o,(∀BY u,X.LA a≠↥(.D0 BY u))->R (mk a o A8) (upd H1 a (.D0 o (.Ak A8)))
def ed{e:Al}{Jt:TE}(AG:Ag X e Jt):HY X C1 e (VQ X c4 Jt):=by
 intro A3 s σ H R J h;refine BS (AG A3 s σ H _ J h) λv s1⟨x,H1,Ac,Av,q1⟩=>?_;obtain⟨a,A8,rfl,AF,k⟩:=q1;cases Av;obtain⟨z,hd,vs,rel,dd⟩:=P3 Ac.B0 AF;obtain⟨o,es,Aq,g1,g2,g3,g4,Kk,Vw⟩:=id dd;obtain⟨l,g⟩:=mY Kk rel;have hz:es.size=⇑A8:=by rw[<-l];simp
 have J3:∀BY u,X.LA a≠↥(.D0 BY u):=λBY u q=>by have:=Ac.base.Ii a BY u q;rw[AF]at this;cases this
 refine LT.lq hd ⟨o,g1,g2,g3⟩ ?_;have Iz:a≠s1.heap.objs.size:=Et (Dc g1);have BN:=Ac.swap (o':=.D0 o (.Ak A8)) AF ⟨g1,z,hd,vs,rel,dd⟩ (λ_ q=>nomatch q) (λ_ q=>nomatch q) (λ_ q=>nomatch q) J3;refine⟨s1.heap.objs.size,[s1.heap.objs.size],_,_,_,rfl,BN.kept (t':=s1.toks) λb o e=>Cr _ e,ag0 Iz g2 g3 hz g,⟨_,FP _ rfl,rfl,rfl⟩,λb A4=>?_,k o J3⟩;have e:b=s1.heap.objs.size:=(A4:)
 subst e;exact BN.M_ (C9 _) (BN.B0.fresh (C9 _))
noncomputable def Sf(X:Ar)(Q:AE->Prop)(H:AE):Prop:=∃r o A8,(∀BY u,X.LA r≠↥(.D0 BY u))/\H r=↥(.D0 o (.Ak A8))/\Q (upd H r (.Ak A8))
noncomputable def Ends.Ht(X:Ar)(D:Ends):Ends:=⟨λσ =>Sf X (D.AR σ),λv=>Sf X (D.EM v),λ_ _=>False,λ_ _=>False⟩
def g6{A3:ν}{σ :St}{H:AE}{s:AQ}{Q:AE->Prop}(J:θ)(q:Sf X Q H):∃A9,Inv X A3 σ A9 s/\Q A9:=by obtain⟨r,o,A8,J3,e,q⟩:=q;exact⟨_,J.swap (o':=.Ak A8) e (show Dn X.prog X.w (upd H r (.Ak A8)) s.heap r (.Ak A8)from(show Dn X.prog X.w H s.heap r (.D0 o (.Ak A8))from J.B0 r _ e).2) (λ_ q=>nomatch q) (λ_ q=>nomatch q) (λ_ q=>nomatch q) J3,q⟩
def en{st:BG}{t:F3}(h:DO X st t):DO X st (λD σ H=>t (D.Ht X) σ H):=λA3 s σ H D J hw=>
 BS (h A3 s σ H _ J hw) λf s' q=>by
  cases f with
  |next=>obtain⟨σ',A9,FM,q⟩:=q;obtain⟨AU,BN,q2⟩:=g6 FM q;exact⟨σ',AU,BN,q2⟩
  |brk=>obtain⟨σ',A9,FM,q⟩:=q;cases q
  |cont=>obtain⟨σ',A9,FM,q⟩:=q;cases q
  |ret u=>obtain⟨v,σ',A9,FM,r,q⟩:=q;obtain⟨AU,BN,q2⟩:=g6 FM q;exact⟨v,σ',AU,BN,r,q2⟩
end
end B5
namespace C2
open PySem PySem.Spec B5
section
variable{X:Ar}{F:D2}{e a b o:Al}{es:↑Al}{pos p Cv:Pos}{m n:B7}{ma:EP}{C1 iter c:Al}{g:DG}{body:↑BG}{mi:G4}{Gb:Ai}{Wq:DN}
noncomputable def Gc:R (FL×A5)->R (FL×A5)
 |.exc _ _=>.bad
 |r=>r
def Qv(m:Ai):Ai:=λρ h=>Gc (m ρ h)
def Rel.gF{φ:↑A6}{h:A5}{H:AE}{σ :St}{ρ:B9}(r:Rel F.AR φ h H σ ρ):Rel F φ h H σ ρ:=⟨r.hd,r.x0,r.len,r.Bt⟩
def a5{m:Ai}:KZ (G9 F (Qv m)) (G9 F.AR m):=λDe σ H⟨φ,ρ,h,r,q⟩=>by
 refine⟨φ,ρ,h,r.AR,?_⟩;unfold Qv at q;cases e:m ρ h with
 |bad=>rw[e]at q;exact q
 |exc c h'=>rw[e]at q;cases q
 |ok p=>
  rw[e]at q;obtain⟨f,h1⟩:=p;cases f with
  |AR E4=>exact λσ' BL A9 r x=>q σ' BL A9 r.gF x
  |B_ E4=>exact λσ' BL A9 r x=>q σ' BL A9 r.gF x
  |DL E4=>exact λσ' BL A9 r x=>q σ' BL A9 r.gF x
  |EM w=>exact q
def Eo(mi:G4)(g:DG)(b:Ai):Ai:=Qv (Q6 mi g b)
def Zc(c:DN)(b:Ai):Ai:=Qv (T4 c b)
def ahp(AD:QI X.Fv F.AR C1 iter mi)(Aj:QH X.Fv F.AR C1 g)(A4:Kd X.Fv F.AR body Gb)(AI:X.calm=true:=by rfl)(AO:∀x,ML iter X.env x=pure x:=by intro _;rfl):Fq X F (.For C1 iter body [] pos) (Eo mi g Gb):=
 ⟨DO.imp (DO.Fv (ek Xf AI AD.p Aj.p A4.p AO)) λDe σ H q=>zE De σ H (a5 De σ H q)⟩
def ai0(AI:Fs X.Fv F.AR c Wq)(A4:Kd X.Fv F.AR body Gb):Fq X F (.While c body [] pos) (Zc Wq Gb):=
 ⟨DO.imp (DO.Fv (aeG Xf AI.p A4.p)) λDe σ H q=>yj De σ H (a5 De σ H q)⟩
def Vc:Key->W
 |.inl i=>.int i
 |.inr x=>.str x
noncomputable def Oe(AJ:↑Key):Gx:=λi _=>if i=⇑AJ then↥none else(AJ[i]?).map λk=>↥(Vc k)
noncomputable def qV(n:Nat):R (FL×A5)->R (FL×A5)
 |.ok (.AR ρ,h)=>match h[n]? with
  |some ⟨.G0 AJ,ws⟩=>.ok (.AR ρ,h.set n ⟨.Ak AJ,ws⟩)
  |_=>.bad
 |.ok (.EM w,h)=>match h[n]? with
  |some ⟨.G0 AJ,ws⟩=>.ok (.EM w,h.set n ⟨.Ak AJ,ws⟩)
  |_=>.bad
 |_=>.bad
abbrev QF:=↑Key->↑W->Gx
noncomputable def Zb(it:QF)(m:B7)(g:DG)(b:Ai):Ai:=bd m λw ρ h=>match w with
 |.ref n=>match h[n]? with
  |some ⟨.Ak AJ,ws⟩=>qV n (N8 (it AJ ws) g b Jv 0 ρ (h.set n ⟨.G0 AJ,ws⟩))
  |_=>.bad
 |_=>.bad
noncomputable def V3(it:QF)(mk:A6->Obj->↑(Key×V)->It):Prop:=∀(K:As)(φ:↑A6)(H:AE)(a:A6)(o:Obj)(A8:↑(Key×V))(ws:↑W),H a=↥(.D0 o (.Ak A8))->Ao K φ H ws (A8.map (·.2))->IS K φ H (it (A8.map (·.1)) ws) (mk a o A8)
section
variable{K:As}{φ:↑A6}{H:AE}{d:A6}{BY:Obj}{A8:↑(Key×V)}{u:Eu}
mutual
theorem AW.Ht(e:H d=↥(.D0 BY (.Ak A8))):∀{w:W}{v:V},AW K φ H w v->AW K φ (upd H d u) w v
 |.non,_,h|.AL _,_,h|.int _,_,h|.str _,_,h|.ref _,_,h=>by simpa only[AW]using h
 |.tup _,_,h=>by erw[AW]at h |-;obtain⟨a,xs,AC,q,r⟩:=h;exact⟨a,xs,AC,by rw[DF λz=>by subst z;rw[e]at q;cases q];exact q,Ao.Ht e r⟩
 |.I6 _,_,h=>by
  erw[AW]at h |-;obtain⟨a,xs,AC,q,r⟩:=h;refine⟨a,xs,AC,?_,Ao.Ht e r⟩;rcases q with(q|⟨o,q⟩)|q
  .exact .inl (.inl (by rw[DF λz=>by subst z;rw[e]at q;cases q];exact q))
  .exact .inl (.inr ⟨o,by rw[DF λz=>by subst z;rw[e]at q;cases q];exact q⟩)
  .exact .inr q
 |.Df _,_,h=>by
  erw[AW]at h |-;obtain⟨a,xs,AC,q,r⟩:=h;refine⟨a,xs,AC,?_,Ao.Ht e r⟩;rcases q with⟨o,q⟩|q
  .exact .inl ⟨o,by rw[DF λz=>by subst z;rw[e]at q;cases q];exact q⟩
  .exact .inr q
 |.P7 _,_,h=>by erw[AW]at h |-;obtain⟨a,C,AC,c,q⟩:=h;exact⟨a,C,AC,c,by rw[DF λz=>by subst z;rw[e]at q;cases q];exact q⟩
theorem Ao.Ht(e:H d=↥(.D0 BY (.Ak A8))):∀{ws:↑W}{vs:↑V},Ao K φ H ws vs->Ao K φ (upd H d u) ws vs
 |[],_,h=>by simpa only[Ao]using h
 |_::_,_,h=>by erw[Ao]at h |-;obtain⟨v,r,AC,q,t⟩:=h;exact⟨v,r,AC,AW.Ht e q,Ao.Ht e t⟩
end
theorem DB.Ht{h:A5}{n:Nat}{AJ:↑Key}{ws:↑W}(x:DB K φ h H)(Ay:h[n]?=↥⟨.G0 AJ,ws⟩)(BW:φ[n]?=↥d)(e:H d=↥(.D0 BY (.Ak A8))):DB K φ (h.set n ⟨.Ak AJ,ws⟩) (upd H d (.Ak A8)):=by
 refine⟨x.C7,by simp[x.len],λm E0 b AC AH=>?_⟩;by_cases hm:n=m
 .subst hm;rw[J8 (List.getElem?_eq_some_iff.mp Ay).1]at AC;rw[BW]at AH;cases AC;cases AH;obtain⟨xs,⟨o,ajE,q,q1,q2⟩,r⟩:=x.BY n _ d Ay BW;rw[e]at q;cases q;exact⟨xs,⟨A8,E3,q1,q2⟩,Ao.Ht e r⟩
 .rw[MN hm]at AC;obtain⟨ys,Ce,Bf⟩:=x.BY m E0 b AC AH;refine⟨ys,Ce.same (DF λz=>?_),Ao.Ht e Bf⟩;subst z;obtain⟨Ck,K4⟩:=List.getElem?_eq_some_iff.mp BW;obtain⟨F8,Kp⟩:=List.getElem?_eq_some_iff.mp AH;exact hm ((XJ x.C7).mp (K4.trans Kp.symm))
end
def dg:V3 (λAJ _=>Oe AJ) c4:=λK φ H a o A8 ws e _ i CJ h2 AU d x=>by
 have AH:=x.t a _ e trivial;unfold Oe;dsimp only;by_cases AD:i=⇑A8
 .rw[if_pos (AD:)];exact⟨λ_=>⟨AH,AD⟩,λw z=>by cases z⟩
 .rw[if_neg (AD:)];cases DH:A8[i]? with
  |none=>simp[DH]
  |some Bs=>refine⟨(λz=>by simp[DH]at z),λw z=>?_⟩;simp[DH]at z;subst z;refine⟨⟨AH,(List.getElem?_eq_some_iff.mp DH).1⟩,λy A9 AS=>?_⟩;obtain⟨rfl,ZT,Ba,rfl⟩:=AS;rw[DH]at Ba;cases Ba;refine⟨d,Ah.refl _ _,?_⟩;cases Bs.1<;>erw[Vc,AW,Cd]
def kg{it:QF}{mk:A6->Obj->↑(Key×V)->It}(ok:V3 it mk):KZ (G9 F (Zb it m g Gb)) (λDe σ H=>aV (VQ X mk (C8 F m)) (MH F g) (G9 F Gb) (De.Ht X) σ H):=λDe σ H q=>by
 obtain⟨φ,ρ,h,r,q⟩:=q;refine⟨φ,ρ,h,r,E8.bd q λw v Bw h1 H1 Av x1 EH q=>?_⟩
 split at q
 .rename_i n
  split at q
  .rename_i AJ ws Ay;obtain⟨a,xs,rfl,BW,⟨A8,AF,rfl,rfl⟩,BX⟩:=Av.hd.at Ay EH;refine⟨a,A8,rfl,AF,λo J3=>?_⟩;have ns:¬Still (.Ak A8):=λz=>z;have X1:Ah Bw H1 Bw (upd H1 a (.D0 o (.Ak A8))):=Ah.put AF ns;have GK:=Av.to (Av.hd.put (o':=⟨.G0 _,ws⟩) Ay BW AF ns ⟨o,A8,E3,rfl,rfl⟩ BX) X1;have B_:∀BL A9,Ah Bw (upd H1 a (.D0 o (.Ak A8))) BL A9->A9 a=↥(.D0 o (.Ak A8))/\BL[n]?=↥a/\Ah Bw H1 BL (upd A9 a (.Ak A8)):=λBL A9 x=>⟨x.t a _ E3 trivial,F_ x.p BW,x.p,λb u e s=>by
    have nb:b≠a:=λz=>by subst z;rw[AF]at e;cases e;exact s
    rw[DF nb];exact x.t b u (by rw[DF nb];exact e) s⟩
   refine for_in (De:=De.Ht X) GK (ok F.K Bw _ a o A8 ws E3 (BX.ex X1)) ?_;cases e:N8 (it (A8.map (·.1)) ws) g Gb Jv 0 ρ (h1.set n ⟨.G0 (A8.map (·.1)),ws⟩)with
   |bad=>rw[e]at q;cases q
   |exc c h'=>rw[e]at q;cases q
   |ok p=>
    rw[e]at q;obtain⟨f,h2⟩:=p;cases f with
    |AR Dk=>
     intro σ2 CJ AU BJ x2;obtain⟨DY,Fe,OJ⟩:=B_ CJ AU x2;have q:E8 F Bw H1 De (match h2[n]? with
      |some ⟨.G0 AJ,ws⟩=>.ok (.AR Dk,h2.set n ⟨.Ak AJ,ws⟩)
      |_=>.bad):=q
     split at q
     .rename_i NQ ws' Vp;refine⟨a,o,A8,J3,DY,q σ2 CJ _ ⟨BJ.hd.Ht Vp Fe DY,Av.x0.trans OJ,BJ.len,λi w e=>?_⟩ OJ⟩;obtain⟨v,AC,q1⟩:=BJ.Bt i w e;exact⟨v,AC,AW.Ht DY q1⟩
     .exact q.elim
    |EM w=>
     intro v CJ AU F6 x2 a2;obtain⟨DY,Fe,OJ⟩:=B_ CJ AU x2;have q:E8 F Bw H1 De (match h2[n]? with
      |some ⟨.G0 AJ,ws⟩=>.ok (.EM w,h2.set n ⟨.Ak AJ,ws⟩)
      |_=>.bad):=q
     split at q
     .rename_i NQ ws' Vp;exact⟨a,o,A8,J3,DY,q v CJ _ (F6.Ht Vp Fe DY) OJ (AW.Ht DY a2)⟩
     .exact q.elim
    |B_ _=>cases q
    |DL _=>cases q
  .exact q.elim
 .exact q.elim
noncomputable def aad(m:B7)(g:DG)(b:Ai):Ai:=Qv (Zb (λAJ _=>Oe AJ) m g b)
def aho(AD:Ab X.Fv F.AR iter m)(Aj:QH X.Fv F.AR C1 g)(A4:Kd X.Fv F.AR body Gb)(AI:X.calm=true:=by rfl)(AO:∀x,ML iter X.env x=pure x:=by intro _;rfl):Fq X F (.For C1 iter body [] pos) (aad m g Gb):=
 ⟨DO.imp (DO.Fv (en (ek Xf AI (ed AD.p) Aj.p A4.p AO))) λDe σ H q=>kg dg De σ H (a5 De σ H q)⟩
end
end C2
namespace B5
open PySem PySem.Spec PyProof.Rows
section
variable{X:Ar}
noncomputable def hH(a:A6)(n:Nat)(h:BH):Prop:=∃o es Aq t,h.get? a=↥o/\o.ExactSet/\o.data=.set es Aq t/\t.fits es.size=true/\es.size=n
def aQ(a:A6)(n:Nat):Eu:=.ext (hH a n)
def aew{P:C5}{w:Bo}{H:AE}{h:BH}{a:A6}{n:Nat}(x:hH a n h):Dn P w H h a (aQ a n):=
 ⟨x,by obtain⟨o,_,_,_,e,_⟩:=x;exact⟨o,e⟩,λh1 h2 y k=>by obtain⟨o,es,Aq,t,e,r⟩:=y;exact⟨o,es,Aq,t,k o e,r⟩⟩
noncomputable def hV(H:AE)(ys:↑V)(keys:↑↑Key):Prop:=⇑keys=⇑ys/\∀(i:Nat) y k,ys[i]?=↥y->keys[i]?=↥k->∃b,y=.ref b/\H b=↥(.tup (k.map Cd))
noncomputable def ads(K:As):↑V->AE->CR->Prop:=λxs H Q=>∃p ys keys,xs=[.ref p]/\EV K H p ys/\ ⇑ys<77/\hV H ys keys/\keys.Nodup/\∀l,H l=none->Q (.ref l) (upd H l (aQ l ⇑keys))
def ta(hh:X.A.handled=none)(BQ:X.A.units+64<Dv):JU X (.type "set") (ads X.K):=by
 intro A3 s σ H xs us Q J r h;obtain⟨p,ys,keys,rfl,AY,AZ,⟨AG,AP⟩,C7,q⟩:=h;obtain⟨u,rfl,Az⟩:=vals1 r;cases Az;obtain⟨its,Bf,pl,hz⟩:=J.list AY;have hlen:=⇑Bf;refine Xp.tc (knd:=GI X.prog X.w) (items:=its.toArray) (keys:=keys) hh BQ pl.isList (by rw[DW];lia) C7 (by rw[DW];lia) (λi v Bk=>?_) λh' CW T Bl=>?_
 .have Bk:its[i]?=↥v:=by simpa using Bk
  have AD:=(List.getElem?_eq_some_iff.mp Bk).1;have DP:ys[i]?=↥ys[i]:=CP δ;have DH:keys[i]?=↥keys[i]:=CP δ;obtain⟨b,AC,AH⟩:=AP i _ _ DP DH;obtain⟨J7,Zx,C0⟩:=Bf.get DP;rw[Bk]at Zx;cases Zx;rw[AC]at C0;cases C0;exact⟨b,_,rfl,DH,RO J.B0 AH⟩
 .exact⟨.ref s.heap.objs.size,_,J.laid (t':=CW) Bl (C9 _) (aew T),rfl,q _ (J.B0.fresh (C9 _))⟩
noncomputable def adp:↑V->AE->CR->Prop:=λxs H Q=>∃a n,xs=[.ref a]/\H a=↥(aQ a n)/\n<1000/\Q (.int n) H
def tZ:JU X (.builtin "len") adp:=by intro A3 s σ H xs us Q J r h;obtain⟨a,n,rfl,AF,AZ,q⟩:=h;obtain⟨u,rfl,Az⟩:=vals1 r;cases Az;obtain⟨⟨o,es,Aq,t,g1,g2,g3,g4,Kk⟩,_⟩:=(show Dn X.prog X.w H s.heap a (aQ a n)from J.B0 a _ AF);subst Kk;exact call_len_set g1 g2 g3 g4 δ ⟨.int es.size,H,J.tok _,⟨_,rfl⟩,q⟩
noncomputable def f3(b:Bool):En:=λx y H Q=>∃p q A8,x=.ref p/\y=.ref q/\JX H p (.Ak A8)/\H q=↥(.Ak [])/\Q (.AL (A8.isEmpty==b)) H
def kq(BQ:X.A.units+64<Dv):Do X (G3 .Eq) (f3 true):=by
 intro A3 s σ H x y v u Q J Az Bm h;obtain⟨p,q,A8,rfl,rfl,AV,AY,h⟩:=h;obtain rfl:v=Cm p:=Az;obtain rfl:u=Cm q:=Bm;obtain⟨Es,d1,vs,Av,H5⟩:=Nm J.B0 AV;obtain⟨Ec,F6,us,BJ,H6⟩:=P3 J.B0 AY;have GF:us=[]:=by cases BJ;rfl
 subst GF;have AP:(⇑vs==⇑([]:↑(Key×A7))&&true)=A8.isEmpty:=by cases Av<;>rfl
 refine PySem.W.keq_eq (r:=true) d1 F6 H5 H6 δ (λe=>?_) ?_
 .cases vs with
  |nil=>exact .nil
  |cons _ _=>simp at e
 .rw[AP];exact⟨.AL _,H,J,rfl,(h:)⟩
def mR(BQ:X.A.units+64<Dv):Do X (G3 .NotEq) (f3 false):=by
 intro A3 s σ H x y v u Q J Az Bm h;obtain⟨p,q,A8,rfl,rfl,AV,AY,h⟩:=h;obtain rfl:v=Cm p:=Az;obtain rfl:u=Cm q:=Bm;obtain⟨Es,d1,vs,Av,H5⟩:=Nm J.B0 AV;obtain⟨Ec,F6,us,BJ,H6⟩:=P3 J.B0 AY;have GF:us=[]:=by cases BJ;rfl
 subst GF;have AP:(⇑vs==⇑([]:↑(Key×A7))&&true)=A8.isEmpty:=by cases Av<;>rfl
 refine PySem.W.keq_ne (r:=true) d1 F6 H5 H6 δ (λe=>?_) ?_
 .cases vs with
  |nil=>exact .nil
  |cons _ _=>simp at e
 .rw[AP];exact⟨.AL _,H,J,rfl,(h:)⟩
end
end B5
namespace C2
open PySem PySem.Spec B5
section
variable{X:Ar}{F:D2}{e a b o:Al}{es:↑Al}{pos p Cv FK pos':Pos}{m n:B7}{ma:EP}
noncomputable def SO(b:Bool):W->A5->R (W×A5):=λw h=>match w with
 |.ref n=>match h[n]? with
  |some ⟨.Ak AJ,_⟩=>.ok (.AL (AJ.isEmpty==b),h)
  |some ⟨.G0 AJ,_⟩=>.ok (.AL (AJ.isEmpty==b),h)
  |_=>.bad
 |_=>.bad
def a4(b:Bool):FR (C8 F (Aw (SO b) m)) (Tk (f3 b) (C8 F m) fz):=λσ H Q q=>
 q.bd λw v φ ρ h H1 r EH q p AV=>by
   have BJ:=r.to (r.hd.lay (o:=.Ak []) AV) (Ah.lay AV);unfold SO at q
   split at q
   .split at q
    .rename_i AJ ws Ay;obtain⟨d,xs,rfl,CH,⟨A8,AF,rfl,rfl⟩,BX⟩:=r.hd.at Ay EH;refine⟨d,p,A8,rfl,rfl,.inl (by rw[DF (L_ AF AV)];exact AF),E3,q _ φ _ BJ (Ah.lay AV) ?_⟩;erw[AW];cases A8<;>rfl
    .rename_i AJ ws Ay;obtain⟨d,xs,rfl,CH,⟨o,A8,AF,rfl,rfl⟩,BX⟩:=r.hd.at Ay EH;refine⟨d,p,A8,rfl,rfl,.inr ⟨o,by rw[DF (L_ AF AV)];exact AF⟩,E3,q _ φ _ BJ (Ah.lay AV) ?_⟩;erw[AW];cases A8<;>rfl
    .exact q.elim
   .exact q.elim
def afY(BQ:X.A.units+64<Dv)(AF:Ab X F a m):Ab X F (.Compare a [.Eq] [.Dict [] [] Cv] pos) (Aw (SO true) m):=⟨Ag.imp (Lq (kq BQ) AF.p WL (Hp _)) (a4 true)⟩
def ai3(BQ:X.A.units+64<Dv)(AF:Ab X F a m):Fs X F (.Compare a [.Eq] [.Dict [] [] Cv] pos) (AT (Aw (SO true) m)):=⟨EU.imp (Ls (kq BQ) AF.p WL (Hp _)) λσ H Q q=>a4 true σ H _ (Km σ H Q q)⟩
def ahH(BQ:X.A.units+64<Dv)(AF:Ab X F a m):Ab X F (.Compare a [.NotEq] [.Dict [] [] Cv] pos) (Aw (SO false) m):=⟨Ag.imp (Lq (mR BQ) AF.p WL (Hp _)) (a4 false)⟩
def ahQ(BQ:X.A.units+64<Dv)(AF:Ab X F a m):Fs X F (.Compare a [.NotEq] [.Dict [] [] Cv] pos) (AT (Aw (SO false) m)):=⟨EU.imp (Ls (mR BQ) AF.p WL (Hp _)) λσ H Q q=>a4 false σ H _ (Km σ H Q q)⟩
def aey{K:As}{φ:↑A6}{H:AE}{ws:↑W}{AJ:↑Ew}{xs:↑V}(e:ws.mapM NX=↥AJ)(a:Ao K φ H ws xs):hV H xs AJ:=by
 have p:=dU (P:=λk v=>∃b,v=.ref b/\H b=↥(.tup (k.map Cd))) fI e a;exact⟨⇑p,λi y k AC AH=>by
  clear e a;induction p generalizing i with
  |nil=>cases AC
  |cons r _ CC=>
   cases i with
   |zero=>cases AC;cases AH;exact r
   |succ i=>exact CC i AC AH⟩
noncomputable def VD:L9:=λws h=>match ws with
 |[w]=>match E2 h w with
  |some (false,us)=>if ⇑us<77 then match us.mapM NX with
   |some AJ=>if AJ.Nodup then .ok (.int ⇑AJ,h)else .bad
   |none=>.bad
   else .bad
  |_=>.bad
 |_=>.bad
def ah6{k:Nat}(BF:D4 k X.A)(hm:X.mg "len"=none)(Md:X.mg "set"=none)(AF:HH X F [e] ma)(Aa:F.K=X.K:=by rfl)(Aj:ET X "len":=by rfl)(VK:ET X "set":=by rfl)(AO:CK [.Call (.Name "set" FK) [e] [] pos'] X.env=(false,Bc (.Call (.Name "set" FK) [e] [] pos') X.env)::CK [] X.env:=by rfl)(he:CK [e] X.env=(false,Bc e X.env)::CK [] X.env:=by rfl)(G6:(Fc pos (CK [] X.env)).any (·.1)=false:=by rfl)(xp:(Fc pos' (CK [] X.env)).any (·.1)=false:=by rfl) :
  Ab X F (.Call (.Name "len" p) [.Call (.Name "set" FK) [e] [] pos'] [] pos) (B6 VD ma):=
 ⟨Ag.imp (WJ tZ Aj hm PySem.boot_len (U3 (WK (ta BF.hd BF.units) VK Md (by kernel_rfl) AF.p ε ε he xp) WI AO) ε ε AO G6) λσ H Q q=>
   q.bd λws vs φ ρ h H1 r as q=>by
     unfold VD at q
     split at q
     .obtain⟨v,rfl,EH⟩:=as.one
      split at q
      .rename_i us es;obtain⟨d,xs,rfl,AY,BX⟩:=J6 r.hd EH es
       split at q
       .rename_i AG
        split at q
        .rename_i AJ DH
         split at q
         .rename_i C7;have kt:=aey DH BX;have E9:=⇑BX;have AY:EV F.K H1 d xs:=AY;refine⟨d,xs,AJ,rfl,Aa▸AY,δ,kt,C7,λl LQ=>?_⟩;have:=kt.1;exact⟨l,_,rfl,E3,δ,q _ φ _ (r.to (r.hd.lay LQ) (Ah.lay LQ)) (Ah.lay LQ) (by erw[AW])⟩
         .exact q.elim
        .exact q.elim
       .exact q.elim
      .exact q.elim
     .exact q.elim⟩
end
end C2
namespace B5
open PySem PySem.Spec PyProof.Rows
theorem dq:∀{A8:↑(Key×V)}{vs:↑(Key×A7)},Ef A8 vs->∀(i:Nat) Bs,A8[i]?=↥Bs->∃v,vs[i]?=↥(Bs.1,v)/\RelV Bs.2 v
 |_,_,.nil,i,Bs,e=>by simp at e
 |_,_,.cons h t,0,Bs,e=>by simp at e;subst e;rename_i p q _ _;exact⟨q.2,by rw[h.1];rfl,h.2⟩
 |_,_,.cons h t,i+1,Bs,e=>by obtain⟨v,AC,AH⟩:=dq t i Bs (e:);exact⟨v,(AC:),AH⟩
theorem Of:∀{A8:↑(Key×V)}{vs:↑(Key×A7)},Ef A8 vs->⇑A8=⇑vs
 |_,_,.nil=>rfl
 |_,_,.cons _ t=>by simp[Of t]
def SQ{P:C5}{w:Bo}{H:AE}{h:BH}{a:A6}{o:Obj}{A8:↑(Key×V)}{es:Array Kv}{Aq:Nat}(hd:o.data=.dict es Aq)(x:Dn P w H h a (.D0 o (.Ak A8))):∃vs,Ef A8 vs/\h.DictAt (GI P w) a vs Aq:=by obtain⟨ho,z,AS,vs,rel,o',es',Nr,g1,g2,g3,g4,Kk,Vw⟩:=x;rw[ho]at g1;cases g1;rw[hd]at g3;cases g3;exact⟨vs,rel,_,_,ho,g2,hd,g4,Kk,Vw⟩
noncomputable def c9(a:A6)(o:Obj)(A8:↑(Key×V)):It:=
 ⟨λi H=>H a=↥(.D0 o (.Ak A8))/\i< ⇑A8,λi H x A9=>A9=H/\∃Bs,A8[i]?=↥Bs/\x=Bs.2,λi H=>H a=↥(.D0 o (.Ak A8))/\i=⇑A8⟩
def ag6{P:C5}{w:Bo}{K:As}{C1:Al}{a it:A6}{o:Obj}{A8:↑(Key×V)}{es:Array Kv}{Aq:Nat}(Iz:a≠it)(hd:o.data=.dict es Aq) :
  Turn P w K C1 (c9 a o A8) [it] it (λi h=>h.IsValIter it a i ⇑A8 Aq) where
 mem:=γ
 obj:=λi h st b A4=>by
  have e:b=it:=(A4:)
  subst e;obtain⟨o,e,c,d⟩:=st;exact⟨o,e,λv z=>by rw[d]at z;cases z⟩
 keep:=λi h h' st k=>by obtain⟨o,e,c,d⟩:=st;exact⟨o,k it γ o e,c,d⟩
 item:=by nofun;obtain⟨AY,AD⟩:=Aj;obtain⟨vs,rel,dd⟩:=SQ hd (show Dn X.prog X.w H s.heap a (.D0 o (.Ak A8))from J.B0 a _ AY);obtain⟨f0,f1,f2,Ey,f4,G5⟩:=hf it γ;obtain⟨v,ev,C0⟩:=dq rel i A8[i] (CP AD);rw[Of rel]at st;refine wpAny_pyNext_values_item st dd ev λh' Gp Fk=>?_;have Ac:Inv X A3 σ H { s with heap:=h' }:=J.turned (t':=s.toks) (λb o A4 e=>(Fk.2 b A4).trans e) f0 f1 Ey f4 G5;obtain⟨o',e,c,d⟩:=id Gp;rw[<-Of rel]at Gp;exact⟨_,rfl,TQ (s:={ s with heap:=h' }) e c d ε ⟨A8[i].2,H,Ac,C0,⟨rfl,_,CP AD,rfl⟩,Gp,λb A4=>(hf b A4).1⟩⟩
 done:=by nofun;obtain⟨AY,AD⟩:=Aj;obtain⟨vs,rel,dd⟩:=SQ hd (show Dn X.prog X.w H s.heap a (.D0 o (.Ak A8))from J.B0 a _ AY);obtain⟨f0,f1,f2,Ey,f4,G5⟩:=hf it γ;rw[Of rel]at st AD;exact wpAny_pyNext_values_end (J.ok.hd AI) st dd (by rw[AD];simp) λh' BI=>⟨rfl,J.turned (t':=s.toks) (λb o A4 e=>BI b o A4 e) f0 f1 Ey f4 G5⟩
 self:=λ_ _ _ _ _ st h=>wpAny_pyIter_valiter st h
noncomputable def c6(a:A6)(o:Obj)(A8:↑(Key×V)):It:=
 ⟨λi H=>H a=↥(.D0 o (.Ak A8))/\i< ⇑A8,λi H x A9=>∃p Bs,H p=none/\A9=upd H p (.tup [Cd Bs.1,Bs.2])/\x=.ref p/\A8[i]?=↥Bs,λi H=>H a=↥(.D0 o (.Ak A8))/\i=⇑A8⟩
theorem ag2{P:C5}{w:Bo}{K:As}{elts:↑Al}{FX:Nat}{pos:Pos}{a it:A6}{o:Obj}{A8:↑(Key×V)}{es:Array Kv}{Aq:Nat}(Iz:a≠it)(hd:o.data=.dict es Aq) :
  Turn P w K (.Tuple elts FX pos) (c6 a o A8) [it] it (λi h=>∃ok CF,IsItemIter h it a i ⇑A8 Aq ok CF) where
 mem:=γ
 obj:=λi h st b A4=>by
  obtain⟨ok,CF,e⟩:=st;obtain rfl:b=it:=(A4:)
  exact⟨_,e,λv z=>by have FE:Xi _=SJ v:=z;cases FE⟩
 keep:=λi h h' st k=>by obtain⟨ok,CF,e⟩:=st;exact⟨ok,CF,k it γ _ e⟩
 item:=by
  nofun;obtain⟨AY,AD⟩:=Aj;obtain⟨ok,CF,hit⟩:=st;obtain⟨vs,rel,dd⟩:=SQ hd (show Dn X.prog X.w H s.heap a (.D0 o (.Ak A8))from J.B0 a _ AY);obtain⟨v,ev,C0⟩:=dq rel i A8[i] (CP AD);rw[Of rel]at hit;refine wpAny_pyNext_items_item hit dd ev λkey h' Yq ho BV AO AP=>?_;refine⟨_,rfl,wpAny_letOwnedTupleGo_items ho λh2 kN Hm=>?_⟩;have Dt:s.heap.objs.size∉[it]:=λz=>by
   obtain rfl:s.heap.objs.size=it:=(z:)
   exact absurd (Dc hit) (Jg _)
  have keep:∀b o,b∉[it]->s.heap.get? b=↥o->h2.get? b=↥o:=λb o A4 q=>(Hm.2 b (A4:)).trans (AP b o (A4:) q);have f9:RelV (Cd A8[i].1) key:=by
   rw[e2]at Yq;rcases MA Yq with⟨j,t,AC,AH⟩|⟨x,t,AC,AH⟩
   .rw[AC,AH];exact⟨t,rfl⟩
   .rw[AC,AH];exact⟨t,rfl⟩
  have VO:XN h2 s.heap.objs.size (#[key,v]:Array A7):=⟨_,(Hm.2 _ (Dt:)).trans BV,rfl,_,rfl⟩;have yK:H s.heap.objs.size=none:=J.B0.fresh (C9 _);have BN:Inv X A3 σ (upd H s.heap.objs.size (.tup [Cd A8[i].1,A8[i].2])) { s with heap:=h2 }:=J.g9 (its:=[key,v]) (ch:=[it]) (t':=s.toks) keep hf (C9 _) VO (.cons f9 (.cons C0 .nil)) (by show 2<=CL;decide);rw[<-Of rel]at kN;refine⟨.ref s.heap.objs.size,_,BN,rfl,⟨s.heap.objs.size,A8[i],yK,rfl,rfl,CP AD⟩,⟨_,_,kN⟩,λb A4=>?_⟩;have nb:b≠s.heap.objs.size:=λz=>Dt (z▸A4);rw[DF nb];exact(hf b A4).1
 done:=by nofun;obtain⟨AY,AD⟩:=Aj;obtain⟨ok,CF,hit⟩:=st;obtain⟨vs,rel,dd⟩:=SQ hd (show Dn X.prog X.w H s.heap a (.D0 o (.Ak A8))from J.B0 a _ AY);rw[Of rel]at hit AD;exact wpAny_pyNext_items_end (J.ok.hd AI) hit dd (by rw[AD];simp) λh' AP=>⟨rfl,J.W2 (ch:=[it]) (t':=s.toks) (λb o A4 q=>AP b o (A4:) q) hf⟩
 self:=λA i s Q E st h=>by obtain⟨ok,CF,hit⟩:=st;have Dt:s.TypeIs (.ref it) "dict_itemiterator":=⟨_,hit,rfl⟩;refine wpAny_pyIter_slot Dt rc (O1 rc Dt (show entryFor table "dict_itemiterator.__iter__"=↥Builtin.«dict_keyiterator.__iter__» by kernel_rfl) ?_ (F.args_dict_itemiterator_iter_1 _));show An _ _ (pure _) _ _ _;exact BZ ⟨_,rfl,"dict_itemiterator",_,Dt,F.slot_dict_itemiterator_next.lookup,h⟩
section
variable{X:Ar}
theorem acq{C1 o:Al}{HB:TE}{apos Cs:Pos}(ho:Ag X o HB)(A4:Ks o "values" X.env (Bc o X.env)=Bc o X.env:=by rfl)(AG:(apos.endLine==Cs.line)=true:=by rfl)(hf:((Fc Cs (CK [] X.env)).all (λx=>!x.1)&&(Kx Cs (Kw [] X.env)).all (λx=>x.1.isSome)&&decide (⇑([]:↑Al)+⇑([]:↑MW)+(if([]:↑MW).isEmpty then 0 else 1)<30))=true:=by rfl)(BV:Fc Cs (CK [] X.env)=[]:=by rfl) :
  HY X C1 (.Call (.Attribute o "values" apos) [] [] Cs) (VQ X c9 HB):=by
 intro A3 s σ H R J h;refine XP A4 hf AG XC PySem.F.slot_dict_values PySem.F.type_dict_values (BS (ho A3 s σ H _ J h) λu s1⟨x,H1,Ac,Az,d,A8,ex,hd,q⟩=>?_);subst ex;obtain rfl:u=Cm d:=Az;obtain⟨t1,Ca,_⟩:=a9 Ac (.inl ⟨A8,.inl hd⟩);refine⟨t1,Ca,?_⟩;rw[BV];refine S1 rfl (gf ?_);obtain⟨z,AS,vs,rel,dd⟩:=P3 Ac.B0 hd;obtain⟨BY,es,Aq,g1,g2,g3,g4,Kk,Vw⟩:=id dd;have J3:∀BY u,X.LA d≠↥(.D0 BY u):=λBY u q=>by have:=Ac.base.Ii d BY u q;rw[hd]at this;cases this
 refine SD F.slot_dict_values t1 F.entry_dict_values (F.args_dict_values_1 _) (meets_dict_values (GI X.prog X.w) d AS) ⟨⟨vs,dd⟩,?_⟩;have BN:=Ac.swap (o':=.D0 BY (.Ak A8)) hd ⟨g1,z,AS,vs,rel,dd⟩ (λ_ q=>nomatch q) (λ_ q=>nomatch q) (λ_ q=>nomatch q) J3;have Cx:Inv X A3 σ _ { s1 with heap:=s1.heap.push { cls:=.type "dict_values",data:=.fields #[.ref d] } }:=BN.kept (t':=s1.toks) λb o e=>Cr _ e;obtain⟨afZ,f6,SM⟩:=SQ g3 (show Dn X.prog X.w _ _ d (.D0 BY (.Ak A8))from Cx.B0 d _ E3);refine wpAny_pyIter_values ⟨_,FP _ rfl,rfl,rfl⟩ SM ?_;have Iz:d≠(s1.heap.push { cls:=.type "dict_values",data:=.fields #[.ref d] }).objs.size:=Et (Dc (Cr _ g1));refine⟨_,[_],_,_,_,rfl,Cx.kept (t':=s1.toks) λb o e=>Cr _ e,ag6 Iz g3,⟨_,FP _ rfl,rfl,by rw[Of f6];rfl⟩,λb A4=>?_,q BY J3⟩;obtain rfl:=List.mem_singleton.mp A4;exact Cx.M_ (C9 _) (Cx.B0.fresh (C9 _))
theorem acn{elts:↑Al}{FX:Nat}{Ng:Pos}{o:Al}{HB:TE}{apos Cs:Pos}(ho:Ag X o HB)(A4:Ks o "items" X.env (Bc o X.env)=Bc o X.env:=by rfl)(AG:(apos.endLine==Cs.line)=true:=by rfl)(hf:((Fc Cs (CK [] X.env)).all (λx=>!x.1)&&(Kx Cs (Kw [] X.env)).all (λx=>x.1.isSome)&&decide (⇑([]:↑Al)+⇑([]:↑MW)+(if([]:↑MW).isEmpty then 0 else 1)<30))=true:=by rfl)(BV:Fc Cs (CK [] X.env)=[]:=by rfl) :
  HY X (.Tuple elts FX Ng) (.Call (.Attribute o "items" apos) [] [] Cs) (VQ X c6 HB):=by
 intro A3 s σ H R J h;refine XP A4 hf AG XC PySem.F.slot_dict_items PySem.F.type_dict_items (BS (ho A3 s σ H _ J h) λu s1⟨x,H1,Ac,Az,d,A8,ex,hd,q⟩=>?_);subst ex;obtain rfl:u=Cm d:=Az;obtain⟨t1,Ca,_⟩:=a9 Ac (.inl ⟨A8,.inl hd⟩);refine⟨t1,Ca,?_⟩;rw[BV];refine S1 rfl (gf ?_);obtain⟨z,AS,vs,rel,dd⟩:=P3 Ac.B0 hd;obtain⟨BY,es,Aq,g1,g2,g3,g4,Kk,Vw⟩:=id dd;have J3:∀BY u,X.LA d≠↥(.D0 BY u):=λBY u q=>by have:=Ac.base.Ii d BY u q;rw[hd]at this;cases this
 refine SD F.slot_dict_items t1 F.entry_dict_items (F.args_dict_items_1 _) (meets_dict_items (GI X.prog X.w) d AS) ⟨⟨vs,dd⟩,?_⟩;have BN:=Ac.swap (o':=.D0 BY (.Ak A8)) hd ⟨g1,z,AS,vs,rel,dd⟩ (λ_ q=>nomatch q) (λ_ q=>nomatch q) (λ_ q=>nomatch q) J3;have Cx:Inv X A3 σ _ { s1 with heap:=s1.heap.push { cls:=.type "dict_items",data:=.fields #[.ref d] } }:=BN.kept (t':=s1.toks) λb o e=>Cr _ e;obtain⟨afZ,f6,SM⟩:=SQ g3 (show Dn X.prog X.w _ _ d (.D0 BY (.Ak A8))from Cx.B0 d _ E3);refine wpAny_pyIter_items ⟨_,FP _ rfl,rfl,rfl⟩ SM ?_;have Iz:d≠(s1.heap.push { cls:=.type "dict_items",data:=.fields #[.ref d] }).objs.size:=Et (Dc (Cr _ g1));refine⟨_,[_],_,_,_,rfl,Cx.kept (t':=s1.toks) λb o e=>Cr _ e,ag2 Iz g3,⟨_,_,by rw[Of f6];exact FP _ rfl⟩,λb A4=>?_,q BY J3⟩;obtain rfl:=List.mem_singleton.mp A4;exact Cx.M_ (C9 _) (Cx.B0.fresh (C9 _))
end
def mc{X:Ar}{e:Al}{t:TE}(h:Ag X e t):Ag X e (λσ H Q=>t σ H λv=>Sf X (Q v)):=λA3 s σ H Q J hw=>
 BS (h A3 s σ H _ J hw) λv s'⟨x,A9,FM,r,q⟩=>by obtain⟨AU,BN,q2⟩:=g6 FM q;exact⟨x,AU,BN,r,q2⟩
section
variable{X:Ar}{k:Nat}{f C:A6}{fd:Hj}{ps:↑Str}{sp:Cq}{E:Ex}{m:Str}{pos apos:Pos}{o e:Al}{es:↑Al}{Bu:TE}{t:Fd}
def ach {pl:Sem Bool} (he:Ag X.Fv o Bu) (c:Ju X.K C) (hm:Meth X.K C m f) (F:IZ X.prog X.w X.K X.mg X.base (IX X.prog X.w) k f fd ps sp) (BF:D4 k X.A) (A4:Binds X.K fd ps []) (AF:Gz X.Fv (e::es) t)(Fp:CK (e::es) X.env=(false,Bc e X.env)::CK es X.env:=by rfl) (G6:(Fc pos (CK es X.env)).any (·.1)=false:=by rfl)(BV:Bc (.Call (.Attribute o m apos) (e::es) [] pos) X.env=(do
    let CF <-Bc o X.env
    MU apos.atName
    let(f,first) <-JF [CF] (O4 CF m pl)
    PU pos f first (Fc pos (CK (e::es) X.env)) (Kx pos (Kw [] X.env))):=by rfl) :
  cF X (.Call (.Attribute o m apos) (e::es) [] pos) (aW C m sp [] E Bu t) E:=by
 intro A3 s σ H Q J h;refine XE (pl:=pl) (HQ (he A3 s σ H _ (J.KW _) h) (λu s1⟨x,H1,Ac,Az,a,Bp,BB,ex,BW,l,q⟩=>?_) λ_ _ z=>z.elim) BV;subst ex;obtain rfl:u=Cm a:=Az;refine Yl Ac.KV BW c hm l ?_;refine XK (first:=[.ref a]) (h₀:=X.base) J.ok.mod.RP hm.Bl (HQ (AF pos A3 s1 σ H1 _ Ac q) (λus s2⟨vs,AU,BN,r,q2⟩=>⟨BN.KV.F9,?_⟩) λ_ _ z=>z.elim) Fp G6;have BC:=BN.KV;replace q2:sp (.ref a::vs++[]) AU Q E:=q2;rw[Io]at q2;have BJ:Vals (V.ref a::vs) (Cm a::us):=.cons rfl r;have AG:⇑(Cm a::us)=⇑ps:=by rw[<- ⇑BJ];exact F.len _ _ _ _ q2
 refine wpAny_call (Qj (F.run X.A X.stack s2 AU ⟨Cm a::us,[]⟩ (Cm a::us) (V.ref a::vs) Q E BF BC.cX (by have:=A4 s2 (Cm a::us) BC.F9 (by rw[Io];exact AG);rw[Io]at this;exact this) BJ q2) λr s' AY=>?_);cases r with
 |error e=>exact⟨AU,s2,BC,AY⟩
 |ok Di=>
  cases Di with
  |ret u=>exact BC.after AY
  |next=>exact HR AY
  |brk=>exact HR AY
  |cont=>exact HR AY
end
noncomputable def aex(j:Nat)(te:TE)(E:Ex)(ts:F3):F3:=λD σ H=>te σ H (λv H1=>D.AR (σ.set j ↥v) H1)/\∀(C:A7)(a:A6)(A9:AE),E C ↥a A9->A9 a=none->ts D σ A9
section
variable{X:Ar}{j:Nat}{x y:Str}{W:A6}{e:Al}{te:TE}{E:Ex}{Sn:BG}{UD:↑BG}{ts:F3}{U4 np AV pos py:Pos}
def aeF(hN:X.N.Nodup)(he:cF X e te E)(hm:X.mg x=↥(.ref W))(YS:∀C a H,E C a H->US X.K C (.ref W)=↥true)(AO:∀a,HG (X.marked a) (Sn::UD) ts)(Am:X.N[j]?=↥y:=by rfl)(YQ:X.env.scope.names.lookup y=↥.local:=by rfl)(Fp:X.stack=X.env::X.outer:=by rfl)(Nx:X.env.frame=↥X.env.locals:=by rfl)(Aj:ET X x:=by rfl)(hd:(x==("__debug__" :Str))=false:=by decide)(PH:NE e ↥(.Name y py) U4.line X.env=pure false:=by rfl) :
  DO X (.Try [.Assign [.Name y py] e U4] [.ExceptHandler ↥(.Name x np) none (Sn::UD) AV] [] [] pos) (aex j te E ts):=by
 intro A3 s σ H D J h;obtain⟨h1,h2⟩:=h;refine wpAny_Try_except (gq (wpAny_Assign_Name (HQ (he A3 s σ H _ J h1) (λv s1 Bk=>?_) (λy s' AS=>?_)) PH))
 .obtain⟨y,H1,Ac,Av,q1⟩:=Bk;exact ft (X:=X) Ac hN Am (.inl YQ) Av (λs2 BN=>S5 (S5 ⟨_,H1,BN,q1⟩)) (.inr YQ)
 .obtain⟨H1,s1,Ac,a,C,Hb,B,A9,rfl,Di,Nv⟩:=AS;have R9:=Di.R9;rw[Fp]at R9;have Hl:X.A.frames=↥(X.env::X.outer):=by rw[<-Fp];exact Ac.ok.frames
  refine wpAny_looks_onW Hl Nx R9 λTb y2 qZ=>?_;refine wpAny_landsW y2 λIk Ye q_=>?_;have OA:Inv X A3 σ A9 { s' with heap:=Ik }:=Di.inv Ac Ye.1 (by rw[Fp];exact Ye.2.2.1) (qZ.trans q_);refine wpAny_handleBy_cons (codeAny_handlers_test (VB (X:=X.marked a) (OA.marked a) Aj hm ?_ hd)) (by intro q;cases q);obtain⟨BY,xi,xj⟩:=Ye.there;have LT:PySem.W.Looks ο Ik (typeOf (.ref a)) C:=by rw[<-xj];exact(PySem.W.Looks.ld xi).andThen .now
  refine(PySem.W.exm_one (K:=X.K) OA.F9 LT (YS C _ A9 Nv)).here ?_;refine codeAny_handlers_suite ?_;refine lands_againW Ye λx_ iv agF=>?_;have RS:Inv X A3 σ A9 { s' with heap:=x_ }:=Di.inv Ac iv.1 (by rw[Fp];exact iv.2.2.1) ((qZ.trans q_).trans agF);refine HQ (AO a A3 _ σ A9 _ (RS.marked a) (h2 C a A9 Nv Di.AF)) (λxF Gd Pg=>?_) λ_ _ z=>z.elim;cases xF with
  |next=>obtain⟨σ',bz,BC,q⟩:=Pg;exact⟨_,_,BC.unmarked J.ok,q⟩
  |brk=>obtain⟨σ',bz,BC,q⟩:=Pg;exact⟨_,_,BC.unmarked J.ok,q⟩
  |cont=>obtain⟨σ',bz,BC,q⟩:=Pg;exact⟨_,_,BC.unmarked J.ok,q⟩
  |ret u=>obtain⟨v,σ',bz,BC,r,q⟩:=Pg;exact⟨v,_,_,BC.unmarked J.ok,r,q⟩
end
end B5
namespace C2
open PySem PySem.Spec B5
noncomputable def Nh:QF:=λ_ ws i _=>if i=⇑ws then↥none else(ws[i]?).map some
noncomputable def Tf:QF:=λAJ ws i _=>if i=⇑ws then↥none else match AJ[i]?,ws[i]? with
 |some k,↥w=>↥↥(.tup [Vc k,w])
 |_,_=>none
def adS{K:As}{φ:↑A6}{H:AE}(k:Key):AW K φ H (Vc k) (Cd k):=by cases k<;>erw[Vc,AW,Cd]
def agM:V3 Nh c9:=λK φ H a o A8 ws e C0 i CJ h2 AU d x=>by
 have AH:=x.t a _ e trivial;have E9:⇑ws=⇑A8:=by rw[⇑C0,CU]
 unfold Nh;by_cases AD:i=⇑A8
 .rw[if_pos δ];exact⟨λ_=>⟨AH,AD⟩,λw z=>by cases z⟩
 .rw[if_neg δ];cases DH:ws[i]? with
  |none=>simp
  |some u=>
   refine⟨(λz=>by simp at z),λw z=>?_⟩;simp at z;subst z;obtain⟨v,ev,EH⟩:=C0.get DH;rw[E5]at ev;cases P6:A8[i]? with
   |none=>rw[P6]at ev;cases ev
   |some Bs=>rw[P6]at ev;cases ev;refine⟨⟨AH,(List.getElem?_eq_some_iff.mp P6).1⟩,λy A9 AS=>?_⟩;obtain⟨rfl,ZT,Ba,rfl⟩:=AS;rw[P6]at Ba;cases Ba;exact⟨d,Ah.refl _ _,EH.ex x⟩
def yM:V3 Tf c6:=λK φ H a o A8 ws e C0 i CJ h2 AU d x=>by
 have AH:=x.t a _ e trivial;have E9:⇑ws=⇑A8:=by rw[⇑C0,CU]
 unfold Tf;by_cases AD:i=⇑A8
 .rw[if_pos δ];exact⟨λ_=>⟨AH,AD⟩,λw z=>by cases z⟩
 .rw[if_neg δ,E5];cases DH:ws[i]? with
  |none=>cases A8[i]?<;>exact⟨(λz=>by cases z),λw z=>by cases z⟩
  |some u=>
   obtain⟨v,ev,EH⟩:=C0.get DH;rw[E5]at ev;cases P6:A8[i]? with
   |none=>rw[P6]at ev;cases ev
   |some Bs=>rw[P6]at ev;cases ev;refine⟨(λz=>by cases z),λw z=>?_⟩;cases z;refine⟨⟨AH,(List.getElem?_eq_some_iff.mp P6).1⟩,λy A9 AS=>?_⟩;obtain⟨p,ZT,AV,rfl,rfl,Ba⟩:=AS;rw[P6]at Ba;cases Ba;refine⟨d.lay AV,Ah.lay AV,?_⟩;erw[AW];exact⟨p,_,rfl,E3,.cons (adS _) (.cons ((EH.ex x).ex (Ah.lay AV)) .nil)⟩
section
variable{X:Ar}{F:D2}{e a b o:Al}{es:↑Al}{pos p Cv apos Cs:Pos}{m n:B7}{ma:EP}{C1 iter c:Al}{g:DG}{body:↑BG}{mi:G4}{Gb:Ai}{Wq:DN}{elt:Al}{ifs:↑Al}{scope:FF}{mt:DN}{Ot:B7}
def WV(m:B7)(g:DG)(b:Ai):Ai:=Qv (Zb Tf m g b)
def ahn{elts:↑Al}{FX:Nat}{Ng:Pos}(AD:Ab X.Fv F.AR o m)(Aj:QH X.Fv F.AR (.Tuple elts FX Ng) g)(A4:Kd X.Fv F.AR body Gb)(AI:X.calm=true:=by rfl)(AO:∀x,ML (.Call (.Attribute o "items" apos) [] [] Cs) X.env x=pure x:=by intro _;rfl)(h1:Ks o "items" X.env (Bc o X.env)=Bc o X.env:=by rfl)(h2:(apos.endLine==Cs.line)=true:=by rfl):Fq X F (.For (.Tuple elts FX Ng) (.Call (.Attribute o "items" apos) [] [] Cs) body [] pos) (WV m g Gb):=
 ⟨DO.imp (DO.Fv (en (ek Xf AI (acn AD.p h1 h2) Aj.p A4.p AO))) λDe σ H q=>kg yM De σ H (a5 De σ H q)⟩
noncomputable def g5(n:Nat):R (W×A5)->R (W×A5)
 |.ok (w,h)=>match h[n]? with
  |some ⟨.G0 AJ,ws⟩=>.ok (w,h.set n ⟨.Ak AJ,ws⟩)
  |_=>.bad
 |_=>.bad
noncomputable def LW(it:QF)(nl:Nat)(caps:↑Nat)(m:B7)(g:DG)(HC:DN)(elt:B7):B7:=bd m λw ρ h=>match w with
 |.ref n=>match h[n]? with
  |some ⟨.Ak AJ,ws⟩=>g5 n (Dq nl caps (pu (it AJ ws)) g HC elt ρ (h.set n ⟨.G0 AJ,ws⟩))
  |_=>.bad
 |_=>.bad
def eH{it:QF}{mk:A6->Obj->↑(Key×V)->It}(ok:V3 it mk){nl:Nat}{caps:↑Nat}:FR (C8 F (LW it nl caps m g mt Ot)) (λσ H Q=>WT (VQ X mk (C8 F m)) (λx σ H Q=>∃DJ BM,MH (Ij F.K DJ BM) g x σ H Q) (λσ H Q=>∃DJ BM,HT (Ij F.K DJ BM) mt σ H Q) (λσ H Q=>∃DJ BM,C8 (Ij F.K DJ BM) Ot σ H Q) nl caps σ H λv=>Sf X (Q v)):=λσ H Q q=>
 q.bd λw v Bw ρ h1 H1 Av EH q=>by
   split at q
   .rename_i n
    split at q
    .rename_i AJ ws Ay;obtain⟨a,xs,rfl,BW,⟨A8,AF,rfl,rfl⟩,BX⟩:=Av.hd.at Ay EH;refine⟨a,A8,rfl,AF,λo J3=>?_⟩;have ns:¬Still (.Ak A8):=λz=>z;have X1:Ah Bw H1 Bw (upd H1 a (.D0 o (.Ak A8))):=Ah.put AF ns;have GK:=Av.to (Av.hd.put (o':=⟨.G0 _,ws⟩) Ay BW AF ns ⟨o,A8,E3,rfl,rfl⟩ BX) X1;have B_:∀BL A9,Ah Bw (upd H1 a (.D0 o (.Ak A8))) BL A9->A9 a=↥(.D0 o (.Ak A8))/\BL[n]?=↥a/\Ah Bw H1 BL (upd A9 a (.Ak A8)):=λBL A9 x=>⟨x.t a _ E3 trivial,F_ x.p BW,x.p,λb u e s=>by
      have nb:b≠a:=λz=>by subst z;rw[AF]at e;cases e;exact s
      rw[DF nb];exact x.t b u (by rw[DF nb];exact e) s⟩
     refine iC (Q:=λv=>Sf X (Q v)) GK (ok F.K Bw _ a o A8 ws E3 (BX.ex X1)) ?_;cases e:Dq nl caps (pu (it (A8.map (·.1)) ws)) g mt Ot ρ (h1.set n ⟨.G0 (A8.map (·.1)),ws⟩)with
     |bad=>rw[e]at q;cases q
     |exc c h'=>rw[e]at q;cases q
     |ok p=>
      rw[e]at q;obtain⟨w,h2⟩:=p;intro v CJ AU BJ x2 a2;obtain⟨DY,Fe,OJ⟩:=B_ CJ AU x2;have q:D5 AW F Bw H1 σ ρ Q (match h2[n]? with
       |some ⟨.G0 AJ,ws⟩=>.ok (w,h2.set n ⟨.Ak AJ,ws⟩)
       |_=>.bad):=q
      split at q
      .rename_i NQ ws' Vp;refine⟨a,o,A8,J3,DY,q v CJ _ ⟨BJ.hd.Ht Vp Fe DY,Av.x0.trans OJ,BJ.len,λi w e=>?_⟩ OJ (AW.Ht DY a2)⟩;obtain⟨v,AC,q1⟩:=BJ.Bt i w e;exact⟨v,AC,AW.Ht DY q1⟩
      .exact q.elim
    .exact q.elim
   .exact q.elim
def afR(nl:Nat)(caps:↑Nat)(S:R1 X.env.scope X.N scope (GP scope X.N nl caps) nl caps=true)(AD:Ab X F o m)(Aj:OK X scope (GP scope X.N nl caps) C1 g)(BV:BT X scope (GP scope X.N nl caps) ifs mt)(he:SW X scope (GP scope X.N nl caps) elt Ot)(AI:X.calm=true:=by rfl)(Aa:F.K=X.K:=by rfl)(AO:∀x,ML (.Call (.Attribute o "values" apos) [] [] Cs) X.env x=pure x:=by intro _;rfl)(h1:Ks o "values" X.env (Bc o X.env)=Bc o X.env:=by rfl)(h2:(apos.endLine==Cs.line)=true:=by rfl) :
  Ab X F (.ListComp elt [⟨C1,.Call (.Attribute o "values" apos) [] [] Cs,ifs,0⟩] scope pos) (LW Nh nl caps m g mt Ot):=by
 obtain⟨Bd,Co,F5⟩:=Vh nl caps Aa Aj BV he;exact⟨Ag.imp (mc (fW (KX.of S) AI (acq AD.p h1 h2) Bd Co F5 AO)) (eH agM)⟩
def afQ(nl:Nat)(caps:↑Nat)(S:R1 X.env.scope X.N scope (GP scope X.N nl caps) nl caps=true)(AD:Ab X F o m)(Aj:OK X scope (GP scope X.N nl caps) C1 g)(BV:BT X scope (GP scope X.N nl caps) ifs mt)(he:SW X scope (GP scope X.N nl caps) elt Ot)(AI:X.calm=true:=by rfl)(Aa:F.K=X.K:=by rfl)(AO:∀x,ML o X.env x=pure x:=by intro _;rfl) :
  Ab X F (.ListComp elt [⟨C1,o,ifs,0⟩] scope pos) (LW (λAJ _=>Oe AJ) nl caps m g mt Ot):=by
 obtain⟨Bd,Co,F5⟩:=Vh nl caps Aa Aj BV he;exact⟨Ag.imp (mc (fW (KX.of S) AI (ed AD.p) Bd Co F5 AO)) (eH dg)⟩
def ahi(i:Nat)(nl:Nat)(caps:↑Nat){y:Str}{py:Pos}(hN:X.N.Nodup)(S:R1 X.env.scope X.N scope (GP scope X.N nl caps) nl caps=true)(AD:Ab X F o m)(Aj:OK X scope (GP scope X.N nl caps) C1 g)(BV:BT X scope (GP scope X.N nl caps) ifs mt)(he:SW X scope (GP scope X.N nl caps) elt Ot)(AS:X.N[i]?=↥y:=by rfl)(AG:X.env.kindOf y=↥.local:=by rfl)(PH:NE (.ListComp elt [⟨C1,o,ifs,0⟩] scope Cs) ↥(.Name y py) pos.line X.env=pure true:=by rfl)(AI:X.calm=true:=by rfl)(Aa:F.K=X.K:=by rfl)(AO:∀x,ML o X.env x=pure x:=by intro _;rfl) :
  Fq X F (.Assign [.Name y py] (.ListComp elt [⟨C1,o,ifs,0⟩] scope Cs) pos) (AX (LW (λAJ _=>Oe AJ) nl caps m g mt Ot) (AA i)):=by
 obtain⟨Bd,Co,F5⟩:=Vh nl caps Aa Aj BV he;refine⟨DO.imp (en (mx (KX.of S) AI hN AS AG (ed AD.p) Bd Co F5 PH AO)) λDe σ H q=>?_⟩;obtain⟨φ,ρ,h,r,q⟩:=q;refine eH dg σ H (λv A9=>De.AR (σ.set i ↥v) A9) ⟨φ,ρ,h,r,E8.bd q λw v Bw h1 H1 Av x1 a q=>?_⟩;unfold AA at q
 split at q
 .rename_i AD;exact q _ Bw H1 (Av.set AD a) (Ah.refl _ _)
 .exact q.elim
def On:↑B7->EP
 |[]=>A1
 |m::r=>Z m (On r)
noncomputable def KR(F:D2):↑Str->↑B7->↑(TE×TE)
 |k::AJ,m::ms=>(OS (.str k),C8 F m)::KR F AJ ms
 |_,_=>[]
theorem LP.imp{α β:Type}{rel:As->↑A6->AE->α->β->Prop}{m:M α}{σ :St}{H:AE}{Q H_:β->AE->Prop}(h:LP rel F m σ H Q)(f:∀b H,Q b H->H_ b H):LP rel F m σ H H_:=by obtain⟨φ,ρ,h,r,q⟩:=h;exact⟨φ,ρ,h,r,q.imp f⟩
theorem jo:∀(AJ:↑Str)(ms:↑B7),⇑AJ=⇑ms->∀(σ :St)(H:AE)(Q:↑(V×V)->AE->Prop),Ge F (On ms) σ H (λvs A9=>Q ((AJ.map V.str).zip vs) A9)->aZ (KR F AJ ms) σ H Q
 |[],[],_,σ,H,Q,h=>VT σ H _ h
 |k::AJ,m::ms,l,σ,H,Q,h=>by have h:=a3 σ H _ h;show C8 F m σ H _;exact LP.imp h λv H1 q=>jo AJ ms (l:) σ H1 _ q
structure YI(X:Ar)(F:D2)(pos:Pos)(keys:↑(Option Al))(values:↑Al)(AJ:↑Str)(ms:↑B7):Prop where
 p:V0 X pos keys values (KR F AJ ms)
 l:⇑AJ=⇑ms/\ ⇑keys=⇑AJ
def agT:YI X F pos [] [] [] []:=⟨ae2,rfl,rfl⟩
def agS{k:Str}{j:Nat}{q:Pos}{AJ:↑Str}{ms:↑B7}{keys:↑(Option Al)}{values:↑Al}(Bk:Ab X F e m)(BF:YI X F pos keys values AJ ms):YI X F pos (↥(.Constant (.str k) j q)::keys) (e::values) (k::AJ) (m::ms):=
 ⟨ae1 fX Bk.p BF.p,by simp[BF.l.1],by simp[BF.l.2]⟩
noncomputable def T3(AJ:↑Str)(ms:↑B7):B7:=λρ h=>(On ms ρ (h++[⟨.Ak [],[]⟩])).bind λp=>match p.2[⇑h]? with
 |some ⟨.Ak [],[]⟩=>if AJ.Nodup/\ ⇑AJ<=15 then .ok (.ref ⇑h,p.2.set ⇑h ⟨.Ak (AJ.map .inr),p.1⟩)else .bad
 |_=>.bad
theorem ku:∀(more acc:↑(Key×V)),((acc++more).map (·.1)).Nodup->Pa acc more=acc++more
 |[],acc,_=>by simp[Pa]
 |Bs::more,acc,C7=>by
  have WA:Bs.1∉acc.map (·.1):=λz=>by rw[I1,D9]at C7;exact(List.nodup_append.mp C7).2.2 _ z _ (HP ..) rfl
  have e:putK acc Bs.1 Bs.2=acc++[Bs]:=by unfold putK;rw[if_neg];intro z;obtain⟨x,AM,q⟩:=List.any_eq_true.mp z;exact WA (List.mem_map.mpr ⟨x,AM,of_decide_eq_true q⟩)
  show Pa (putK acc Bs.1 Bs.2) more=_;rw[e,ku more (acc++[Bs]) (C7:)];simp
def z7{AJ:↑Str}{ms:↑B7}(l:⇑AJ=⇑ms):FR (C8 F (T3 AJ ms)) (qu (KR F AJ ms)):=λσ H Q⟨φ,ρ,h,r,q⟩ p AV=>by
 refine jo AJ ms l σ _ _ ⟨φ++[p],ρ,h++[⟨.Ak [],[]⟩],r.to (r.hd.new AV (ho:=.Ak []) (k:=.Ak []) ⟨[],E3,rfl,rfl⟩ .nil) (Ah.Q1 AV),?_⟩;unfold T3 at q;cases e:On ms ρ (h++[⟨.Ak [],[]⟩])with
 |bad=>rw[e]at q;cases q
 |exc c h'=>rw[e]at q;exact λBL A9 x d=>q BL A9 ((Ah.Q1 AV).trans x) d
 |ok pp=>
  rw[e]at q;obtain⟨ws,h2⟩:=pp;intro vs CJ AU BJ x2 as;erw[R.bind]at q
  split at q
  .rename_i Ay
   split at q
   .rename_i AZ;have Aq:CJ[⇑h]?=↥p:=F_ x2.p (VA r.hd);obtain⟨xs,⟨A8,AY,k1,k2⟩,_⟩:=BJ.hd.BY _ _ p Ay Aq;have:A8=[]:=by simpa using k1
    subst this;have lv:⇑vs=⇑AJ:=by
     rw[<- ⇑as,l];have:∀(ms:↑B7)(ρ:B9)(h h2:A5)(ws:↑W),On ms ρ h=.ok (ws,h2)->⇑ws=⇑ms:=by
      intro ms;induction ms with
      |nil=>intro ρ h h2 ws z;cases z;rfl
      |cons m ms CC=>
       intro ρ h h2 ws z;erw[On,Z,bd]at z;cases Es:m ρ h with
       |bad=>rw[Es]at z;cases z
       |exc _ _=>rw[Es]at z;cases z
       |ok ER=>
        rw[Es]at z;erw[R.bind]at z;cases Ec:On ms ρ ER.2 with
        |bad=>rw[Ec]at z;cases z
        |exc _ _=>rw[Ec]at z;cases z
        |ok Cv=>rw[Ec]at z;cases z;have:=CC ρ ER.2 Cv.2 Cv.1 Ec;simp[this]
     exact this ms ρ _ _ _ e
    refine⟨AY,(AJ.map MT).zip vs,?_,by simp[lv,AZ.2],?_⟩
    .rw[List.map_zip_eq_zipWith,List.zip,rr,rr];rfl
    .have Es:((AJ.map MT).zip vs:↑(Key×V)).map (·.1)=AJ.map MT:=by
       rw[List.map_fst_zip];simp[lv]
     have Ec:((AJ.map MT).zip vs:↑(Key×V)).map (·.2)=vs:=by rw[List.map_snd_zip];simp[lv]
     rw[ku _ [] (by rw[N9,Es,XI,S6];exact(List.nodup_iff_pairwise_ne.mp AZ.1).imp λz y=>z (Sum.inr.inj y)),N9];have ns:¬Still (.Ak []):=λz=>z;refine q (.ref p) CJ _ (BJ.to (BJ.hd.put (o':=⟨.Ak (AJ.map .inr),ws⟩) Ay Aq AY ns ⟨_,E3,Es,Ec⟩ as) (Ah.put AY ns)) (((Ah.Q1 AV).trans x2).trans (Ah.put AY ns)) (.GK Aq)
   .exact q.elim
  .exact q.elim
def afV{keys:↑(Option Al)}{values:↑Al}{AJ:↑Str}{ms:↑B7}(h:YI X F pos keys values AJ ms)(h1:keys.all (·.isSome)=true:=by rfl)(h2:⇑keys=⇑values:=by rfl)(BO:keys≠[]:=by intro z;cases z)(Cc:⇑keys<=15:=by decide):Ab X F (.Dict keys values pos) (T3 AJ ms):=⟨Ag.imp (adF h.p h1 h2 BO Cc) (z7 h.l.1)⟩
def Vv(F:D2)(E:Ex):D2:=⟨F.K,F.DJ,F.BM,QW F.K E⟩
structure hK(X:Ar)(F:D2)(e:Al)(m:B7):Prop where
 p:∀E,cF X e (C8 (Vv F E) m) E
def aha {DZ x:Str} {k j:Nat} {mf:Bi} {pl:Sem Bool} (c:Gy X.prog X.w X.K X.mg X.base DZ x k j mf) (BF:D4 j X.A) (ho:∀E,Ab X.Fv (Vv F E) o m) (AF:∀E,HH X.Fv (Vv F E) (e::es) ma) (Aa:F.K=X.K:=by rfl) (s:M1 X e es pos:=by exact{}) (BV:Bc (.Call (.Attribute o x apos) (e::es) [] pos) X.env=(do
   let CF <-Bc o X.env
   MU apos.atName
   let(f,first) <-JF [CF] (O4 CF x pl)
   PU pos f first (Fc pos (CK (e::es) X.env)) (Kx pos (Kw [] X.env))):=by rfl):hK X F (.Call (.Attribute o x apos) (e::es) [] pos) (Bz DZ x k mf m ma):=by
 obtain⟨C,f,fd,ps,AZ,AI,Co,F5,P8,A4⟩:=c.ex;refine⟨λE A3 s0 σ H Q J h=>ach (pl:=pl) (ho E).p Co F5 P8 BF A4 (AF E).p s.he s.G6 BV A3 s0 σ H Q J ?_⟩;exact eK (F:=Vv F E) (X:=X) Aa AI (λc H z=>Aa▸z) σ H Q h
structure bT(K:As)(mg:Str->Option A7)(x:Str)(cs:↑Str):Prop where
 ex:∃W,mg x=↥(.ref W)/\∀c∈cs,∃C,IY K c C/\US K (.ref C) (.ref W)=↥true
noncomputable def Op(m:B7)(j:Nat)(cs:↑Str)(ms:Ai):Ai:=λρ h=>match m ρ h with
 |.ok (w,h')=>AA j w ρ h'
 |.exc c h'=>if cs.contains c=true then ms ρ h' else .bad
 |.bad=>.bad
def ahz(j:Nat){x y:Str}{cs:↑Str}{Sn:BG}{UD:↑BG}{ms:Ai}{U4 np AV py:Pos}(hN:X.N.Nodup)(t:bT X.K X.mg x cs)(he:hK X F e m)(AO:∀a,Kd (X.marked a) F (Sn::UD) ms)(Aa:F.K=X.K:=by rfl)(Am:X.N[j]?=↥y:=by rfl)(YQ:X.env.scope.names.lookup y=↥.local:=by rfl)(Fp:X.stack=X.env::X.outer:=by rfl)(Nx:X.env.frame=↥X.env.locals:=by rfl)(Aj:ET X x:=by rfl)(hd:(x==("__debug__" :Str))=false:=by decide)(PH:NE e ↥(.Name y py) U4.line X.env=pure false:=by rfl) :
  Fq X F (.Try [.Assign [.Name y py] e U4] [.ExceptHandler ↥(.Name x np) none (Sn::UD) AV] [] [] pos) (Op m j cs ms):=by
 refine⟨λA3 s σ H De J⟨φ,ρ,h,r,q⟩=>?_⟩;obtain⟨W,x5,YS⟩:=t.ex
 let E:Ex:=λC _ A9=>∃(c:Str)(Lx:A6)(BL:↑A6)(h':A5),C=.ref Lx/\IY X.K c Lx/\m ρ h=.exc c h'/\Ah φ H BL A9/\DB X.K BL h' A9
 have FT:∀{c:Str}{h':A5},m ρ h=.exc c h'->cs.contains c=true/\E8 F φ H De (ms ρ h'):=λ{c h'} z=>by
  unfold Op at q;rw[z]at q;dsimp only at q
  split at q
  .rename_i AI;exact⟨AI,q⟩
  .exact q.elim
 refine aeF (E:=E) (te:=C8 (Vv F E) m) (ts:=G9 F ms) hN (he.p E) x5 (λC a A9⟨c,Lx,BL,h',AC,AH,D_,_⟩=>?_) (λa=>(AO a).p) Am YQ Fp Nx Aj hd PH A3 s σ H De J ⟨⟨φ,ρ,h,⟨r.hd,r.x0,r.len,r.Bt⟩,?_⟩,?_⟩
 .subst AC;obtain⟨bt,k1,k2⟩:=YS c (by simpa using(FT D_).1);rw[AH.inj k1];exact k2
 .cases z:m ρ h with
  |bad=>unfold Op at q;rw[z]at q;exact q
  |exc c h'=>intro BL A9 x d;obtain⟨bt,k1,k2⟩:=YS c (by simpa using(FT z).1);exact⟨bt,Aa▸k1,λa _=>⟨c,bt,BL,h',rfl,k1,z,x,Aa▸d⟩⟩
  |ok p=>
   obtain⟨w,h'⟩:=p;intro v BL A9 Bf Fx GT;unfold Op at q;rw[z]at q;dsimp only[AA]at q
   split at q
   .rename_i AD;have KO:Rel F BL h' A9 σ ρ:=⟨Bf.hd,Bf.x0,Bf.len,Bf.Bt⟩;exact q _ BL A9 (KO.set AD GT) Fx
   .exact q.elim
 .rintro C a A9 ⟨c,Lx,BL,h',AC,AH,D_,x,d⟩ _;have k:=(FT D_).2;exact⟨BL,ρ,h',r.to (Aa▸d) x,E8.ex x k⟩
end
section
variable{α β:Type}
noncomputable def Ends{α:Type}(r:R (α×A5))(T:α->A5->Prop):Prop:=∃a h,r=.ok (a,h)/\T a h
@[simp] theorem A2(a:α)(k:α->R β):(R.ok a).bind k=k a:=rfl
@[simp] theorem ajZ(k:α->R β):(R.bad:R α).bind k=.bad:=rfl
@[simp] theorem aj_(c:Str)(h:A5)(k:α->R β):(R.exc c h:R α).bind k=.exc c h:=rfl
@[simp] theorem Vq(a:α)(h:A5)(T:α->A5->Prop):Ends (.ok (a,h)) T↔T a h:=⟨λ⟨b,g,e,t⟩=>by cases e;exact t,λt=>⟨a,h,rfl,t⟩⟩
@[simp] theorem aiu(T:α->A5->Prop):Ends (.bad:R (α×A5)) T↔False:=⟨λ⟨b,g,e,t⟩=>(nomatch e),HR⟩
@[simp] theorem aiv(c:Str)(h:A5)(T:α->A5->Prop):Ends (.exc c h:R (α×A5)) T↔False:=⟨λ⟨b,g,e,t⟩=>(nomatch e),HR⟩
theorem Ends.bind{r:R (α×A5)}{k:α×A5->R (β×A5)}{S:α->A5->Prop}{T:β->A5->Prop}(h:Ends r S)(g:∀a h,S a h->Ends (k (a,h)) T):Ends (r.bind k) T:=by obtain⟨a,h',e,s⟩:=h;rw[e];exact g a h' s
def Ends.mono{r:R (α×A5)}{S T:α->A5->Prop}(h:Ends r S)(g:∀a h,S a h->T a h):Ends r T:=by obtain⟨a,h',e,s⟩:=h;exact⟨a,h',e,g a h' s⟩
def Ends.done{r:R (α×A5)}{a:α}{h:A5}(e:Ends r λb g=>b=a/\g=h):r=.ok (a,h):=by obtain⟨b,g,e,rfl,rfl⟩:=e;exact e
@[simp] theorem Hu(m:M α)(k:α->M β)(ρ:B9)(h:A5):bd m k ρ h=(m ρ h).bind λp=>k p.1 ρ p.2:=rfl
@[simp] theorem Bq(a:α)(ρ:B9)(h:A5):pu a ρ h=.ok (a,h):=rfl
end
section
variable(ρ:B9)(h g:A5)(m n:B7)(a:EP)(s t:Ai)(c d:DN)
noncomputable def OX:Option (Option W)->A5->R (W×A5)
 |some ↥w,h=>.ok (w,h)
 |_,_=>.bad
@[simp] theorem CS(w:W):OX ↥↥w h=.ok (w,h):=rfl
@[simp] theorem v_var(i:Nat):I i ρ h=OX ρ[i]? h:=by
  unfold I OX;cases ρ[i]? with
  |none=>rfl
  |some o=>cases o<;>rfl
@[simp] theorem Bb(f:Ir):A0 f m n ρ h=(m ρ h).bind λp=>(n ρ p.2).bind λq=>f p.1 q.1 q.2:=rfl
@[simp] theorem HO(f:W->A5->R (W×A5)):Aw f m ρ h=(m ρ h).bind λp=>f p.1 p.2:=rfl
@[simp] theorem CY:A1 ρ h=.ok ([],h):=rfl
@[simp] theorem CG:Z m a ρ h=(m ρ h).bind λp=>(a ρ p.2).bind λq=>.ok (p.1::q.1,q.2):=rfl
@[simp] theorem QU:BE a ρ h=(a ρ h).bind λp=>if ⇑p.1<=At then .ok (.tup p.1,p.2)else .bad:=by unfold BE bd;congr;funext p;dsimp only;split<;>rfl
@[simp] theorem Mx:Bg a ρ h=(a ρ h).bind λp=>nw .lst p.1 p.2:=rfl
@[simp] theorem GA(f:L9):B6 f a ρ h=(a ρ h).bind λp=>f p.1 p.2:=rfl
@[simp] theorem IV(k:Nat)(f:Bi):Ae k f a ρ h=(a ρ h).bind λp=>if ⇑p.1=k then f p.1 p.2 else .bad:=by unfold Ae bd;congr
noncomputable def Ui:W->A5->R (Bool×A5)
 |.AL b,h=>.ok (b,h)
 |_,_=>.bad
@[simp] theorem Gj(b:Bool):Ui (.AL b) h=.ok (b,h):=rfl
@[simp] theorem GM:AT m ρ h=(m ρ h).bind λp=>Ui p.1 p.2:=by unfold AT bd;congr;funext p;cases p.1<;>rfl
@[simp] theorem v_and:Eg c d ρ h=(c ρ h).bind λp=>if p.1=true then d ρ p.2 else .ok (false,p.2):=by unfold Eg bd;congr;funext p;dsimp only;split<;>rfl
@[simp] theorem v_or:FY c d ρ h=(c ρ h).bind λp=>if p.1=true then .ok (true,p.2)else d ρ p.2:=by unfold FY bd;congr;funext p;dsimp only;split<;>rfl
@[simp] theorem v_not:Dj c ρ h=(c ρ h).bind λp=>.ok (!p.1,p.2):=rfl
@[simp] theorem ajT:MC m n ρ h=(m ρ h).bind λp=>(Ui p.1 p.2).bind λq=>if q.1=true then n ρ q.2 else .ok (.AL false,q.2):=by unfold MC bd;congr;funext p;cases p.1<;>first|rfl|(rename_i b;cases b<;>rfl)
@[simp] theorem ajW:WX m n ρ h=(m ρ h).bind λp=>(Ui p.1 p.2).bind λq=>if q.1=true then .ok (.AL true,q.2)else n ρ q.2:=by unfold WX bd;congr;funext p;cases p.1<;>first|rfl|(rename_i b;cases b<;>rfl)
@[simp] theorem ajV:WW m ρ h=(m ρ h).bind λp=>(Ui p.1 p.2).bind λq=>.ok (.AL (!q.1),q.2):=by unfold WW bd;congr;funext p;cases p.1<;>rfl
@[simp] theorem qe:LX c m n ρ h=(c ρ h).bind λp=>if p.1=true then m ρ p.2 else n ρ p.2:=by unfold LX bd;congr;funext p;dsimp only;split<;>rfl
noncomputable def OR(t:Ai):FL×A5->R (FL×A5)
 |(.AR ρ,h)=>t ρ h
 |p=>.ok p
@[simp] theorem B1:OR t (.AR ρ,h)=t ρ h:=rfl
@[simp] theorem UA(w:W):OR t (.EM w,h)=.ok (.EM w,h):=rfl
@[simp] theorem Ax:AN s t ρ h=(s ρ h).bind (OR t):=by unfold AN;congr
@[simp] theorem FC:BR ρ h=.ok (.AR ρ,h):=rfl
@[simp] theorem Hv:E_ m ρ h=(m ρ h).bind λp=>.ok (.AR ρ,p.2):=rfl
@[simp] theorem Fb:Au m ρ h=(m ρ h).bind λp=>.ok (.EM p.1,p.2):=rfl
@[simp] theorem Db:BU c s t ρ h=(c ρ h).bind λp=>if p.1=true then s ρ p.2 else t ρ p.2:=by unfold BU bd;congr;funext p;dsimp only;split<;>rfl
@[simp] theorem OW(i:Nat)(w:W):AA i w ρ h=if i< ⇑ρ then .ok (.AR (ρ.set i ↥w),h)else .bad:=rfl
@[simp] theorem DU(f:DG):AX m f ρ h=(m ρ h).bind λp=>f p.1 ρ p.2:=rfl
@[simp] theorem qc(f:DG):MD m f ρ h=(m ρ h).bind λp=>Zn (f p.1 ρ p.2):=rfl
@[simp] theorem aio:Zn (.ok (.AR ρ,h))=.ok (.AR ρ,h):=rfl
@[simp] theorem ajU(N:Nat)(ws:↑W):F0 N s ws h=(s (Nz N ws) h).bind outF:=rfl
@[simp] theorem Wr(N:Nat)(ws:↑W):Ct N s ws h=(s (Nz N ws) h).bind λp=>(outF p).bind λq=>settle h q.1 q.2:=by unfold Ct F0;cases s (Nz N ws) h<;>rfl
@[simp] theorem fP:outF (.AR ρ,h)=.ok (.non,h):=rfl
@[simp] theorem H8(w:W):outF (.EM w,h)=.ok (w,h):=rfl
@[simp] theorem FD:Bh m ρ h=(m ρ h).bind λp=>settle h p.1 p.2:=rfl
@[simp] theorem agK:Hn c ρ h=(c ρ h).bind λp=>.ok (p.1,if G2 h p.2=true then h else p.2):=rfl
@[simp] theorem agH(f:NK):D6 f m a ρ h=(m ρ h).bind λp=>aA p.1 (bd a λus=>ZY f p.1 us) ρ p.2:=rfl
@[simp] theorem ajX(x:Str):NU x ρ h=.exc x h:=rfl
@[simp] theorem ain(p:FL×A5):Gc (.ok p)=.ok p:=rfl
@[simp] theorem K7(mi:G4)(f:DG):Eo mi f s ρ h=Gc (Q6 mi f s ρ h):=rfl
@[simp] theorem ajY:Zc c s ρ h=Gc (T4 c s ρ h):=rfl
@[simp] theorem VW(N:Nat)(ws:↑W):Nz N ws=ws.map some++GR (N- ⇑ws) none:=rfl
end
section
variable(h g:A5)
@[simp] theorem PB(k:Nat):(h++g)[⇑h+k]?=g[k]?:=by rw[MM δ];congr 1;lia
@[simp] theorem Hf:(h++g)[⇑h]?=g[0]?:=PB h g 0
@[simp] theorem wU(k:Nat)(o:O):(h++g).set (⇑h+k) o=h++g.set k o:=by rw[rt _ _ δ];congr 2;lia
@[simp] theorem Pr(o:O):(h++g).set ⇑h o=h++g.set 0 o:=wU h g 0 o
def CB{n:Nat}{o:O}(e:h[n]?=↥o)(g:A5):(h++g)[n]?=↥o:=by rw[Gr (List.getElem?_eq_some_iff.mp e).1];exact e
@[simp] theorem aiL(h g:A5):G2 h (h++g)=true:=Rp h g
@[simp] theorem aiP(h:A5):G2 h h=true:=ae3 h
@[simp] theorem QN(w:W)(e:DE w=true):settle h w h=.ok (w,h):=by unfold settle;simp[e]
@[simp] theorem Ru(w:W)(e:DE w=true):settle h w (h++g)=.ok (w,h):=by unfold settle;simp[e]
theorem mr:∀(h a b:A5),G2 (h++a) (h++b)=G2 a b
 |[],_,_=>rfl
 |o::h,a,b=>by erw[HD,G2,Rd,mr h a b];simp
@[simp] theorem aiM(h a b:A5):G2 (h++a) (h++b)=G2 a b:=mr h a b
@[simp] theorem aiC(a:↑W):Ke a a=true:=Rd a
@[simp] theorem aiO(h:A5):G2 [] h=true:=by simp[G2]
@[simp] theorem aiN(o o':O)(h g:A5):G2 (o::h) (o'::g)=(decide (o.k=o'.k)&&Ke o.ws o'.ws&&G2 h g):=by simp[G2]
@[simp] theorem aek(w:W)(e:DE w=true)(p:G2 h g=true):settle h w g=.ok (w,h):=by unfold settle;simp[e,p]
def IU{n:Nat}{ws:↑W}(p:G2 h g=true)(l:⇑h<=n)(e:g[n]?=↥⟨.lst,ws⟩)(La:Fg ws=true):settle h (.ref n) g=.ok (.ref ⇑h,h++[⟨.lst,ws⟩]):=by unfold settle;simp[p,l,e,La,DE]
def aej(k:Nat){ws:↑W}(e:g[k]?=↥⟨.lst,ws⟩)(n:Fg ws=true):settle h (.ref (⇑h+k)) (h++g)=.ok (.ref ⇑h,h++[⟨.lst,ws⟩]):=by unfold settle;simp[e,n,DE]
def Nc{ws:↑W}(e:g[0]?=↥⟨.lst,ws⟩)(n:Fg ws=true):settle h (.ref ⇑h) (h++g)=.ok (.ref ⇑h,h++[⟨.lst,ws⟩]):=aej h g 0 e n
@[simp] theorem UB(ws:↑W):E2 h (.tup ws)=↥(true,ws):=by simp[E2]
@[simp] theorem ajK(ws:↑W):E2 h (.I6 ws)=↥(true,ws):=by simp[E2]
def H9{n:Nat}{ws:↑W}(e:h[n]?=↥⟨.lst,ws⟩):E2 h (.ref n)=↥(false,ws):=by simp[E2,e]
@[simp] theorem bF(ws:↑W):E2 h (.Df ws)=↥(false,ws):=by simp[E2]
def Ol{n:Nat}{ws:↑W}(e:h[n]?=↥⟨.lst,ws⟩):LV h (.ref n)=↥(n,ws):=by simp[LV,e]
@[simp] theorem ai_(i:Int):DE (.int i)=true:=by simp[DE]
@[simp] theorem aif(i:Str):DE (.str i)=true:=by simp[DE]
@[simp] theorem aiZ(i:Bool):DE (.AL i)=true:=by simp[DE]
@[simp] theorem aic:DE .non=true:=by simp[DE]
@[simp] theorem aii(ws:↑W):DE (.tup ws)=Fg ws:=by simp[DE]
@[simp] theorem aib(ws:↑W):DE (.I6 ws)=Fg ws:=by simp[DE]
@[simp] theorem aia(ws:↑W):DE (.Df ws)=Fg ws:=by simp[DE]
@[simp] theorem ail:Fg []=true:=by simp[Fg]
@[simp] theorem aij(w:W)(ws:↑W):Fg (w::ws)=(DE w&&Fg ws):=by simp[Fg]
theorem JI:∀{ws:↑W},Fg ws=true↔∀w∈ws,DE w=true
 |[]=>γ
 |w::ws=>by simp[JI (ws:=ws)]
def I8{ws:↑W}(e:⇑ws<=At):nw .lst ws h=.ok (.ref ⇑h,h++[⟨.lst,ws⟩]):=if_pos e
end
section
variable(i j:Int)(h:A5)
@[simp] theorem Mp:addW (.int i) (.int j) h=.ok (.int (i+j),h):=rfl
@[simp] theorem aiI:Nf (.int i) (.int j) h=.ok (.int (i-j),h):=rfl
@[simp] theorem abU:KJ (.int i) (.int j) h=if L6 i j then .ok (.int (i*j),h)else .bad:=rfl
@[simp] theorem LJ:BK (.int i) (.int j) h=if 0<j then .ok (.int (i%j),h)else .bad:=by show(match(if 0<j then↥(W.int (i%j))else none)with|some w=>R.ok (w,h)|none=>R.bad)=_;by_cases AI:0<j<;>simp[AI]
@[simp] theorem Lc:CT (.int i) (.int j) h=if 0<j/\j<1073741824 then .ok (.int (i/j),h)else .bad:=by show(match(if SX i j then↥(W.int (i/j))else none)with|some w=>R.ok (w,h)|none=>R.bad)=_;unfold SX;by_cases AI:0<j/\j<1073741824<;>simp[AI]
@[simp] theorem aiH:Oy (.int i) (.int j) h=if OL i j then .ok (.int (i^j.toNat),h)else .bad:=by show(match(if OL i j then↥(W.int (i^j.toNat))else none)with|some w=>R.ok (w,h)|none=>R.bad)=_;by_cases AI:OL i j<;>simp[AI]
@[simp] theorem acJ:Jf (.int i) (.int j) h=.ok (.AL (decide (i<j)),h):=rfl
@[simp] theorem kl:HL (.int i) (.int j) h=.ok (.AL (decide (i<=j)),h):=rfl
@[simp] theorem acI:Kl (.int i) (.int j) h=.ok (.AL (decide (j<i)),h):=rfl
@[simp] theorem aiq:cn (.int i) (.int j) h=.ok (.AL (decide (j<=i)),h):=rfl
@[simp] theorem U1:Ap true (.int i) (.int j) h=.ok (.AL (decide (i=j)),h):=by erw[Ap,CD,eqT];by_cases e:i=j<;>simp[e]
@[simp] theorem abV:Ap false (.int i) (.int j) h=.ok (.AL (!decide (i=j)),h):=by erw[Ap,CD,eqT];by_cases e:i=j<;>simp[e]
def Va{t:Bool}{x:W}{ws:↑W}{k:Nat}{w:W}(e:E2 h x=↥(t,ws))(AM:ws[k]?=↥w):AB x (.int (k:Int)) h=.ok (w,h):=by
 have AP:k< ⇑ws:=(List.getElem?_eq_some_iff.mp AM).1;have ex:Py x (.int (k:Int)) h=.ok (w,h):=by
  have:JY ws (k:Int)=↥w:=by unfold JY M8;rw[if_pos δ,if_pos δ];simpa using AM
  unfold Py;cases x<;>first|(simp[e,this];done)|(simp[E2]at e)
 unfold AB;have hd:Hc h x (.int (k:Int))=none:=by
  unfold Hc;cases x<;>first|rfl|skip
  rename_i n;unfold E2 at e;dsimp only at e |-
  split at e<;>rename_i Ay<;>first|(rw[Ay];done)|(cases e;done)
 rw[hd];exact ex
end
noncomputable def Lw(J:B9->A5->Prop)(T:FL->A5->Prop):FL->A5->Prop
 |.AR ρ,h=>J ρ h
 |.DL ρ,h=>J ρ h
 |.B_ ρ,h=>T (.AR ρ) h
 |.EM w,h=>T (.EM w) h
@[simp] theorem YO(J:B9->A5->Prop)(T:FL->A5->Prop)(ρ:B9)(h:A5):Lw J T (.AR ρ) h↔J ρ h:=Iff.rfl
@[simp] theorem ai5(J:B9->A5->Prop)(T:FL->A5->Prop)(ρ:B9)(h:A5):Lw J T (.DL ρ) h↔J ρ h:=Iff.rfl
@[simp] theorem aiF(J:B9->A5->Prop)(T:FL->A5->Prop)(ρ:B9)(h:A5):Lw J T (.B_ ρ) h↔T (.AR ρ) h:=Iff.rfl
@[simp] theorem t5(J:B9->A5->Prop)(T:FL->A5->Prop)(w:W)(h:A5):Lw J T (.EM w) h↔T (.EM w) h:=Iff.rfl
theorem Ends.Gc{r:R (FL×A5)}{T:FL->A5->Prop}(h:Ends r T):Ends (C2.Gc r) T:=by obtain⟨a,g,e,t⟩:=h;rw[e];exact⟨a,g,rfl,t⟩
theorem Yg{it:Gx}{g:DG}{b:Ai}(n:Nat)(J:Nat->B9->A5->Prop)(T:FL->A5->Prop)(DT:∀j ρ h,J j ρ h->(it j h=↥none/\T (.AR ρ) h)\/(∃w,it j h=↥↥w/\j<n/\∃CO h1,g w ρ h=.ok (.AR CO,h1)/\Ends (b CO h1) (Lw (J (j+1)) T))) :
  ∀f j ρ h,J j ρ h->n-j<f->Ends (N8 it g b f j ρ h) T
 |0,j,ρ,h,i,l=>δ
 |f+1,j,ρ,h,i,l=>by
  unfold N8;rcases DT j ρ h i with⟨e,t⟩|⟨w,e,Am,CO,h1,eg,Di,h2,BI,t⟩
  .rw[e];exact⟨_,_,rfl,t⟩
  .rw[e];erw[eg,A2,BI];cases Di with
   |AR Dk=>exact Yg n J T DT f (j+1) Dk h2 t δ
   |DL Dk=>exact Yg n J T DT f (j+1) Dk h2 t δ
   |B_ Dk=>exact⟨_,_,rfl,t⟩
   |EM w=>exact⟨_,_,rfl,t⟩
def cU{mi:G4}{it:Gx}{g:DG}{b:Ai}{ρ:B9}{h h0:A5}(n:Nat)(AZ:n<1000)(J:Nat->B9->A5->Prop){T:FL->A5->Prop}(AD:mi ρ h=.ok (it,h0))(G_:J 0 ρ h0)(DT:∀j ρ h,J j ρ h->(it j h=↥none/\T (.AR ρ) h)\/(∃w,it j h=↥↥w/\j<n/\∃CO h1,g w ρ h=.ok (.AR CO,h1)/\Ends (b CO h1) (Lw (J (j+1)) T))):Ends (Q6 mi g b ρ h) T:=by unfold Q6;erw[Hu,AD,A2];exact Yg n J T DT 1000 0 ρ h0 G_ δ
def R5{mi:G4}{g:DG}{b:Ai}{ρ:B9}{h h0:A5}(lo:Int)(n:Nat)(AZ:n<1000)(J:Nat->B9->A5->Prop){T:FL->A5->Prop}(AD:mi ρ h=.ok (LO lo n,h0))(G_:J 0 ρ h0)(DT:∀j ρ h,j<n->J j ρ h->∃CO h1,g (.int (lo+j)) ρ h=.ok (.AR CO,h1)/\Ends (b CO h1) (Lw (J (j+1)) T))(fin:∀ρ h,J n ρ h->T (.AR ρ) h):Ends (Q6 mi g b ρ h) T:=by
 refine cU n AZ (λj ρ h=>j<=n/\J j ρ h) AD ⟨Hy _,G_⟩ λj ρ h⟨l,i⟩=>?_;by_cases Am:j<n
 .obtain⟨CO,h1,e,t⟩:=DT j ρ h Am i;exact .inr ⟨_,by simp[LO,Am],Am,CO,h1,e,t.mono λf h' q=>by cases f<;>first|exact⟨Am,q⟩|exact q⟩
 .have:j=n:=δ
  subst this;exact .inl ⟨by simp[LO],fin ρ h i⟩
def Pm{mi:G4}{it:Gx}{g:DG}{b:Ai}{ρ:B9}{h h0:A5}(ws:↑W)(AZ:⇑ws<1000)(J:Nat->B9->A5->Prop){T:FL->A5->Prop}(AD:mi ρ h=.ok (it,h0))(hit:∀j ρ h,j<=⇑ws->J j ρ h->it j h=↥ws[j]?)(G_:J 0 ρ h0)(DT:∀j w ρ h,ws[j]?=↥w->J j ρ h->∃CO h1,g w ρ h=.ok (.AR CO,h1)/\Ends (b CO h1) (Lw (J (j+1)) T))(fin:∀ρ h,J ⇑ws ρ h->T (.AR ρ) h):Ends (Q6 mi g b ρ h) T:=by
 refine cU ⇑ws AZ (λj ρ h=>j<=⇑ws/\J j ρ h) AD ⟨Hy _,G_⟩ λj ρ h⟨l,i⟩=>?_;have El:=hit j ρ h l i;by_cases Am:j< ⇑ws
 .obtain⟨CO,h1,e,t⟩:=DT j ws[j] ρ h (CP Am) i;exact .inr ⟨_,by rw[El,CP Am],Am,CO,h1,e,t.mono λf h' q=>by cases f<;>first|exact⟨Am,q⟩|exact q⟩
 .have:j=⇑ws:=δ
  subst this;exact .inl ⟨by rw[El];simp,fin ρ h i⟩
theorem fb{c:DN}{b:Ai}(J:Nat->B9->A5->Prop)(T:FL->A5->Prop)(DT:∀n ρ h,J n ρ h->∃k h1,c ρ h=.ok (k,h1)/\(k=false->T (.AR ρ) h1)/\(k=true->Ends (b ρ h1) (Lw (λE4 h'=>∃m,m<n/\J m E4 h') T))):∀f n ρ h,J n ρ h->n<f->Ends (QV c b f ρ h) T
 |0,n,ρ,h,i,l=>δ
 |f+1,n,ρ,h,i,l=>by
  unfold QV;obtain⟨k,h1,e,t1,Ca⟩:=DT n ρ h i;erw[Hu,e,A2];cases k with
  |false=>simpa using t1 rfl
  |true=>
   obtain⟨Di,h2,BI,t⟩:=Ca rfl;erw[if_true,BI,A2];cases Di with
   |AR Dk=>obtain⟨m,hm,t⟩:=t;exact fb J T DT f m Dk h2 t δ
   |DL Dk=>obtain⟨m,hm,t⟩:=t;exact fb J T DT f m Dk h2 t δ
   |B_ Dk=>exact⟨_,_,rfl,t⟩
   |EM w=>exact⟨_,_,rfl,t⟩
def ue{c:DN}{b:Ai}{ρ:B9}{h:A5}(J:Nat->B9->A5->Prop){T:FL->A5->Prop}{n:Nat}(AZ:n<1000)(G_:J n ρ h)(DT:∀n ρ h,J n ρ h->∃k h1,c ρ h=.ok (k,h1)/\(k=false->T (.AR ρ) h1)/\(k=true->Ends (b ρ h1) (Lw (λE4 h'=>∃m,m<n/\J m E4 h') T))):Ends (T4 c b ρ h) T:=
 fb J T DT 1000 n ρ h G_ AZ
theorem dD{it:Gx}{g:DG}{t:DN}{e:B7}{h:A5}(ws:↑W)(p:W->Bool)(f:W->W)(BC:B9->Prop)(AG:⇑ws<1000)(hit:∀j acc,j<=⇑ws->it j (h++[⟨.lst,acc⟩])=↥ws[j]?)(DT:∀w∈ws,∀ρ acc,BC ρ->∃CO,g w ρ (h++[⟨.lst,acc⟩])=.ok (.AR CO,h++[⟨.lst,acc⟩])/\BC CO/\t CO (h++[⟨.lst,acc⟩])=.ok (p w,h++[⟨.lst,acc⟩])/\(p w=true->e CO (h++[⟨.lst,acc⟩])=.ok (f w,h++[⟨.lst,acc⟩]))) :
  ∀k j ρ acc,j<=⇑ws->⇑ws-j<k->⇑acc<=j->BC ρ->Kg it g t e ⇑h k j ρ (h++[⟨.lst,acc⟩])=.ok (h++[⟨.lst,acc++((ws.drop j).filter p).map f⟩])
 |0,j,ρ,acc,Am,l,Ga,i=>δ
 |k+1,j,ρ,acc,Am,l,Ga,i=>by
  unfold Kg;rw[hit _ _ Am];by_cases DD:j< ⇑ws
  .have CH:=gQ DD;rw[CP DD];obtain⟨CO,AC,Ck,AH,D_⟩:=DT ws[j] (JD DD) ρ acc i;erw[AC,A2,AH];cases AV:p ws[j]with
   |false=>rw[if_neg γ,dD ws p f BC AG hit DT k (j+1) CO acc DD δ δ Ck,CH];erw[Qa,AV,MO,if_false]
   |true=>rw[if_pos rfl,D_ AV];erw[A2,Hf,DV,Pr,NB];rw[if_pos (show⇑acc<At by unfold At;lia),dD ws p f BC AG hit DT k (j+1) CO (acc++[f ws[j]]) DD δ (by simp;lia) Ck,CH];erw[Qa,AV,if_true,D9,EB,HD,N9]
  .have:j=⇑ws:=δ
   subst this;simp
def Pi{mi:G4}{it:Gx}{g:DG}{t:DN}{e:B7}{ρ:B9}{h h0:A5}{nl:Nat}{caps:↑Nat}(ws:↑W)(p:W->Bool)(f:W->W)(BC:B9->Prop)(AG:⇑ws<1000)(AD:mi ρ h0=.ok (it,h))(G_:BC (QJ nl caps ρ))(hit:∀j acc,j<=⇑ws->it j (h++[⟨.lst,acc⟩])=↥ws[j]?)(DT:∀w∈ws,∀ρ acc,BC ρ->∃CO,g w ρ (h++[⟨.lst,acc⟩])=.ok (.AR CO,h++[⟨.lst,acc⟩])/\BC CO/\t CO (h++[⟨.lst,acc⟩])=.ok (p w,h++[⟨.lst,acc⟩])/\(p w=true->e CO (h++[⟨.lst,acc⟩])=.ok (f w,h++[⟨.lst,acc⟩]))) :
  Dq nl caps mi g t e ρ h0=.ok (.ref ⇑h,h++[⟨.lst,(ws.filter p).map f⟩]):=by
 unfold Dq;erw[Hu,AD,A2];rw[dD ws p f BC AG hit DT Jv 0 _ [] (Hy _) (by unfold Jv;lia) (C9 _) G_];simp
def Vi{mi:G4}{e:B7}{ρ:B9}{h h0:A5}{caps:↑Nat}(lo:Int)(n:Nat)(f:Nat->W)(AG:n<1000)(AD:mi ρ h0=.ok (LO lo n,h))(DT:∀j,j<n->∀acc,e (↥(.int (lo+j))::caps.map λj=>ρ.getD j none) (h++[⟨.lst,acc⟩])=.ok (f j,h++[⟨.lst,acc⟩])) :
  Dq 1 caps mi (AA 0) (pu true) e ρ h0=.ok (.ref ⇑h,h++[⟨.lst,(Ch n).map f⟩]):=by
 let EJ:W->Nat:=λw=>match w with
  |.int i=>(i-lo).toNat
  |_=>0
 have AM:∀j:Nat,(lo+(j:Int)-lo).toNat=j:=λj=>δ
 have:=Pi (mi:=mi) (g:=AA 0) (t:=pu true) (e:=e) (ρ:=ρ) (nl:=1) (caps:=caps) ((Ch n).map λj:Nat=>W.int (lo+(j:Int))) (λ_=>true) (λw=>f (EJ w)) (λE4=>∃x,E4=x::caps.map λj=>ρ.getD j none) (AG:) AD ⟨none,rfl⟩ (λj acc _=>by
  erw[LO,E5,UM];by_cases Am:j<n
  .simp[Am]
  .simp[Am]) λw hw E4 acc⟨x,AM⟩=>by obtain⟨j,Am,rfl⟩:=List.mem_map.mp hw;subst AM;refine⟨↥(.int (lo+j))::caps.map λj=>ρ.getD j none,γ,⟨_,rfl⟩,rfl,λ_=>?_⟩;rw[DT j (List.mem_range.mp Am) acc];simp[EJ,AM]
 rw[this];simp[EJ,AM,List.filter_eq_self.mpr,NC]
@[simp] theorem agJ(ma:EP)(ρ:B9)(h:A5):Dr ma ρ h=(ma ρ h).bind λp=>match p.1 with
  |[.int j]=>if-(2^62)<=j/\j<2^62 then .ok (LO 0 j.toNat,p.2)else .bad
  |_=>.bad:=by
  unfold Dr bd;congr;funext p;obtain⟨ws,g⟩:=p;rcases ws with _|⟨w,_|⟨u,r⟩⟩
  .rfl
  .cases w<;>first|rfl|(dsimp only;split<;>rfl)
  .cases w<;>rfl
def nZ{n:Nat}(AZ:n<1000): -(2^62)<=(n:Int)/\(n:Int)<2^62:=by
 have:(2:Int)^62=4611686018427387904:=ε
 rw[this];lia
def LN{ma:EP}{ρ:B9}{h h0:A5}{n:Nat}(e:ma ρ h0=.ok ([.int (n:Int)],h))(AZ:n<1000):Dr ma ρ h0=.ok (LO 0 n,h):=by rw[agJ,e,A2];exact if_pos (nZ AZ)
def am{P:↑A7->Prop}(h:P []):∀us:↑A7,⇑us=0->P us
 |[],_=>h
def ao{P:↑A7->Prop}{n:Nat}(h:∀a us,⇑us=n->P (a::us)):∀us:↑A7,⇑us=n+1->P us
 |a::us,e=>h a us (Nat.succ.inj e)
noncomputable def WU:A7->Option W
 |.int i _=>↥(.int i)
 |.str x _=>↥(.str x)
 |_=>none
theorem qb{K:As}:∀{us:↑A7}{ws:↑W},us.mapM WU=↥ws->∃xs,Vals xs us/\∀φ H,Ao K φ H ws xs
 |[],ws,e=>by simp at e;subst e;exact⟨[],.nil,λ_ _=>.nil⟩
 |u::us,ws,e=>by
  rw[Q_]at e;cases GF:WU u with
  |none=>rw[GF]at e;cases e
  |some w=>
   cases BA:us.mapM WU with
   |none=>rw[GF,BA]at e;cases e
   |some r=>
    rw[GF,BA]at e;cases e;obtain⟨xs,v,a⟩:=qb (K:=K) BA;cases u<;>erw[WU]at GF<;>first|(cases GF;done)|skip
    .cases GF;exact⟨.int _::xs,.cons ⟨_,rfl⟩ v,λφ H=>.cons (by erw[AW]) (a φ H)⟩
    .cases GF;exact⟨.str _::xs,.cons ⟨_,rfl⟩ v,λφ H=>.cons (by erw[AW]) (a φ H)⟩
section
variable{K:As}{h:BH}{mg:Str->Option A7}{x qual DZ:Str}{C f:A6}{st:BG}{ps BB:↑Str}{E1 an:Option A6}{Bt:Array (Option A7)}{GJ Cd Ig pm cd DL:A7}
abbrev YN(x qual:Str)(st:BG)(ps:↑Str):Prop:=∀(Cd doc pm:A7)(an:Option A6)(FU DL:A7)(us:↑A7),⇑us=⇑ps->bindArgs (KB x qual (M5 st) (Ki st) (Bj st) .none Cd doc pm an FU DL) ⟨us,[]⟩=pure (ps.zip us)
def x9(X:K.In h)(G:h.Ns FQ mg)(a:JB K FQ x=↥↥(.ref f))(l:K.lookup f=↥⟨GJ,E1,.func (KB x x (M5 st) (Ki st) (Bj st) .none Cd Ig pm an cd DL),Bt⟩)(c:ND K cd x=true)(k:KA K (.ref f)=true)(b:YN x x st ps:=by intro _ _ _ _ _ _;(repeat refine ao λ_=>?_);exact am rfl):Cy K mg x st ps:=⟨⟨f,_,RB (st:=st) l c k,Qo X G a,(RB (st:=st) l c k).binds b⟩⟩
def aas(n:JB K FQ DZ=↥↥(.ref C))(g1:S7 K C Str.empty=true)(g2:UT K C=true)(g3:XO K C=true)(g4:Ji K (.ref C) "__setattr__"=↥↥(.builtin "object.__setattr__"))(a:Ji K (.ref C) x=↥↥(.ref f))(l:K.lookup f=↥⟨GJ,E1,.func (KB x qual (M5 st) (Ki st) (Bj st) .none Cd Ig pm an cd DL),Bt⟩)(c:ND K cd qual=true)(k:KA K (.ref f)=true)(i:U_ K (.ref f)=true)(b:YN x qual st ps:=by intro _ _ _ _ _ _;(repeat refine ao λ_=>?_);exact am rfl):Ib K DZ x qual st ps:=⟨⟨C,f,_,n,⟨g1,g2,g3,g4⟩,⟨a,i,k⟩,RB (st:=st) l c k,(RB (st:=st) l c k).binds b⟩⟩
def aao(X:K.In h)(G:h.Ns FQ mg)(n:JB K FQ DZ=↥↥(.ref C))(mk:gw K C=true)(kc:KA K (.ref C)=true)(a:Ji K (.ref C) "__init__"=↥↥(.ref f))(l:K.lookup f=↥⟨GJ,E1,.func (KB "__init__" qual (M5 st) (Ki st) (Bj st) .none Cd Ig pm an cd DL),Bt⟩)(c:ND K cd qual=true)(k:KA K (.ref f)=true)(i:U_ K (.ref f)=true)(b:YN "__init__" qual st ps:=by intro _ _ _ _ _ _;(repeat refine ao λ_=>?_);exact am rfl):InK K mg DZ qual st ps:=⟨⟨C,f,_,n,⟨mk,a,i,kc⟩,RB (st:=st) l c k,Qo X G n,(RB (st:=st) l c k).binds b⟩⟩
def tm(n:JB K FQ DZ=↥↥(.ref C))(g1:S7 K C Str.empty=true)(g2:UT K C=true)(g3:XO K C=true)(g4:Ji K (.ref C) "__setattr__"=↥↥(.builtin "object.__setattr__"))(u:∀f∈BB,Ji K (.ref C) f=↥none):Q9 K DZ BB:=⟨⟨C,n,⟨g1,g2,g3,g4⟩,u⟩⟩
def uq(X:K.In h)(G:h.Ns FQ mg)(n:JB K FQ DZ=↥↥(.ref C))(e:Ub K C [.type "ValueError",.type "Exception",.type "BaseException",.type "object"] "ValueError.__new__"=true):SY K mg DZ:=⟨⟨C,n,Qo X G n,e⟩⟩
def aeX{c:Str}{C D:A6}(a:JB K FQ c=↥↥(.ref D))(e:US K (.ref D) (.ref C)=↥true):∃D,JB K FQ c=↥↥(.ref D)/\US K (.ref D) (.ref C)=↥true:=⟨D,a,e⟩
def aeY{cs:↑Str}(X:K.In h)(G:h.Ns FQ mg)(n:JB K FQ x=↥↥(.ref C))(u:∀c∈cs,∃D,JB K FQ c=↥↥(.ref D)/\US K (.ref D) (.ref C)=↥true):bT K mg x cs:=⟨⟨C,Qo X G n,u⟩⟩
def tp{i:Int}{t:Tok}(X:K.In h)(G:h.Ns FQ mg)(z:JB K FQ x=↥↥(.int i t)):Ly K mg x (.int i):=⟨⟨.int i,_,Qo X G z,⟨t,rfl⟩,λ_ _=>by erw[AW]⟩⟩
def tQ{its:Array A7}{m:Nat}{ws:↑W}(X:K.In h)(G:h.Ns FQ mg)(z:JB K FQ x=↥↥(.ref C))(y:K.lookup C=↥⟨.type "tuple",E1,.seq its m,Bt⟩)(hz:its.size<=CL)(e:its.toList.mapM WU=↥ws):Ly K mg x (.I6 ws):=by obtain⟨xs,v,a⟩:=qb (K:=K) e;refine⟨⟨.ref C,_,Qo X G z,rfl,λφ H=>?_⟩⟩;erw[AW];exact⟨C,xs,rfl,.inr ⟨_,its,m,y,rfl,rfl,hz,v⟩,a φ H⟩
end
def eZ(ns:↑Int):W:=.Df (ns.map W.int)
theorem pR{K:As}{φ:↑A6}{H:AE}:∀ns:↑Int,Ao K φ H (ns.map W.int) (ns.map V.int)
 |[]=>.nil
 |_::ns=>.cons (by erw[AW]) (pR ns)
theorem tw{P:C5}{w:Bo}{H:AE}{s:AQ}{e:A7}{s':AQ}(h:IX P w [] H s (λ_ _ _=>False) e s'):False:=by obtain⟨a,C,Hb,B,A9,_,_,z⟩:=h;exact z
def afb{l:h3}{q:C5}{loose:↑Str}{LG:(Str->Option A7)->BH->Prop}{N0:Bo->BH->Prop}{d:DefRec}{K:Params->As}{st:BG}{x p:Str}{N:↑Str}{k:Nat}{m:Ai}(AZ:l.most=↥63)(RF:d.params.defaults=[])(BF:D4 (k+1) PY)(S:By N [p] (Bj st))(hd:d.name=x)(VE:∀(w:Bo)(h:BH),N0 w h->(K w.params).In h)(T:∀(w:Bo)(mg:Str->Option A7)(h:BH),(K w.params).In h->h.Ns FQ mg->(∃(f:A6)(GJ:A7)(E1 an:Option A6)(Cd Ig pm cd DL:A7)(Bt:Array (Option A7)),JB (K w.params) FQ x=↥↥(.ref f)/\(K w.params).lookup f=↥⟨GJ,E1,.func (KB x x (M5 st) (Ki st) (Bj st) .none Cd Ig pm an cd DL),Bt⟩/\ND (K w.params) cd x=true/\KA (K w.params) (.ref f)=true)/\∀base:BH,C6 l.prog w (K w.params) mg base x st N k m)(BV:∀ns:↑Int,⇑ns<=63->Ends (F0 ⇑N m [eZ ns] []) λw _=>w=.AL true)(b:YN x x st [p]:=by intro _ _ _ _ _ _;(repeat refine ao λ_=>?_);exact am rfl) :
  gj q loose LG N0 l.row.toRowW d [] (λf vs=>Xn f vs):=by
 refine B5.afd (n:=63) (k:=k+1) (x:=p) (CX:=λw=>IX l.prog w) (sp:=λw=>Lv (K w.params) 1 (F0 ⇑N m)) AZ ε RF BF VE (λw mg K0 h IH G kL=>?_) (λw H a ns AG TR Ma=>?_) λw H s e s' z=>tw z
 .obtain⟨⟨f,GJ,E1,an,Cd,Ig,pm,cd,DL,Bt,BW,lk,c,Bl⟩,A4⟩:=T w mg h IH G;rw[hd]at kL;have e:=kL.symm.trans (Qo IH G BW);cases e;exact⟨_,λs v=>.of_eq (b Cd Ig pm an cd DL [v] rfl),λbase _ _=>Vu (RB (st:=st) lk c Bl) S (A4 base)⟩
 .obtain⟨v,h',e,rfl⟩:=BV ns AG;refine⟨[],[],[eZ ns],⟨SG,rfl,(λn o a e=>by cases e)⟩,.cons ?_ .nil,rfl,?_⟩
  .unfold eZ;erw[AW];refine⟨a,ns.map V.int,rfl,?_,pR ns⟩;rcases Ma with(z|z)|z
   .rcases TR a with y|⟨o,xs,y⟩
    .rw[z]at y;cases y
    .rw[z]at y;cases y
   .exact .inl z
   .exact .inr z
  .rw[e];intro v BL A9 _ _ EH;simpa only[AW]using EH
end C2
namespace FG
open PySem PySem.Spec B5 C2
noncomputable def top(i:Nat):BG:=PySem.Challenge.pw_nohalfway_k33_under_and_journal.main.body.getD i (.Pass ⟨0,0,0,0⟩)
abbrev n8:BG:=top 48
abbrev ot:BG:=top 49
abbrev oc:BG:=top 50
abbrev od:BG:=top 51
abbrev p3:BG:=top 52
abbrev oh:BG:=top 56
abbrev oz:BG:=top 55
abbrev n6:BG:=top 57
abbrev n7:BG:=top 58
abbrev n3:BG:=top 71
abbrev n5:BG:=top 53
abbrev ow:BG:=top 54
abbrev ox:BG:=top 61
abbrev oy:BG:=top 62
abbrev nQ:BG:=top 24
abbrev n0:BG:=top 7
abbrev n1:BG:=top 8
abbrev nO:BG:=top 28
abbrev nS:BG:=top 29
abbrev nL:BG:=top 30
abbrev nq:BG:=inClass (top 17) 1
abbrev nM:BG:=top 31
abbrev p5:BG:=top 32
abbrev mz:BG:=top 39
abbrev nR:BG:=top 40
abbrev p6:BG:=top 41
abbrev nF:BG:=top 12
abbrev nP:BG:=top 13
abbrev nN:BG:=top 14
abbrev n2:BG:=top 15
abbrev nI:BG:=top 16
abbrev nr:BG:=inClass (top 17) 0
abbrev nv:BG:=inClass (top 17) 2
abbrev nH:BG:=top 18
abbrev nG:BG:=top 44
abbrev nz:BG:=inClass (top 46) 0
abbrev n4:BG:=top 63
abbrev nT:BG:=top 68
abbrev nK:BG:=top 23
abbrev nt:BG:=inClass (top 17) 5
abbrev nu:BG:=inClass (top 17) 6
abbrev nj:BG:=inClass (top 45) 0
abbrev nx:BG:=inClass (top 46) 2
abbrev o1:BG:=inClass (top 46) 5
abbrev nJ:BG:=top 25
abbrev oD:BG:=top 33
abbrev nk:BG:=inClass (top 17) 3
abbrev p4:BG:=top 35
abbrev nB:BG:=inClass (top 46) 4
abbrev ny:BG:=inClass (top 46) 3
abbrev nC:BG:=inClass (top 46) 8
abbrev n9:BG:=inClass (top 46) 7
abbrev nD:BG:=inClass (top 46) 6
abbrev nA:BG:=inClass (top 46) 1
abbrev p0:BG:=top 70
abbrev ob:BG:=top 65
abbrev oj:BG:=top 64
abbrev oe:BG:=top 59
abbrev ov:BG:=top 60
abbrev oi:BG:=top 66
abbrev oq:BG:=top 67
abbrev ou:BG:=top 69
abbrev nE:BG:=inClass (top 46) 9
abbrev o0:BG:=inClass (top 46) 10
abbrev o2:BG:=inClass (top 46) 11
abbrev og:BG:=top 76
abbrev p2:BG:=top 72
abbrev oo:BG:=top 73
abbrev om:BG:=top 74
abbrev p1:BG:=top 75
abbrev Jq:BG:=top 77
def V4:W:=.int 15
def So:W:=.int 4
def Sp:W:=.int 6
def Ve:W:=.int 12
def Sq:W:=.int 40
noncomputable def Re:W:=.I6 [.str (AK "0"),.str (AK "1"),.str (AK "x")]
def H0:W:=.I6 [.str (AK "step")]
def N3:W:=.I6 [.str (AK "wait")]
def P2:W:=.I6 [.int 8,.int 4,.int 2,.int 1]
structure Dd(K:As)(mg:Str->Option A7):Prop where
 vl:Cy K mg "_law_cell_at" n8 ["_law_script","_law_k"]
 vz:Cy K mg "_law_mixed" ot ["_law_cell","_law_k"]
 vo:Cy K mg "_law_counts" oc ["_law_cell"]
 vp:Cy K mg "_law_doors" od ["_law_counts_here"]
 vX:Cy K mg "_law_wires" p3 ["_law_cell","_law_counts_here"]
 vt:Cy K mg "_law_free_book" oh ["_law_number","_law_count"]
 vT:Cy K mg "_law_row" oz ["_law_cell","_law_k","_law_count"]
 vj:Cy K mg "_law_books" n6 ["_law_cells","_law_counts_here","_law_shift"]
 vk:Cy K mg "_law_both" n7 ["_law_script","_law_counts_here"]
 vg:Cy K mg "_law_all" n3 ["_law_script"]
 vi:Cy K mg "_law_beyond" n5 ["_law_wires_here","_law_door"]
 w2:Cy K mg "_law_outer" ow ["_law_counts_here","_law_wires_here"]
 w3:Cy K mg "_law_plain" ox ["_law_many"]
 w4:Cy K mg "_law_plan" oy ["_law_cells","_law_many"]
 wP:Cy K mg "is_pattern" nQ ["thing"]
 wT:Cy K mg "is_whole" n0 ["thing"]
 ve:Cy K mg "is_whole_within" n1 ["thing","least","greatest"]
 wN:Cy K mg "is_number_or_none" nO ["thing","doors"]
 wR:Cy K mg "is_row" nS ["thing","doors"]
 wK:Cy K mg "is_book" nL ["thing","doors"]
 uN:Ib K "Net" "count" "Net.count" nq ["self","house"]
 wL:Cy K mg "is_books" nM ["thing","net"]
 vZ:Cy K mg "refuse_unless_books" p5 ["thing","net"]
 wS:Cy K mg "is_step" mz ["thing","net"]
 wQ:Cy K mg "is_plan" nR ["thing","net"]
 v_:Cy K mg "refuse_unless_plan" p6 ["net","old","new","plan"]
 wE:Cy K mg "are_counts" nF ["thing"]
 wO:Cy K mg "is_pair" nP ["thing"]
 wM:Cy K mg "is_door_among" nN ["counts","thing"]
 vf:Cy K mg "is_wire_among" n2 ["counts","thing"]
 wH:Cy K mg "far_doors" nI ["counts","wires"]
 uO:InK K mg "Net" "Net.__init__" nr ["self","counts","wires"]
 uR:Ib K "Net" "wires" "Net.wires" nv ["self"]
 wG:Cy K mg "copied_net" nH ["net"]
 wF:Cy K mg "copied_books" nG ["books"]
 uU:InK K mg "Run" "Run.__init__" nz ["self","net","old","new","plan"]
 vh:Cy K mg "_law_begun" n4 ["_law_wires_here","_law_old","_law_new","_law_plan_here"]
 vm:Cy K mg "_law_chosen" nT ["_law_state","_law_cell","_law_outer_here"]
 wJ:Cy K mg "is_address" nK ["thing"]
 uP:Ib K "Net" "is_door" "Net.is_door" nt ["self","thing"]
 uQ:Ib K "Net" "is_outer" "Net.is_outer" nu ["self","thing"]
 uL:InK K mg "Letter" "Letter.__init__" nj ["self","mark","door","address"]
 uS:Ib K "Run" "come" "Run.come" nx ["self","door","address"]
 w6:Ib K "Run" "knows" "Run.knows" o1 ["self","house","mark"]
 wI:Cy K mg "fits" nJ ["pattern","address"]
 vc:Cy K mg "taken" oD ["book","door","address"]
 uM:Ib K "Net" "beyond" "Net.beyond" nk ["self","door"]
 vY:Cy K mg "onward" p4 ["net","book","door","address"]
 wA:Ib K "Run" "next_of" "Run.next_of" nB ["self","letter"]
 uT:Ib K "Run" "go" "Run.go" ny ["self","number"]
 wB:Ib K "Run" "place" "Run.place" nC ["self"]
 w8:Ib K "Run" "may_step" "Run.may_step" n9 ["self"]
 wC:Ib K "Run" "step" "Run.step" nD ["self"]
 w9:Ib K "Run" "move" "Run.move" nA ["self","move"]
 vU:Cy K mg "_law_said" p0 ["_law_run","_law_deed"]
 vn:Cy K mg "_law_come" ob ["_law_state","_law_door","_law_address"]
 vv:Cy K mg "_law_knows" oj ["_law_state","_law_house","_law_mark"]
 vq:Cy K mg "_law_fits" oe ["_law_pattern","_law_address"]
 w1:Cy K mg "_law_next" ov ["_law_wires_here","_law_book","_law_door","_law_address"]
 vu:Cy K mg "_law_go" oi ["_law_state","_law_number"]
 vy:Cy K mg "_law_may_step" oq ["_law_state"]
 w0:Cy K mg "_law_model" ou ["_law_state","_law_deed"]
 wD:Ib K "Run" "under" "Run.under" nE ["self"]
 ux:Ib K "Run" "journal" "Run.journal" o0 ["self"]
 w7:Ib K "Run" "may" "Run.may" o2 ["self"]
 vr:Cy K mg "_law_forms" og ["_law_run"]
 vW:Cy K mg "_law_under" p2 ["_law_state"]
 vx:Cy K mg "_law_may" oo ["_law_state"]
 vw:Cy K mg "_law_looked" om ["_law_run","_law_state","_law_kind"]
 vV:Cy K mg "_law_spoilt" p1 ["_law_run"]
 aiz:Cy K mg "law" Jq ["_law_script"]
 k9:Q9 K "Letter" ["address","doors","mark"]
 kA:Q9 K "Net" ["counts","far","joined","many"]
 kB:Q9 K "Run" ["books","came","done","ended","letters","net","plan"]
 sQ:mg "all"=none
 sR:mg "bool"=none
 sS:mg "enumerate"=none
 iM:mg "int"=none
 Uj:mg "isinstance"=none
 iT:mg "len"=none
 d2:mg "list"=none
 d3:mg "range"=none
 sT:mg "set"=none
 sU:mg "sorted"=none
 iU:mg "str"=none
 iW:mg "tuple"=none
 sV:mg "zip"=none
 V4:Ly K mg "GREATEST_ADDRESS" V4
 So:Ly K mg "MOST_DOORS" So
 Sp:Ly K mg "MOST_HOUSES" Sp
 Ve:Ly K mg "MOST_ROWS" Ve
 Sq:Ly K mg "MOST_STEPS" Sq
 Re:Ly K mg "SIGNS" Re
 H0:Ly K mg "STEP" H0
 N3:Ly K mg "WAIT" N3
 P2:Ly K mg "WORTHS" P2
 afj:SY K mg "NoBooks"
 afk:SY K mg "NoMove"
 afl:SY K mg "NoNet"
 afm:SY K mg "NoPlan"
 aeR:bT K mg "NoMove" ["NoMove"]
def px:By ["_law_script","_law_k"] ["_law_script","_law_k"] (Bj n8):=CN
noncomputable def Z1:Ai:=
    (AN (BU (AT (A0 Jf (I 1) (B6 Be (Z (I 0) A1)))) (Au (A0 AB (I 0) (I 1))) BR)
    (Au η))
def Ll:Bi:=Ct 2 Z1
def qD:By ["_law_cell","_law_k","_law_factor","_law_prime"] ["_law_cell","_law_k"] (Bj ot):=CN
noncomputable def bS:Ai:=
    (AN (AX (Bh (A0 AB (Bg (Z (pu (.int 48271)) (Z (pu (.int 69621)) (Z (pu (.int 16807)) (Z (pu (.int 39373)) (Z (pu (.int 40692)) (Z (pu (.int 742938285)) (Z (pu (.int 950706376)) (Z (pu (.int 1343714438)) A1))))))))) (A0 BK (I 1) (pu (.int 8))))) (AA 2))
    (AN (AX (Bh (A0 AB (Bg (Z (pu (.int 2147483647)) (Z (pu (.int 2147483629)) (Z (pu (.int 2147483587)) (Z (pu (.int 2147483579)) (Z (pu (.int 2147483563)) A1)))))) (A0 BK (I 1) (pu (.int 5))))) (AA 3))
    (Au (A0 CT (A0 BK (A0 KJ (A0 addW (A0 addW (A0 BK (I 0) (A0 Oy (pu (.int 10)) (pu (.int 30)))) (A0 KJ (pu (.int 31)) (I 1))) (pu (.int 7))) (I 2)) (I 3)) (pu (.int 7))))))
def Dz:Bi:=Ct 4 bS
def q3:By ["_law_cell","_law_number"] ["_law_cell"] (Bj oc):=CN
noncomputable def Z4:Ai:=
    (AN (BU (AT (A0 (Ap true) (A0 BK (I 0) (pu (.int 2))) ζ)) (AN (AX (A0 BK (A0 CT (I 0) (pu (.int 2))) (A0 Oy (pu (.int 10)) (pu (.int 60)))) (AA 1))
    (Au (Dq 1 [1] (Dr (Z (A0 addW ζ (A0 BK (I 1) (pu (.int 6)))) A1)) (AA 0) (pu true) (Bh (A0 addW ζ (A0 BK (A0 CT (A0 CT (I 1) (pu (.int 6))) (A0 AB (Bg (Z ζ (Z (pu (.int 4)) (Z (pu (.int 16)) (Z (pu (.int 64)) (Z (pu (.int 256)) (Z (pu (.int 1024)) A1))))))) (I 0))) (pu (.int 4)))))))) BR)
    (Au (Dq 1 [0] (Dr (Z (A0 addW ζ (A0 BK (Ae 2 Dz (Z (I 0) (Z η A1))) (pu (.int 6)))) A1)) (AA 0) (pu true) (A0 addW ζ (A0 BK (Ae 2 Dz (Z (I 1) (Z (A0 addW ζ (I 0)) A1))) (pu (.int 4)))))))
def TH:Bi:=Ct 2 Z4
def q4:By ["_law_counts_here","_law_doors_here","_law_house"] ["_law_counts_here"] (Bj od):=CN
noncomputable def bR:Ai:=
    (AN (AX (Bg A1) (AA 1))
    (AN (Eo (Dr (Z (B6 Be (Z (I 0) A1)) A1)) (AA 2) (AX (Bh (A0 addW (I 1) (Dq 1 [2] (Dr (Z (A0 AB (I 0) (I 2)) A1)) (AA 0) (pu true) (BE (Z (I 1) (Z (I 0) A1)))))) (AA 1)))
    (Au (I 1))))
def Rj:Bi:=Ct 3 bR
def pN:By ["_law_cell","_law_counts_here","_law_doors_here","_law_wires_here","_law_number","_law_keep","_law_k","_law_picks","_law_one","_law_other"] ["_law_cell","_law_counts_here"] (Bj p3):=CN
noncomputable def d0:Ai:=
    (AN (AX (Ae 1 Rj (Z (I 1) A1)) (AA 2))
    (AN (AX (Bg A1) (AA 3))
    (AN (AX (A0 CT (A0 BK (A0 CT (I 0) (pu (.int 2))) (A0 Oy (pu (.int 10)) (pu (.int 60)))) (pu (.int 24576))) (AA 4))
    (AN (AX (A0 addW ζ (A0 BK (Ae 2 Dz (Z (I 0) (Z (pu (.int 8)) A1))) (pu (.int 3)))) (AA 5))
    (AN (BU (AT (A0 (Ap true) (A0 BK (I 0) (pu (.int 2))) ζ)) (AN (AX (A0 addW ζ (A0 BK (I 4) (pu (.int 24)))) (AA 5))
    (AX (A0 CT (I 4) (pu (.int 24))) (AA 4))) BR)
    (AN (AX (pu (.int 9)) (AA 6))
    (AN (Zc (AT (A0 Kl (B6 Be (Z (I 2) A1)) (A0 addW (I 5) ζ))) (AN (AX (Bg (Z (Ae 2 Dz (Z (I 0) (Z (I 6) A1))) (Z (Ae 2 Dz (Z (I 0) (Z (A0 addW (I 6) ζ) A1))) A1))) (AA 7))
    (AN (BU (AT (A0 (Ap true) (A0 BK (I 0) (pu (.int 2))) ζ)) (AN (AX (Bg (Z (I 4) (Z (A0 CT (I 4) (B6 Be (Z (I 2) A1))) A1))) (AA 7))
    (AX (A0 CT (A0 CT (I 4) (B6 Be (Z (I 2) A1))) (A0 Nf (B6 Be (Z (I 2) A1)) ζ)) (AA 4))) BR)
    (AN (AX (D6 JK (I 2) (Z (A0 BK (A0 AB (I 7) η) (B6 Be (Z (I 2) A1))) A1)) (AA 8))
    (AN (AX (D6 JK (I 2) (Z (A0 BK (A0 AB (I 7) ζ) (B6 Be (Z (I 2) A1))) A1)) (AA 9))
    (AN (E_ (D6 DK (I 3) (Z (BE (Z (I 8) (Z (I 9) A1))) A1)))
    (AX (A0 addW (I 6) (pu (.int 2))) (AA 6))))))))
    (Au (I 3)))))))))
def Os:Bi:=Ct 10 d0
def q7:By ["_law_number","_law_count","_law_book","_law_many","_law_choices","_law_k","_law_pattern","_law_j"] ["_law_number","_law_count"] (Bj oh):=CN
noncomputable def iQ:Ai:=
    (AN (AX (Bg A1) (AA 2))
    (AN (AX (A0 BK (I 0) (pu (.int 13))) (AA 3))
    (AN (AX (A0 CT (I 0) (pu (.int 13))) (AA 0))
    (AN (AX (Bh (A0 addW (Bg (Z (pu (.non)) A1)) (B6 Oj (Z (I 1) A1)))) (AA 4))
    (AN (Eo (Dr (Z (I 3) A1)) (AA 5) (AN (AX (pu (.str (AK ""))) (AA 6))
    (AN (Eo (Dr (Z (pu (.int 4)) A1)) (AA 7) (AN (AX (A0 addW (I 6) (A0 AB (pu (.str (AK "01x"))) (A0 BK (I 0) (pu (.int 3))))) (AA 6))
    (AX (A0 CT (I 0) (pu (.int 3))) (AA 0))))
    (AN (E_ (D6 DK (I 2) (Z (BE (Z (I 6) (Z (A0 AB (I 4) (A0 BK (I 0) (A0 addW (I 1) ζ))) (Z (A0 AB (I 4) (A0 BK (A0 CT (I 0) (A0 addW (I 1) ζ)) (A0 addW (I 1) ζ))) A1)))) A1)))
    (AX (A0 CT (A0 CT (I 0) (A0 addW (I 1) ζ)) (A0 addW (I 1) ζ)) (AA 0))))))
    (Au (I 2)))))))
def TK:Bi:=Ct 8 iQ
def pJ:By ["_law_cell","_law_k","_law_count","_law_number","_law_pattern","_law_j","_law_door","_law_out"] ["_law_cell","_law_k","_law_count"] (Bj oz):=CN
noncomputable def cz:Ai:=
    (AN (AX (Ae 2 Dz (Z (I 0) (Z (I 1) A1))) (AA 3))
    (AN (AX (pu (.str (AK ""))) (AA 4))
    (AN (Eo (Dr (Z (pu (.int 4)) A1)) (AA 5) (AN (AX (Bh (A0 addW (I 4) (A0 AB (Bg (Z (pu (.str (AK "x"))) (Z (pu (.str (AK "x"))) (Z (pu (.str (AK "0"))) (Z (pu (.str (AK "1"))) (Z (pu (.str (AK "x"))) A1)))))) (A0 BK (I 3) (pu (.int 5)))))) (AA 4))
    (AX (A0 CT (I 3) (pu (.int 5))) (AA 3))))
    (AN (AX (pu (.non)) (AA 6))
    (AN (BU (AT (A0 (Ap true) (A0 BK (I 3) (pu (.int 3))) η)) (AX (A0 BK (A0 CT (I 3) (pu (.int 3))) (I 2)) (AA 6)) BR)
    (AN (AX (A0 BK (A0 CT (I 3) (pu (.int 20))) (I 2)) (AA 7))
    (AN (BU (AT (A0 (Ap true) (A0 BK (A0 CT (I 3) (pu (.int 100))) (pu (.int 9))) η)) (AX (pu (.non)) (AA 7)) BR)
    (Au (BE (Z (I 4) (Z (I 6) (Z (I 7) A1))))))))))))
def Wk:Bi:=Ct 8 cz
def pv:By ["_law_cells","_law_counts_here","_law_shift","_law_books_here","_law_house","_law_cell","_law_many"] ["_law_cells","_law_counts_here","_law_shift"] (Bj n6):=CN
noncomputable def iN:Ai:=
    (AN (AX (Bg A1) (AA 3))
    (AN (Eo (Dr (Z (B6 Be (Z (I 1) A1)) A1)) (AA 4) (AN (AX (A0 addW (A0 addW (pu (.int 17)) (A0 KJ (pu (.int 5)) (I 4))) (I 2)) (AA 5))
    (AN (BU (Hn (AT (A0 (Ap false) (I 0) (Bg A1)))) (AX (A0 AB (I 0) (A0 BK (A0 addW (I 4) (I 2)) (B6 Be (Z (I 0) A1)))) (AA 5)) BR)
    (BU (Hn (Eg (AT (A0 (Ap false) (I 0) (Bg A1))) (AT (A0 (Ap true) (A0 BK (I 5) (pu (.int 2))) ζ)))) (E_ (D6 DK (I 3) (Z (Ae 2 TK (Z (A0 BK (A0 CT (I 5) (pu (.int 2))) (A0 Oy (pu (.int 10)) (pu (.int 60)))) (Z (A0 AB (I 1) (I 4)) A1))) A1))) (AN (AX (A0 addW (I 5) (A0 KJ (pu (.int 3)) (I 4))) (AA 5))
    (AN (AX (Bh (A0 AB (Bg (Z ζ (Z (pu (.int 2)) (Z (pu (.int 3)) (Z η (Z (pu (.int 2)) (Z (pu (.int 4)) (Z (pu (.int 12)) A1)))))))) (A0 BK (Ae 2 Dz (Z (I 5) (Z (pu (.int 3)) A1))) (pu (.int 7))))) (AA 6))
    (E_ (D6 DK (I 3) (Z (Dq 1 [5,1,4,2] (Dr (Z (I 6) A1)) (AA 0) (pu true) (Ae 3 Wk (Z (I 1) (Z (A0 addW (A0 addW (pu (.int 4)) (I 4)) (A0 KJ (pu (.int 3)) (I 0))) (Z (A0 AB (I 2) (I 3)) A1))))) A1)))))))))
    (Au (I 3))))
def Ml:Bi:=F0 7 iN
def pw:By ["_law_script","_law_counts_here","_law_old","_law_new","_law_house"] ["_law_script","_law_counts_here"] (Bj n7):=CN
noncomputable def iO:Ai:=
    (AN (AX (Ae 3 Ml (Z (Bh (DI (I 0) (CM (pu (.int 2))) (CM (pu (.int 9))))) (Z (I 1) (Z η A1)))) (AA 2))
    (AN (AX (Ae 3 Ml (Z (Bh (DI (I 0) (CM (pu (.int 9))) (CM (pu (.int 16))))) (Z (I 1) (Z ζ A1)))) (AA 3))
    (AN (Eo (Dr (Z (B6 Be (Z (I 1) A1)) A1)) (AA 4) (BU (AT (A0 (Ap true) (A0 BK (Ae 2 Dz (Z (Ae 2 Ll (Z (I 0) (Z ζ A1))) (Z (I 4) A1))) (pu (.int 4))) η)) (AX (B6 FA (Z (A0 AB (I 2) (I 4)) A1)) (SV (I 3) (I 4))) BR))
    (Au (BE (Z (I 2) (Z (I 3) A1)))))))
def Wh:Bi:=F0 5 iO
def pk:By ["_law_script","_law_cell","_law_counts_here","_law_wires_here","_law_old","_law_new"] ["_law_script"] (Bj n3):=CN
noncomputable def Yz:Ai:=
    (AN (AX (Ae 2 Ll (Z (I 0) (Z η A1))) (AA 1))
    (AN (AX (Ae 1 TH (Z (I 1) A1)) (AA 2))
    (AN (AX (Ae 2 Os (Z (I 1) (Z (I 2) A1))) (AA 3))
    (AN (MD (Ae 2 Wh (Z (I 0) (Z (I 2) A1))) (EY [(AA 4),(AA 5)]))
    (Au (BE (Z (I 2) (Z (I 3) (Z (I 4) (Z (I 5) A1))))))))))
def Rg:Bi:=F0 6 Yz
def pq:By ["_law_wires_here","_law_door","_law_one","_law_other"] ["_law_wires_here","_law_door"] (Bj n5):=CN
noncomputable def bQ:Ai:=
    (AN (Eo (DR (I 0)) (EY [(AA 2),(AA 3)]) (AN (BU (AT (A0 (Ap true) (I 2) (I 1))) (Au (I 3)) BR)
    (BU (AT (A0 (Ap true) (I 3) (I 1))) (Au (I 2)) BR)))
    (Au (pu (.non))))
def P_:Bi:=Ct 4 bQ
def pG:By ["_law_counts_here","_law_wires_here"] ["_law_counts_here","_law_wires_here"] (Bj ow):=CN
noncomputable def br:Ai:=
    (Au (Dq 1 [1] (DR (Ae 1 Rj (Z (I 0) A1))) (AA 0) (AT (A0 (EZ true) (Ae 2 P_ (Z (I 1) (Z (I 0) A1))) (pu (.non)))) (I 0)))
def Sx:Bi:=Ct 2 br
def pH:By ["_law_many","_law_plan_here"] ["_law_many"] (Bj ox):=CN
noncomputable def ZB:Ai:=
    (AN (AX (Bh (A0 addW (Dq 1 [] (Dr (Z (I 0) A1)) (AA 0) (pu true) (BE (Z (pu (.str (AK "teach"))) (Z (I 0) A1)))) (Dq 1 [] (Dr (Z (I 0) A1)) (AA 0) (pu true) (BE (Z (pu (.str (AK "turn"))) (Z (I 0) A1)))))) (AA 1))
    (Au (Bh (A0 addW (A0 addW (I 1) (Bg (Z (BE (Z (pu (.str (AK "wait"))) A1)) A1))) (Dq 1 [] (Dr (Z (I 0) A1)) (AA 0) (pu true) (BE (Z (pu (.str (AK "forget"))) (Z (I 0) A1))))))))
def Rk:Bi:=Ct 2 ZB
def pI:By ["_law_cells","_law_many","_law_plan_here","_law_cell","_law_number","_law_at","_law_step","_law_other"] ["_law_cells","_law_many"] (Bj oy):=CN
noncomputable def iS:Ai:=
    (AN (AX (Ae 1 Rk (Z (I 1) A1)) (AA 2))
    (AN (Eo (DR (I 0)) (AA 3) (AN (AX (Ae 2 Dz (Z (I 3) (Z (pu (.int 5)) A1))) (AA 4))
    (AN (AX (A0 BK (A0 CT (I 4) (pu (.int 5))) (A0 addW (B6 Be (Z (I 2) A1)) ζ)) (AA 5))
    (AN (BU (Eg (AT (A0 (Ap true) (A0 BK (I 4) (pu (.int 5))) η)) (AT (A0 Jf (B6 Be (Z (I 2) A1)) (pu (.int 30))))) (AX (Bh (A0 addW (A0 addW (DI (I 2) (pu none) (CM (I 5))) (Bg (Z (BE (Z (pu (.str (AK "wait"))) A1)) A1))) (DI (I 2) (CM (I 5)) (pu none)))) (AA 2)) BR)
    (AN (BU (AT (A0 (Ap true) (A0 BK (I 4) (pu (.int 5))) ζ)) (AX (Bh (A0 addW (DI (I 2) (pu none) (CM (I 5))) (DI (I 2) (CM (A0 addW (I 5) ζ)) (pu none)))) (AA 2)) BR)
    (BU (Hn (Eg (AT (A0 Kl (A0 BK (I 4) (pu (.int 5))) (pu (.int 2)))) (AT (A0 (Ap false) (I 2) (Bg A1))))) (AN (AX (D6 JK (I 2) (Z (A0 BK (I 5) (B6 Be (Z (I 2) A1))) A1)) (AA 6))
    (AN (AX (A0 BK (A0 CT (I 4) (pu (.int 200))) (A0 addW (B6 Be (Z (I 2) A1)) ζ)) (AA 7))
    (AX (Bh (A0 addW (A0 addW (DI (I 2) (pu none) (CM (I 7))) (Bg (Z (I 6) A1))) (DI (I 2) (CM (I 7)) (pu none)))) (AA 2)))) BR))))))
    (Au (I 2))))
def Rl:Bi:=Ct 8 iS
def oB:By ["thing"] ["thing"] (Bj nQ):=CN
noncomputable def bM:Ai:=
    (AN (BU (FY (Dj (AT (Aw (DQ "str") (I 0)))) (AT (A0 (Ap false) (B6 Be (Z (I 0) A1)) (B6 Be (Z (pu P2) A1))))) (Au (pu (.AL false))) BR)
    (Au (Bh (B6 (HM true) (Z (Dq 1 [] (DR (I 0)) (AA 0) (pu true) (A0 (Du true) (I 0) (pu Re))) A1)))))
def Wf:Bi:=Ct 1 bM
def pg:By ["thing"] ["thing"] (Bj n0):=CN
noncomputable def bO:Ai:=
    (Au (MC (Aw (DQ "int") (I 0)) (WW (Aw (DQ "bool") (I 0)))))
def TF:Bi:=Ct 1 bO
def ph:By ["thing","least","greatest"] ["thing","least","greatest"] (Bj n1):=CN
noncomputable def Yy:Ai:=
    (Au (MC (Ae 1 TF (Z (I 0) A1)) (Oo HL HL (I 1) (I 0) (I 2))))
def Mk:Bi:=Ct 3 Yy
def o9:By ["thing","doors"] ["thing","doors"] (Bj nO):=CN
noncomputable def Yv:Ai:=
    (Au (WX (A0 (EZ true) (I 0) (pu (.non))) (Ae 3 Mk (Z (I 0) (Z η (Z (A0 Nf (I 1) ζ) A1))))))
def TD:Bi:=Ct 2 Yv
def oa:By ["thing","doors"] ["thing","doors"] (Bj nS):=CN
noncomputable def bN:Ai:=
    (AN (BU (FY (Dj (AT (Aw (DQ "tuple") (I 0)))) (AT (A0 (Ap false) (B6 Be (Z (I 0) A1)) (pu (.int 3))))) (Au (pu (.AL false))) BR)
    (AN (BU (Dj (AT (Ae 1 Wf (Z (A0 AB (I 0) η) A1)))) (Au (pu (.AL false))) BR)
    (Au (MC (Ae 2 TD (Z (A0 AB (I 0) ζ) (Z (I 1) A1))) (Ae 2 TD (Z (A0 AB (I 0) (pu (.int 2))) (Z (I 1) A1)))))))
def Wg:Bi:=Ct 2 bN
def o6:By ["thing","doors"] ["thing","doors"] (Bj nL):=CN
noncomputable def bq:Ai:=
    (AN (BU (FY (Dj (AT (Aw (DQ "list") (I 0)))) (AT (A0 Kl (B6 Be (Z (I 0) A1)) (pu Ve)))) (Au (pu (.AL false))) BR)
    (Au (Bh (B6 (HM true) (Z (Dq 1 [1] (DR (I 0)) (AA 0) (pu true) (Ae 2 Wg (Z (I 0) (Z (I 1) A1)))) A1)))))
def We:Bi:=Ct 2 bq
def oH:By ["self","house"] ["self","house"] (Bj nq):=CN
noncomputable def bh:Ai:=
    (Au (LX (AT (Oo HL Jf η (I 1) (Aw (B4 "Net" "many") (I 0)))) (A0 AB (Aw (B4 "Net" "counts") (I 0)) (I 1)) η))
def T5:Bi:=Ct 2 bh
def o7:By ["thing","net"] ["thing","net"] (Bj nM):=CN
noncomputable def bJ:Ai:=
    (AN (BU (FY (Dj (AT (Aw (DQ "list") (I 0)))) (AT (A0 (Ap false) (B6 Be (Z (I 0) A1)) (Aw (B4 "Net" "many") (I 1))))) (Au (pu (.AL false))) BR)
    (Au (Bh (B6 (HM true) (Z (Dq 2 [1] (Q5 (Z (I 0) A1)) (EY [(AA 0),(AA 1)]) (pu true) (Ae 2 We (Z (I 1) (Z (Bz "Net" "count" 1 T5 (I 2) (Z (I 0) A1)) A1)))) A1)))))
def Zd:Bi:=Ct 2 bJ
def pP:By ["thing","net"] ["thing","net"] (Bj p5):=CN
noncomputable def d4:Ai:=
    (BU (Dj (AT (Ae 2 Zd (Z (I 0) (Z (I 1) A1))))) (NU "NoBooks") BR)
def Wn:Bi:=Ct 2 d4
def pf:By ["thing","net"] ["thing","net"] (Bj mz):=CN
noncomputable def Yx:Ai:=
    (AN (BU (FY (Dj (AT (Aw (DQ "tuple") (I 0)))) (FY (AT (A0 (Du false) (B6 Be (Z (I 0) A1)) (BE (Z ζ (Z (pu (.int 2)) A1))))) (Dj (AT (Aw (DQ "str") (A0 AB (I 0) η)))))) (Au (pu (.AL false))) BR)
    (AN (BU (AT (A0 (Ap true) (B6 Be (Z (I 0) A1)) ζ)) (Au (A0 (Ap true) (A0 AB (I 0) η) (pu (.str (AK "wait"))))) BR)
    (Au (MC (A0 (Du true) (A0 AB (I 0) η) (BE (Z (pu (.str (AK "teach"))) (Z (pu (.str (AK "turn"))) (Z (pu (.str (AK "forget"))) A1))))) (Ae 3 Mk (Z (A0 AB (I 0) ζ) (Z η (Z (A0 Nf (Aw (B4 "Net" "many") (I 1)) ζ) A1))))))))
def RQ:Bi:=Ct 2 Yx
def oC:By ["thing","net","once"] ["thing","net"] (Bj nR):=CN
noncomputable def Yw:Ai:=
    (AN (BU (FY (Dj (AT (Aw (DQ "list") (I 0)))) (AT (A0 Kl (B6 Be (Z (I 0) A1)) (pu Sq)))) (Au (pu (.AL false))) BR)
    (AN (BU (Hn (Dj (AT (B6 (HM true) (Z (Dq 1 [1] (DR (I 0)) (AA 0) (pu true) (Ae 2 RQ (Z (I 0) (Z (I 1) A1)))) A1))))) (Au (pu (.AL false))) BR)
    (AN (AX (Dq 1 [] (DR (I 0)) (AA 0) (AT (A0 (Ap false) (I 0) (pu N3))) (I 0)) (AA 2))
    (Au (A0 (Ap true) (B6 VD (Z (I 2) A1)) (B6 Be (Z (I 2) A1)))))))
def Ze:Bi:=Ct 3 Yw
def pQ:By ["net","old","new","plan"] ["net","old","new","plan"] (Bj p6):=CN
noncomputable def d5:Ai:=
    (AN (E_ (Ae 2 Wn (Z (I 1) (Z (I 0) A1))))
    (AN (E_ (Ae 2 Wn (Z (I 2) (Z (I 0) A1))))
    (BU (Dj (AT (Ae 2 Ze (Z (I 3) (Z (I 0) A1))))) (NU "NoPlan") BR)))
def Wo:Bi:=Ct 4 d5
def oY:By ["thing"] ["thing"] (Bj nF):=CN
noncomputable def bn:Ai:=
    (AN (BU (FY (Dj (AT (Aw (DQ "list") (I 0)))) (Dj (AT (Oo HL HL ζ (B6 Be (Z (I 0) A1)) (pu Sp))))) (Au (pu (.AL false))) BR)
    (Au (Bh (B6 (HM true) (Z (Dq 1 [] (DR (I 0)) (AA 0) (pu true) (Ae 3 Mk (Z (I 0) (Z ζ (Z (pu So) A1))))) A1)))))
def Wa:Bi:=Ct 1 bn
def oA:By ["thing"] ["thing"] (Bj nP):=CN
noncomputable def bL:Ai:=
    (Au (MC (Aw (DQ "tuple") (I 0)) (A0 (Ap true) (B6 Be (Z (I 0) A1)) (pu (.int 2)))))
def Qz:Bi:=Ct 1 bL
def o8:By ["counts","thing"] ["counts","thing"] (Bj nN):=CN
noncomputable def bK:Ai:=
    (AN (BU (FY (Dj (AT (Ae 1 Qz (Z (I 1) A1)))) (Dj (AT (Ae 3 Mk (Z (A0 AB (I 1) η) (Z η (Z (A0 Nf (B6 Be (Z (I 0) A1)) ζ) A1))))))) (Au (pu (.AL false))) BR)
    (Au (Ae 3 Mk (Z (A0 AB (I 1) ζ) (Z η (Z (A0 Nf (A0 AB (I 0) (A0 AB (I 1) η)) ζ) A1))))))
def TC:Bi:=Ct 2 bK
def pi:By ["counts","thing","both"] ["counts","thing"] (Bj n2):=CN
noncomputable def bP:Ai:=
    (AN (BU (Dj (AT (Ae 1 Qz (Z (I 1) A1)))) (Au (pu (.AL false))) BR)
    (AN (AX (MC (Ae 2 TC (Z (I 0) (Z (A0 AB (I 1) η) A1))) (Ae 2 TC (Z (I 0) (Z (A0 AB (I 1) ζ) A1)))) (AA 2))
    (Au (MC (I 2) (A0 (Ap false) (A0 AB (I 1) η) (A0 AB (I 1) ζ))))))
def TG:Bi:=Ct 3 bP
def o3:By ["counts","wires","far","wire"] ["counts","wires"] (Bj nI):=CN
noncomputable def iL:Ai:=
    (AN (AX (Kq true) (AA 2))
    (AN (Eo (DR (I 1)) (AA 3) (AN (BU (Dj (AT (Ae 2 TG (Z (I 0) (Z (I 3) A1))))) (λ_ _=>.bad) BR)
    (AN (BU (FY (AT (A0 (Du true) (A0 AB (I 3) η) (I 2))) (AT (A0 (Du true) (A0 AB (I 3) ζ) (I 2)))) (λ_ _=>.bad) BR)
    (AN (JG (I 2) (A0 AB (I 3) η) (A0 AB (I 3) ζ))
    (JG (I 2) (A0 AB (I 3) ζ) (A0 AB (I 3) η))))))
    (Au (I 2))))
def Wc:Bi:=F0 4 iL
def oI:By ["self","counts","wires"] ["self","counts","wires"] (Bj nr):=CN
noncomputable def Xu:Ai:=
    (AN (BU (Dj (AT (Ae 1 Wa (Z (I 1) A1)))) (NU "NoNet") BR)
    (AN (BU (Dj (AT (Aw (DQ "list") (I 2)))) (NU "NoNet") BR)
    (AN (F1 "Net" "many" (I 0) (B6 Be (Z (I 1) A1)))
    (AN (F1 "Net" "counts" (I 0) (B6 OU (Z (I 1) A1)))
    (AN (F1 "Net" "joined" (I 0) (B6 OU (Z (I 2) A1)))
    (F1 "Net" "far" (I 0) (Ae 2 Wc (Z (Aw (B4 "Net" "counts") (I 0)) (Z (Aw (B4 "Net" "joined") (I 0)) A1)))))))))
def NV:Bi:=F0 3 Xu
def oL:By ["self"] ["self"] (Bj nv):=CN
noncomputable def bk:Ai:=
    (Au (B6 FA (Z (Aw (B4 "Net" "joined") (I 0)) A1)))
def Q7:Bi:=Ct 1 bk
def o_:By ["net"] ["net"] (Bj nH):=CN
noncomputable def iK:Ai:=
    (Au (J1 "Net" 2 NV (Z (B6 FA (Z (Aw (B4 "Net" "counts") (I 0)) A1)) (Z (Bz "Net" "wires" 0 Q7 (I 0) A1) A1))))
def Wb:Bi:=F0 1 iK
def oZ:By ["books"] ["books"] (Bj nG):=CN
noncomputable def iJ:Ai:=
    (Au (Dq 1 [] (DR (I 0)) (AA 0) (pu true) (Bh (B6 FA (Z (I 0) A1)))))
def Qy:Bi:=F0 1 iJ
def oO:By ["self","net","old","new","plan"] ["self","net","old","new","plan"] (Bj nz):=CN
noncomputable def Xx:Ai:=
    (AN (E_ (Ae 4 Wo (Z (I 1) (Z (I 2) (Z (I 3) (Z (I 4) A1))))))
    (AN (F1 "Run" "net" (I 0) (Ae 1 Wb (Z (I 1) A1)))
    (AN (F1 "Run" "books" (I 0) (BE (Z (Ae 1 Qy (Z (I 2) A1)) (Z (Ae 1 Qy (Z (I 3) A1)) A1))))
    (AN (F1 "Run" "plan" (I 0) (B6 FA (Z (I 4) A1)))
    (AN (F1 "Run" "done" (I 0) (Bg A1))
    (AN (F1 "Run" "came" (I 0) η)
    (AN (F1 "Run" "letters" (I 0) (Kq false))
    (F1 "Run" "ended" (I 0) (Bg A1)))))))))
def Qx:Bi:=F0 5 Xx
def pn:By ["_law_wires_here","_law_old","_law_new","_law_plan_here"] ["_law_wires_here","_law_old","_law_new","_law_plan_here"] (Bj n4):=CN
noncomputable def Z0:Ai:=
    (Au (Bh (T3 [(AK "wires"),(AK "books"),(AK "plan"),(AK "done"),(AK "letters"),(AK "came"),(AK "ended")] [(I 0),(Bg (Z (I 1) (Z (I 2) A1))),(I 3),η,(Kq false),η,(Bg A1)])))
def Rh:Bi:=F0 4 Z0
def pz:By ["_law_state","_law_cell","_law_outer_here","_law_number","_law_going","_law_kind"] ["_law_state","_law_cell","_law_outer_here"] (Bj nT):=CN
noncomputable def Z2:Ai:=
    (AN (AX (Ae 2 Dz (Z (I 1) (Z ζ A1))) (AA 3))
    (AN (AX (B6 Mv (Z (A0 AB (I 0) (pu (.str (AK "letters")))) A1)) (AA 4))
    (AN (AX (A0 BK (I 3) (pu (.int 8))) (AA 5))
    (AN (BU (Hn (FY (AT (A0 Jf (I 5) (pu (.int 2)))) (Eg (AT (A0 Jf (I 5) (pu (.int 6)))) (AT (A0 (Ap true) (I 4) (Bg A1)))))) (Au (BE (Z (pu (.str (AK "come"))) (Z (A0 AB (I 2) (A0 BK (A0 CT (I 3) (pu (.int 8))) (B6 Be (Z (I 2) A1)))) (Z (A0 BK (A0 CT (I 3) (pu (.int 64))) (pu (.int 16))) A1))))) BR)
    (AN (BU (AT (A0 Jf (I 5) (pu (.int 6)))) (Au (BE (Z (pu (.str (AK "go"))) (Z (A0 AB (I 4) (A0 BK (A0 CT (I 3) (pu (.int 8))) (B6 Be (Z (I 4) A1)))) A1)))) BR)
    (Au (BE (Z (pu (.str (AK "step"))) A1))))))))
def Ri:Bi:=Ct 6 Z2
def o5:By ["thing"] ["thing"] (Bj nK):=CN
noncomputable def bp:Ai:=
    (Au (Ae 3 Mk (Z (I 0) (Z η (Z (pu V4) A1)))))
def TB:Bi:=Ct 1 bp
def oJ:By ["self","thing"] ["self","thing"] (Bj nt):=CN
noncomputable def bi:Ai:=
    (Au (Ae 2 TC (Z (Aw (B4 "Net" "counts") (I 0)) (Z (I 1) A1))))
def W_:Bi:=Ct 2 bi
def oK:By ["self","thing"] ["self","thing"] (Bj nu):=CN
noncomputable def bj:Ai:=
    (Au (MC (Bz "Net" "is_door" 1 W_ (I 0) (Z (I 1) A1)) (A0 (Du false) (I 1) (Aw (B4 "Net" "far") (I 0)))))
def T6:Bi:=Ct 2 bj
def oF:By ["self","mark","door","address"] ["self","mark","door","address"] (Bj nj):=CN
noncomputable def Xt:Ai:=
    (AN (F1 "Letter" "mark" (I 0) (I 1))
    (AN (F1 "Letter" "address" (I 0) (I 3))
    (F1 "Letter" "doors" (I 0) (Bg (Z (I 2) A1)))))
def WZ:Bi:=F0 4 Xt
def oM:By ["self","door","address","number","mark"] ["self","door","address"] (Bj nx):=CN
noncomputable def Xv:Ai:=
    (AN (BU (FY (Dj (AT (Bz "Net" "is_outer" 1 T6 (Aw (B4 "Run" "net") (I 0)) (Z (I 1) A1)))) (Dj (AT (Ae 1 TB (Z (I 2) A1))))) (NU "NoMove") BR)
    (AN (AX (Aw (B4 "Run" "came") (I 0)) (AA 3))
    (AN (AX (LX (AT (A0 (Du true) (BE (Z (pu (.str (AK "turn"))) (Z (A0 AB (I 1) η) A1))) (Aw (B4 "Run" "done") (I 0)))) ζ η) (AA 4))
    (AN (JG (Aw (B4 "Run" "letters") (I 0)) (I 3) (J1 "Letter" 3 WZ (Z (I 4) (Z (I 1) (Z (I 2) A1)))))
    (AN (F1 "Run" "came" (I 0) (A0 addW (I 3) ζ))
    (Au (I 3)))))))
def T7:Bi:=F0 5 Xv
def oQ:By ["self","house","mark"] ["self","house","mark"] (Bj o1):=CN
noncomputable def Xz:Ai:=
    (AN (BU (AT (A0 (Ap true) (I 2) ζ)) (Au (A0 (Du true) (BE (Z (pu (.str (AK "teach"))) (Z (I 1) A1))) (Aw (B4 "Run" "done") (I 0)))) BR)
    (Au (A0 (Du false) (BE (Z (pu (.str (AK "forget"))) (Z (I 1) A1))) (Aw (B4 "Run" "done") (I 0)))))
def T9:Bi:=Ct 3 Xz
def o4:By ["pattern","address"] ["pattern","address"] (Bj nJ):=CN
noncomputable def bo:Ai:=
    (AN (BU (FY (Dj (AT (Ae 1 Wf (Z (I 0) A1)))) (Dj (AT (Ae 1 TB (Z (I 1) A1))))) (Au (pu (.AL false))) BR)
    (Au (Bh (B6 (HM true) (Z (Dq 2 [1] (WY (Z (I 0) (Z (pu P2) A1))) (EY [(AA 0),(AA 1)]) (pu true) (A0 (Du true) (I 0) (BE (Z (pu (.str (AK "x"))) (Z (B6 QO (Z (A0 BK (A0 CT (I 2) (I 1)) (pu (.int 2))) A1)) A1))))) A1)))))
def Wd:Bi:=Ct 2 bo
def pS:By ["book","door","address","number","row"] ["book","door","address"] (Bj oD):=CN
noncomputable def iV:Ai:=
    (AN (Eo (Q5 (Z (I 0) A1)) (EY [(AA 3),(AA 4)]) (BU (Eg (FY (AT (A0 (EZ true) (A0 AB (I 4) ζ) (pu (.non)))) (AT (A0 (Ap true) (A0 AB (I 4) ζ) (I 1)))) (AT (Ae 2 Wd (Z (A0 AB (I 4) η) (Z (I 2) A1))))) (Au (I 3)) BR))
    (Au (pu (.non))))
def Wp:Bi:=Ct 5 iV
def oG:By ["self","door"] ["self","door"] (Bj nk):=CN
noncomputable def bg:Ai:=
    (Au (Vd (Aw (B4 "Net" "far") (I 0)) (I 1)))
def Qw:Bi:=Ct 2 bg
def pO:By ["net","book","door","address","number","out","far"] ["net","book","door","address"] (Bj p4):=CN
noncomputable def ZE:Ai:=
    (AN (AX (Ae 3 Wp (Z (I 1) (Z (A0 AB (I 2) ζ) (Z (I 3) A1)))) (AA 4))
    (AN (AX (LX (AT (A0 (EZ true) (I 4) (pu (.non)))) (pu (.non)) (A0 AB (A0 AB (I 1) (I 4)) (pu (.int 2)))) (AA 5))
    (AN (BU (AT (A0 (EZ true) (I 5) (pu (.non)))) (Au (BE (Z (pu (.str (AK "drop"))) (Z (A0 AB (I 2) η) A1)))) BR)
    (AN (AX (Bz "Net" "beyond" 1 Qw (I 0) (Z (BE (Z (A0 AB (I 2) η) (Z (I 5) A1))) A1)) (AA 6))
    (AN (BU (AT (A0 (EZ true) (I 6) (pu (.non)))) (Au (BE (Z (pu (.str (AK "out"))) (Z (A0 AB (I 2) η) (Z (I 5) A1))))) BR)
    (Au (BE (Z (pu (.str (AK "at"))) (Z (A0 AB (I 6) η) (Z (A0 AB (I 6) ζ) A1))))))))))
def Wm:Bi:=Ct 7 ZE
def oU:By ["self","letter","door"] ["self","letter"] (Bj nB):=CN
noncomputable def Yt:Ai:=
    (AN (AX (A0 AB (Aw (B4 "Letter" "doors") (I 1)) (Aw Ff ζ)) (AA 2))
    (AN (BU (Dj (AT (Bz "Run" "knows" 2 T9 (I 0) (Z (A0 AB (I 2) η) (Z (Aw (B4 "Letter" "mark") (I 1)) A1))))) (Au (BE (Z (pu (.str (AK "lost"))) (Z (A0 AB (I 2) η) A1)))) BR)
    (Au (Ae 4 Wm (Z (Aw (B4 "Run" "net") (I 0)) (Z (A0 AB (A0 AB (Aw (B4 "Run" "books") (I 0)) (Aw (B4 "Letter" "mark") (I 1))) (A0 AB (I 2) η)) (Z (I 2) (Z (Aw (B4 "Letter" "address") (I 1)) A1))))))))
def TA:Bi:=Ct 3 Yt
def oN:By ["self","number","letter","told"] ["self","number"] (Bj ny):=CN
noncomputable def Xw:Ai:=
    (AN (BU (FY (Dj (AT (Ae 1 TF (Z (I 1) A1)))) (AT (A0 (Du false) (I 1) (Aw (B4 "Run" "letters") (I 0))))) (NU "NoMove") BR)
    (AN (AX (A0 AB (Aw (B4 "Run" "letters") (I 0)) (I 1)) (AA 2))
    (AN (AX (Bz "Run" "next_of" 1 TA (I 0) (Z (I 2) A1)) (AA 3))
    (AN (BU (AT (A0 (Ap true) (A0 AB (I 3) η) (pu (.str (AK "at"))))) (E_ (D6 DK (Aw (B4 "Letter" "doors") (I 2)) (Z (BE (Z (A0 AB (I 3) ζ) (Z (A0 AB (I 3) (pu (.int 2))) A1))) A1))) (AN (E_ (Qu (Aw (B4 "Run" "letters") (I 0)) (I 1)))
    (E_ (D6 DK (Aw (B4 "Run" "ended") (I 0)) (Z (BE (Z (I 1) (Z (I 2) (Z (I 3) A1)))) A1)))))
    (Au (I 3))))))
def T8:Bi:=F0 4 Xw
def oV:By ["self"] ["self"] (Bj nC):=CN
noncomputable def bl:Ai:=
    (Au (B6 Be (Z (Aw (B4 "Run" "done") (I 0)) A1)))
def KH:Bi:=Ct 1 bl
def oS:By ["self"] ["self"] (Bj n9):=CN
noncomputable def Ys:Ai:=
    (AN (BU (AT (A0 (Ap true) (Bz "Run" "place" 0 KH (I 0) A1) (B6 Be (Z (Aw (B4 "Run" "plan") (I 0)) A1)))) (Au (pu (.AL false))) BR)
    (AN (BU (AT (A0 (Ap false) (A0 AB (Aw (B4 "Run" "plan") (I 0)) (Bz "Run" "place" 0 KH (I 0) A1)) (pu N3))) (Au (pu (.AL true))) BR)
    (Au (Bh (B6 (HM true) (Z (LW Nh 1 [] (Aw (B4 "Run" "letters") (I 0)) (AA 0) (pu true) (A0 (Ap true) (Aw (B4 "Letter" "mark") (I 0)) ζ)) A1))))))
def NW:Bi:=Ct 1 Ys
def oW:By ["self"] ["self"] (Bj nD):=CN
noncomputable def Sk:Ai:=
    (AN (BU (Dj (AT (Bz "Run" "may_step" 0 NW (I 0) A1))) (NU "NoMove") BR)
    (AN (E_ (D6 DK (Aw (B4 "Run" "done") (I 0)) (Z (A0 AB (Aw (B4 "Run" "plan") (I 0)) (Bz "Run" "place" 0 KH (I 0) A1)) A1)))
    (Au (A0 AB (Aw (B4 "Run" "done") (I 0)) (Aw Ff ζ)))))
def PZ:Bi:=F0 1 Sk
def oT:By ["self","move"] ["self","move"] (Bj nA):=CN
noncomputable def Sj:Ai:=
    (AN (BU (Eg (AT (Aw (DQ "tuple") (I 1))) (Eg (AT (A0 Kl (B6 Be (Z (I 1) A1)) η)) (AT (Aw (DQ "str") (A0 AB (I 1) η))))) (AN (BU (Eg (AT (A0 (Ap true) (A0 AB (I 1) η) (pu (.str (AK "come"))))) (AT (A0 (Ap true) (B6 Be (Z (I 1) A1)) (pu (.int 3))))) (Au (Bz "Run" "come" 2 T7 (I 0) (Z (A0 AB (I 1) ζ) (Z (A0 AB (I 1) (pu (.int 2))) A1)))) BR)
    (AN (BU (Eg (AT (A0 (Ap true) (A0 AB (I 1) η) (pu (.str (AK "go"))))) (AT (A0 (Ap true) (B6 Be (Z (I 1) A1)) (pu (.int 2))))) (Au (Bz "Run" "go" 1 T8 (I 0) (Z (A0 AB (I 1) ζ) A1))) BR)
    (BU (AT (A0 (Ap true) (I 1) (pu H0))) (Au (Bz "Run" "step" 0 PZ (I 0) A1)) BR))) BR)
    (NU "NoMove"))
def JH:Bi:=F0 2 Sj
def pK:By ["_law_run","_law_deed","_law_found"] ["_law_run","_law_deed"] (Bj p0):=CN
noncomputable def Sl:Ai:=
    (AN (AX (pu (.non)) (AA 2))
    (AN (Op (Bz "Run" "move" 1 JH (I 0) (Z (I 1) A1)) 2 ["NoMove"] (AX (pu (.non)) (AA 2)))
    (Au (I 2))))
def Lm:Bi:=F0 3 Sl
def q0:By ["_law_state","_law_door","_law_address","_law_mark","_law_number"] ["_law_state","_law_door","_law_address"] (Bj ob):=CN
noncomputable def Z3:Ai:=
    (AN (AX (Bh (B6 Rw (Z (Bh (A0 (Du true) (BE (Z (pu (.str (AK "turn"))) (Z (A0 AB (I 1) η) A1))) (DI (A0 AB (I 0) (pu (.str (AK "plan")))) (pu none) (CM (A0 AB (I 0) (pu (.str (AK "done")))))))) A1))) (AA 3))
    (AN (AX (A0 AB (I 0) (pu (.str (AK "came")))) (AA 4))
    (AN (JG (A0 AB (I 0) (pu (.str (AK "letters")))) (I 4) (Bh (BE (Z (I 3) (Z (I 2) (Z (Bg (Z (I 1) A1)) A1))))))
    (AN (JG (I 0) (pu (.str (AK "came"))) (A0 addW (I 4) ζ))
    (Au (I 4))))))
def Wi:Bi:=F0 5 Z3
def q9:By ["_law_state","_law_house","_law_mark","_law_steps"] ["_law_state","_law_house","_law_mark"] (Bj oj):=CN
noncomputable def Z7:Ai:=
    (AN (AX (Bh (DI (A0 AB (I 0) (pu (.str (AK "plan")))) (pu none) (CM (A0 AB (I 0) (pu (.str (AK "done"))))))) (AA 3))
    (AN (BU (AT (A0 (Ap true) (I 2) ζ)) (Au (A0 (Du true) (BE (Z (pu (.str (AK "teach"))) (Z (I 1) A1))) (I 3))) BR)
    (Au (A0 (Du false) (BE (Z (pu (.str (AK "forget"))) (Z (I 1) A1))) (I 3)))))
def TM:Bi:=Ct 4 Z7
def q5:By ["_law_pattern","_law_address","_law_k","_law_figure"] ["_law_pattern","_law_address"] (Bj oe):=CN
noncomputable def iP:Ai:=
    (AN (Eo (Dr (Z (pu (.int 4)) A1)) (AA 2) (AN (AX (Bh (A0 BK (A0 CT (I 1) (A0 AB (Bg (Z (pu (.int 8)) (Z (pu (.int 4)) (Z (pu (.int 2)) (Z ζ A1))))) (I 2))) (pu (.int 2)))) (AA 3))
    (BU (Eg (AT (A0 (Ap false) (A0 AB (I 0) (I 2)) (pu (.str (AK "x"))))) (AT (A0 (Ap false) (A0 AB (I 0) (I 2)) (A0 AB (pu (.str (AK "01"))) (I 3))))) (Au (pu (.AL false))) BR)))
    (Au (pu (.AL true))))
def TJ:Bi:=Ct 4 iP
def qF:By ["_law_wires_here","_law_book","_law_door","_law_address","_law_pattern","_law_inward","_law_out","_law_behind"] ["_law_wires_here","_law_book","_law_door","_law_address"] (Bj ov):=CN
noncomputable def iR:Ai:=
    (AN (Eo (DR (I 1)) (EY [(AA 4),(AA 5),(AA 6)]) (BU (Eg (AT (Ae 2 TJ (Z (I 4) (Z (I 3) A1)))) (FY (AT (A0 (EZ true) (I 5) (pu (.non)))) (AT (A0 (Ap true) (I 5) (A0 AB (I 2) ζ))))) (AN (BU (AT (A0 (EZ true) (I 6) (pu (.non)))) (Au (BE (Z (pu (.str (AK "drop"))) (Z (A0 AB (I 2) η) A1)))) BR)
    (AN (AX (Ae 2 P_ (Z (I 0) (Z (BE (Z (A0 AB (I 2) η) (Z (I 6) A1))) A1))) (AA 7))
    (AN (BU (AT (A0 (EZ true) (I 7) (pu (.non)))) (Au (BE (Z (pu (.str (AK "out"))) (Z (A0 AB (I 2) η) (Z (I 6) A1))))) BR)
    (Au (A0 addW (BE (Z (pu (.str (AK "at"))) A1)) (I 7)))))) BR))
    (Au (BE (Z (pu (.str (AK "drop"))) (Z (A0 AB (I 2) η) A1)))))
def Sw:Bi:=Ct 8 iR
def q8:By ["_law_state","_law_number","_law_mark","_law_address","_law_road","_law_told"] ["_law_state","_law_number"] (Bj oi):=CN
noncomputable def Z6:Ai:=
    (AN (MD (A0 AB (A0 AB (I 0) (pu (.str (AK "letters")))) (I 1)) (EY [(AA 2),(AA 3),(AA 4)]))
    (AN (AX (BE (Z (pu (.str (AK "lost"))) (Z (A0 AB (A0 AB (I 4) (Aw Ff ζ)) η) A1))) (AA 5))
    (AN (BU (AT (Ae 3 TM (Z (I 0) (Z (A0 AB (A0 AB (I 4) (Aw Ff ζ)) η) (Z (I 2) A1))))) (AX (Ae 4 Sw (Z (A0 AB (I 0) (pu (.str (AK "wires")))) (Z (A0 AB (A0 AB (A0 AB (I 0) (pu (.str (AK "books")))) (I 2)) (A0 AB (A0 AB (I 4) (Aw Ff ζ)) η)) (Z (A0 AB (I 4) (Aw Ff ζ)) (Z (I 3) A1))))) (AA 5)) BR)
    (AN (BU (AT (A0 (Ap true) (A0 AB (I 5) η) (pu (.str (AK "at"))))) (JG (A0 AB (I 0) (pu (.str (AK "letters")))) (I 1) (Bh (BE (Z (I 2) (Z (I 3) (Z (Bh (A0 addW (I 4) (Bg (Z (Bh (DI (I 5) (CM ζ) (pu none))) A1)))) A1)))))) (AN (E_ (Qu (A0 AB (I 0) (pu (.str (AK "letters")))) (I 1)))
    (E_ (D6 DK (A0 AB (I 0) (pu (.str (AK "ended")))) (Z (BE (Z (I 1) (Z (I 2) (Z (A0 AB (I 4) η) (Z (I 3) (Z (I 4) (Z (I 5) A1))))))) A1)))))
    (Au (I 5))))))
def TL:Bi:=F0 6 Z6
def qC:By ["_law_state"] ["_law_state"] (Bj oq):=CN
noncomputable def ZA:Ai:=
    (AN (BU (AT (A0 (Ap true) (A0 AB (I 0) (pu (.str (AK "done")))) (B6 Be (Z (A0 AB (I 0) (pu (.str (AK "plan")))) A1)))) (Au (pu (.AL false))) BR)
    (AN (BU (AT (A0 (Ap false) (A0 AB (A0 AB (I 0) (pu (.str (AK "plan")))) (A0 AB (I 0) (pu (.str (AK "done"))))) (BE (Z (pu (.str (AK "wait"))) A1)))) (Au (pu (.AL true))) BR)
    (Au (Bh (B6 (HM true) (Z (LW Nh 1 [] (A0 AB (I 0) (pu (.str (AK "letters")))) (AA 0) (pu true) (A0 (Ap true) (A0 AB (I 0) η) ζ)) A1))))))
def Oq:Bi:=Ct 1 ZA
def qE:By ["_law_state","_law_deed"] ["_law_state","_law_deed"] (Bj ou):=CN
noncomputable def Rc:Ai:=
    (AN (BU (AT (A0 (Ap true) (A0 AB (I 1) η) (pu (.str (AK "come"))))) (Au (Ae 3 Wi (Z (I 0) (Z (A0 AB (I 1) ζ) (Z (A0 AB (I 1) (pu (.int 2))) A1))))) BR)
    (AN (BU (AT (A0 (Ap true) (A0 AB (I 1) η) (pu (.str (AK "go"))))) (Au (Ae 2 TL (Z (I 0) (Z (A0 AB (I 1) ζ) A1)))) BR)
    (AN (BU (Dj (AT (Ae 1 Oq (Z (I 0) A1)))) (Au (pu (.non))) BR)
    (AN (JG (I 0) (pu (.str (AK "done"))) (A0 addW (A0 AB (I 0) (pu (.str (AK "done")))) ζ))
    (Au (A0 AB (A0 AB (I 0) (pu (.str (AK "plan")))) (A0 Nf (A0 AB (I 0) (pu (.str (AK "done")))) ζ)))))))
def K6:Bi:=F0 2 Rc
def oX:By ["self","told","number","letter","door"] ["self"] (Bj nE):=CN
noncomputable def Yu:Ai:=
    (AN (AX (Bg A1) (AA 1))
    (AN (WV (Aw (B4 "Run" "letters") (I 0)) (EY [(AA 2),(AA 3)]) (AN (AX (A0 AB (Aw (B4 "Letter" "doors") (I 3)) (Aw Ff ζ)) (AA 4))
    (E_ (D6 DK (I 1) (Z (BE (Z (I 2) (Z (Aw (B4 "Letter" "mark") (I 3)) (Z (Aw (B4 "Letter" "address") (I 3)) (Z (A0 AB (I 4) η) (Z (A0 AB (I 4) ζ) A1)))))) A1)))))
    (Au (I 1))))
def Mj:Bi:=Ct 5 Yu
def oP:By ["self","told","number","letter","end"] ["self"] (Bj o0):=CN
noncomputable def Xy:Ai:=
    (AN (AX (Bg A1) (AA 1))
    (AN (Eo (DR (Aw (B4 "Run" "ended") (I 0))) (EY [(AA 2),(AA 3),(AA 4)]) (E_ (D6 DK (I 1) (Z (Bh (BE (Z (I 2) (Z (Aw (B4 "Letter" "mark") (I 3)) (Z (A0 AB (Aw (B4 "Letter" "doors") (I 3)) η) (Z (Aw (B4 "Letter" "address") (I 3)) (Z (B6 FA (Z (Aw (B4 "Letter" "doors") (I 3)) A1)) (Z (I 4) A1)))))))) A1))))
    (Au (I 1))))
def LY:Bi:=F0 5 Xy
def oR:By ["self","goes"] ["self"] (Bj o2):=CN
noncomputable def YM:Ai:=
    (AN (AX (LW (λAJ _=>Oe AJ) 1 [] (Aw (B4 "Run" "letters") (I 0)) (AA 0) (pu true) (BE (Z (pu (.str (AK "go"))) (Z (I 0) A1)))) (AA 1))
    (Au (Bh (A0 addW (I 1) (LX (AT (Bz "Run" "may_step" 0 NW (I 0) A1)) (Bg (Z (pu H0) A1)) (Bg A1))))))
def Mi:Bi:=Ct 2 YM
def q6:By ["_law_run","_law_row_here"] ["_law_run"] (Bj og):=CN
noncomputable def Z5:Ai:=
    (AN (Eo (DR (A0 addW (A0 addW (Bz "Run" "under" 0 Mj (I 0) A1) (Bz "Run" "journal" 0 LY (I 0) A1)) (Bz "Run" "may" 0 Mi (I 0) A1))) (AA 1) (BU (Dj (AT (Aw (DQ "tuple") (I 1)))) (Au (pu (.AL false))) BR))
    (Au (B6 (HM true) (Z (Dq 1 [] (DR (Bz "Run" "journal" 0 LY (I 0) A1)) (AA 0) (pu true) (Aw (DQ "list") (A0 AB (I 0) (pu (.int 4))))) A1))))
def Wj:Bi:=Ct 2 Z5
def pM:By ["_law_state","_law_found","_law_number","_law_mark","_law_address","_law_road"] ["_law_state"] (Bj p2):=CN
noncomputable def ZD:Ai:=
    (AN (AX (Bg A1) (AA 1))
    (AN (Eo (DR (B6 Mv (Z (A0 AB (I 0) (pu (.str (AK "letters")))) A1))) (AA 2) (AN (MD (A0 AB (A0 AB (I 0) (pu (.str (AK "letters")))) (I 2)) (EY [(AA 3),(AA 4),(AA 5)]))
    (E_ (D6 DK (I 1) (Z (BE (Z (I 2) (Z (I 3) (Z (I 4) (Z (A0 AB (A0 AB (I 5) (Aw Ff ζ)) η) (Z (A0 AB (A0 AB (I 5) (Aw Ff ζ)) ζ) A1)))))) A1)))))
    (Au (I 1))))
def TO:Bi:=Ct 6 ZD
def qB:By ["_law_state","_law_found"] ["_law_state"] (Bj oo):=CN
noncomputable def Z9:Ai:=
    (AN (AX (Dq 1 [] (DR (B6 Mv (Z (A0 AB (I 0) (pu (.str (AK "letters")))) A1))) (AA 0) (pu true) (BE (Z (pu (.str (AK "go"))) (Z (I 0) A1)))) (AA 1))
    (AN (BU (AT (Ae 1 Oq (Z (I 0) A1))) (E_ (D6 DK (I 1) (Z (BE (Z (pu (.str (AK "step"))) A1)) A1))) BR)
    (Au (I 1))))
def TN:Bi:=Ct 2 Z9
def qA:By ["_law_run","_law_state","_law_kind","_law_k","_law_which"] ["_law_run","_law_state","_law_kind"] (Bj om):=CN
noncomputable def Z8:Ai:=
    (AN (Eo (Dr (Z (pu (.int 4)) A1)) (AA 3) (AN (AX (A0 BK (A0 addW (I 3) (I 2)) (pu (.int 4))) (AA 4))
    (AN (BU (Eg (AT (A0 (Ap true) (I 4) η)) (AT (A0 (Ap false) (Bz "Run" "under" 0 Mj (I 0) A1) (Ae 1 TO (Z (I 1) A1))))) (Au (pu (.AL false))) BR)
    (AN (BU (Eg (AT (A0 (Ap true) (I 4) ζ)) (AT (A0 (Ap false) (Bz "Run" "journal" 0 LY (I 0) A1) (A0 AB (I 1) (pu (.str (AK "ended"))))))) (Au (pu (.AL false))) BR)
    (AN (BU (Eg (AT (A0 (Ap true) (I 4) (pu (.int 2)))) (AT (A0 (Ap false) (Bz "Run" "may" 0 Mi (I 0) A1) (Ae 1 TN (Z (I 1) A1))))) (Au (pu (.AL false))) BR)
    (BU (Eg (AT (A0 (Ap true) (I 4) (pu (.int 3)))) (AT (A0 (Ap false) (Bz "Run" "place" 0 KH (I 0) A1) (A0 AB (I 1) (pu (.str (AK "done"))))))) (Au (pu (.AL false))) BR))))))
    (Au (pu (.AL true))))
def Mm:Bi:=Ct 5 Z8
def pL:By ["_law_run","_law_told","_law_row_here"] ["_law_run"] (Bj p1):=CN
noncomputable def ZC:Ai:=
    (AN (E_ (D6 DK (Bz "Run" "under" 0 Mj (I 0) A1) (Z (BE (Z η (Z η (Z η (Z η (Z η A1)))))) A1)))
    (AN (E_ (D6 Vg (Bz "Run" "may" 0 Mi (I 0) A1) A1))
    (AN (AX (Bz "Run" "journal" 0 LY (I 0) A1) (AA 1))
    (AN (Eo (DR (I 1)) (AA 2) (E_ (D6 DK (A0 AB (I 2) (pu (.int 4))) (Z (BE (Z (pu (.int 9)) (Z (pu (.int 9)) A1))) A1))))
    (E_ (D6 DK (I 1) (Z (Bh (BE (Z η (Z η (Z (BE (Z η (Z η A1))) (Z η (Z (Bg A1) (Z (BE (Z (pu (.str (AK "drop"))) (Z η A1))) A1)))))))) A1)))))))
def Wl:Bi:=Ct 3 ZC
def pj:By ["_law_script","_law_counts_here","_law_wires_here","_law_old","_law_new","_law_outer_here","_law_plan_here","_law_run","_law_state","_law_cell","_law_deed","_law_kind"] ["_law_script"] (Bj Jq):=CN
noncomputable def Rb:Ai:=
    (AN (MD (Ae 1 Rg (Z (I 0) A1)) (EY [(AA 1),(AA 2),(AA 3),(AA 4)]))
    (AN (AX (Ae 2 Sx (Z (I 1) (Z (I 2) A1))) (AA 5))
    (AN (AX (Bh (Ae 2 Rl (Z (Bh (DI (I 0) (CM (pu (.int 10))) (CM (pu (.int 18))))) (Z (B6 Be (Z (I 1) A1)) A1)))) (AA 6))
    (AN (AX (J1 "Run" 4 Qx (Z (J1 "Net" 2 NV (Z (I 1) (Z (I 2) A1))) (Z (I 3) (Z (I 4) (Z (B6 FA (Z (I 6) A1)) A1))))) (AA 7))
    (AN (AX (Ae 4 Rh (Z (I 2) (Z (I 3) (Z (I 4) (Z (I 6) A1))))) (AA 8))
    (AN (Eo (DR (Bh (A0 addW (Bg (Z (pu (.int 2)) (Z (pu (.int 5)) A1))) (DI (I 0) (CM (pu (.int 16))) (pu none))))) (AA 9) (AN (AX (Ae 3 Ri (Z (I 8) (Z (I 9) (Z (I 5) A1)))) (AA 10))
    (AN (BU (AT (A0 (Ap false) (Ae 2 Lm (Z (I 7) (Z (I 10) A1))) (Ae 2 K6 (Z (I 8) (Z (I 10) A1))))) (Au (pu (.AL false))) BR)
    (AN (AX (Ae 2 Dz (Z (I 9) (Z (pu (.int 4)) A1))) (AA 11))
    (AN (BU (FY (Dj (AT (Ae 3 Mm (Z (I 7) (Z (I 8) (Z (A0 BK (I 11) (pu (.int 4))) A1)))))) (Dj (AT (Ae 1 Wj (Z (I 7) A1))))) (Au (pu (.AL false))) BR)
    (BU (AT (A0 (Ap true) (A0 BK (A0 CT (I 11) (pu (.int 4))) (pu (.int 3))) η)) (AN (E_ (Ae 1 Wl (Z (I 7) A1)))
    (BU (Dj (AT (Ae 3 Mm (Z (I 7) (Z (I 8) (Z (A0 BK (A0 CT (I 11) (pu (.int 12))) (pu (.int 4))) A1)))))) (Au (pu (.AL false))) BR)) BR))))))
    (Au (Ae 3 Mm (Z (I 7) (Z (I 8) (Z η A1)))))))))))
def lX:Bi:=F0 12 Rb
section
variable(P:C5)(w:Bo){K:As}{mg:Str->Option A7}(base:BH)(T:Dd K mg)
include T
set_option maxHeartbeats 4000000
def ji:D3 P w K mg base "_law_cell_at" 2 1 Ll:=by exists 0,Z1,T.vl,px;ac_nf
def Q0:D3 P w K mg base "_law_mixed" 2 1 Dz:=by exists 0,bS,T.vz,qD;ac_nf
def zj:D3 P w K mg base "_law_counts" 1 2 TH:=by exists 1,Z4,T.vo,q3;exists Q0;ac_nf
def jj:D3 P w K mg base "_law_doors" 1 1 Rj:=by exists 0,bR,T.vp,q4;ac_nf
def zS:D3 P w K mg base "_law_wires" 2 2 Os:=by exists 1,d0,T.vX,pN;exists jj;exists Q0;ac_nf
def zm:D3 P w K mg base "_law_free_book" 2 1 TK:=by exists 0,iQ,T.vt,q7;ac_nf
def zO:D3 P w K mg base "_law_row" 3 2 Wk:=by exists 1,cz,T.vT,pJ;exists Q0;ac_nf
def zf:D3 P w K mg base "_law_books" 3 3 Ml:=by have h:=MY (P:=P) (w:=w) (base:=base) (k:=2) (m:=iN) T.vj pv;exact h (by have:=pv;have:=zm P w base T;have:=Q0 P w base T;have:=zO P w base T;ac_nf)
def zg:D3 P w K mg base "_law_both" 2 4 Wh:=by have h:=MY (P:=P) (w:=w) (base:=base) (k:=3) (m:=iO) T.vk pw;exact h (by have:=pw;have:=zf P w base T;have:=ji P w base T;have:=Q0 P w base T;ac_nf)
def zd:D3 P w K mg base "_law_all" 1 5 Rg:=by have h:=MY (P:=P) (w:=w) (base:=base) (k:=4) (m:=Yz) T.vg pk;exact h (by have:=pk;have:=zg P w base T;have:=ji P w base T;have:=zj P w base T;have:=zS P w base T;ac_nf)
def jh:D3 P w K mg base "_law_beyond" 2 1 P_:=by exists 0,bQ,T.vi,pq;ac_nf
def zu:D3 P w K mg base "_law_outer" 2 2 Sx:=by exists 1,br,T.w2,pG;exists jh;exists jj;ac_nf
def zv:D3 P w K mg base "_law_plain" 1 1 Rk:=by exists 0,ZB,T.w3,pH;ac_nf
def zw:D3 P w K mg base "_law_plan" 2 2 Rl:=by exists 1,iS,T.w4,pI;exists Q0;exists zv;ac_nf
def jf:D3 P w K mg base "is_pattern" 1 1 Wf:=by exists 0,bM,T.wP,oB;ac_nf
def jg:D3 P w K mg base "is_whole" 1 1 TF:=by exists 0,bO,T.wT,pg;ac_nf
def V6:D3 P w K mg base "is_whole_within" 3 2 Mk:=by exists 1,Yy,T.ve,ph;exists jg;ac_nf
def zZ:D3 P w K mg base "is_number_or_none" 2 3 TD:=by exists 2,Yv,T.wN,o9;exists V6;ac_nf
def za:D3 P w K mg base "is_row" 2 4 Wg:=by exists 3,bN,T.wR,oa;exists zZ;exists jf;ac_nf
def aaN:D3 P w K mg base "is_book" 2 5 We:=by exists 4,bq,T.wK,o6;exists za;ac_nf
def aa7:Gy P w K mg base "Net" "count" 1 1 T5:=by have h:=JS (P:=P) (w:=w) (mg:=mg) (base:=base) (k:=0) (m:=bh) T.uN oH;exact(h (by have:=oH;ac_nf)).st
def zY:D3 P w K mg base "is_books" 2 6 Zd:=by exists 5,bJ,T.wL,o7;exists aa7;exists aaN;ac_nf
def zU:D3 P w K mg base "refuse_unless_books" 2 7 Wn:=by exists 6,d4,T.vZ,pP;exists zY;ac_nf
def zb:D3 P w K mg base "is_step" 2 3 RQ:=by exists 2,Yx,T.wS,pf;exists V6;ac_nf
def z_:D3 P w K mg base "is_plan" 2 4 Ze:=by exists 3,Yw,T.wQ,oC;exists zb;ac_nf
def zV:D3 P w K mg base "refuse_unless_plan" 4 8 Wo:=by exists 7,d5,T.v_,pQ;exists z_;exists zU;ac_nf
def aaI:D3 P w K mg base "are_counts" 1 3 Wa:=by exists 2,bn,T.wE,oY;exists V6;ac_nf
def je:D3 P w K mg base "is_pair" 1 1 Qz:=by exists 0,bL,T.wO,oA;ac_nf
def jd:D3 P w K mg base "is_door_among" 2 3 TC:=by exists 2,bK,T.wM,o8;exists je;exists V6;ac_nf
def zc:D3 P w K mg base "is_wire_among" 2 4 TG:=by exists 3,bP,T.vf,pi;exists jd;exists je;ac_nf
def aaL:D3 P w K mg base "far_doors" 2 5 Wc:=by have h:=MY (P:=P) (w:=w) (base:=base) (k:=4) (m:=iL) T.wH o3;exact h (by have:=o3;have:=zc P w base T;ac_nf)
def kE:Uu P w K mg base "Net" 2 6 NV:=by have h:=fe (P:=P) (w:=w) (base:=base) (k:=5) (m:=Xu) T.uO oI;exact h (by have:=oI;have:=aaI P w base T;have:=aaL P w base T;ac_nf)
def aaA:Gy P w K mg base "Net" "wires" 0 1 Q7:=by have h:=JS (P:=P) (w:=w) (mg:=mg) (base:=base) (k:=0) (m:=bk) T.uR oL;exact(h (by have:=oL;ac_nf)).st
def aaK:D3 P w K mg base "copied_net" 1 8 Wb:=by have h:=MY (P:=P) (w:=w) (base:=base) (k:=7) (m:=iK) T.wG o_;exact h (by have:=o_;have:=kE P w base T;have:=aaA P w base T;ac_nf)
def aaJ:D3 P w K mg base "copied_books" 1 1 Qy:=by have h:=MY (P:=P) (w:=w) (base:=base) (k:=0) (m:=iJ) T.wF oZ;exact h (by have:=oZ;ac_nf)
def aaD:Uu P w K mg base "Run" 4 9 Qx:=by have h:=fe (P:=P) (w:=w) (base:=base) (k:=8) (m:=Xx) T.uU oO;exact h (by have:=oO;have:=aaJ P w base T;have:=aaK P w base T;have:=zV P w base T;ac_nf)
def ze:D3 P w K mg base "_law_begun" 4 1 Rh:=by have h:=MY (P:=P) (w:=w) (base:=base) (k:=0) (m:=Z0) T.vh pn;exact h (by have:=pn;ac_nf)
def zh:D3 P w K mg base "_law_chosen" 3 2 Ri:=by exists 1,Z2,T.vm,pz;exists Q0;ac_nf
def kG:D3 P w K mg base "is_address" 1 3 TB:=by exists 2,bp,T.wJ,o5;exists V6;ac_nf
def aa8:Gy P w K mg base "Net" "is_door" 1 4 W_:=by have h:=JS (P:=P) (w:=w) (mg:=mg) (base:=base) (k:=3) (m:=bi) T.uP oJ;exact(h (by have:=oJ;have:=jd P w base T;ac_nf)).st
def aa9:Gy P w K mg base "Net" "is_outer" 1 5 T6:=by have h:=JS (P:=P) (w:=w) (mg:=mg) (base:=base) (k:=4) (m:=bj) T.uQ oK;exact(h (by have:=oK;have:=aa8 P w base T;ac_nf)).st
def aa5:Uu P w K mg base "Letter" 3 1 WZ:=by have h:=fe (P:=P) (w:=w) (base:=base) (k:=0) (m:=Xt) T.uL oF;exact h (by have:=oF;ac_nf)
def aaB:Gy P w K mg base "Run" "come" 2 6 T7:=by have h:=JS (P:=P) (w:=w) (mg:=mg) (base:=base) (k:=5) (m:=Xv) T.uS oM;exact(h (by have:=oM;have:=aa5 P w base T;have:=aa9 P w base T;have:=kG P w base T;ac_nf))
def aaE:Gy P w K mg base "Run" "knows" 2 1 T9:=by have h:=JS (P:=P) (w:=w) (mg:=mg) (base:=base) (k:=0) (m:=Xz) T.w6 oQ;exact(h (by have:=oQ;ac_nf)).st
def aaM:D3 P w K mg base "fits" 2 4 Wd:=by exists 3,bo,T.wI,o4;exists kG;exists jf;ac_nf
def zW:D3 P w K mg base "taken" 3 5 Wp:=by exists 4,iV,T.vc,pS;exists aaM;ac_nf
def aa6:Gy P w K mg base "Net" "beyond" 1 1 Qw:=by have h:=JS (P:=P) (w:=w) (mg:=mg) (base:=base) (k:=0) (m:=bg) T.uM oG;exact(h (by have:=oG;ac_nf)).st
def zT:D3 P w K mg base "onward" 4 6 Wm:=by exists 5,ZE,T.vY,pO;exists aa6;exists zW;ac_nf
def aaG:Gy P w K mg base "Run" "next_of" 1 7 TA:=by have h:=JS (P:=P) (w:=w) (mg:=mg) (base:=base) (k:=6) (m:=Yt) T.wA oU;exact(h (by have:=oU;have:=aaE P w base T;have:=zT P w base T;ac_nf)).st
def aaC:Gy P w K mg base "Run" "go" 1 8 T8:=by have h:=JS (P:=P) (w:=w) (mg:=mg) (base:=base) (k:=7) (m:=Xw) T.uT oN;exact(h (by have:=oN;have:=aaG P w base T;have:=jg P w base T;ac_nf))
def dm:Gy P w K mg base "Run" "place" 0 1 KH:=by have h:=JS (P:=P) (w:=w) (mg:=mg) (base:=base) (k:=0) (m:=bl) T.wB oV;exact(h (by have:=oV;ac_nf)).st
def kF:Gy P w K mg base "Run" "may_step" 0 2 NW:=by have h:=JS (P:=P) (w:=w) (mg:=mg) (base:=base) (k:=1) (m:=Ys) T.w8 oS;exact(h (by have:=oS;have:=dm P w base T;ac_nf)).st
def aaH:Gy P w K mg base "Run" "step" 0 3 PZ:=by have h:=JS (P:=P) (w:=w) (mg:=mg) (base:=base) (k:=2) (m:=Sk) T.wC oW;exact(h (by have:=oW;have:=kF P w base T;have:=dm P w base T;ac_nf))
def aaF:Gy P w K mg base "Run" "move" 1 9 JH:=by have h:=JS (P:=P) (w:=w) (mg:=mg) (base:=base) (k:=8) (m:=Sj) T.w9 oT;exact(h (by have:=oT;have:=aaB P w base T;have:=aaC P w base T;have:=aaH P w base T;ac_nf))
def zP:D3 P w K mg base "_law_said" 2 10 Lm:=by have h:=MY (P:=P) (w:=w) (base:=base) (k:=9) (m:=Sl) T.vU pK;exact h (by have:=pK;have:=aaF P w base T;ac_nf)
def zi:D3 P w K mg base "_law_come" 3 1 Wi:=by have h:=MY (P:=P) (w:=w) (base:=base) (k:=0) (m:=Z3) T.vn q0;exact h (by have:=q0;ac_nf)
def zo:D3 P w K mg base "_law_knows" 3 1 TM:=by exists 0,Z7,T.vv,q9;ac_nf
def zk:D3 P w K mg base "_law_fits" 2 1 TJ:=by exists 0,iP,T.vq,q5;ac_nf
def zt:D3 P w K mg base "_law_next" 4 2 Sw:=by exists 1,iR,T.w1,qF;exists jh;exists zk;ac_nf
def zn:D3 P w K mg base "_law_go" 2 3 TL:=by have h:=MY (P:=P) (w:=w) (base:=base) (k:=2) (m:=Z6) T.vu q8;exact h (by have:=q8;have:=zo P w base T;have:=zt P w base T;ac_nf)
def jk:D3 P w K mg base "_law_may_step" 1 1 Oq:=by exists 0,ZA,T.vy,qC;ac_nf
def zr:D3 P w K mg base "_law_model" 2 4 K6:=by have h:=MY (P:=P) (w:=w) (base:=base) (k:=3) (m:=Rc) T.w0 qE;exact h (by have:=qE;have:=zi P w base T;have:=zn P w base T;have:=jk P w base T;ac_nf)
def dn:Gy P w K mg base "Run" "under" 0 1 Mj:=by have h:=JS (P:=P) (w:=w) (mg:=mg) (base:=base) (k:=0) (m:=Yu) T.wD oX;exact(h (by have:=oX;ac_nf)).st
def dj:Gy P w K mg base "Run" "journal" 0 1 LY:=by have h:=JS (P:=P) (w:=w) (mg:=mg) (base:=base) (k:=0) (m:=Xy) T.ux oP;exact(h (by have:=oP;ac_nf))
def dk:Gy P w K mg base "Run" "may" 0 3 Mi:=by have h:=JS (P:=P) (w:=w) (mg:=mg) (base:=base) (k:=2) (m:=YM) T.w7 oR;exact(h (by have:=oR;have:=kF P w base T;ac_nf)).st
def zl:D3 P w K mg base "_law_forms" 1 4 Wj:=by exists 3,Z5,T.vr,q6;exists dj;exists dk;exists dn;ac_nf
def zR:D3 P w K mg base "_law_under" 1 1 TO:=by exists 0,ZD,T.vW,pM;ac_nf
def zq:D3 P w K mg base "_law_may" 1 2 TN:=by exists 1,Z9,T.vx,qB;exists jk;ac_nf
def zp:D3 P w K mg base "_law_looked" 3 4 Mm:=by exists 3,Z8,T.vw,qA;exists dj;exists dk;exists dm;exists dn;exists zq;exists zR;ac_nf
def zQ:D3 P w K mg base "_law_spoilt" 1 4 Wl:=by exists 3,ZC,T.vV,pL;exists dj;exists dk;exists dn;ac_nf
def u6:C6 P w K mg base "law" Jq ["_law_script","_law_counts_here","_law_wires_here","_law_old","_law_new","_law_outer_here","_law_plan_here","_law_run","_law_state","_law_cell","_law_deed","_law_kind"] 10 Rb:=by have:=pj;have:=kE P w base T;have:=aaD P w base T;have:=zd P w base T;have:=ze P w base T;have:=zh P w base T;have:=zl P w base T;have:=zp P w base T;have:=Q0 P w base T;have:=zr P w base T;have:=zu P w base T;have:=zw P w base T;have:=zP P w base T;have:=zQ P w base T;ac_nf
end
end FG
namespace FG
open PySem PySem.Spec B5 C2
def Jl(x:Int){n:Nat}(h:0<n):∃j:Nat,j<n/\x%(n:Int)=(j:Int):=by have h1:=Int.emod_nonneg x (show(n:Int)≠0 by lia);have h2:=Int.emod_lt_of_pos x (show(0:Int)<n by lia);exact⟨(x%(n:Int)).toNat,δ,δ⟩
def BD(AJ:↑Int):↑W:=AJ.map W.int
def i3(h:A5)(ns:↑Int)(k:Nat):∃c:Int,Ll [.Df (BD ns),.int k] h=.ok (.int c,h):=by
 have es:=bF h (BD ns);by_cases AP:k< ⇑ns
 .refine⟨ns[k],?_⟩;have ex:AB (.Df (BD ns)) (.int (k:Int)) h=.ok (.int ns[k],h):=Va h es (by simp[BD,AP]);have E9:⇑(BD ns)=⇑ns:=by simp[BD]
  simp[Ll,Z1,Be,es,E9,AP,ex]
 .have E9:⇑(BD ns)=⇑ns:=by simp[BD]
  exact⟨0,by simp[Ll,Z1,Be,es,E9,AP]⟩
def mh(l:↑Int)(x:Int){n:Nat}(AZ:⇑l=n)(h0:0<n):∃f∈l,∀h g:A5,g[0]?=↥⟨.lst,BD l⟩->AB (.ref ⇑h) (.int (x%(n:Int))) (h++g)=.ok (.int f,h++g):=by obtain⟨j,Am,e⟩:=Jl x h0;rw[e];exact⟨l[j],JD _,λh g eg=>Va _ (H9 _ (by rw[Hf];exact eg)) (by simp[BD,AZ,Am])⟩
def Mn(c:Int)(k:Nat)(AP:k<1000):∃y:Int,∀h,Dz [.int c,.int k] h=.ok (.int y,h):=by
 obtain⟨f,hf,CI⟩:=mh [48271,69621,16807,39373,40692,742938285,950706376,1343714438] k (n:=8) rfl ε;obtain⟨p,AV,Aq⟩:=mh [2147483647,2147483629,2147483587,2147483579,2147483563] k (n:=5) rfl ε;have f0:0<f/\f<18446744073709551616:=(by decide:∀f∈([48271,69621,16807,39373,40692,742938285,950706376,1343714438]:↑Int),0<f/\f<18446744073709551616) f hf;have Jo:0<p:=(by decide:∀p∈([2147483647,2147483629,2147483587,2147483579,2147483563]:↑Int),0<p) p AV;refine⟨((c%10^30+31*k+7)*f%p)/7,λh=>?_⟩;have CI:=CI h [⟨.lst,BD [48271,69621,16807,39373,40692,742938285,950706376,1343714438]⟩] rfl;have Aq:=Aq h [⟨.lst,BD [2147483647,2147483629,2147483587,2147483579,2147483563]⟩] rfl;erw[BD,D9,I2,Int.cast_ofNat_Int]at CI Aq;have Bd:∀x:Int,L6 x f:=λx=>.inr (by constructor<;>lia);have Co:L6 31 (k:Int):=.inl ε;have F5:OL 10 30:=ε
 simp[Dz,bS,nw,At,CI,Aq,Bd,Co,F5,Jo]
noncomputable def Bx(cs:↑Nat):↑W:=cs.map λ(c:Nat)=>W.int (c:Int)
abbrev Af:=Nat×Nat
noncomputable def A_(d:Af):W:=.tup [.int (d.1:Nat),.int (d.2:Nat)]
def CE(w:Af×Af):W:=.tup [A_ w.1,A_ w.2]
noncomputable def ends(ws:ξ):↑Af:=(ws.map λw=>[w.1,w.2]).flatten
theorem Yc{α:Type}:∀(l:↑α)(i:Nat)(h:i< ⇑l),List.Perm (l[i]::l.eraseIdx i) l
 |x::l,0,_=>List.Perm.refl _
 |x::l,i+1,h=>by have CC:=Yc l i (h:);erw[List.getElem_cons_succ,rR];exact(List.Perm.swap x _ _).trans (CC.cons x)
noncomputable def P4(cs:↑Nat)(h:Nat):↑Af:=(Ch (cs.getD h 0)).map λk=>(h,k)
noncomputable def DC(cs:↑Nat)(n:Nat):↑Af:=(Ch n).flatMap (P4 cs)
def bY(cs:↑Nat)(n:Nat):DC cs (n+1)=DC cs n++P4 cs n:=by unfold DC;rw[Xg,List.flatMap_append];simp
def dY{cs:↑Nat}{h:Nat}{d:Af}:d∈P4 cs h↔d.1=h/\d.2<cs.getD h 0:=by
 unfold P4;rw[Ua];constructor
 .rintro⟨k,AP,rfl⟩;exact⟨rfl,List.mem_range.mp AP⟩
 .rintro⟨rfl,h2⟩;exact⟨d.2,List.mem_range.mpr h2,rfl⟩
def W4{cs:↑Nat}{n:Nat}{d:Af}:d∈DC cs n↔d.1<n/\d.2<cs.getD d.1 0:=by
 unfold DC;rw[List.mem_flatMap];constructor
 .rintro⟨h,hh,hd⟩;obtain⟨rfl,h2⟩:=dY.mp hd;exact⟨List.mem_range.mp hh,h2⟩
 .rintro⟨h1,h2⟩;exact⟨d.1,List.mem_range.mpr h1,dY.mpr ⟨rfl,h2⟩⟩
def vK(cs:↑Nat)(h:Nat):(P4 cs h).Nodup:=by unfold P4;rw[XI,S6];exact List.nodup_range.imp λVF z=>VF (Prod.mk.inj z).2
theorem iG(cs:↑Nat):∀n,(DC cs n).Nodup
 |0=>SG
 |n+1=>by rw[bY];refine List.nodup_append.mpr ⟨iG cs n,vK cs n,λa AF b A4 z=>?_⟩;subst z;have h1:=(W4.mp AF).1;have h2:=(dY.mp A4).1;lia
def j7{cs:↑Nat}(h:∀c∈cs,c<=4)(k:Nat):cs.getD k 0<=4:=by
 rw[Eh];cases e:cs[k]? with
 |none=>simp
 |some c=>simpa using h c (KD e)
def vJ{cs:↑Nat}(h:∀c∈cs,1<=c/\c<=4)(k:Nat):⇑(P4 cs k)<=4:=by unfold P4;rw[CU,gT];exact j7 (λc AI=>(h c AI).2) k
theorem YK{cs:↑Nat}(h:∀c∈cs,1<=c/\c<=4):∀n,⇑(DC cs n)<=4*n
 |0=>by simp[DC]
 |n+1=>by rw[bY,Em];have:=YK h n;have:=vJ h n;lia
def Vj{cs:↑Nat}{h:Nat}(hh:h< ⇑cs):(Bx cs)[h]?=↥(.int (cs.getD h 0:Nat)):=by simp[Bx,CP hh,Eh]
structure K_(cs:↑Nat)(ws:ξ):Prop where
 h1:1<=⇑cs
 FH:⇑cs<=6
 c:∀c∈cs,1<=c/\c<=4
 C7:(ends ws).Nodup
 sub:∀d∈ends ws,d∈DC cs ⇑cs
 few:⇑ws<100
def head_mem{cs:↑Nat}(h1:1<=⇑cs)(c:∀c∈cs,1<=c/\c<=4):((0,0):Af)∈DC cs ⇑cs:=by
 refine W4.mpr ⟨h1,?_⟩;cases cs with
 |nil=>simp at h1
 |cons x r=>exact(c x (HP ..)).1
@[simp] theorem aik(cs:↑Nat):Fg (Bx cs)=true:=JI.mpr λw hw=>by obtain⟨c,_,rfl⟩:=List.mem_map.mp hw;simp
@[simp] theorem fD(d:Af):DE (A_ d)=true:=by simp[A_]
@[simp] theorem l6(w:Af×Af):DE (CE w)=true:=by simp[CE]
def H7{α:Type}(f:α->W)(l:↑α)(e:∀a,DE (f a)=true):Fg (l.map f)=true:=JI.mpr λw hw=>by obtain⟨c,_,rfl⟩:=List.mem_map.mp hw;exact e c
def az:OL 10 60:=ε
def tO(cell:Int):∃cs:↑Nat,(1<=⇑cs/\ ⇑cs<=6)/\(∀c∈cs,1<=c/\c<=4)/\∀h,TH [.int cell] h=.ok (.ref ⇑h,h++[⟨.lst,Bx cs⟩]):=by
 by_cases ho:cell%2=1
 .obtain⟨N,hN⟩:∃N:Int,cell/2%1000000000000000000000000000000000000000000000000000000000000=N:=π;obtain⟨m,hm,em⟩:=Jl (N) (n:=6) ε;have dP:(1:Int)+N%6=(m:Int)+1:=by have:N%6=(m:Int):=em;lia
  let G:Nat->Int:=λk=>([1,4,16,64,256,1024]:↑Int).getD k 1
  have Aj:∀k,0<G k/\G k<1073741824:=λk=>by
   by_cases AP:k<6
   .rcases(by lia:k=0\/k=1\/k=2\/k=3\/k=4\/k=5)with rfl|rfl|rfl|rfl|rfl|rfl<;>exact⟨ε,ε⟩
   .have:G k=1:=by erw[G];rw[Eh,J9 (by simp;lia)];rfl
    rw[this];decide
  let Kf:Nat->Nat:=λk=>(1+N/6/G k%4).toNat
  have Vf:∀k,1<=Kf k/\Kf k<=4/\1+N/6/G k%4=(Kf k:Int):=λk=>by erw[Kf];lia
  refine⟨(Ch (m+1)).map Kf,⟨γ,by simp;lia⟩,λc AI=>?_,λh=>?_⟩
  .obtain⟨k,_,rfl⟩:=List.mem_map.mp AI;exact⟨(Vf k).1,(Vf k).2.1⟩
  .have c:=Vi (mi:=Dr (Z (A0 addW ζ (A0 BK (I 1) (pu (.int 6)))) A1)) (e:=Bh (A0 addW ζ (A0 BK (A0 CT (A0 CT (I 1) (pu (.int 6))) (A0 AB (Bg (Z ζ (Z (pu (.int 4)) (Z (pu (.int 16)) (Z (pu (.int 64)) (Z (pu (.int 256)) (Z (pu (.int 1024)) A1))))))) (I 0))) (pu (.int 4)))))
     (ρ:=[↥(.int cell),↥(.int (N))]) (h:=h) (h0:=h) (caps:=[1]) 0 (m+1) (λk=>.int (Kf k:Nat)) δ (LN (n:=m+1) (by
       simp[dP]) δ) (λk AP acc=>by
       have ex:AB (.ref (⇑h+1)) (.int (k:Int)) (h++[⟨.lst,acc⟩,⟨.lst,BD [1,4,16,64,256,1024]⟩])=.ok (.int (G k),h++[⟨.lst,acc⟩,⟨.lst,BD [1,4,16,64,256,1024]⟩]):=Va (ws:=BD [1,4,16,64,256,1024]) _ (H9 _ γ) (by rcases(by lia:k=0\/k=1\/k=2\/k=3\/k=4\/k=5)with rfl|rfl|rfl|rfl|rfl|rfl<;>rfl)
       erw[BD,D9,I2]at ex;have:=(Vf k).2.2;simp[nw,At,ex,Aj k,this])
   simp[TH,Z4,ho,az,hN];rw[c];simp;rw[Nc h _ rfl (by exact H7 _ _ λa=>γ)];simp[Bx,NC]
 .obtain⟨y,DP⟩:=Mn cell 0 ε;obtain⟨m,hm,em⟩:=Jl y (n:=6) ε;have dP:(1:Int)+y%6=(m:Int)+1:=by have:y%6=(m:Int):=em;lia
  have ex:∀k:Nat,∃c:Nat,(1<=c/\c<=4)/\(k<10->∃z:Int,(∀h,Dz [.int cell,.int (1+(k:Int))] h=.ok (.int z,h))/\1+z%4=(c:Int)):=λk=>by
   by_cases AP:k<10
   .obtain⟨z,FN⟩:=Mn cell (1+k) δ;exact⟨(1+z%4).toNat,δ,λ_=>⟨z,λh=>by rw[<-FN h];simp,δ⟩⟩
   .exact⟨1,δ,λh=>absurd h AP⟩
  let Kf:Nat->Nat:=λk=>(ex k).choose
  have Vf:∀k,1<=Kf k/\Kf k<=4:=λk=>(ex k).choose_spec.1;have tl:∀k:Nat,k<10->∃z:Int,(∀h,Dz [.int cell,.int (1+(k:Int))] h=.ok (.int z,h))/\1+z%4=(Kf k:Int):=λk=>(ex k).choose_spec.2;refine⟨(Ch (m+1)).map Kf,⟨γ,by simp;lia⟩,λc AI=>?_,λh=>?_⟩
  .obtain⟨k,_,rfl⟩:=List.mem_map.mp AI;exact Vf k
  .have uv:Dz [.int cell,.int 0] h=.ok (.int y,h):=DP h
   have c:=Vi (mi:=Dr (Z (A0 addW ζ (A0 BK (Ae 2 Dz (Z (I 0) (Z η A1))) (pu (.int 6)))) A1)) (e:=A0 addW ζ (A0 BK (Ae 2 Dz (Z (I 1) (Z (A0 addW ζ (I 0)) A1))) (pu (.int 4))))
    (ρ:=[↥(.int cell),none]) (h:=h) (h0:=h) (caps:=[0]) 0 (m+1) (λk=>.int (Kf k:Nat)) δ (LN (n:=m+1) (by
      simp[uv,dP]) δ) (λk AP acc=>by
      obtain⟨z,AC,AH⟩:=tl k δ;simp[AC,AH])
   simp[TH,Z4,ho];rw[c];simp;rw[Nc h _ rfl (by exact H7 _ _ λa=>γ)];simp[Bx,NC]
end FG
namespace C2
open PySem PySem.Spec B5
def Lr{h g:A5}(p:h<+: g):G2 h g=true:=by obtain⟨r,rfl⟩:=p;simp
def IB{h g:A5}(p:h<+: g)(r:A5):h<+: g++r:=p.trans (Fy _ _)
def Lb{h:A5}{i j:Nat}{a b:↑W}(AC:h[i]?=↥⟨.lst,a⟩)(AH:h[j]?=↥⟨.lst,b⟩)(l:⇑a+⇑b<=At):addW (.ref i) (.ref j) h=.ok (.ref ⇑h,h++[⟨.lst,a++b⟩]):=by have f1:=Ol h AC;have f2:=Ol h AH;unfold addW;erw[f1,f2];exact I8 h (l:)
def Gl{h:A5}{n:Nat}{ws:↑W}(e:h[n]?=↥⟨.lst,ws⟩):Be [.ref n] h=.ok (.int ⇑ws,h):=by simp[Be,H9 h e]
def Gk{h:A5}{n k:Nat}{ws:↑W}{w:W}(e:h[n]?=↥⟨.lst,ws⟩)(x:ws[k]?=↥w):AB (.ref n) (.int (k:Int)) h=.ok (w,h):=Va h (H9 h e) x
end C2
namespace FG
open PySem PySem.Spec B5 C2
def hp{cs:↑Nat}(FH:⇑cs<=6)(FT:∀c∈cs,1<=c/\c<=4){h:A5}{n:Nat}(Ay:h[n]?=↥⟨.lst,Bx cs⟩):Rj [.ref n] h=.ok (.ref ⇑h,h++[⟨.lst,(DC cs ⇑cs).map A_⟩]):=by
 apply Ends.done;have lcs:⇑(Bx cs)=⇑cs:=by simp[Bx]
 erw[Rj,Wr,bR,Ax,DU,Mx,CY,A2,I8 h (show⇑([]:↑W)<=At by simp),OW,K7];erw[VW,D9,I2,DX,F2,HD,N9,HE,Uc,GR,Qf,NB,Qk,if_true,A2,B1,Ax,K7]
 have B3:=R5 (mi:=Dr (Z (B6 Be (Z (I 0) A1)) A1)) (g:=AA 2) (b:=AX (Bh (A0 addW (I 1) (Dq 1 [2] (Dr (Z (A0 AB (I 0) (I 2)) A1)) (AA 0) (pu true) (BE (Z (I 1) (Z (I 0) A1)))))) (AA 1))
  (ρ:=[↥(.ref n),↥(.ref ⇑h),none]) (h:=h++[⟨.lst,[]⟩]) (h0:=h++[⟨.lst,[]⟩]) 0 ⇑cs δ
  (λj ρ h'=>∃a s2,ρ=[↥(.ref n),↥(.ref a),s2]/\h'[n]?=↥⟨.lst,Bx cs⟩/\h'[a]?=↥⟨.lst,(DC cs j).map A_⟩/\ ⇑h<=a/\h<+: h')
  (T:=λf h'=>∃a s2,f=.AR [↥(.ref n),↥(.ref a),s2]/\h'[a]?=↥⟨.lst,(DC cs ⇑cs).map A_⟩/\ ⇑h<=a/\h<+: h')
  (LN (n:=⇑cs) (by simp[Gl (CB h Ay _),lcs]) δ) ⟨⇑h,none,rfl,CB h Ay _,by simp[DC],C9 _,Fy _ _⟩ ?_ ?_
 .obtain⟨f,h',CI,a,s2,rfl,BW,Ga,pr⟩:=B3.Gc;rw[CI];simp[IU h h' (Lr pr) Ga BW (H7 _ _ fD)]
 .rintro j _ H1 Am ⟨a,s2,rfl,AC,AH,Ga,pr⟩;refine⟨[↥(.ref n),↥(.ref a),↥(.int (j:Int))],H1,γ,?_⟩;have ajG:=j7 (λc AI=>(FT c AI).2) j;have E9:=YK FT j
  have c:=Vi (mi:=Dr (Z (A0 AB (I 0) (I 2)) A1)) (e:=BE (Z (I 1) (Z (I 0) A1))) (ρ:=[↥(.ref n),↥(.ref a),↥(.int (j:Int))]) (h:=H1) (h0:=H1) (caps:=[2]) 0 (cs.getD j 0) (λk=>A_ (j,k)) δ
   (LN (by erw[CG,Bb,v_var,DV,EG,CS,A2,Gk AC (Vj Am),CY]) δ) (λk AP acc=>by simp[At,A_])
  erw[DU,FD,Bb,v_var,EG,DV,CS,A2,c];rw[Lb (b:=(Ch (cs.getD j 0)).map λk=>A_ (j,k)) (CB H1 AH _) γ (by erw[CU,gT,At];lia)];have es:=IU H1 (H1++[⟨.lst,(Ch (cs.getD j 0)).map λk=>A_ (j,k)⟩]++[⟨.lst,(DC cs j).map A_++(Ch (cs.getD j 0)).map λk=>A_ (j,k)⟩]) (n:=⇑H1+1) (ws:=(DC cs j).map A_++(Ch (cs.getD j 0)).map λk=>A_ (j,k)) γ δ γ (JI.mpr λw hw=>by
   rcases List.mem_append.mp hw with hw|hw
   .obtain⟨d,_,rfl⟩:=List.mem_map.mp hw;simp
   .obtain⟨d,_,rfl⟩:=List.mem_map.mp hw;simp)
  erw[A2,Em,DX,F2,Nat.zero_add,es];erw[OW,DX,F2,HE,Qk,if_true,Vq,YO,Qf,NB];refine⟨⇑H1,↥(.int (j:Int)),rfl,CB H1 AC _,?_,List.IsPrefix.length_le pr,IB pr _⟩;rw[bY];simp[P4]
 .rintro _ h' ⟨a,s2,rfl,AC,AH,Ga,pr⟩;exact⟨a,s2,rfl,AH,Ga,pr⟩
end FG
namespace C2
open PySem PySem.Spec B5
def K3{h:A5}{n:Nat}{ws:↑W}{m:B7}{ρ:B9}{h0:A5}(e:h[n]?=↥⟨.lst,ws⟩)(em:m ρ h0=.ok (.ref n,h)):DR m ρ h0=.ok (FI (.ref n),h):=by unfold DR;erw[Hu,em,A2,H9 h e]
def Mh{h:A5}{n:Nat}{ws:↑W}(e:h[n]?=↥⟨.lst,ws⟩)(j:Nat):FI (.ref n) j h=↥ws[j]?:=by erw[FI,H9 h e]
@[simp] theorem ajR(f g:DG)(x y:W)(ρ:B9)(h:A5):EY [f,g] (.tup [x,y]) ρ h=(f x ρ h).bind (OR λρ h=>(g y ρ h).bind (OR BR)):=by
  erw[EY,UB,DX,F2,Tp,Ax];rw[if_pos trivial]
  congr
end C2
namespace FG
open PySem PySem.Spec B5 C2
def b4(h:A5)(d:Af):CD 8 h (A_ d)=↥(.Cg true [.int (d.1:Nat),.int (d.2:Nat)]):=by simp[A_,CD]
def Ya(h:A5)(a b:Af):Ap true (A_ a) (A_ b) h=.ok (.AL (decide (a=b)),h):=by
 unfold Ap;rw[b4,b4];erw[eqT,GE]
 congr 3
 obtain⟨a1,a2⟩:=a;obtain⟨DY,Fe⟩:=b;by_cases h1:a1=DY<;>by_cases h2:a2=Fe<;>simp[h1,h2]
 all_goals lia
noncomputable def EX:ξ->Af->Option Af
 |[],_=>none
 |w::ws,d=>if w.1=d then↥w.2 else if w.2=d then↥w.1 else EX ws d
def IA:Option Af->W
 |none=>.non
 |some d=>A_ d
@[simp] theorem aid(o:Option Af):DE (IA o)=true:=by cases o<;>simp[IA]
def iZ{ws:ξ}(AG:⇑ws<100){h:A5}{n:Nat}(Ay:h[n]?=↥⟨.lst,ws.map CE⟩)(d:Af):P_ [.ref n,A_ d] h=.ok (IA (EX ws d),h):=by
 apply Ends.done
 have B3:=Pm (mi:=DR (I 0)) (it:=FI (.ref n)) (g:=EY [(AA 2),(AA 3)]) (b:=AN (BU (AT (A0 (Ap true) (I 2) (I 1))) (Au (I 3)) BR) (BU (AT (A0 (Ap true) (I 3) (I 1))) (Au (I 2)) BR))
  (ρ:=[↥(.ref n),↥(A_ d),none,none]) (h:=h) (h0:=h) (ws.map CE) (by simp;lia)
  (λj ρ h'=>∃s2 s3,ρ=[↥(.ref n),↥(A_ d),s2,s3]/\h'=h/\EX (ws.drop j) d=EX ws d)
  (T:=λf h'=>h'=h/\((∃ρ,f=.AR ρ/\EX ws d=none)\/f=.EM (IA (EX ws d))))
  (K3 Ay γ) (λj ρ h' _⟨_,_,_,e,_⟩=>by rw[e];exact Mh Ay j) ⟨none,none,rfl,rfl,rfl⟩ ?_ ?_
 .obtain⟨f,h',CI,rfl,q⟩:=B3.Gc;erw[P_,Wr,bQ,Ax,K7,VW,D9,I2,DX,F2,HD,N9,HE,Uc,GR,CI,A2];rcases q with⟨ρ,rfl,e⟩|rfl
  .simp[e,IA]
  .simp
 .rintro j w _ H1 C_ ⟨s2,s3,rfl,EF,e⟩;subst EF;rw[E5]at C_;cases CH:ws[j]? with
  |none=>rw[CH]at C_;cases C_
  |some p=>
   rw[CH]at C_;cases C_;have Am:j< ⇑ws:=(List.getElem?_eq_some_iff.mp CH).1;have hd:ws.drop j=p::ws.drop (j+1):=by rw[gQ Am];have:=(List.getElem?_eq_some_iff.mp CH).2;rw[this]
   rw[hd]at e;refine⟨[↥(.ref n),↥(A_ d),↥(A_ p.1),↥(A_ p.2)],H1,by simp[CE],?_⟩;erw[EX]at e;by_cases h1:p.1=d
   .rw[if_pos h1]at e;simp[Ya,h1,<-e,IA]
   .rw[if_neg h1]at e;by_cases h2:p.2=d
    .rw[if_pos h2]at e;simp[Ya,h1,h2,<-e,IA]
    .rw[if_neg h2]at e;simp[Ya,h1,h2,e]
 .rintro _ _ ⟨s2,s3,rfl,rfl,e⟩;refine⟨rfl,.inl ⟨_,rfl,?_⟩⟩;rw[<-e];simp[EX]
def yw(h:A5)(o:Option Af):EZ true (IA o) .non h=.ok (.AL o.isNone,h):=by cases o<;>rfl
def ad4{cs:↑Nat}{ws:ξ}(N:K_ cs ws){h:A5}{n k:Nat}(Ay:h[n]?=↥⟨.lst,Bx cs⟩)(DH:h[k]?=↥⟨.lst,ws.map CE⟩) :
  Sx [.ref n,.ref k] h=.ok (.ref ⇑h,h++[⟨.lst,((DC cs ⇑cs).filter λd=>(EX ws d).isNone).map A_⟩]):=by
 have Iv:=hp N.FH N.c Ay;have E9:=YK N.c ⇑cs;have aaw:=N.FH
 have c:=Pi (mi:=DR (Ae 1 Rj (Z (I 0) A1))) (it:=FI (.ref ⇑h)) (g:=AA 0) (t:=AT (A0 (EZ true) (Ae 2 P_ (Z (I 1) (Z (I 0) A1))) (pu (.non)))) (e:=I 0) (ρ:=[↥(.ref n),↥(.ref k)]) (h:=h++[⟨.lst,(DC cs ⇑cs).map A_⟩]) (h0:=h) (nl:=1) (caps:=[1])
  ((DC cs ⇑cs).map A_) (λw=>match w with
    |.tup [.int a,.int b]=>(EX ws (a.toNat,b.toNat)).isNone
    |_=>false) id (λρ=>∃x,ρ=[x,↥(.ref k)]) (by simp;lia) (K3 (ws:=(DC cs ⇑cs).map A_) γ (by simp[Iv])) ⟨none,rfl⟩ (λj acc _=>Mh (by rw[EB];simp) j) (by
    rintro w hw ρ acc ⟨x,rfl⟩;obtain⟨d,hd,rfl⟩:=List.mem_map.mp hw;refine⟨[↥(A_ d),↥(.ref k)],γ,⟨_,rfl⟩,?_,λ_=>γ⟩;have b:=iZ N.few (CB _ (CB h DH [⟨.lst,(DC cs ⇑cs).map A_⟩]) [⟨.lst,acc⟩]) d;erw[GM,Bb,IV,CG,v_var,DV,EG,CS,A2,CY,DX,F2,HE,if_true,b,Bq,yw,Gj];simp[A_])
 erw[Sx,Wr,br,Fb,VW,D9,I2,DX,F2,HD,N9,HE,Uc,GR,Io,c,A2,H8];have CI:(((DC cs ⇑cs).map A_).filter λw=>match w with
   |.tup [.int a,.int b]=>(EX ws (a.toNat,b.toNat)).isNone
   |_=>false)=((DC cs ⇑cs).filter λd=>(EX ws d).isNone).map A_:=by
  rw[List.filter_map]
  congr 1
 rw[CI,List.map_id];exact IU h _ (Lr (IB (Fy _ _) _)) γ γ (H7 _ _ fD)
end FG
namespace C2
open PySem PySem.Spec B5
theorem Yb{α β:Type}(f:α->β):∀(l:↑α)(k:Nat),(l.map f).eraseIdx k=(l.eraseIdx k).map f
 |[],_=>γ
 |x::l,0=>γ
 |x::l,k+1=>by simp[Yb f l k]
def ae0:(2:Int)^63=9223372036854775808:=ε
def eh{ws:↑W}{k:Nat}(AP:k< ⇑ws)(AG:⇑ws<1000):JK ws [.int (k:Int)]=↥(ws[k],ws.eraseIdx k):=by
 have c: -(2^63)<=(k:Int)/\(k:Int)<2^63:=by rw[ae0];lia
 have e:SK (k:Int) ⇑ws=↥k:=by unfold SK;simp[show¬(k:Int)<0 by lia,AP]
 erw[JK,if_pos c,e,CP AP,Qd]
def I7{f:NK}{m:B7}{a:EP}{ρ:B9}{h h1 h2:A5}{n:Nat}{ws ws2 ws' us:↑W}{r:W}(em:m ρ h=.ok (.ref n,h1))(AC:h1[n]?=↥⟨.lst,ws⟩)(BW:a ρ h1=.ok (us,h2))(AH:h2[n]?=↥⟨.lst,ws2⟩)(CI:f ws2 us=↥(r,ws'))(AG:⇑ws'<=At) :
  D6 f m a ρ h=.ok (r,h2.set n ⟨.lst,ws'⟩):=by
 rw[agH,em];erw[A2,aA,Ol h1 AC,Hu,BW,ZY,Ol h2 AH,CI];exact if_pos AG
def Rq{h g:A5}(p:h<+: g){n:Nat}(l:⇑h<=n)(o:O):h<+: g.set n o:=by obtain⟨r,rfl⟩:=p;rw[rt _ _ l];exact Fy _ _
def Er{h:A5}{i j:Nat}(ne:i≠j)(o:O):(h.set i o)[j]?=h[j]?:=MN ne
def Hr{h:A5}{i:Nat}{o o':O}(e:h[i]?=↥o'):(h.set i o)[i]?=↥o:=J8 (List.getElem?_eq_some_iff.mp e).1
def Fz{h:A5}{i:Nat}{o:O}(e:h[i]?=↥o):i< ⇑h:=(List.getElem?_eq_some_iff.mp e).1
end C2
namespace FG
open PySem PySem.Spec B5 C2
def ud(ws:ξ)(w:Af×Af):ends (ws++[w])=ends ws++[w.1,w.2]:=by simp[ends]
def cV(ws:ξ):⇑(ends ws)=2*⇑ws:=by
 induction ws with
 |nil=>rfl
 |cons w ws CC=>simp[ends]at CC |-;lia
noncomputable def fa:Ai:=AN (AX (D6 JK (I 2) (Z (A0 BK (A0 AB (I 7) η) (B6 Be (Z (I 2) A1))) A1)) (AA 8))
    (AN (AX (D6 JK (I 2) (Z (A0 BK (A0 AB (I 7) ζ) (B6 Be (Z (I 2) A1))) A1)) (AA 9))
    (AN (E_ (D6 DK (I 3) (Z (BE (Z (I 8) (Z (I 9) A1))) A1)))
    (AX (A0 addW (I 6) (pu (.int 2))) (AA 6))))
noncomputable def F4(cell:Int)(n a b:Nat)(nm Bl:Int)(k:Nat)(s7 Gd EN:Option W):B9:=[↥(.int cell),↥(.ref n),↥(.ref a),↥(.ref b),↥(.int nm),↥(.int Bl),↥(.int (k:Int)),s7,Gd,EN]
structure OG(h:A5)(a b:Nat)(R:↑Af)(ws:ξ)(h':A5):Prop where
 BW:h'[a]?=↥⟨.lst,R.map A_⟩
 BI:h'[b]?=↥⟨.lst,ws.map CE⟩
 ne:a≠b
 Ga:⇑h<=a
 Jd:⇑h<=b
 pr:h<+: h'
def OG.more{h:A5}{a b:Nat}{R:↑Af}{ws:ξ}{h':A5}(w:OG h a b R ws h')(g:A5):OG h a b R ws (h'++g):=⟨CB _ w.BW g,CB _ w.BI g,w.ne,w.Ga,w.Jd,IB w.pr g⟩
noncomputable def bW(cell:Int)(n:Nat)(h:A5)(al:↑Af)(Bl:Int)(m:Nat)(ρ:B9)(h':A5):Prop:=∃(a b:Nat)(ws:ξ)(R:↑Af)(nm:Int)(s7 Gd EN:Option W),(ends ws++R).Perm al/\1<=⇑R/\m=⇑R/\OG h a b R ws h'/\ρ=F4 cell n a b nm Bl (9+2*⇑ws) s7 Gd EN
def qJ{cell:Int}{n a b p:Nat}{h AU:A5}{al R:↑Af}{ws:ξ}{nm Bl:Int}{Gd EN:Option W}{q1 q2:Int}(T:FL->A5->Prop)(pm:(ends ws++R).Perm al)(Og:3<=⇑R)(dr:⇑al<=100)(w:OG h a b R ws AU)(Aq:AU[p]?=↥⟨.lst,[.int q1,.int q2]⟩)(WH:p≠a) :
  Ends (fa (F4 cell n a b nm Bl (9+2*⇑ws) ↥(.ref p) Gd EN) AU) (Lw (λE4 h'=>∃m,m< ⇑R/\bW cell n h al Bl m E4 h') T):=by
 have E9:⇑(ends ws)+⇑R=⇑al:=by have:=pm.length_eq;simpa using this
 rw[cV]at E9;obtain⟨k1,cR,ua⟩:=Jl q1 (n:=⇑R) δ;have Q2:⇑(R.eraseIdx k1)=⇑R-1:=gO cR;obtain⟨k2,PF,ub⟩:=Jl q2 (n:=⇑(R.eraseIdx k1)) δ;have abI:⇑((R.eraseIdx k1).eraseIdx k2)=⇑R-2:=by rw[gO PF];lia
 obtain⟨Bv,D_⟩:∃Bv,Bv=AU.set a ⟨.lst,(R.eraseIdx k1).map A_⟩:=⟨_,rfl⟩;have f1:Bv[a]?=↥⟨.lst,(R.eraseIdx k1).map A_⟩:=by rw[D_];exact Hr w.BW
 have f2:Bv[p]?=↥⟨.lst,[.int q1,.int q2]⟩:=by rw[D_,Er WH.symm];exact Aq
 have Ey:Bv[b]?=↥⟨.lst,ws.map CE⟩:=by rw[D_,Er w.ne];exact w.BI
 have t1:D6 JK (I 2) (Z (A0 BK (A0 AB (I 7) η) (B6 Be (Z (I 2) A1))) A1) (F4 cell n a b nm Bl (9+2*⇑ws) ↥(.ref p) Gd EN) AU=.ok (A_ R[k1],Bv):=by
  rw[D_];have G_:AB (.ref p) (.int 0) AU=.ok (.int q1,AU):=Gk (k:=0) Aq rfl;refine I7 (ws:=R.map A_) (ws2:=R.map A_) (us:=[.int (k1:Int)]) (h1:=AU) (h2:=AU) (by simp[F4]) w.BW ?_ w.BW ?_ (by simp[At];lia)
  .simp[F4,G_,Gl w.BW,show 0< ⇑R by lia];exact ua
  .rw[eh (cR:) (by simp;lia)];simp[Yb]
 obtain⟨Cb,Jz⟩:∃Cb,Cb=Bv.set a ⟨.lst,((R.eraseIdx k1).eraseIdx k2).map A_⟩:=⟨_,rfl⟩;have g1:Cb[a]?=↥⟨.lst,((R.eraseIdx k1).eraseIdx k2).map A_⟩:=by rw[Jz];exact Hr f1
 have g3:Cb[b]?=↥⟨.lst,ws.map CE⟩:=by rw[Jz,Er w.ne];exact Ey
 have Ca:∀ng,D6 JK (I 2) (Z (A0 BK (A0 AB (I 7) ζ) (B6 Be (Z (I 2) A1))) A1) (F4 cell n a b nm Bl (9+2*⇑ws) ↥(.ref p) ng EN) Bv=.ok (A_ (R.eraseIdx k1)[k2],Cb):=λng=>by
  rw[Jz];have Ck:AB (.ref p) (.int 1) Bv=.ok (.int q2,Bv):=Gk (k:=1) f2 rfl;refine I7 (ws:=(R.eraseIdx k1).map A_) (ws2:=(R.eraseIdx k1).map A_) (us:=[.int (k2:Int)]) (h1:=Bv) (h2:=Bv) (by simp[F4]) f1 ?_ f1 ?_ (by simp[At];lia)
  .have:0< ⇑(R.eraseIdx k1):=δ
   erw[F4,CG,Bb,GA,v_var,Bq,CY,EG,DV,CS,A2,Ck,Gl f1,LJ,CU];rw[if_pos δ];erw[A2,ub]
  .rw[eh (PF:) (by simp;lia)];simp[Yb]
 have t3:D6 DK (I 3) (Z (BE (Z (I 8) (Z (I 9) A1))) A1) (F4 cell n a b nm Bl (9+2*⇑ws) ↥(.ref p) ↥(A_ R[k1]) ↥(A_ (R.eraseIdx k1)[k2])) Cb=.ok (.non,Cb.set b ⟨.lst,(ws++[(R[k1],(R.eraseIdx k1)[k2])]).map CE⟩):=
  I7 (ws:=ws.map CE) (ws2:=ws.map CE) (us:=[CE (R[k1],(R.eraseIdx k1)[k2])]) (h1:=Cb) (h2:=Cb) (by simp[F4]) g3 (by simp[F4,At,CE]) g3 (by simp[DK]) (by simp[At];lia)
 have CZ:OG h a b ((R.eraseIdx k1).eraseIdx k2) (ws++[(R[k1],(R.eraseIdx k1)[k2])]) (Cb.set b ⟨.lst,(ws++[(R[k1],(R.eraseIdx k1)[k2])]).map CE⟩):=⟨by rw[Er w.ne.symm];exact g1,Hr g3,w.ne,w.Ga,w.Jd,Rq (by rw[Jz];exact Rq (by rw[D_];exact Rq w.pr w.Ga _) w.Ga _) w.Jd _⟩;unfold fa;erw[Ax,DU,t1,A2];have Es:AA 8 (A_ R[k1]) (F4 cell n a b nm Bl (9+2*⇑ws) ↥(.ref p) Gd EN) Bv=.ok (.AR (F4 cell n a b nm Bl (9+2*⇑ws) ↥(.ref p) ↥(A_ R[k1]) EN),Bv):=rfl;have Ec:AA 9 (A_ (R.eraseIdx k1)[k2]) (F4 cell n a b nm Bl (9+2*⇑ws) ↥(.ref p) ↥(A_ R[k1]) EN) Cb=.ok (.AR (F4 cell n a b nm Bl (9+2*⇑ws) ↥(.ref p) ↥(A_ R[k1]) ↥(A_ (R.eraseIdx k1)[k2])),Cb):=rfl;rw[Es];erw[A2,B1,Ax,DU,Ca];rw[Ec];erw[A2,B1,Ax,Hv,t3,DU];refine⟨.AR (F4 cell n a b nm Bl (9+2*⇑ws+2) ↥(.ref p) ↥(A_ R[k1]) ↥(A_ (R.eraseIdx k1)[k2])),Cb.set b ⟨.lst,(ws++[(R[k1],(R.eraseIdx k1)[k2])]).map CE⟩,by simp[F4],?_⟩;refine⟨⇑R-2,δ,a,b,ws++[(R[k1],(R.eraseIdx k1)[k2])],(R.eraseIdx k1).eraseIdx k2,nm,_,_,_,?_,δ,abI.symm,CZ,by rw[Em];rfl⟩;rw[ud,EB];refine List.Perm.trans (gI _ ?_) pm;exact((Yc (R.eraseIdx k1) k2 PF).cons _).trans (Yc R k1 cR)
def hs{α β MJ:Type}(r:C2.R α)(f:α->C2.R β)(g:β->C2.R MJ):(r.bind f).bind g=r.bind λa=>(f a).bind g:=by cases r<;>rfl
noncomputable def f_:Ai:=AN (AX (Bg (Z (I 4) (Z (A0 CT (I 4) (B6 Be (Z (I 2) A1))) A1))) (AA 7))
    (AX (A0 CT (A0 CT (I 4) (B6 Be (Z (I 2) A1))) (A0 Nf (B6 Be (Z (I 2) A1)) ζ)) (AA 4))
noncomputable def Wz:Ai:=AN (AX (Bg (Z (Ae 2 Dz (Z (I 0) (Z (I 6) A1))) (Z (Ae 2 Dz (Z (I 0) (Z (A0 addW (I 6) ζ) A1))) A1))) (AA 7))
    (AN (BU (AT (A0 (Ap true) (A0 BK (I 0) (pu (.int 2))) ζ)) f_ BR) fa)
noncomputable def aD:DN:=AT (A0 Kl (B6 Be (Z (I 2) A1)) (A0 addW (I 5) ζ))
def afe{cell:Int}{n a b:Nat}{h H1:A5}{al R:↑Af}{ws:ξ}{nm Bl:Int}{s7 Gd EN:Option W}(T:FL->A5->Prop)(pm:(ends ws++R).Perm al)(Og:3<=⇑R)(dr:⇑al<=100)(w:OG h a b R ws H1) :
  Ends (Wz (F4 cell n a b nm Bl (9+2*⇑ws) s7 Gd EN) H1) (Lw (λE4 h'=>∃m,m< ⇑R/\bW cell n h al Bl m E4 h') T):=by
 have E9:⇑(ends ws)+⇑R=⇑al:=by have:=pm.length_eq;simpa using this
 rw[cV]at E9;obtain⟨MZ,f1⟩:=Mn cell (9+2*⇑ws) δ;obtain⟨Ni,f2⟩:=Mn cell (9+2*⇑ws+1) δ;have uw:∀h,Dz [.int cell,.int (((9+2*⇑ws:Nat):Int)+1)] h=.ok (.int Ni,h):=f2;have Ga:=Fz w.BW;have s1:AX (Bg (Z (Ae 2 Dz (Z (I 0) (Z (I 6) A1))) (Z (Ae 2 Dz (Z (I 0) (Z (A0 addW (I 6) ζ) A1))) A1))) (AA 7) (F4 cell n a b nm Bl (9+2*⇑ws) s7 Gd EN) H1=.ok (.AR (F4 cell n a b nm Bl (9+2*⇑ws) ↥(.ref ⇑H1) Gd EN),H1++[⟨.lst,[.int MZ,.int Ni]⟩]):=by erw[F4,DU,Mx,CG,IV,Bb,v_var,Bq,CY,EG,DV,CS,A2,DX,F2,HE,if_true,Mp,f1,uw,I8 H1 (show⇑([.int MZ,.int Ni]:↑W)<=At by simp[At]),OW,Qk,Qf,NB]
 unfold Wz;erw[Ax,s1,A2,B1];by_cases ho:cell%2=1
 .have jl:(0:Int)<(⇑R:Int)/\(⇑R:Int)<1073741824:=δ
  have Cp:(0:Int)<(⇑R:Int)-1/\(⇑R:Int)-1<1073741824:=δ
  have AC:∀g,(H1++g)[a]?=↥⟨.lst,R.map A_⟩:=λg=>CB H1 w.BW g;have c:AT (A0 (Ap true) (A0 BK (I 0) (pu (.int 2))) ζ) (F4 cell n a b nm Bl (9+2*⇑ws) ↥(.ref ⇑H1) Gd EN) (H1++[⟨.lst,[.int MZ,.int Ni]⟩])=.ok (true,H1++[⟨.lst,[.int MZ,.int Ni]⟩]):=by simp[F4,ho]
  have s2:f_ (F4 cell n a b nm Bl (9+2*⇑ws) ↥(.ref ⇑H1) Gd EN) (H1++[⟨.lst,[.int MZ,.int Ni]⟩])=.ok (.AR (F4 cell n a b (nm/⇑R/((⇑R:Int)-1)) Bl (9+2*⇑ws) ↥(.ref (⇑H1+1)) Gd EN),H1++[⟨.lst,[.int MZ,.int Ni]⟩,⟨.lst,[.int nm,.int (nm/⇑R)]⟩]):=by simp[f_,F4,Gl (AC _),jl,Cp,show 0< ⇑R by lia,show 1< ⇑R by lia,show(1:Int)<(⇑R:Int)by lia,nw,At]
  erw[Db,c,A2,if_true,s2,B1];exact qJ (q1:=nm) (q2:=nm/⇑R) T pm Og dr (w.more _) γ δ
 .have c:AT (A0 (Ap true) (A0 BK (I 0) (pu (.int 2))) ζ) (F4 cell n a b nm Bl (9+2*⇑ws) ↥(.ref ⇑H1) Gd EN) (H1++[⟨.lst,[.int MZ,.int Ni]⟩])=.ok (false,H1++[⟨.lst,[.int MZ,.int Ni]⟩]):=by simp[F4,ho]
  erw[Db,c,A2,MO,if_false,FC,B1];exact qJ (q1:=MZ) (q2:=Ni) T pm Og dr (w.more _) γ δ
def afg(cell:Int)(cs:↑Nat)(h1:1<=⇑cs)(FH:⇑cs<=6)(FT:∀c∈cs,1<=c/\c<=4){h:A5}{n:Nat}(Ay:h[n]?=↥⟨.lst,Bx cs⟩) :
  ∃ws,K_ cs ws/\(∃d∈DC cs ⇑cs,d∉ends ws)/\Os [.int cell,.ref n] h=.ok (.ref ⇑h,h++[⟨.lst,ws.map CE⟩]):=by
 have CA:1<=⇑(DC cs ⇑cs):=gN (head_mem h1 FT);have ai8:=YK FT ⇑cs;have abw:=iG cs ⇑cs;have Iv:=hp FH FT Ay;obtain⟨qO,vQ⟩:=Mn cell 8 ε;have jP:∀h,Dz [.int cell,.int 8] h=.ok (.int qO,h):=vQ;obtain⟨N,hN⟩:∃N:Int,cell/2%1000000000000000000000000000000000000000000000000000000000000/24576=N:=π;suffices AO:∃ws,K_ cs ws/\(∃d∈DC cs ⇑cs,d∉ends ws)/\Ends (Os [.int cell,.ref n] h) (λw h'=>w=.ref ⇑h/\h'=h++[⟨.lst,ws.map CE⟩])by
  obtain⟨ws,a,b,c⟩:=AO;exact⟨ws,a,b,c.done⟩
 obtain⟨BM,C4⟩:∃BM,BM=h++[⟨.lst,(DC cs ⇑cs).map A_⟩,⟨.lst,[]⟩]:=π;have OY:OG h ⇑h (⇑h+1) (DC cs ⇑cs) [] BM:=⟨by rw[C4];simp,by rw[C4];simp,δ,C9 _,δ,by rw[C4];exact Fy _ _⟩;have B3:∀(nm Bl:Int),1<=Bl->Ends (T4 aD Wz (F4 cell n ⇑h (⇑h+1) nm Bl 9 none none none) BM) (λf h'=>∃a b ws R nm s7 Gd EN,f=.AR (F4 cell n a b nm Bl (9+2*⇑ws) s7 Gd EN)/\(ends ws++R).Perm (DC cs ⇑cs)/\1<=⇑R/\OG h a b R ws h'):=λnm Bl kP=>by refine ue (bW cell n h (DC cs ⇑cs) Bl) (n:=⇑(DC cs ⇑cs)) δ ⟨⇑h,⇑h+1,[],DC cs ⇑cs,nm,none,none,none,.refl _,CA,rfl,OY,rfl⟩ ?_;rintro m _ H1 ⟨a,b,ws,R,nm,s7,Gd,EN,pm,Cp,rfl,w,rfl⟩;refine⟨decide (Bl+1<(⇑R:Int)),H1,by simp[aD,F4,Gl w.BW],λ_=>⟨a,b,ws,R,nm,s7,Gd,EN,rfl,pm,Cp,w⟩,λBV=>afe _ pm (by have:=of_decide_eq_true BV;lia) δ w⟩
 have fin:∀(nm Bl:Int),1<=Bl->(Os [.int cell,.ref n] h=(Gc (T4 aD Wz (F4 cell n ⇑h (⇑h+1) nm Bl 9 none none none) BM)).bind λp=>(OR (Au (I 3)) p).bind λp=>(outF p).bind λq=>settle h q.1 q.2)->∃ws,K_ cs ws/\(∃d∈DC cs ⇑cs,d∉ends ws)/\Ends (Os [.int cell,.ref n] h) (λw h'=>w=.ref ⇑h/\h'=h++[⟨.lst,ws.map CE⟩]):=λnm Bl kP e=>by
  obtain⟨f,h',CI,a,b,ws,R,aim,s7,Gd,EN,rfl,pm,Cp,w⟩:=(B3 nm Bl kP).Gc;have E9:⇑(ends ws)+⇑R=⇑(DC cs ⇑cs):=by have:=pm.length_eq;simpa using this
  rw[cV]at E9;have C7:(ends ws++R).Nodup:=pm.nodup_iff.mpr abw;have TS:R[0]∈R:=JD _;refine⟨ws,⟨h1,FH,FT,(List.nodup_append.mp C7).1,λd hd=>pm.mem_iff.mp (JC _ hd),δ⟩,⟨R[0],pm.mem_iff.mp (Hw _ TS),λz=>(List.nodup_append.mp C7).2.2 _ z _ TS rfl⟩,?_⟩;rw[e,CI];simp[F4,IU h h' (Lr w.pr) w.Jd w.BI (H7 _ _ l6)]
 have BI:d0=AN (AX (Ae 1 Rj (Z (I 1) A1)) (AA 2))
  (AN (AX (Bg A1) (AA 3))
  (AN (AX (A0 CT (A0 BK (A0 CT (I 0) (pu (.int 2))) (A0 Oy (pu (.int 10)) (pu (.int 60)))) (pu (.int 24576))) (AA 4))
  (AN (AX (A0 addW ζ (A0 BK (Ae 2 Dz (Z (I 0) (Z (pu (.int 8)) A1))) (pu (.int 3)))) (AA 5))
  (AN (BU (AT (A0 (Ap true) (A0 BK (I 0) (pu (.int 2))) ζ)) (AN (AX (A0 addW ζ (A0 BK (I 4) (pu (.int 24)))) (AA 5)) (AX (A0 CT (I 4) (pu (.int 24))) (AA 4))) BR)
  (AN (AX (pu (.int 9)) (AA 6))
  (AN (Zc aD Wz) (Au (I 3)))))))):=rfl
 by_cases ho:cell%2=1
 .refine fin (N/24) (1+N%24) δ ?_;simp[Os,BI,Iv,nw,At,az,hN,jP,ho];rw[C4];exact hs _ _ _
 .refine fin N (1+qO%3) δ ?_;simp[Os,BI,Iv,nw,At,az,hN,jP,ho];rw[C4];exact hs _ _ _
def LF(c:Nat):Prop:=c=48\/c=49\/c=120
structure RY(x:Str):Prop where
 l:⇑x.cps.toList=4
 s:∀c∈x.cps.toList,LF c
def si{x y:Str}(h:A5)(l:⇑x+⇑y<=At):addW (.str x) (.str y) h=.ok (.str (x++y),h):=if_pos l
def iD(x:Str)(c:Nat):(x++(⟨#[c]⟩:Str)).cps.toList=x.cps.toList++[c]:=by show(x.cps++ #[c]).toList=_;simp
structure Cz where
 p:Str
 a:Option Nat
 b:Option Nat
noncomputable def D8:Option Nat->W
 |none=>.non
 |some k=>.int (k:Int)
def Eb(r:Cz):W:=.tup [.str r.p,D8 r.a,D8 r.b]
@[simp] theorem aie(o:Option Nat):DE (D8 o)=true:=by cases o<;>simp[D8]
@[simp] theorem l4(r:Cz):DE (Eb r)=true:=by simp[Eb]
structure Sc(c:Nat)(r:Cz):Prop where
 p:RY r.p
 a:∀k,r.a=↥k->k<c
 b:∀k,r.b=↥k->k<c
def L5(c:Nat)(b:↑Cz):Prop:=⇑b<=12/\∀r∈b,Sc c r
def j8{cs:↑Nat}(h:∀c∈cs,1<=c/\c<=4){k:Nat}(AP:k< ⇑cs):1<=cs.getD k 0/\cs.getD k 0<=4:=by have:=h (cs[k]) (JD _);simpa[AP]using this
noncomputable def Hs(z:Int):Nat:=if z%5=2 then 48 else if z%5=3 then 49 else 120
def afD(z:Int):LF (Hs z):=by
 unfold Hs LF
 split
 .exact .inl rfl
 .split
  .exact .inr (.inl rfl)
  .exact .inr (.inr rfl)
noncomputable def pt(q:Int)(Fa:Int->Nat):Nat->Int->Str×Int
 |0,y=>(AK "",y)
 |j+1,y=>((pt q Fa j y).1++(⟨#[Fa (pt q Fa j y).2]⟩:Str),(pt q Fa j y).2/q)
theorem eo(q:Int)(Fa:Int->Nat):∀j y,(pt q Fa j y).1.cps.toList.length=j
 |0,y=>by erw[pt];decide
 |j+1,y=>by erw[pt];rw[iD,Em,eo q Fa j y];rfl
theorem m2{q:Int}{Fa:Int->Nat}(ok:∀z,LF (Fa z)):∀j y,∀c∈(pt q Fa j y).1.cps.toList,LF c
 |0,y,c,h=>nomatch (show c∈([]:↑Nat)from h)
 |j+1,y,c,h=>by
  erw[pt]at h;rw[iD]at h;rcases List.mem_append.mp h with h|h
  .exact m2 ok j y c h
  .rw[List.mem_singleton.mp h];exact ok _
def m1{q:Int}{Fa:Int->Nat}(ok:∀z,LF (Fa z))(y:Int):RY (pt q Fa 4 y).1:=⟨eo q Fa 4 y,m2 ok 4 y⟩
def ly(h:A5)(q:Int)(Fa:Int->Nat)(j:Nat)(Am:j<1000)(y:Int):addW (.str (pt q Fa j y).1) (.str ⟨#[Fa (pt q Fa j y).2]⟩) h=.ok (.str (pt q Fa (j+1) y).1,h):=by refine si h ?_;have AC:(pt q Fa j y).1.length=j:=eo q Fa j y;have AH:⇑(⟨#[Fa (pt q Fa j y).2]⟩:Str)=1:=rfl;rw[AC,AH];unfold At;lia
abbrev five:↑W:=[.str (AK "x"),.str (AK "x"),.str (AK "0"),.str (AK "1"),.str (AK "x")]
def acv(z:Int):∃k:Nat,z%5=(k:Int)/\five[k]?=↥(.str ⟨#[Hs z]⟩):=by
 have h:z%5=0\/z%5=1\/z%5=2\/z%5=3\/z%5=4:=δ
 unfold Hs;rcases h with h|h|h|h|h<;>rw[h]
 .exact⟨0,rfl,rfl⟩
 .exact⟨1,rfl,rfl⟩
 .exact⟨2,rfl,rfl⟩
 .exact⟨3,rfl,rfl⟩
 .exact⟨4,rfl,rfl⟩
noncomputable def rowOf(y:Int)(c:Nat):Cz:=⟨(pt 5 Hs 4 y).1,if(pt 5 Hs 4 y).2%3=0 then↥((pt 5 Hs 4 y).2/3%(c:Int)).toNat else none,if(pt 5 Hs 4 y).2/100%9=0 then none else↥((pt 5 Hs 4 y).2/20%(c:Int)).toNat⟩
def Zi(x:Int){c:Nat}(AI:1<=c):(x%(c:Int)).toNat<c/\(((x%(c:Int)).toNat:Nat):Int)=x%(c:Int):=by obtain⟨k,AP,e⟩:=Jl x (n:=c) δ;rw[e];simp[AP]
def adW(y:Int){c:Nat}(AI:1<=c):Sc c (rowOf y c):=by
 refine⟨m1 afD y,λk e=>?_,λk e=>?_⟩
 .erw[rowOf]at e
  split at e
  .cases e;exact(Zi _ AI).1
  .cases e
 .erw[rowOf]at e
  split at e
  .cases e
  .cases e;exact(Zi _ AI).1
def ady{cell y:Int}{k c:Nat}(DP:∀h,Dz [.int cell,.int k] h=.ok (.int y,h))(AI:1<=c)(VH:c<=4)(h:A5):Wk [.int cell,.int k,.int (c:Int)] h=.ok (Eb (rowOf y c),h):=by
 apply Ends.done;obtain⟨z,FN⟩:∃z,z=(pt 5 Hs 4 y).2:=π
 have B3:=R5 (mi:=Dr (Z (pu (.int 4)) A1)) (g:=AA 5) (b:=AN (AX (Bh (A0 addW (I 4) (A0 AB (Bg (Z (pu (.str (AK "x"))) (Z (pu (.str (AK "x"))) (Z (pu (.str (AK "0"))) (Z (pu (.str (AK "1"))) (Z (pu (.str (AK "x"))) A1)))))) (A0 BK (I 3) (pu (.int 5)))))) (AA 4)) (AX (A0 CT (I 3) (pu (.int 5))) (AA 3)))
  (ρ:=[↥(.int cell),↥(.int k),↥(.int c),↥(.int y),↥(.str (AK "")),none,none,none]) (h:=h) (h0:=h) 0 4 δ
  (λj ρ h'=>h'=h/\∃s5,ρ=[↥(.int cell),↥(.int k),↥(.int c),↥(.int (pt 5 Hs j y).2),↥(.str (pt 5 Hs j y).1),s5,none,none])
  (T:=λf h'=>h'=h/\∃s5,f=.AR [↥(.int cell),↥(.int k),↥(.int c),↥(.int z),↥(.str (pt 5 Hs 4 y).1),s5,none,none])
  (LN (n:=4) γ δ) ⟨rfl,none,rfl⟩ ?_ ?_
 .obtain⟨f,h',CI,rfl,s5,rfl⟩:=B3.Gc;erw[Wk,Wr,cz,Ax,DU,IV,CG,CY,v_var,Bq,VW,D9,I2,DX,F2,HD,N9,HE,Uc,GR,DV,EG,CS,A2,if_true,DP,OW,Qk,Qf,NB,B1,K7,CI];have H5:=Zi (z/3) AI;have H6:=Zi (z/20) AI;have QL:(0:Int)<(c:Int):=δ
  by_cases BO:z%3=0<;>by_cases wo:z/100%9=0<;>simp[BO,wo,QL,show 0<c by lia,At,Eb,rowOf,<-FN,D8,H5.2,H6.2]
 .rintro j _ _ Am ⟨rfl,s5,rfl⟩;rename_i H1;refine⟨[↥(.int cell),↥(.int k),↥(.int c),↥(.int (pt 5 Hs j y).2),↥(.str (pt 5 Hs j y).1),↥(.int (j:Int)),none,none],H1,γ,?_⟩;obtain⟨p,Aq,ex⟩:=acv (pt 5 Hs j y).2;have EJ:AB (.ref ⇑H1) (.int (p:Int)) (H1++[⟨.lst,five⟩])=.ok (.str ⟨#[Hs (pt 5 Hs j y).2]⟩,H1++[⟨.lst,five⟩]):=Gk γ ex;erw[Ax,DU,FD,Bb,Mx,CG,CY,v_var,Bq,DV,EG,CS,A2,I8 H1 (show⇑five<=At by simp[At]),LJ,show(0:Int)<5 by decide,if_true,Aq,EJ,ly _ 5 Hs j δ y,Ru H1 [⟨.lst,five⟩] (.str (pt 5 Hs (j+1) y).1) γ,OW,DX,F2,HE,Qk,Qf,NB,B1,Lc];simp[pt]
 .rintro _ _ ⟨rfl,s5,rfl⟩;exact⟨rfl,s5,by rw[FN]⟩
noncomputable def HN(z:Int):Nat:=if z%3=0 then 48 else if z%3=1 then 49 else 120
def afC(z:Int):LF (HN z):=by
 unfold HN LF
 split
 .exact .inl rfl
 .split
  .exact .inr (.inl rfl)
  .exact .inr (.inr rfl)
def acu(h:A5)(z:Int):AB (.str (AK "01x")) (.int (z%3)) h=.ok (.str ⟨#[HN z]⟩,h):=by
 have e:z%3=0\/z%3=1\/z%3=2:=δ
 unfold HN;rcases e with e|e|e<;>rw[e]<;>rfl
noncomputable def Jy(c:Nat):↑W:=.non::(Ch c).map λi:Nat=>W.int (i:Int)
def choice{c:Nat}{h:A5}{n:Nat}(Ay:h[n]?=↥⟨.lst,Jy c⟩)(y:Int):∃o:Option Nat,(∀k,o=↥k->k<c)/\AB (.ref n) (.int (y%((c:Int)+1))) h=.ok (D8 o,h):=by
 obtain⟨k,AP,e⟩:=Jl y (n:=c+1) δ;have e:y%((c:Int)+1)=(k:Int):=by rw[<-e];simp
 rw[e];cases k with
 |zero=>exact⟨none,(λ_ h=>nomatch h),Gk (k:=0) Ay rfl⟩
 |succ k=>exact⟨↥k,(λj h=>by cases h;lia),Gk (k:=k+1) Ay (by simp[Jy,D8,show k<c by lia])⟩
noncomputable def jb:Ai:=Eo (Dr (Z (pu (.int 4)) A1)) (AA 7) (AN (AX (A0 addW (I 6) (A0 AB (pu (.str (AK "01x"))) (A0 BK (I 0) (pu (.int 3))))) (AA 6)) (AX (A0 CT (I 0) (pu (.int 3))) (AA 0)))
noncomputable def fBody:Ai:=AN (AX (pu (.str (AK ""))) (AA 6)) (AN jb
    (AN (E_ (D6 DK (I 2) (Z (BE (Z (I 6) (Z (A0 AB (I 4) (A0 BK (I 0) (A0 addW (I 1) ζ))) (Z (A0 AB (I 4) (A0 BK (A0 CT (I 0) (A0 addW (I 1) ζ)) (A0 addW (I 1) ζ))) A1)))) A1)))
    (AX (A0 CT (A0 CT (I 0) (A0 addW (I 1) ζ)) (A0 addW (I 1) ζ)) (AA 0))))
noncomputable def GN(z:Int)(c b m ch:Nat)(s5 s6 s7:Option W):B9:=[↥(.int z),↥(.int c),↥(.ref b),↥(.int m),↥(.ref ch),s5,s6,s7]
def xA(y:Int)(c b m ch:Nat)(s5 s7:Option W)(h:A5):∃WP,jb (GN y c b m ch s5 ↥(.str (AK "")) s7) h=.ok (.AR (GN (pt 3 HN 4 y).2 c b m ch s5 ↥(.str (pt 3 HN 4 y).1) WP),h):=by
 have B3:=R5 (mi:=Dr (Z (pu (.int 4)) A1)) (g:=AA 7) (b:=AN (AX (A0 addW (I 6) (A0 AB (pu (.str (AK "01x"))) (A0 BK (I 0) (pu (.int 3))))) (AA 6)) (AX (A0 CT (I 0) (pu (.int 3))) (AA 0)))
  (ρ:=GN y c b m ch s5 ↥(.str (AK "")) s7) (h:=h) (h0:=h) 0 4 δ
  (λj ρ h'=>h'=h/\∃s7,ρ=GN (pt 3 HN j y).2 c b m ch s5 ↥(.str (pt 3 HN j y).1) s7)
  (T:=λf h'=>h'=h/\∃s7,f=.AR (GN (pt 3 HN 4 y).2 c b m ch s5 ↥(.str (pt 3 HN 4 y).1) s7))
  (LN (n:=4) γ δ) ⟨rfl,s7,rfl⟩ ?_ ?_
 .obtain⟨f,h',CI,rfl,s,rfl⟩:=B3.Gc;exact⟨s,CI⟩
 .rintro j _ H1 Am ⟨EF,s,rfl⟩;subst EF;refine⟨GN (pt 3 HN j y).2 c b m ch s5 ↥(.str (pt 3 HN j y).1) ↥(.int (j:Int)),H1,by simp[GN],?_⟩;erw[GN,Ax,DU,Bb,v_var,Bq,DV,EG,CS,A2,LJ,show(0:Int)<3 by decide,if_true,acu,ly _ 3 HN j δ y,OW,DX,F2,HE,Qk,Qf,NB,B1,Lc];simp[pt]
 .rintro _ H1 ⟨EF,s,rfl⟩;exact⟨EF,s,rfl⟩
def xK(y:Int){c:Nat}(AI:1<=c)(VH:c<=4)(h:A5){m:Nat}(hm:m<13):∃(b:↑Cz)(ρ:B9),⇑b=m/\(∀r∈b,Sc c r)/\ρ[2]?=↥↥(.ref ⇑h)/\Gc (Q6 (Dr (Z (I 3) A1)) (AA 5) fBody (GN (y/13) c ⇑h m (⇑h+1) none none none) (h++[⟨.lst,[]⟩,⟨.lst,Jy c⟩]))=.ok (.AR ρ,h++[⟨.lst,b.map Eb⟩,⟨.lst,Jy c⟩]):=by
 have B3:=R5 (mi:=Dr (Z (I 3) A1)) (g:=AA 5) (b:=fBody) (ρ:=GN (y/13) c ⇑h m (⇑h+1) none none none) (h:=h++[⟨.lst,[]⟩,⟨.lst,Jy c⟩]) (h0:=h++[⟨.lst,[]⟩,⟨.lst,Jy c⟩]) 0 m δ
  (λj ρ h'=>∃(z:Int)(b:↑Cz)(s5 s6 s7:Option W),⇑b=j/\(∀r∈b,Sc c r)/\ρ=GN z c ⇑h m (⇑h+1) s5 s6 s7/\h'=h++[⟨.lst,b.map Eb⟩,⟨.lst,Jy c⟩])
  (T:=λf h'=>∃(b:↑Cz)(ρ:B9),⇑b=m/\(∀r∈b,Sc c r)/\f=.AR ρ/\ρ[2]?=↥↥(.ref ⇑h)/\h'=h++[⟨.lst,b.map Eb⟩,⟨.lst,Jy c⟩])
  (LN (n:=m) (by simp[GN]) δ) ⟨_,[],_,_,_,rfl,(λ_ h=>nomatch h),rfl,rfl⟩ ?_ ?_
 .obtain⟨f,h',CI,b,ρ,AG,A4,rfl,AH,rfl⟩:=B3.Gc;exact⟨b,ρ,AG,A4,AH,CI⟩
 .rintro j _ _ Am ⟨z,b,s5,s6,s7,AG,A4,rfl,rfl⟩;obtain⟨H,C4⟩:∃H,H=h++[⟨.lst,b.map Eb⟩,⟨.lst,Jy c⟩]:=π;refine⟨GN z c ⇑h m (⇑h+1) ↥(.int (j:Int)) s6 s7,H,by rw[C4];simp[GN],?_⟩;have BI:H[⇑h]?=↥⟨.lst,b.map Eb⟩:=by rw[C4];simp
  have ec:H[⇑h+1]?=↥⟨.lst,Jy c⟩:=by rw[C4];simp
  obtain⟨WP,GQ⟩:=xA z c ⇑h m (⇑h+1) ↥(.int (j:Int)) s7 H;obtain⟨FE,FN⟩:∃FE,FE=(pt 3 HN 4 z).2:=π;rw[<-FN]at GQ;obtain⟨Cu,h1,AC⟩:=choice ec FE;obtain⟨E0,h2,AH⟩:=choice ec (FE/((c:Int)+1));have Bd:(0:Int)<(c:Int)+1:=δ
  have Co:(0:Int)<(c:Int)+1/\(c:Int)+1<1073741824:=δ
  have s1:AX (pu (.str (AK ""))) (AA 6) (GN z c ⇑h m (⇑h+1) ↥(.int (j:Int)) s6 s7) H=.ok (.AR (GN z c ⇑h m (⇑h+1) ↥(.int (j:Int)) ↥(.str (AK "")) s7),H):=rfl;have s3:D6 DK (I 2) (Z (BE (Z (I 6) (Z (A0 AB (I 4) (A0 BK (I 0) (A0 addW (I 1) ζ))) (Z (A0 AB (I 4) (A0 BK (A0 CT (I 0) (A0 addW (I 1) ζ)) (A0 addW (I 1) ζ))) A1)))) A1) (GN FE c ⇑h m (⇑h+1) ↥(.int (j:Int)) ↥(.str (pt 3 HN 4 z).1) WP) H=.ok (.non,H.set ⇑h ⟨.lst,(b++[(⟨(pt 3 HN 4 z).1,Cu,E0⟩:Cz)]).map Eb⟩):=
   I7 (ws:=b.map Eb) (ws2:=b.map Eb) (us:=[Eb (⟨(pt 3 HN 4 z).1,Cu,E0⟩:Cz)]) (h1:=H) (h2:=H) (by simp[GN]) BI (by erw[GN,CG,QU,Bb,v_var,Bq,CY,DV,EG,CS,A2,Mp,LJ,Lc,if_pos Bd,if_pos Co,AC,AH];simp[At,Eb]) BI (by simp[DK]) (by simp[At];lia)
  have s5:AX (A0 CT (A0 CT (I 0) (A0 addW (I 1) ζ)) (A0 addW (I 1) ζ)) (AA 0) (GN FE c ⇑h m (⇑h+1) ↥(.int (j:Int)) ↥(.str (pt 3 HN 4 z).1) WP) (H.set ⇑h ⟨.lst,(b++[(⟨(pt 3 HN 4 z).1,Cu,E0⟩:Cz)]).map Eb⟩)=.ok (.AR (GN (FE/((c:Int)+1)/((c:Int)+1)) c ⇑h m (⇑h+1) ↥(.int (j:Int)) ↥(.str (pt 3 HN 4 z).1) WP),H.set ⇑h ⟨.lst,(b++[(⟨(pt 3 HN 4 z).1,Cu,E0⟩:Cz)]).map Eb⟩):=by erw[GN,DU,Bb,v_var,Bq,DV,EG,CS,A2,Mp,Lc,if_pos Co,OW,DX,F2,HE,Qk,if_true,NB]
  unfold fBody;erw[Ax,s1,A2,B1,GQ,Hv,s3,s5,Vq,YO];refine⟨_,b++[(⟨(pt 3 HN 4 z).1,Cu,E0⟩:Cz)],_,_,_,by simp[AG],λr BF=>?_,rfl,by rw[C4];simp⟩;rcases List.mem_append.mp BF with BF|BF
  .exact A4 r BF
  .rw[List.mem_singleton.mp BF];exact⟨m1 afC z,h1,h2⟩
 .rintro ρ h' ⟨z,b,s5,s6,s7,AG,A4,rfl,rfl⟩;exact⟨b,_,AG,A4,rfl,rfl,rfl⟩
def abJ{c:Nat}(AI:c<1000)(h:A5):Oj [.int (c:Int)] h=.ok (.ref ⇑h,h++[⟨.lst,(Ch c).map λi:Nat=>W.int (i:Int)⟩]):=by
 have l:⇑(Fh ((Ch c).map λi:Nat=>(i:Int)))<=At:=by simp[Fh,At];lia
 have Co:(c:Int)<=1000000:=δ
 have Bd: -(2^62)<=(c:Int)/\(c:Int)<=1000000:=⟨(nZ AI).1,Co⟩;erw[Oj,if_pos Bd,Qg];rw[I8 h l];simp[Fh,NC]
def xM(z:Int){c:Nat}(VH:c<=4)(m:Nat)(h:A5):Bh (A0 addW (Bg (Z (pu (.non)) A1)) (B6 Oj (Z (I 1) A1))) (GN z c ⇑h m 0 none none none|>.set 4 none) (h++[⟨.lst,[]⟩])=.ok (.ref (⇑h+1),h++[⟨.lst,[]⟩,⟨.lst,Jy c⟩]):=by simp only[GN,Qf,NB,FD,Bb,Mx,CG,CY,Bq,A2,I8 (h++[⟨.lst,[]⟩]) (show⇑([.non]:↑W)<=At by simp[At]),GA,v_var,EG,DV,CS,abJ (show c<1000 by lia)];rw[Lb (a:=[.non]) (b:=(Ch c).map λi:Nat=>W.int (i:Int)) γ γ (by simp[At];lia)];erw[A2];rw[IU (ws:=Jy c) _ _ γ γ (by simp[Jy]) (by simp[Jy];exact H7 _ _ λa=>γ)];simp
def xL(y:Int){c:Nat}(AI:1<=c)(VH:c<=4)(h:A5):∃b,L5 c b/\TK [.int y,.int (c:Int)] h=.ok (.ref ⇑h,h++[⟨.lst,b.map Eb⟩]):=by
 obtain⟨m,hm,em⟩:=Jl y (n:=13) ε;have em:y%13=(m:Int):=em;obtain⟨b,ρ,AG,A4,AH,CI⟩:=xK y AI VH h hm;refine⟨b,⟨δ,A4⟩,?_⟩;have QL:(0:Int)<13:=δ
 have uJ:(0:Int)<13/\(13:Int)<1073741824:=δ
 have s1:AX (Bg A1) (AA 2) [↥(.int y),↥(.int (c:Int)),none,none,none,none,none,none] h=.ok (.AR [↥(.int y),↥(.int (c:Int)),↥(.ref ⇑h),none,none,none,none,none],h++[⟨.lst,[]⟩]):=by erw[DU,Mx,CY,A2,I8 h (show⇑([]:↑W)<=At by simp)];rfl
 have s2:AX (A0 BK (I 0) (pu (.int 13))) (AA 3) [↥(.int y),↥(.int (c:Int)),↥(.ref ⇑h),none,none,none,none,none] (h++[⟨.lst,[]⟩])=.ok (.AR [↥(.int y),↥(.int (c:Int)),↥(.ref ⇑h),↥(.int (m:Int)),none,none,none,none],h++[⟨.lst,[]⟩]):=by erw[DU,Bb,v_var,Bq,DV,CS,A2,LJ,if_pos QL,em];rfl
 have s3:AX (A0 CT (I 0) (pu (.int 13))) (AA 0) [↥(.int y),↥(.int (c:Int)),↥(.ref ⇑h),↥(.int (m:Int)),none,none,none,none] (h++[⟨.lst,[]⟩])=.ok (.AR [↥(.int (y/13)),↥(.int (c:Int)),↥(.ref ⇑h),↥(.int (m:Int)),none,none,none,none],h++[⟨.lst,[]⟩]):=by erw[DU,Bb,v_var,Bq,DV,CS,A2,Lc,if_pos uJ];rfl
 have s4:AX (Bh (A0 addW (Bg (Z (pu (.non)) A1)) (B6 Oj (Z (I 1) A1)))) (AA 4) [↥(.int (y/13)),↥(.int (c:Int)),↥(.ref ⇑h),↥(.int (m:Int)),none,none,none,none] (h++[⟨.lst,[]⟩])=.ok (.AR (GN (y/13) c ⇑h m (⇑h+1) none none none),h++[⟨.lst,[]⟩,⟨.lst,Jy c⟩]):=by have:=xM (y/13) VH m h;rw[DU,show([↥(.int (y/13)),↥(.int (c:Int)),↥(.ref ⇑h),↥(.int (m:Int)),none,none,none,none]:B9)=(GN (y/13) c ⇑h m 0 none none none).set 4 none from rfl,this];rfl
 have e:TK [.int y,.int (c:Int)] h=((((AN (AX (Bg A1) (AA 2))
   (AN (AX (A0 BK (I 0) (pu (.int 13))) (AA 3))
   (AN (AX (A0 CT (I 0) (pu (.int 13))) (AA 0))
   (AN (AX (Bh (A0 addW (Bg (Z (pu (.non)) A1)) (B6 Oj (Z (I 1) A1)))) (AA 4))
   (AN (Eo (Dr (Z (I 3) A1)) (AA 5) fBody) (Au (I 2))))))) [↥(.int y),↥(.int (c:Int)),none,none,none,none,none,none] h).bind outF).bind λq=>settle h q.1 q.2):=rfl
 rw[e,Ax,s1,A2,B1,Ax,s2,A2,B1,Ax,s3,A2,B1,Ax,s4,A2,B1,Ax,K7,CI,A2,B1,Fb,v_var,AH,CS,A2,A2,H8,A2];exact Nc h _ rfl (H7 _ _ l4)
def qG(i:Int)(h:A5):TF [.int i] h=.ok (.AL true,h):=by have AC:DQ "int" (.int i) h=.ok (.AL true,h):=rfl;have AH:DQ "bool" (.int i) h=.ok (.AL false,h):=rfl;simp[TF,bO,AC,AH]
def aq(f g:Ir)(a b c:B7)(ρ:B9)(h:A5):Oo f g a b c ρ h=(a ρ h).bind λp=>(b ρ p.2).bind λq=>(f p.1 q.1 q.2).bind λr=>N1 (λk=>if k=true then bd c λz _ h=>g q.1 z h else pu (.AL false)) r.1 ρ r.2:=rfl
def Ts(i a b:Int)(h:A5):Mk [.int i,.int a,.int b] h=.ok (.AL (decide (a<=i)&&decide (i<=b)),h):=by
 have e:=qG i h;by_cases AF:a<=i
 .simp[Mk,Yy,e,aq,N1,AF]
 .simp[Mk,Yy,e,aq,N1,AF]
end FG
namespace C2
open PySem PySem.Spec B5
theorem mapM_some{α β MJ:Type}(f:α->Option β)(g:MJ->α)(k:MJ->β)(e:∀c,f (g c)=↥(k c)):∀l:↑MJ,(l.map g).mapM f=↥(l.map k)
 |[]=>rfl
 |c::l=>by simp[e,mapM_some f g k e l]
def WO{h:A5}{n:Nat}{l:↑Int}(k:Nat)(e:h[n]?=↥⟨.lst,l.map W.int⟩):CD (k+1) h (.ref n)=↥(.Cg false (l.map Cn.int)):=by have es:=H9 h e;erw[CD,es];rw[mapM_some (CD k h) W.int Cn.int (λc=>by cases k<;>rfl) l];rfl
def eq_nil{h:A5}{n m:Nat}{l:↑Int}(b:Bool)(e:h[n]?=↥⟨.lst,l.map W.int⟩)(Ba:h[m]?=↥⟨.lst,[]⟩):Ap b (.ref n) (.ref m) h=.ok (.AL (if b then l.isEmpty else !l.isEmpty),h):=by unfold Ap;rw[WO 7 e,WO (l:=[]) 7 Ba];cases l<;>simp[eqT,GE]
end C2
namespace FG
open PySem PySem.Spec B5 C2
def FS(b:↑Cz):O:=⟨.lst,b.map Eb⟩
noncomputable def IT(a n:Nat):↑W:=(Ch n).map λi=>.ref (a+i)
def nY(a n:Nat):IT a (n+1)=IT a n++[.ref (a+n)]:=by simp[IT,Xg]
def nX(a n:Nat):⇑(IT a n)=n:=by simp[IT]
noncomputable def bB:↑W:=[.int 1,.int 2,.int 3,.int 0,.int 2,.int 4,.int 12]
def acK(z:Int):∃k m:Nat,z%7=(k:Int)/\bB[k]?=↥(.int (m:Int))/\m<=12:=by
 have h:z%7=0\/z%7=1\/z%7=2\/z%7=3\/z%7=4\/z%7=5\/z%7=6:=δ
 rcases h with h|h|h|h|h|h|h<;>rw[h]
 .exact⟨0,1,rfl,rfl,δ⟩
 .exact⟨1,2,rfl,rfl,δ⟩
 .exact⟨2,3,rfl,rfl,δ⟩
 .exact⟨3,0,rfl,rfl,δ⟩
 .exact⟨4,2,rfl,rfl,δ⟩
 .exact⟨5,4,rfl,rfl,δ⟩
 .exact⟨6,12,rfl,rfl,δ⟩
noncomputable def Ds(a n:Nat)(s:Int)(b:Nat)(s4 s5 s6:Option W):B9:=[↥(.ref a),↥(.ref n),↥(.int s),↥(.ref b),s4,s5,s6]
noncomputable def Xs:B7:=Dq 1 [5,1,4,2] (Dr (Z (I 6) A1)) (AA 0) (pu true) (Ae 3 Wk (Z (I 1) (Z (A0 addW (A0 addW (pu (.int 4)) (I 4)) (A0 KJ (pu (.int 3)) (I 0))) (Z (A0 AB (I 2) (I 3)) A1))))
def af0{cs:↑Nat}(FT:∀c∈cs,1<=c/\c<=4){H:A5}{a n b j s m:Nat}{z:Int}(Ay:H[n]?=↥⟨.lst,Bx cs⟩)(Am:j< ⇑cs)(AO:s<=1)(hm:m<=12) :
  ∃B_,L5 (cs.getD j 0) B_/\Xs (Ds a n s b ↥(.int (j:Int)) ↥(.int z) ↥(.int (m:Int))) H=.ok (.ref ⇑H,H++[FS B_]):=by
 have c:=j8 FT Am;have ex:∀k:Nat,∃y:Int,k<=12->∀h,Dz [.int z,.int ((4+s+3*k:Nat):Int)] h=.ok (.int y,h):=λk=>by
  by_cases AP:k<=12
  .obtain⟨y,e⟩:=Mn z (4+s+3*k) δ;exact⟨y,λ_=>e⟩
  .exact⟨0,λh=>absurd h AP⟩
 refine⟨(Ch m).map λk=>rowOf (ex k).choose (cs.getD j 0),⟨(hm:),λr BF=>?_⟩,?_⟩
 .obtain⟨k,_,rfl⟩:=List.mem_map.mp BF;exact adW _ c.1
 .unfold Xs;rw[Vi (ρ:=Ds a n s b ↥(.int (j:Int)) ↥(.int z) ↥(.int (m:Int))) (h:=H) (h0:=H) 0 m (λk=>Eb (rowOf (ex k).choose (cs.getD j 0))) δ (LN (n:=m) (by simp[Ds]) δ) (λk AP acc=>by
   have EJ:AB (.ref n) (.int (j:Int)) (H++[⟨.lst,acc⟩])=.ok (.int (cs.getD j 0:Nat),H++[⟨.lst,acc⟩]):=Gk (CB H Ay _) (Vj Am);have e:=ady (ex k|>.choose_spec δ) c.1 c.2 (H++[⟨.lst,acc⟩]);have F5:L6 3 (k:Int):=.inl ε;have DH:(4:Int)+(s:Int)+3*(0+(k:Int))=((4+s+3*k:Nat):Int):=δ
   erw[Ds,D9,I2,List.getD_cons_succ,List.getD_cons_zero,IV,CG,Bb,v_var,Bq,CY,DV,EG,CS,A2,Mp,abU,Int.zero_add,if_pos F5,EJ];rw[show(4:Int)+(s:Int)+3*(k:Int)=((4+s+3*k:Nat):Int)by lia];erw[DX,F2,HE,if_true,e])]
  simp[FS,NC]
noncomputable def be:Ai:=AN (AX (A0 addW (I 5) (A0 KJ (pu (.int 3)) (I 4))) (AA 5))
    (AN (AX (Bh (A0 AB (Bg (Z ζ (Z (pu (.int 2)) (Z (pu (.int 3)) (Z η (Z (pu (.int 2)) (Z (pu (.int 4)) (Z (pu (.int 12)) A1)))))))) (A0 BK (Ae 2 Dz (Z (I 5) (Z (pu (.int 3)) A1))) (pu (.int 7))))) (AA 6))
    (E_ (D6 DK (I 3) (Z Xs A1))))
noncomputable def bf:Ai:=E_ (D6 DK (I 3) (Z (Ae 2 TK (Z (A0 BK (A0 CT (I 5) (pu (.int 2))) (A0 Oy (pu (.int 10)) (pu (.int 60)))) (Z (A0 AB (I 1) (I 4)) A1))) A1))
noncomputable def Xr:Ai:=AN (AX (A0 addW (A0 addW (pu (.int 17)) (A0 KJ (pu (.int 5)) (I 4))) (I 2)) (AA 5))
    (AN (BU (Hn (AT (A0 (Ap false) (I 0) (Bg A1)))) (AX (A0 AB (I 0) (A0 BK (A0 addW (I 4) (I 2)) (B6 Be (Z (I 0) A1)))) (AA 5)) BR)
    (BU (Hn (Eg (AT (A0 (Ap false) (I 0) (Bg A1))) (AT (A0 (Ap true) (A0 BK (I 5) (pu (.int 2))) ζ)))) bf be))
def j_{cs:↑Nat}(FT:∀c∈cs,1<=c/\c<=4){H:A5}{a n b j s:Nat}{z:Int}(Ay:H[n]?=↥⟨.lst,Bx cs⟩)(Am:j< ⇑cs)(AO:s<=1){ws:↑W}(BI:H[b]?=↥⟨.lst,ws⟩)(lw:⇑ws<100)(s6:Option W):∃B_ eW eX,L5 (cs.getD j 0) B_/\be (Ds a n s b ↥(.int (j:Int)) ↥(.int z) s6) H=.ok (.AR (Ds a n s b ↥(.int (j:Int)) eW eX),(H++[FS B_]).set b ⟨.lst,ws++[.ref ⇑H]⟩):=by
 obtain⟨y,DP⟩:=Mn (z+3*(j:Int)) 3 δ;have DP:∀h,Dz [.int (z+3*(j:Int)),.int 3] h=.ok (.int y,h):=DP;obtain⟨k,m,DH,vP,hm⟩:=acK y;obtain⟨B_,A4,BA⟩:=af0 (a:=a) (b:=b) (z:=z+3*(j:Int)) FT Ay Am AO hm;refine⟨B_,↥(.int (z+3*(j:Int))),↥(.int (m:Int)),A4,?_⟩;have F5:L6 3 (j:Int):=.inl ε;have EJ:AB (.ref ⇑H) (.int (k:Int)) (H++[⟨.lst,bB⟩])=.ok (.int (m:Int),H++[⟨.lst,bB⟩]):=Gk γ vP;have s1:AX (A0 addW (I 5) (A0 KJ (pu (.int 3)) (I 4))) (AA 5) (Ds a n s b ↥(.int (j:Int)) ↥(.int z) s6) H=.ok (.AR (Ds a n s b ↥(.int (j:Int)) ↥(.int (z+3*(j:Int))) s6),H):=by simp[Ds,F5]
 have s2:AX (Bh (A0 AB (Bg (Z ζ (Z (pu (.int 2)) (Z (pu (.int 3)) (Z η (Z (pu (.int 2)) (Z (pu (.int 4)) (Z (pu (.int 12)) A1)))))))) (A0 BK (Ae 2 Dz (Z (I 5) (Z (pu (.int 3)) A1))) (pu (.int 7))))) (AA 6) (Ds a n s b ↥(.int (j:Int)) ↥(.int (z+3*(j:Int))) s6) H=.ok (.AR (Ds a n s b ↥(.int (j:Int)) ↥(.int (z+3*(j:Int))) ↥(.int (m:Int))),H):=by erw[bB]at EJ;simp[Ds,nw,At,DP,DH,EJ]
 have s3:D6 DK (I 3) (Z Xs A1) (Ds a n s b ↥(.int (j:Int)) ↥(.int (z+3*(j:Int))) ↥(.int (m:Int))) H=.ok (.non,(H++[FS B_]).set b ⟨.lst,ws++[.ref ⇑H]⟩):=
  I7 (ws:=ws) (ws2:=ws) (us:=[.ref ⇑H]) (h1:=H) (h2:=H++[FS B_]) (by simp[Ds]) BI (by rw[CG,BA];rfl) (CB H BI _) (by simp[DK]) (by simp[At];lia)
 unfold be;rw[Ax,s1,A2,B1,Ax,s2,A2,B1,Hv,s3,A2]
def abW{cs:↑Nat}(FT:∀c∈cs,1<=c/\c<=4){H:A5}{a n b j s:Nat}{z:Int}(Ay:H[n]?=↥⟨.lst,Bx cs⟩)(Am:j< ⇑cs)(AO:s<=1){ws:↑W}(BI:H[b]?=↥⟨.lst,ws⟩)(lw:⇑ws<100)(s6:Option W):∃B_,L5 (cs.getD j 0) B_/\bf (Ds a n s b ↥(.int (j:Int)) ↥(.int z) s6) H=.ok (.AR (Ds a n s b ↥(.int (j:Int)) ↥(.int z) s6),(H++[FS B_]).set b ⟨.lst,ws++[.ref ⇑H]⟩):=by
 have c:=j8 FT Am;obtain⟨N,hN⟩:∃N:Int,z/2%1000000000000000000000000000000000000000000000000000000000000=N:=π;obtain⟨B_,A4,CI⟩:=xL N c.1 c.2 H;have EJ:AB (.ref n) (.int (j:Int)) H=.ok (.int (cs.getD j 0:Nat),H):=Gk Ay (Vj Am);refine⟨B_,A4,?_⟩;have s3:D6 DK (I 3) (Z (Ae 2 TK (Z (A0 BK (A0 CT (I 5) (pu (.int 2))) (A0 Oy (pu (.int 10)) (pu (.int 60)))) (Z (A0 AB (I 1) (I 4)) A1))) A1) (Ds a n s b ↥(.int (j:Int)) ↥(.int z) s6) H=.ok (.non,(H++[FS B_]).set b ⟨.lst,ws++[.ref ⇑H]⟩):=
  I7 (ws:=ws) (ws2:=ws) (us:=[.ref ⇑H]) (h1:=H) (h2:=H++[FS B_]) (by simp[Ds]) BI (by simp[Ds,az,hN,EJ,CI,FS,-Eh]) (CB H BI _) (by simp[DK]) (by simp[At];lia)
 unfold bf;rw[Hv,s3,A2]
def sW{cs:↑Nat}(FT:∀c∈cs,1<=c/\c<=4){H:A5}{a n b j s:Nat}(Ay:H[n]?=↥⟨.lst,Bx cs⟩)(Am:j< ⇑cs)(AO:s<=1){ws:↑W}(BI:H[b]?=↥⟨.lst,ws⟩)(lw:⇑ws<100){l:↑Int}(BW:H[a]?=↥⟨.lst,BD l⟩)(s5 s6:Option W):∃B_ eW eX,L5 (cs.getD j 0) B_/\Xr (Ds a n s b ↥(.int (j:Int)) s5 s6) H=.ok (.AR (Ds a n s b ↥(.int (j:Int)) eW eX),(H++[FS B_]).set b ⟨.lst,ws++[.ref ⇑H]⟩):=by
 have Um:L6 5 (j:Int):=.inl ε;have s1:AX (A0 addW (A0 addW (pu (.int 17)) (A0 KJ (pu (.int 5)) (I 4))) (I 2)) (AA 5) (Ds a n s b ↥(.int (j:Int)) s5 s6) H=.ok (.AR (Ds a n s b ↥(.int (j:Int)) ↥(.int (17+5*(j:Int)+s)) s6),H):=by simp[Ds,Um]
 have q:Ap false (.ref a) (.ref ⇑H) (H++[⟨.lst,[]⟩])=.ok (.AL (!l.isEmpty),H++[⟨.lst,[]⟩]):=eq_nil false (CB H BW _) γ;unfold Xr;rw[Ax,s1,A2,B1];cases l with
 |nil=>
  obtain⟨B_,Mw,MG,A4,e⟩:=j_ (a:=a) (z:=17+5*(j:Int)+s) FT Ay Am AO BI lw s6;refine⟨B_,Mw,MG,A4,?_⟩;have t1:Hn (AT (A0 (Ap false) (I 0) (Bg A1))) (Ds a n s b ↥(.int (j:Int)) ↥(.int (17+5*(j:Int)+s)) s6) H=.ok (false,H):=by simp[Ds,nw,q]
  have Ca:Hn (Eg (AT (A0 (Ap false) (I 0) (Bg A1))) (AT (A0 (Ap true) (A0 BK (I 5) (pu (.int 2))) ζ))) (Ds a n s b ↥(.int (j:Int)) ↥(.int (17+5*(j:Int)+s)) s6) H=.ok (false,H):=by simp[Ds,nw,q]
  rw[Ax,Db,t1,A2,if_neg γ,FC,A2,B1,Db,Ca,A2,if_neg γ,e]
 |cons x l=>
  obtain⟨k,AP,DH⟩:=Jl ((j:Int)+s) (n:=⇑(x::l)) γ;have EJ:AB (.ref a) (.int (k:Int)) H=.ok (.int (x::l)[k],H):=Gk BW (by erw[BD];rw[E5,CP AP];rfl);obtain⟨v,ev⟩:∃v,v=(x::l)[k]:=π;rw[<-ev]at EJ;have t1:Hn (AT (A0 (Ap false) (I 0) (Bg A1))) (Ds a n s b ↥(.int (j:Int)) ↥(.int (17+5*(j:Int)+s)) s6) H=.ok (true,H):=by simp[Ds,nw,q]
  have u_:((j:Int)+s)%(⇑(BD (x::l)):Int)=(k:Int):=by rw[<-DH];simp[BD]
  have B3:(0:Int)<(⇑(BD (x::l)):Int):=by erw[BD,CU,DX];lia
  have s2:AX (A0 AB (I 0) (A0 BK (A0 addW (I 4) (I 2)) (B6 Be (Z (I 0) A1)))) (AA 5) (Ds a n s b ↥(.int (j:Int)) ↥(.int (17+5*(j:Int)+s)) s6) H=.ok (.AR (Ds a n s b ↥(.int (j:Int)) ↥(.int v) s6),H):=by erw[Ds,DU,Bb,GA,CG,CY,v_var,DV,EG,CS,A2,Mp,Gl BW,LJ,if_pos B3,u_,EJ];rfl
  rw[Ax,Db,t1,A2,if_pos rfl,s2,A2,B1,Db];by_cases ho:v%2=1
  .obtain⟨B_,A4,e⟩:=abW (a:=a) (z:=v) FT Ay Am AO BI lw s6;refine⟨B_,↥(.int v),s6,A4,?_⟩;have Ca:Hn (Eg (AT (A0 (Ap false) (I 0) (Bg A1))) (AT (A0 (Ap true) (A0 BK (I 5) (pu (.int 2))) ζ))) (Ds a n s b ↥(.int (j:Int)) ↥(.int v) s6) H=.ok (true,H):=by
    simp[Ds,nw,q,ho]
   rw[Ca,A2,if_pos rfl,e]
  .obtain⟨B_,Mw,MG,A4,e⟩:=j_ (a:=a) (z:=v) FT Ay Am AO BI lw s6;refine⟨B_,Mw,MG,A4,?_⟩;have Ca:Hn (Eg (AT (A0 (Ap false) (I 0) (Bg A1))) (AT (A0 (Ap true) (A0 BK (I 5) (pu (.int 2))) ζ))) (Ds a n s b ↥(.int (j:Int)) ↥(.int v) s6) H=.ok (false,H):=by
    simp[Ds,nw,q,ho]
   rw[Ca,A2,if_neg γ,e]
def wd{α:Type}{l r:↑α}{d:α}{i:Nat}(h:i< ⇑l):(l++r).getD i d=l.getD i d:=by rw[Eh,Gr h,<-Eh]
def we{α:Type}{l:↑α}{x d:α}:(l++[x]).getD ⇑l d=x:=by rw[Eh];simp
structure Ei(h:A5)(n:Nat)(B:↑↑Cz):Prop where
 ex:∃rs:↑Nat,h[n]?=↥⟨.lst,rs.map W.ref⟩/\ ⇑rs=⇑B/\∀(i r:Nat),rs[i]?=↥r->h[r]?=↥(FS (B.getD i []))
noncomputable def HW(cs:↑Nat)(B:↑↑Cz):Prop:=⇑B=⇑cs/\∀i,i< ⇑cs->L5 (cs.getD i 0) (B.getD i [])
def hx{cs:↑Nat}(h1:1<=⇑cs)(FH:⇑cs<=6)(FT:∀c∈cs,1<=c/\c<=4){h:A5}{a n s:Nat}{l:↑Int}(AO:s<=1)(Ay:h[n]?=↥⟨.lst,Bx cs⟩)(BW:h[a]?=↥⟨.lst,BD l⟩) :
  ∃B,HW cs B/\Ml [.ref a,.ref n,.int s] h=.ok (.ref ⇑h,h++(⟨.lst,IT (⇑h+1) ⇑cs⟩::B.map FS)):=by
 have lcs:⇑(Bx cs)=⇑cs:=by simp[Bx]
 have B3:=R5 (mi:=Dr (Z (B6 Be (Z (I 1) A1)) A1)) (g:=AA 4) (b:=Xr) (ρ:=Ds a n s ⇑h none none none) (h:=h++[⟨.lst,[]⟩]) (h0:=h++[⟨.lst,[]⟩]) 0 ⇑cs δ
  (λj ρ h'=>∃B s4 s5 s6,⇑B=j/\(∀i,i<j->L5 (cs.getD i 0) (B.getD i []))/\ρ=Ds a n s ⇑h s4 s5 s6/\h'=h++(⟨.lst,IT (⇑h+1) j⟩::B.map FS))
  (T:=λf h'=>∃B s4 s5 s6,HW cs B/\f=.AR (Ds a n s ⇑h s4 s5 s6)/\h'=h++(⟨.lst,IT (⇑h+1) ⇑cs⟩::B.map FS))
  (LN (n:=⇑cs) (by simp[Ds,Gl (CB h Ay _),lcs]) δ) ⟨[],none,none,none,rfl,λi AD=>δ,rfl,by simp[IT]⟩ ?_ ?_
 .obtain⟨f,h',CI,B,s4,s5,s6,H2,rfl,rfl⟩:=B3.Gc;refine⟨B,H2,?_⟩;have e:Ml [.ref a,.ref n,.int s] h=(AN (AX (Bg A1) (AA 3)) (AN (Eo (Dr (Z (B6 Be (Z (I 1) A1)) A1)) (AA 4) Xr) (Au (I 3))) [↥(.ref a),↥(.ref n),↥(.int s),none,none,none,none] h).bind outF:=rfl;have s1:AX (Bg A1) (AA 3) [↥(.ref a),↥(.ref n),↥(.int s),none,none,none,none] h=.ok (.AR (Ds a n s ⇑h none none none),h++[⟨.lst,[]⟩]):=by
   erw[DU,Mx,CY,A2,I8 h (show⇑([]:↑W)<=At by simp)];rfl
  rw[e,Ax,s1,A2,B1,Ax,K7,CI,A2,B1];rfl
 .rintro j _ _ Am ⟨B,s4,s5,s6,AG,H2,rfl,rfl⟩;obtain⟨H,C4⟩:∃H,H=h++(⟨.lst,IT (⇑h+1) j⟩::B.map FS):=π;have LS:⇑H=⇑h+1+j:=by rw[C4];simp[AG];lia
  refine⟨Ds a n s ⇑h ↥(.int (j:Int)) s5 s6,H,by rw[C4];simp[Ds],?_⟩;obtain⟨B_,Mw,MG,A4,e⟩:=sW (H:=H) (a:=a) (n:=n) (l:=l) (b:=⇑h) FT (by rw[C4];exact CB h Ay _) Am AO (ws:=IT (⇑h+1) j) (by rw[C4];simp) (by rw[nX];lia) (by rw[C4];exact CB h BW _) s5 s6;refine⟨_,_,e,B++[B_],_,Mw,MG,by simp[AG],λi AD=>?_,rfl,?_⟩
  .by_cases Ps:i<j
   .rw[wd δ];exact H2 i Ps
   .have:i=j:=δ
    subst this;rw[<-AG,we];rw[AG];exact A4
  .rw[LS,C4,EB,Pr];simp[nY]
 .rintro _ _ ⟨B,s4,s5,s6,AG,H2,rfl,rfl⟩;exact⟨B,s4,s5,s6,⟨AG,H2⟩,rfl,rfl⟩
def Ei.more{h:A5}{n:Nat}{B:↑↑Cz}(b:Ei h n B)(g:A5):Ei (h++g) n B:=by obtain⟨rs,e,l,r⟩:=b.ex;exact⟨rs,CB h e g,l,λi q AY=>CB h (r i q AY) g⟩
def ht{B:↑↑Cz}{m:Nat}(AG:⇑B=m)(h:A5):Ei (h++(⟨.lst,IT (⇑h+1) m⟩::B.map FS)) ⇑h B:=by
 refine⟨(Ch m).map λi=>⇑h+1+i,by simp[IT,NC],by simp[AG],λi r e=>?_⟩;rw[E5]at e;by_cases AD:i<m
 .rw[UM AD]at e;cases e;show(h++_)[⇑h+1+i]?=_;rw[show⇑h+1+i=⇑h+(i+1)by lia,PB];simp[Eh,show i< ⇑B by lia]
 .rw[J9 (AD:)]at e;cases e
def dE(ns:↑Int)(lo AD:Option Int):∃l,HI (BD ns) lo AD=BD l:=by unfold HI BD;exact⟨_,by rw[<-h7,<-Ud]⟩
def hb(ws:↑W)(lo AD:Option Int):⇑(HI ws lo AD)<=⇑ws:=by unfold HI;simp;lia
@[simp] theorem Zj(ns:↑Int):Fg (BD ns)=true:=H7 _ _ λa=>γ
def MX(m:B7)(lo AD:RV)(ρ:B9)(h:A5):DI m lo AD ρ h=(m ρ h).bind λp=>(lo ρ p.2).bind λl=>(AD ρ l.2).bind λu=>Lu p.1 l.1 u.1 ρ u.2:=rfl
def Ws(i:Int)(ρ:B9)(h:A5):CM (pu (.int i)) ρ h=.ok (↥i,h):=rfl
def hc{ns:↑Int}(AG:⇑ns<=63)(h:A5)(lo:Option Int)(AD:Option Int)(ρ:B9):∃l:↑Int,⇑l<=63/\Lu (.Df (BD ns)) lo AD ρ h=.ok (.ref ⇑h,h++[⟨.lst,BD l⟩]):=by
 obtain⟨l,e⟩:=dE ns lo AD;have:=hb (BD ns) lo AD;rw[e]at this;have LQ:⇑l<=63:=by simp[BD]at this;lia
 refine⟨l,LQ,?_⟩;unfold Lu;rw[bF];dsimp only;rw[e,I8 h (by simp[BD,At];lia)]
noncomputable def ZG:Ai:=BU (AT (A0 (Ap true) (A0 BK (Ae 2 Dz (Z (Ae 2 Ll (Z (I 0) (Z ζ A1))) (Z (I 4) A1))) (pu (.int 4))) η)) (AX (B6 FA (Z (A0 AB (I 2) (I 4)) A1)) (SV (I 3) (I 4))) BR
noncomputable def Ka(ns:↑Int)(n a b:Nat)(s4:Option W):B9:=[↥(.Df (BD ns)),↥(.ref n),↥(.ref a),↥(.ref b),s4]
def yN{m k:Nat}(h:k<m):M8 m (k:Int)=↥k:=by unfold M8;simp[h]
def uD{ns:↑Int}(AG:⇑ns<=63){cs:↑Nat}(h1:1<=⇑cs)(FH:⇑cs<=6)(FT:∀c∈cs,1<=c/\c<=4){h:A5}{n:Nat}(Ay:h[n]?=↥⟨.lst,Bx cs⟩) :
  ∃a b g A B,HW cs A/\HW cs B/\Ei (h++g) a A/\Ei (h++g) b B/\Wh [.Df (BD ns),.ref n] h=.ok (.tup [.ref a,.ref b],h++g):=by
 have lcs:⇑(Bx cs)=⇑cs:=by simp[Bx]
 obtain⟨Cp,cS,Bd⟩:=hc AG h ↥2 ↥9 [↥(.Df (BD ns)),↥(.ref n),none,none,none];obtain⟨A,Hl,No⟩:=hx h1 FH FT (s:=0) δ (CB h Ay ([⟨.lst,BD Cp⟩]:A5)) (a:=⇑h) (l:=Cp) γ;obtain⟨H1,q1⟩:∃H1,H1=(h++([⟨.lst,BD Cp⟩]:A5))++(⟨.lst,IT (⇑(h++([⟨.lst,BD Cp⟩]:A5))+1) ⇑cs⟩::A.map FS):=π;have ER:h<+: H1:=by rw[q1,EB];exact Fy _ _
 have N2:Ei H1 ⇑(h++([⟨.lst,BD Cp⟩]:A5)) A:=by rw[q1];exact ht Hl.1 _
 rw[<-q1]at No;obtain⟨CV,TY,Co⟩:=hc AG H1 ↥9 ↥16 [↥(.Df (BD ns)),↥(.ref n),↥(.ref ⇑(h++([⟨.lst,BD Cp⟩]:A5))),none,none];obtain⟨B,H2,Pl⟩:=hx h1 FH FT (s:=1) δ (CB H1 (F_ ER Ay) [⟨.lst,BD CV⟩]) (a:=⇑H1) (l:=CV) γ;obtain⟨AU,q2⟩:∃AU,AU=(H1++([⟨.lst,BD CV⟩]:A5))++(⟨.lst,IT (⇑(H1++([⟨.lst,BD CV⟩]:A5))+1) ⇑cs⟩::B.map FS):=π;have Cv:H1<+: AU:=by rw[q2,EB];exact Fy _ _
 have sP:Ei AU ⇑(h++([⟨.lst,BD Cp⟩]:A5)) A:=by rw[q2,EB];exact N2.more _
 have OP:Ei AU ⇑(H1++([⟨.lst,BD CV⟩]:A5)) B:=by rw[q2];exact ht H2.1 _
 rw[<-q2]at Pl;obtain⟨a,BW⟩:∃a,a=⇑(h++([⟨.lst,BD Cp⟩]:A5)):=π;obtain⟨b,BI⟩:∃b,b=⇑(H1++([⟨.lst,BD CV⟩]:A5)):=π;rw[<-BW]at No N2 sP Co;rw[<-BI]at Pl OP;have Jd:⇑H1<=b:=by rw[BI];simp
 have B3:=R5 (mi:=Dr (Z (B6 Be (Z (I 1) A1)) A1)) (g:=AA 4) (b:=ZG) (ρ:=Ka ns n a b none) (h:=AU) (h0:=AU) 0 ⇑cs δ
  (λj ρ h'=>∃C s4,HW cs C/\ρ=Ka ns n a b s4/\H1<+: h'/\Ei h' b C)
  (T:=λf h'=>∃C s4,HW cs C/\f=.AR (Ka ns n a b s4)/\H1<+: h'/\Ei h' b C)
  (LN (n:=⇑cs) (by simp[Ka,Gl (F_ Cv (F_ ER Ay)),lcs]) δ) ⟨B,none,H2,rfl,Cv,OP⟩ ?_ ?_
 .obtain⟨f,h',CI,C,s4,Jc,rfl,Hh,Si⟩:=B3.Gc;obtain⟨g,rfl⟩:=ER.trans Hh;obtain⟨g3,D_⟩:=Hh;refine⟨a,b,g,A,C,Hl,Jc,by rw[<-D_];exact N2.more _,Si,?_⟩
  have e:Wh [.Df (BD ns),.ref n] h=(AN (AX (Ae 3 Ml (Z (Bh (DI (I 0) (CM (pu (.int 2))) (CM (pu (.int 9))))) (Z (I 1) (Z η A1)))) (AA 2))
   (AN (AX (Ae 3 Ml (Z (Bh (DI (I 0) (CM (pu (.int 9))) (CM (pu (.int 16))))) (Z (I 1) (Z ζ A1)))) (AA 3))
   (AN (Eo (Dr (Z (B6 Be (Z (I 1) A1)) A1)) (AA 4) ZG) (Au (BE (Z (I 2) (Z (I 3) A1)))))) [↥(.Df (BD ns)),↥(.ref n),none,none,none] h).bind outF:=rfl
  have vR:Ml [.ref ⇑h,.ref n,.int 0] (h++([⟨.lst,BD Cp⟩]:A5))=.ok (.ref a,H1):=No;have vS:Ml [.ref ⇑H1,.ref n,.int 1] (H1++([⟨.lst,BD CV⟩]:A5))=.ok (.ref b,AU):=Pl;have s1:AX (Ae 3 Ml (Z (Bh (DI (I 0) (CM (pu (.int 2))) (CM (pu (.int 9))))) (Z (I 1) (Z η A1)))) (AA 2) [↥(.Df (BD ns)),↥(.ref n),none,none,none] h=.ok (.AR [↥(.Df (BD ns)),↥(.ref n),↥(.ref a),none,none],H1):=by erw[DU,IV,CG,FD,MX,Ws,v_var,Bq,CY,DV,EG,CS,A2,Bd,Nc h [⟨.lst,BD Cp⟩] rfl (Zj Cp),DX,F2,HE,if_true,vR];rfl
  have s2:AX (Ae 3 Ml (Z (Bh (DI (I 0) (CM (pu (.int 9))) (CM (pu (.int 16))))) (Z (I 1) (Z ζ A1)))) (AA 3) [↥(.Df (BD ns)),↥(.ref n),↥(.ref a),none,none] H1=.ok (.AR (Ka ns n a b none),AU):=by erw[DU,IV,CG,FD,MX,Ws,v_var,Bq,CY,DV,EG,CS,A2,Co,Nc H1 [⟨.lst,BD CV⟩] rfl (Zj CV),DX,F2,HE,if_true,vS];rfl
  rw[e,Ax,s1,A2,B1,Ax,s2,A2,B1,Ax,K7,CI,A2,B1];rfl
 .rintro j _ H Am ⟨C,s4,Jc,rfl,Hh,Si⟩;refine⟨Ka ns n a b ↥(.int (j:Int)),H,by simp[Ka],?_⟩;obtain⟨c,ec⟩:=i3 H ns 1;have ec:Ll [.Df (BD ns),.int 1] H=.ok (.int c,H):=ec;obtain⟨y,DP⟩:=Mn c j δ;by_cases Cc:y%4=0
  .obtain⟨BX,AC,Ga,ga⟩:=N2.ex;obtain⟨rb,AH,lJ,xV⟩:=Si.ex;have k4:j< ⇑BX:=by rw[Ga,Hl.1];exact Am
   have Tg:j< ⇑rb:=by rw[lJ,Jc.1];exact Am
   have f1:=F_ Hh AC;have f2:=F_ Hh (ga j BX[j] (CP k4));have EJ:AB (.ref a) (.int (j:Int)) H=.ok (.ref BX[j],H):=Gk f1 (by rw[E5,CP k4];rfl);have AL:⇑((A.getD j []).map Eb)<=At:=by have:=(Hl.2 j Am).1;rw[CU];unfold At;lia
   have ls:FA [.ref BX[j]] H=.ok (.ref ⇑H,H++[FS (A.getD j [])]):=by unfold FA;erw[H9 H f2];exact I8 H AL
   have LS:b< ⇑H:=Fz AH;refine⟨.AR (Ka ns n a b ↥(.int (j:Int))),(H++[FS (A.getD j [])]).set b ⟨.lst,(rb.set j ⇑H).map W.ref⟩,?_,C.set j (A.getD j []),_,⟨by simp[Jc.1],λi AD=>?_⟩,rfl,Rq (IB Hh _) Jd _,⟨rb.set j ⇑H,Hr (CB H AH _),by simp[lJ],λi r BA=>?_⟩⟩
   .unfold ZG;have vO:=CB H AH [FS (A.getD j [])];have t:AT (A0 (Ap true) (A0 BK (Ae 2 Dz (Z (Ae 2 Ll (Z (I 0) (Z ζ A1))) (Z (I 4) A1))) (pu (.int 4))) η) (Ka ns n a b ↥(.int (j:Int))) H=.ok (true,H):=by
     simp[Ka,ec,DP,Cc]
    rw[Db,t,A2,if_pos rfl];erw[Ka,DU,GA,CG,Bb,v_var,CY,DV,EG,CS,A2,EJ,ls,SV,Hu,b0,Ol _ vO,CU,yN Tg,List.map_set]
   .by_cases Ps:j=i
    .subst Ps;have:(C.set j (A.getD j [])).getD j []=A.getD j []:=by
      rw[Eh,J8 (by rw[Jc.1];exact Am)];rfl
     rw[this];exact Hl.2 j Am
    .have:(C.set j (A.getD j [])).getD i []=C.getD i []:=by
       rw[Eh,MN Ps,<-Eh]
     rw[this];exact Jc.2 i AD
   .by_cases Ps:j=i
    .subst Ps;rw[J8 Tg]at BA;cases BA;have:(C.set j (A.getD j [])).getD j []=A.getD j []:=by
      rw[Eh,J8 (by rw[Jc.1];exact Am)];rfl
     rw[this,Er δ];simp
    .rw[MN Ps]at BA;have:(C.set j (A.getD j [])).getD i []=C.getD i []:=by
      rw[Eh,MN Ps,<-Eh]
     have g:=xV i r BA;have nb:b≠r:=by
      intro z;subst z;rw[AH]at g;have g1:rb.map W.ref=(C.getD i []).map Eb:=congrArg O.ws (GC g);obtain⟨x,r,ex⟩:=List.exists_cons_of_length_pos (show 0< ⇑rb by lia);rw[ex]at g1;cases eq:C.getD i []with
      |nil=>rw[eq]at g1;cases g1
      |cons y s=>rw[eq]at g1;cases(List.cons.inj g1).1
     rw[this,Er nb];exact CB H g _
  .refine⟨.AR (Ka ns n a b ↥(.int (j:Int))),H,?_,C,_,Jc,rfl,Hh,Si⟩;unfold ZG;have t:AT (A0 (Ap true) (A0 BK (Ae 2 Dz (Z (Ae 2 Ll (Z (I 0) (Z ζ A1))) (Z (I 4) A1))) (pu (.int 4))) η) (Ka ns n a b ↥(.int (j:Int))) H=.ok (false,H):=by
    simp[Ka,ec,DP,Cc]
   rw[Db,t,A2,if_neg γ];rfl
 .rintro _ h' ⟨C,s4,Jc,rfl,Hh,Si⟩;exact⟨C,s4,Jc,rfl,Hh,Si⟩
end FG
namespace C2
open PySem PySem.Spec B5
theorem YT{α:Type}(p:α->Bool):∀l:↑α,bools (l.map λa=>W.AL (p a))=↥(l.map p)
 |[]=>rfl
 |a::l=>by simp[bools,YT p l]
def bZ{mi:G4}{it:Gx}{g:DG}{e:B7}{ρ:B9}{h:A5}{nl:Nat}{caps:↑Nat}(ws:↑W)(p:W->Bool)(BC:B9->Prop)(AG:⇑ws<1000)(AD:mi ρ h=.ok (it,h))(G_:BC (QJ nl caps ρ))(hit:∀j acc,j<=⇑ws->it j (h++[⟨.lst,acc⟩])=↥ws[j]?)(DT:∀w∈ws,∀ρ acc,BC ρ->∃CO,g w ρ (h++[⟨.lst,acc⟩])=.ok (.AR CO,h++[⟨.lst,acc⟩])/\BC CO/\e CO (h++[⟨.lst,acc⟩])=.ok (.AL (p w),h++[⟨.lst,acc⟩])) :
  B6 (HM true) (Z (Dq nl caps mi g (pu true) e) A1) ρ h=.ok (.AL (ws.all p),h++[⟨.lst,ws.map λw=>.AL (p w)⟩]):=by
 have c:=Pi (mi:=mi) (it:=it) (g:=g) (t:=pu true) (e:=e) (ρ:=ρ) (h:=h) (h0:=h) (nl:=nl) (caps:=caps) ws (λ_=>true) (λw=>.AL (p w)) BC AG AD G_ hit λw hw ρ acc j=>by obtain⟨CO,AC,K4,AH⟩:=DT w hw ρ acc j;exact⟨CO,AC,K4,rfl,λ_=>AH⟩
 rw[List.filter_eq_self.mpr (λ_ _=>rfl)]at c;have q:E2 (h++[⟨.lst,ws.map λw=>W.AL (p w)⟩]) (.ref ⇑h)=↥(false,ws.map λw=>W.AL (p w)):=H9 _ γ;erw[GA,CG,CY,c,A2,HM,q,YT p ws,if_true];rw[SE];rfl
def aF{mi:G4}{it:Gx}{g:DG}{e:B7}{ρ:B9}{h:A5}{nl:Nat}{caps:↑Nat}(ws:↑W)(BC:B9->Prop)(AG:⇑ws<1000)(AD:mi ρ h=.ok (it,h))(G_:BC (QJ nl caps ρ))(hit:∀j acc,j<=⇑ws->it j (h++[⟨.lst,acc⟩])=↥ws[j]?)(DT:∀w∈ws,∀ρ acc,BC ρ->∃CO,g w ρ (h++[⟨.lst,acc⟩])=.ok (.AR CO,h++[⟨.lst,acc⟩])/\BC CO/\e CO (h++[⟨.lst,acc⟩])=.ok (.AL true,h++[⟨.lst,acc⟩])) :
  Bh (B6 (HM true) (Z (Dq nl caps mi g (pu true) e) A1)) ρ h=.ok (.AL true,h):=by
 rw[FD,bZ ws (λ_=>true) BC AG AD G_ hit DT,List.all_eq_true.mpr (λ_ _=>rfl)];simp
def aep{x:Str}{j:Nat}(h:A5)(Am:j<=⇑x.cps.toList):Rv x j h=↥(x.cps.toList.map λc=>W.str ⟨#[c]⟩)[j]?:=by
 unfold Rv;rw[QX]at Am;by_cases e:j=x.cps.size
 .rw[if_pos e,E5,J9 (by simp;lia)];rfl
 .rw[if_neg e,E5,XU];have:j<x.cps.size:=δ
  rw[Le this];rfl
def VV{h:A5}{x y:W}{d:Cn}{t:Bool}{ds:↑Cn}(AS:Hc h y x=none)(AC:CD 7 h x=↥d)(AH:CD 8 h y=↥(.Cg t ds))(b:Bool):Du b x y h=.ok (.AL (if b then ds.any (λy=>eqT y d)else !ds.any λy=>eqT y d),h):=by unfold Du;rw[AS];unfold a6;rw[AC,AH]
end C2
namespace FG
open PySem PySem.Spec B5 C2
def afH{c:Nat}(s:LF c)(h:A5):Du true (.str ⟨#[c]⟩) Re h=.ok (.AL true,h):=by rw[VV (d:=.str ⟨#[c]⟩) (t:=true) (ds:=[.str (AK "0"),.str (AK "1"),.str (AK "x")]) rfl (by simp[CD]) (by simp[Re,CD,E2])];rcases s with rfl|rfl|rfl<;>rfl
def str_len(x:Str):⇑x=⇑x.cps.toList:=rfl
def mZ{x:Str}(p:RY x)(h:A5):Wf [.str x] h=.ok (.AL true,h):=by
 have a:=aF (mi:=DR (I 0)) (it:=Rv x) (g:=AA 0) (e:=A0 (Du true) (I 0) (pu Re)) (ρ:=[↥(.str x)]) (h:=h) (nl:=1) (caps:=[]) (x.cps.toList.map λc=>W.str ⟨#[c]⟩) (λρ=>∃s,ρ=[s]) (by rw[CU,p.l];lia) (by simp[DR]) ⟨none,rfl⟩ (λj acc Am=>aep _ (Am:)) (by rintro w hw ρ acc ⟨s,rfl⟩;obtain⟨c,AI,rfl⟩:=List.mem_map.mp hw;exact⟨[↥(.str ⟨#[c]⟩)],γ,⟨_,rfl⟩,by simp[afH (p.s c AI)]⟩)
 have Cp:Be [.str x] h=.ok (.int 4,h):=by unfold Be;dsimp only;rw[str_len,p.l];rfl
 have CV:Be [P2] h=.ok (.int 4,h):=rfl;have Ck:DQ "str" (.str x) h=.ok (.AL true,h):=rfl;simp[-FD,Wf,bM,Ck,Cp,CV,a]
def lF{o:Option Nat}{c:Nat}(AI:∀k,o=↥k->k<c)(h:A5):TD [D8 o,.int (c:Int)] h=.ok (.AL true,h):=by
 cases o with
 |none=>simp[TD,Yv,D8,EZ,O0]
 |some k=>have:=AI k rfl;have w:=Ts (k:Int) 0 ((c:Int)-1) h;rw[decide_eq_true (show(0:Int)<=(k:Int)by lia),decide_eq_true (show(k:Int)<=(c:Int)-1 by lia)]at w;simp[TD,Yv,D8,EZ,O0,w]
def Oc{ws:↑W}{k:Nat}{w:W}(h:A5)(e:ws[k]?=↥w):AB (.tup ws) (.int (k:Int)) h=.ok (w,h):=Va h (UB h ws) e
def FW(h:A5)(x:W)(ws:↑W):AB (.tup (x::ws)) (.int 0) h=.ok (x,h):=Oc (k:=0) h rfl
def IQ(h:A5)(x y:W)(ws:↑W):AB (.tup (x::y::ws)) (.int 1) h=.ok (y,h):=Oc (k:=1) h rfl
def VZ(h:A5)(x y z:W)(ws:↑W):AB (.tup (x::y::z::ws)) (.int 2) h=.ok (z,h):=Oc (k:=2) h rfl
def Oi(h:A5)(ws:↑W):Be [.tup ws] h=.ok (.int ⇑ws,h):=by simp[Be]
def aez{r:Cz}{c:Nat}(ok:Sc c r)(h:A5):Wg [Eb r,.int (c:Int)] h=.ok (.AL true,h):=by have Ck:DQ "tuple" (Eb r) h=.ok (.AL true,h):=rfl;have Cp:Be [Eb r] h=.ok (.int 3,h):=Oi h _;have El:AB (Eb r) (.int 0) h=.ok (.str r.p,h):=FW h _ _;have AC:AB (Eb r) (.int 1) h=.ok (D8 r.a,h):=IQ h _ _ _;have AH:AB (Eb r) (.int 2) h=.ok (D8 r.b,h):=VZ h _ _ _ _;simp[Wg,bN,Ck,Cp,El,AC,AH,mZ ok.p,lF ok.a,lF ok.b]
def T1{h:A5}{n:Nat}{ws:↑W}(e:h[n]?=↥⟨.lst,ws⟩)(g:A5)(j:Nat):FI (.ref n) j (h++g)=↥ws[j]?:=Mh (CB h e g) j
def u9{b:↑Cz}{c:Nat}(ok:L5 c b){h:A5}{n:Nat}(Ay:h[n]?=↥(FS b)):We [.ref n,.int (c:Int)] h=.ok (.AL true,h):=by
 have a:=aF (mi:=DR (I 0)) (it:=FI (.ref n)) (g:=AA 0) (e:=Ae 2 Wg (Z (I 0) (Z (I 1) A1))) (ρ:=[↥(.ref n),↥(.int (c:Int))]) (h:=h) (nl:=1) (caps:=[1]) (b.map Eb) (λρ=>∃s,ρ=[s,↥(.int (c:Int))]) (by rw[CU];have:=ok.1;lia) (K3 Ay γ) ⟨none,rfl⟩ (λj acc _=>T1 Ay _ j) (by rintro w hw ρ acc ⟨s,rfl⟩;obtain⟨r,BF,rfl⟩:=List.mem_map.mp hw;exact⟨[↥(Eb r),↥(.int (c:Int))],γ,⟨_,rfl⟩,by simp[aez (ok.2 r BF)]⟩)
 have Ck:DQ "list" (.ref n) h=.ok (.AL true,h):=by erw[DQ,MI,Ay,FS];rfl
 have Cp:Be [.ref n] h=.ok (.int ⇑b,h):=by rw[Gl Ay];simp
 have:=ok.1;have g1:Kl (.int (⇑b:Int)) Ve h=.ok (.AL false,h):=by show Kl (.int (⇑b:Int)) (.int 12) h=_;rw[acI,decide_eq_false δ]
 simp[-FD,We,bq,Ck,Cp,g1,a]
end FG
namespace C2
open PySem PySem.Spec B5
def eN{h:A5}{n:Nat}{c:Str}{ns:↑Str}{ws:↑W}(e:h[n]?=↥⟨.ins c ns,ws⟩):RL h c (.ref n)=↥(n,ns,ws):=by erw[RL,e,if_true]
def EI{h:A5}{n:Nat}{c f:Str}{ns:↑Str}{ws:↑W}{u:W}(e:h[n]?=↥⟨.ins c ns,ws⟩)(v:Dg ns ws f=↥u):B4 c f (.ref n) h=.ok (u,h):=by unfold B4;rw[eN e];dsimp only;rw[v]
def SR{h:A5}{n:Nat}{c f:Str}{ns ns':↑Str}{ws ws':↑W}{v:W}{ρ:B9}(e:h[n]?=↥⟨.ins c ns,ws⟩)(l:⇑ns<1000)(AC:SP ns f=ns')(AH:RA ns ws f v=ws'):Vt c f (.ref n) v ρ h=.ok (.AR ρ,h.set n ⟨.ins c ns',ws'⟩):=by unfold Vt;rw[eN e];dsimp only;rw[if_pos l,AC,AH]
def Tr(c f:Str)(o v:B7)(ρ:B9)(h:A5):F1 c f o v ρ h=(v ρ h).bind λp=>(o ρ p.2).bind λq=>Vt c f q.1 p.1 ρ q.2:=rfl
def agI(c x:Str)(n:Nat)(mf:Bi)(o:B7)(ma:EP)(ρ:B9)(h:A5):Bz c x n mf o ma ρ h=(o ρ h).bind λp=>VX c x p.1 (bd ma λws _ h=>if ⇑ws=n then mf (p.1::ws) h else .bad) ρ p.2:=rfl
def yu{α:Type}{h:A5}{n:Nat}{c x:Str}{ns:↑Str}{ws:↑W}{m:M α}{ρ:B9}(e:h[n]?=↥⟨.ins c ns,ws⟩)(v:Dg ns ws x=none):VX c x (.ref n) m ρ h=m ρ h:=by unfold VX;rw[eN e];dsimp only;rw[v]
def Jk{h h1:A5}{n k:Nat}{c x:Str}{ns:↑Str}{ws us:↑W}{mf:Bi}{o:B7}{ma:EP}{ρ:B9}{r:R (W×A5)}(Fn:o ρ h=.ok (.ref n,h))(e:h[n]?=↥⟨.ins c ns,ws⟩)(v:Dg ns ws x=none)(BW:ma ρ h=.ok (us,h1))(l:⇑us=k)(BA:mf (.ref n::us) h1=r):Bz c x k mf o ma ρ h=r:=by rw[agI,Fn,A2,yu e v,Hu,BW,A2,if_pos l,BA]
def Zf{h h1 h2:A5}{c:Str}{k:Nat}{mf:Bi}{ma:EP}{ρ:B9}{us:↑W}(BW:ma ρ h=.ok (us,h1))(l:⇑us=k)(BA:mf (.ref ⇑h1::us) (h1++[⟨.ins c [],[]⟩])=.ok (.non,h2)):J1 c k mf ma ρ h=.ok (.ref ⇑h1,h2):=by unfold J1;rw[Hu,BW,A2];dsimp only;rw[if_pos l,BA];rfl
def jJ{h:A5}{n:Nat}{AJ:↑Ew}{vs:↑W}{k v:W}{FX:Ew}{ρ:B9}(e:h[n]?=↥⟨.Dy AJ,vs⟩)(DH:NX k=↥FX)(WA:FX∉AJ)(l:⇑vs<At):N5 (.ref n) k v ρ h=.ok (.AR ρ,h.set n ⟨.Dy (AJ++[FX]),vs++[v]⟩):=by unfold N5;erw[e,DH,if_pos l,Mq,if_neg WA]
def Tq(d k v:B7)(ρ:B9)(h:A5):JG d k v ρ h=(v ρ h).bind λp=>(d ρ p.2).bind λq=>(k ρ q.2).bind λr=>N5 q.1 r.1 p.1 ρ r.2:=rfl
end C2
namespace FG
open PySem PySem.Spec B5 C2
def abx(h:A5)(a b:Af):Ap false (A_ a) (A_ b) h=.ok (.AL (!decide (a=b)),h):=by
 have:=Ya h a b;unfold Ap at this |-;rw[b4,b4]at this |-;erw[if_true,MO,if_false]at this |-;have:eqT (Cn.Cg true [Cn.int (a.1:Int),Cn.int (a.2:Int)]) (Cn.Cg true [Cn.int (b.1:Int),Cn.int (b.2:Int)])=decide (a=b):=by injection this with this;injection this with this _;injection this
 rw[this]
def mV(h:A5)(x y:W):Qz [.tup [x,y]] h=.ok (.AL true,h):=by have Ck:DQ "tuple" (.tup [x,y]) h=.ok (.AL true,h):=rfl;simp[Qz,bL,Ck,Oi]
def ab9(h:A5)(cs:↑Nat):Be [.tup (Bx cs)] h=.ok (.int ⇑cs,h):=by rw[Oi];simp[Bx]
def dK{cs:↑Nat}{d:Af}(hd:d∈DC cs ⇑cs)(h:A5):TC [.tup (Bx cs),A_ d] h=.ok (.AL true,h):=by obtain⟨h1,h2⟩:=W4.mp hd;have p:Qz [A_ d] h=.ok (.AL true,h):=mV h _ _;have El:AB (A_ d) (.int 0) h=.ok (.int (d.1:Int),h):=FW h _ _;have AC:AB (A_ d) (.int 1) h=.ok (.int (d.2:Int),h):=IQ h _ _ _;have AH:AB (.tup (Bx cs)) (.int (d.1:Int)) h=.ok (.int (cs.getD d.1 0:Nat),h):=Oc h (Vj h1);have GB:=Ts (d.1:Int) 0 ((⇑cs:Int)-1) h;have Gq:=Ts (d.2:Int) 0 ((cs.getD d.1 0:Nat)-1:Int) h;rw[decide_eq_true (show(0:Int)<=(d.1:Int)by lia),decide_eq_true (show(d.1:Int)<=(⇑cs:Int)-1 by lia)]at GB;rw[decide_eq_true (show(0:Int)<=(d.2:Int)by lia),decide_eq_true (show(d.2:Int)<=((cs.getD d.1 0:Nat):Int)-1 by lia)]at Gq;simp[TC,bK,p,El,AC,AH,ab9,GB,Gq,-Eh]
def aff{cs:↑Nat}{w:Af×Af}(h1:w.1∈DC cs ⇑cs)(h2:w.2∈DC cs ⇑cs)(ne:w.1≠w.2)(h:A5):TG [.tup (Bx cs),CE w] h=.ok (.AL true,h):=by have p:Qz [CE w] h=.ok (.AL true,h):=mV h _ _;have El:AB (CE w) (.int 0) h=.ok (A_ w.1,h):=FW h _ _;have AC:AB (CE w) (.int 1) h=.ok (A_ w.2,h):=IQ h _ _ _;simp[TG,bP,p,El,AC,dK h1,dK h2,abx,ne]
def J0(d:Af):Ew:=[.inl (d.1:Int),.inl (d.2:Int)]
def fJ(d:Af):NX (A_ d)=↥(J0 d):=rfl
def ZR{a b:Af}(h:J0 a=J0 b):a=b:=by obtain⟨a1,a2⟩:=a;obtain⟨DY,Fe⟩:=b;erw[J0,gm,Ue,and_true]at h;obtain⟨h1,h2⟩:=h;rw[Prod.mk.injEq];lia
def L2(ws:ξ):↑Ew:=(ends ws).map J0
noncomputable def L3(ws:ξ):↑W:=(ws.map λw=>[A_ w.2,A_ w.1]).flatten
def He(ws:ξ):O:=⟨.Dy (L2 ws),L3 ws⟩
def xD(ws:ξ)(w:Af×Af):L2 (ws++[w])=L2 ws++[J0 w.1]++[J0 w.2]:=by simp[L2,ends]
def xQ(ws:ξ)(w:Af×Af):L3 (ws++[w])=L3 ws++[A_ w.2]++[A_ w.1]:=by simp[L3]
def xP(ws:ξ):⇑(L3 ws)=2*⇑ws:=by
 induction ws with
 |nil=>rfl
 |cons w ws CC=>simp[L3]at CC |-;lia
def l_{ws:ξ}{d:Af}:J0 d∈L2 ws↔d∈ends ws:=by unfold L2;rw[Ua];exact⟨λ⟨a,h,e⟩=>ZR e▸h,λh=>⟨d,h,rfl⟩⟩
theorem qj(d:Af):∀ws:ξ,Dg (L2 ws) (L3 ws) (J0 d)=(EX ws d).map A_
 |[]=>rfl
 |w::ws=>by
  have AC:L2 (w::ws)=J0 w.1::J0 w.2::L2 ws:=by simp[L2,ends]
  have AH:L3 (w::ws)=A_ w.2::A_ w.1::L3 ws:=by simp[L3]
  rw[AC,AH];erw[Dg,EX];by_cases h1:w.1=d
  .rw[if_pos (by rw[h1]),if_pos h1];rfl
  .rw[if_neg (λz=>h1 (ZR z)),if_neg h1];by_cases h2:w.2=d
   .rw[if_pos (by rw[h2]),if_pos h2];rfl
   .rw[if_neg (λz=>h2 (ZR z)),if_neg h2];exact qj d ws
def dI{h:A5}{f:Nat}{ws:ξ}(e:h[f]?=↥(He ws))(d:Af):Hc h (.ref f) (A_ d)=↥((EX ws d).map A_):=by unfold Hc;erw[e,He,fJ,Qd,qj]
def aiD{ws:ξ}{d:Af}(h:EX ws d=none):d∉ends ws:=by
 induction ws with
 |nil=>simp[ends]
 |cons w ws CC=>
  erw[EX]at h
  split at h
  .cases h
  .split at h
   .cases h
   .rename_i h1 h2;have:=CC h;erw[ends,D9,PL,Hi,Ip,PQ,or_false]at this |-;rintro((rfl|rfl)|z)
    .exact h1 rfl
    .exact h2 rfl
    .exact this z
def d7{ws:ξ}{d e:Af}(h:EX ws d=↥e):d∈ends ws/\e∈ends ws:=by
 induction ws with
 |nil=>simp[EX]at h
 |cons w ws CC=>
  erw[EX]at h;erw[ends,D9,PL,Hi,Ip,PQ,or_false]
  split at h
  .rename_i h1;cases h;exact⟨.inl (.inl h1.symm),.inl (.inr rfl)⟩
  .split at h
   .rename_i h1 h2;cases h;exact⟨.inl (.inr h2.symm),.inl (.inl rfl)⟩
   .have:=CC h;exact⟨.inr this.1,.inr this.2⟩
noncomputable def ci:Ai:=AN (BU (Dj (AT (Ae 2 TG (Z (I 0) (Z (I 3) A1))))) (λ_ _=>.bad) BR)
    (AN (BU (FY (AT (A0 (Du true) (A0 AB (I 3) η) (I 2))) (AT (A0 (Du true) (A0 AB (I 3) ζ) (I 2)))) (λ_ _=>.bad) BR)
    (AN (JG (I 2) (A0 AB (I 3) η) (A0 AB (I 3) ζ))
    (JG (I 2) (A0 AB (I 3) ζ) (A0 AB (I 3) η))))
def dS(ws:↑W)(j:Nat)(h:A5):FI (.tup ws) j h=↥ws[j]?:=by simp[FI]
def vd{cs:↑Nat}{ws:ξ}(N:K_ cs ws)(h:A5):Wc [.tup (Bx cs),.tup (ws.map CE)] h=.ok (.ref ⇑h,h++[He ws]):=by
 have few:=N.few
 have B3:=Pm (mi:=DR (I 1)) (it:=FI (.tup (ws.map CE))) (g:=AA 3) (b:=ci) (ρ:=[↥(.tup (Bx cs)),↥(.tup (ws.map CE)),↥(.ref ⇑h),none]) (h:=h++[⟨.Dy [],[]⟩]) (h0:=h++[⟨.Dy [],[]⟩]) (ws.map CE) (by simp;lia)
  (λj ρ h'=>(∃s3,ρ=[↥(.tup (Bx cs)),↥(.tup (ws.map CE)),↥(.ref ⇑h),s3])/\h'=h++[He (ws.take j)])
  (T:=λf h'=>(∃s3,f=.AR [↥(.tup (Bx cs)),↥(.tup (ws.map CE)),↥(.ref ⇑h),s3])/\h'=h++[He ws])
  (by simp[DR]) (λj ρ h' _ _=>dS _ j h') ⟨⟨none,rfl⟩,by simp[He,L2,L3,ends]⟩ ?_ ?_
 .obtain⟨f,h',CI,⟨s3,rfl⟩,rfl⟩:=B3.Gc;have e:Wc [.tup (Bx cs),.tup (ws.map CE)] h=(AN (AX (Kq true) (AA 2)) (AN (Eo (DR (I 1)) (AA 3) ci) (Au (I 2))) [↥(.tup (Bx cs)),↥(.tup (ws.map CE)),none,none] h).bind outF:=rfl;have s1:AX (Kq true) (AA 2) [↥(.tup (Bx cs)),↥(.tup (ws.map CE)),none,none] h=.ok (.AR [↥(.tup (Bx cs)),↥(.tup (ws.map CE)),↥(.ref ⇑h),none],h++[⟨.Dy [],[]⟩]):=rfl;rw[e,Ax,s1,A2,B1,Ax,K7,CI,A2,B1];rfl
 .rintro j w _ _ C_ ⟨⟨s3,rfl⟩,rfl⟩;rw[E5]at C_;cases CH:ws[j]? with
  |none=>rw[CH]at C_;cases C_
  |some p=>
   rw[CH]at C_;cases C_;have Am:j< ⇑ws:=(List.getElem?_eq_some_iff.mp CH).1;have ml:ws[j]=p:=(List.getElem?_eq_some_iff.mp CH).2;have Zw:ws.take (j+1)=ws.take j++[p]:=by rw[gG Am,ml]
   have M7:ends ws=ends (ws.take j)++([p.1,p.2]++ends (ws.drop (j+1))):=by
    have:ws=ws.take j++p::ws.drop (j+1):=by rw[<-ml,<-gQ Am,PM]
    conv=>lhs;rw[this]
    simp[ends]
   have C7:=N.C7;rw[M7]at C7;have fF:=List.nodup_append.mp C7;have abu:=List.nodup_append.mp fF.2.1;have l1:p.1≠p.2:=λz=>by have:=abu.1;rw[z]at this;simp at this
   have Cu:p.1∉ends (ws.take j):=λz=>fF.2.2 _ z _ γ rfl;have E0:p.2∉ends (ws.take j):=λz=>fF.2.2 _ z _ γ rfl;have H5:p.1∈DC cs ⇑cs:=N.sub _ (by rw[M7];simp);have H6:p.2∈DC cs ⇑cs:=N.sub _ (by rw[M7];simp);obtain⟨H,C4⟩:∃H,H=h++[He (ws.take j)]:=π;have CI:H[⇑h]?=↥(He (ws.take j)):=by rw[C4];simp
   refine⟨[↥(.tup (Bx cs)),↥(.tup (ws.map CE)),↥(.ref ⇑h),↥(CE p)],H,by rw[C4];simp,?_⟩;have El:∀h,AB (CE p) (.int 0) h=.ok (A_ p.1,h):=λh=>FW h _ _;have AC:∀h,AB (CE p) (.int 1) h=.ok (A_ p.2,h):=λh=>IQ h _ _ _;have DY:∀d,d∉ends (ws.take j)->Du true (A_ d) (.ref ⇑h) H=.ok (.AL false,H):=λd hd=>by
    unfold Du;rw[dI CI];cases q:EX (ws.take j) d with
    |none=>rfl
    |some x=>exact absurd (d7 q).1 hd
   have E9:=xP (ws.take j);rw[Ku]at E9;have ER:=jJ (v:=A_ p.2) (ρ:=[↥(.tup (Bx cs)),↥(.tup (ws.map CE)),↥(.ref ⇑h),↥(CE p)]) CI (fJ p.1) (λz=>Cu (l_.mp z)) (by unfold At;lia);have uZ:(H.set ⇑h ⟨.Dy (L2 (ws.take j)++[J0 p.1]),L3 (ws.take j)++[A_ p.2]⟩)[⇑h]?=↥⟨.Dy (L2 (ws.take j)++[J0 p.1]),L3 (ws.take j)++[A_ p.2]⟩:=Hr CI;have Cv:=jJ (v:=A_ p.1) (ρ:=[↥(.tup (Bx cs)),↥(.tup (ws.map CE)),↥(.ref ⇑h),↥(CE p)]) uZ (fJ p.2) (λz=>by
    rcases List.mem_append.mp z with z|z
    .exact E0 (l_.mp z)
    .exact l1 (ZR (List.mem_singleton.mp z)).symm) (by rw[Em];unfold At;simp;lia)
   have t1:Dj (AT (Ae 2 TG (Z (I 0) (Z (I 3) A1)))) [↥(.tup (Bx cs)),↥(.tup (ws.map CE)),↥(.ref ⇑h),↥(CE p)] H=.ok (false,H):=by simp[aff H5 H6 l1]
   have Ca:FY (AT (A0 (Du true) (A0 AB (I 3) η) (I 2))) (AT (A0 (Du true) (A0 AB (I 3) ζ) (I 2))) [↥(.tup (Bx cs)),↥(.tup (ws.map CE)),↥(.ref ⇑h),↥(CE p)] H=.ok (false,H):=by simp[El,AC,DY _ Cu,DY _ E0]
   unfold ci;rw[Ax,Db,t1,A2,if_neg γ,FC,A2,B1,Ax,Db,Ca,A2,if_neg γ,FC,A2,B1,Ax];erw[Tq,Bb,v_var,Bq,DV,EG,CS,A2,El,AC,ER,B1,Cv,Vq,YO];refine⟨⟨_,rfl⟩,?_⟩;rw[Zw,C4];simp[He,xD,xQ]
 .rintro _ _ ⟨⟨s3,rfl⟩,rfl⟩;refine⟨⟨_,rfl⟩,?_⟩;rw[CU,gu]
def tP{cs:↑Nat}(h1:1<=⇑cs)(FH:⇑cs<=6)(FT:∀c∈cs,1<=c/\c<=4){h:A5}{n:Nat}(Ay:h[n]?=↥⟨.lst,Bx cs⟩):Wa [.ref n] h=.ok (.AL true,h):=by
 have lcs:⇑(Bx cs)=⇑cs:=by simp[Bx]
 have a:=aF (mi:=DR (I 0)) (it:=FI (.ref n)) (g:=AA 0) (e:=Ae 3 Mk (Z (I 0) (Z ζ (Z (pu So) A1)))) (ρ:=[↥(.ref n)]) (h:=h) (nl:=1) (caps:=[]) (Bx cs) (λρ=>∃s,ρ=[s]) δ (K3 Ay γ) ⟨none,rfl⟩ (λj acc _=>T1 Ay _ j) (by rintro w hw ρ acc ⟨s,rfl⟩;obtain⟨c,AI,rfl⟩:=List.mem_map.mp hw;have AI:=FT c AI;have w:=Ts (c:Int) 1 4 (h++[⟨.lst,acc⟩]);rw[decide_eq_true (show(1:Int)<=(c:Int)by lia),decide_eq_true (show(c:Int)<=4 by lia)]at w;exact⟨[↥(.int (c:Int))],γ,⟨_,rfl⟩,by simp[So,w]⟩)
 have Ck:DQ "list" (.ref n) h=.ok (.AL true,h):=by erw[DQ,MI,Ay];rfl
 have Cp:Be [.ref n] h=.ok (.int ⇑cs,h):=by rw[Gl Ay,lcs]
 have Bd:Oo HL HL ζ (B6 Be (Z (I 0) A1)) (pu Sp) [↥(.ref n)] h=.ok (.AL true,h):=by erw[aq,Bq,GA,CG,CY,v_var,DV,CS,A2,Cp,kl,decide_eq_true (show(1:Int)<=(⇑cs:Int)by lia),N1,if_true,Hu,Sp,decide_eq_true (show(⇑cs:Int)<=6 by lia)]
 simp[-FD,Wa,bn,Ck,Bd,a]
noncomputable def Mo(cs:↑Nat)(ws:ξ)(f:Nat):O:=⟨.ins "Net" ["many","counts","joined","far"],[.int ⇑cs,.tup (Bx cs),.tup (ws.map CE),.ref f]⟩
def lA{cs:↑Nat}{ws:ξ}(N:K_ cs ws){h:A5}{a b:Nat}(BW:h[a]?=↥⟨.lst,Bx cs⟩)(BI:h[b]?=↥⟨.lst,ws.map CE⟩) :
  NV [.ref ⇑h,.ref a,.ref b] (h++[⟨.ins "Net" [],[]⟩])=.ok (.non,h++[Mo cs ws (⇑h+1),He ws]):=by
 have lcs:⇑(Bx cs)=⇑cs:=by simp[Bx]
 have e:NV [.ref ⇑h,.ref a,.ref b] (h++[⟨.ins "Net" [],[]⟩])=(Xu [↥(.ref ⇑h),↥(.ref a),↥(.ref b)] (h++[⟨.ins "Net" [],[]⟩])).bind outF:=rfl;rw[e];obtain⟨ρ,C3⟩:∃ρ:B9,ρ=[↥(.ref ⇑h),↥(.ref a),↥(.ref b)]:=π;rw[<-C3];have v0:I 0 ρ=λh'=>.ok (.ref ⇑h,h'):=by rw[C3];rfl
 have v1:I 1 ρ=λh'=>.ok (.ref a,h'):=by rw[C3];rfl
 have v2:I 2 ρ=λh'=>.ok (.ref b,h'):=by rw[C3];rfl
 have A:∀o:O,(h++[o])[a]?=↥⟨.lst,Bx cs⟩:=λo=>CB h BW _;have B:∀o:O,(h++[o])[b]?=↥⟨.lst,ws.map CE⟩:=λo=>CB h BI _;have t1:Dj (AT (Ae 1 Wa (Z (I 1) A1))) ρ (h++[⟨.ins "Net" [],[]⟩])=.ok (false,h++[⟨.ins "Net" [],[]⟩]):=by simp[-v_var,v1,tP N.h1 N.FH N.c (A _)]
 have Ck:DQ "list" (.ref b) (h++[⟨.ins "Net" [],[]⟩])=.ok (.AL true,h++[⟨.ins "Net" [],[]⟩]):=by erw[DQ,MI,B];rfl
 have Ca:Dj (AT (Aw (DQ "list") (I 2))) ρ (h++[⟨.ins "Net" [],[]⟩])=.ok (false,h++[⟨.ins "Net" [],[]⟩]):=by simp[-v_var,v2,Ck]
 have s3:F1 "Net" "many" (I 0) (B6 Be (Z (I 1) A1)) ρ (h++[⟨.ins "Net" [],[]⟩])=.ok (.AR ρ,h++[⟨.ins "Net" ["many"],[.int ⇑cs]⟩]):=by rw[Tr];erw[GA,CG,CY,v1,v0,A2,Gl (A _),lcs];rw[SR (ns':=["many"]) (ws':=[.int ⇑cs]) (Hf h _) ε rfl rfl];simp
 have qW:∀(h':A5)(n:Nat)(us:↑W),h'[n]?=↥⟨.lst,us⟩->OU [.ref n] h'=.ok (.tup us,h'):=λh' n us q=>by erw[OU,H9 h' q]
 have s4:F1 "Net" "counts" (I 0) (B6 OU (Z (I 1) A1)) ρ (h++[⟨.ins "Net" ["many"],[.int ⇑cs]⟩])=.ok (.AR ρ,h++[⟨.ins "Net" ["many","counts"],[.int ⇑cs,.tup (Bx cs)]⟩]):=by rw[Tr];erw[GA,CG,CY,v1,v0,A2,qW _ _ _ (A _)];rw[SR (ns':=["many","counts"]) (ws':=[.int ⇑cs,.tup (Bx cs)]) (Hf h _) ε rfl rfl];simp
 have s5:F1 "Net" "joined" (I 0) (B6 OU (Z (I 2) A1)) ρ (h++[⟨.ins "Net" ["many","counts"],[.int ⇑cs,.tup (Bx cs)]⟩])=.ok (.AR ρ,h++[⟨.ins "Net" ["many","counts","joined"],[.int ⇑cs,.tup (Bx cs),.tup (ws.map CE)]⟩]):=by rw[Tr];erw[GA,CG,CY,v2,v0,A2,qW _ _ _ (B _)];rw[SR (ns':=["many","counts","joined"]) (ws':=[.int ⇑cs,.tup (Bx cs),.tup (ws.map CE)]) (Hf h _) ε rfl rfl];simp
 have s6:F1 "Net" "far" (I 0) (Ae 2 Wc (Z (Aw (B4 "Net" "counts") (I 0)) (Z (Aw (B4 "Net" "joined") (I 0)) A1))) ρ (h++[⟨.ins "Net" ["many","counts","joined"],[.int ⇑cs,.tup (Bx cs),.tup (ws.map CE)]⟩])=.ok (.AR ρ,h++[Mo cs ws (⇑h+1),He ws]):=by rw[Tr];have f1:B4 "Net" "counts" (.ref ⇑h) (h++[⟨.ins "Net" ["many","counts","joined"],[.int ⇑cs,.tup (Bx cs),.tup (ws.map CE)]⟩])=.ok (.tup (Bx cs),_):=EI (Hf h _) rfl;have f2:B4 "Net" "joined" (.ref ⇑h) (h++[⟨.ins "Net" ["many","counts","joined"],[.int ⇑cs,.tup (Bx cs),.tup (ws.map CE)]⟩])=.ok (.tup (ws.map CE),_):=EI (Hf h _) rfl;erw[IV,CG,CY,HO,v0,A2,f1,f2,DX,F2,HE,if_true,vd N];rw[SR (ns':=["many","counts","joined","far"]) (ws':=[.int ⇑cs,.tup (Bx cs),.tup (ws.map CE),.ref (⇑h+1)]) (CB _ (Hf h _) _) ε rfl (by simp[Em];rfl)];rw[EB,Pr];rfl
 unfold Xu;rw[Ax,Db,t1,A2,if_neg γ,FC,A2,B1,Ax,Db,Ca,A2,if_neg γ,FC,A2,B1,Ax,s3,A2,B1,Ax,s4,A2,B1,Ax,s5,A2,B1,s6];rfl
structure JW(h:A5)(n:Nat)(cs:↑Nat)(ws:ξ):Prop where
 ex:∃f,h[n]?=↥(Mo cs ws f)/\h[f]?=↥(He ws)
def JW.more{h:A5}{n:Nat}{cs:↑Nat}{ws:ξ}(b:JW h n cs ws)(g:A5):JW (h++g) n cs ws:=by obtain⟨f,e,r⟩:=b.ex;exact⟨f,CB h e g,CB h r g⟩
def T0{h:A5}{w:W}{t:Bool}{us:↑W}(e:E2 h w=↥(t,us))(l:⇑us<=At):FA [w] h=.ok (.ref ⇑h,h++[⟨.lst,us⟩]):=by erw[FA,e];exact I8 h l
def ac0{cs:↑Nat}{ws:ξ}(N:K_ cs ws){h:A5}{n:Nat}(A:JW h n cs ws):Wb [.ref n] h=.ok (.ref (⇑h+2),h++[⟨.lst,Bx cs⟩,⟨.lst,ws.map CE⟩,Mo cs ws (⇑h+3),He ws]):=by
 obtain⟨f,AC,AH⟩:=A.ex;have few:=N.few;have aaw:=N.FH;have f1:B4 "Net" "counts" (.ref n) h=.ok (.tup (Bx cs),h):=EI AC rfl;have f2:B4 "Net" "joined" (.ref n) (h++[⟨.lst,Bx cs⟩])=.ok (.tup (ws.map CE),_):=EI (CB h AC _) rfl;have Cp:FA [.tup (Bx cs)] h=.ok (.ref ⇑h,h++[⟨.lst,Bx cs⟩]):=T0 (UB _ _) (by simp[Bx,At];lia);have CV:FA [.tup (ws.map CE)] (h++[⟨.lst,Bx cs⟩])=.ok (.ref (⇑h+1),h++[⟨.lst,Bx cs⟩,⟨.lst,ws.map CE⟩]):=by rw[T0 (UB _ _) (by simp[At];lia)];simp
 have GB:Q7 [.ref n] (h++[⟨.lst,Bx cs⟩])=.ok (.ref (⇑h+1),h++[⟨.lst,Bx cs⟩,⟨.lst,ws.map CE⟩]):=by erw[Q7,Wr,bk,Fb,GA,CG,CY,HO,v_var,VW,D9,I2,DX,F2,HD,N9,HE,Uc,GR,Io,DV,CS,A2,f2,CV,H8];have:=Nc (h++[⟨.lst,Bx cs⟩]) [⟨.lst,ws.map CE⟩] rfl (H7 _ _ l6);rw[EB]at this;simpa using this
 have ma:Z (B6 FA (Z (Aw (B4 "Net" "counts") (I 0)) A1)) (Z (Bz "Net" "wires" 0 Q7 (I 0) A1) A1) [↥(.ref n)] h=.ok ([.ref ⇑h,.ref (⇑h+1)],h++[⟨.lst,Bx cs⟩,⟨.lst,ws.map CE⟩]):=by have FJ:Bz "Net" "wires" 0 Q7 (I 0) A1 [↥(.ref n)] (h++[⟨.lst,Bx cs⟩])=.ok (.ref (⇑h+1),h++[⟨.lst,Bx cs⟩,⟨.lst,ws.map CE⟩]):=Jk (us:=[]) rfl (CB h AC _) rfl rfl rfl GB;erw[CG,GA,HO,CY,v_var,DV,CS,A2,f1,Cp,FJ]
 obtain⟨H,C4⟩:∃H:A5,H=h++[⟨.lst,Bx cs⟩,⟨.lst,ws.map CE⟩]:=π;have nm:=lA N (h:=H) (a:=⇑h) (b:=⇑h+1) (by rw[C4];simp) (by rw[C4];simp);rw[<-C4]at ma;have mk:J1 "Net" 2 NV (Z (B6 FA (Z (Aw (B4 "Net" "counts") (I 0)) A1)) (Z (Bz "Net" "wires" 0 Q7 (I 0) A1) A1)) [↥(.ref n)] h=.ok (.ref ⇑H,H++[Mo cs ws (⇑H+1),He ws]):=Zf ma rfl nm;have e:Wb [.ref n] h=((Au (J1 "Net" 2 NV (Z (B6 FA (Z (Aw (B4 "Net" "counts") (I 0)) A1)) (Z (Bz "Net" "wires" 0 Q7 (I 0) A1) A1)))) [↥(.ref n)] h).bind outF:=rfl;rw[e,Fb,mk,A2,A2,H8,C4,EB,Em];rfl
def tN{cs:↑Nat}{ws:ξ}{h:A5}{n:Nat}(A:JW h n cs ws){k:Nat}(AP:k< ⇑cs):T5 [.ref n,.int (k:Int)] h=.ok (.int (cs.getD k 0:Nat),h):=by
 obtain⟨f,AC,AH⟩:=A.ex;have f1:B4 "Net" "counts" (.ref n) h=.ok (.tup (Bx cs),h):=EI AC rfl;have f2:B4 "Net" "many" (.ref n) h=.ok (.int ⇑cs,h):=EI AC rfl;have EJ:AB (.tup (Bx cs)) (.int (k:Int)) h=.ok (.int (cs.getD k 0:Nat),h):=Oc h (Vj AP);have Bd:Oo HL Jf η (I 1) (Aw (B4 "Net" "many") (I 0)) [↥(.ref n),↥(.int (k:Int))] h=.ok (.AL true,h):=by erw[aq,Bq,HO,v_var,DV,EG,CS,A2,kl,decide_eq_true (show(0:Int)<=(k:Int)by lia),N1,if_true,Hu,f2,acJ,decide_eq_true (show(k:Int)<(⇑cs:Int)by lia)]
 simp[T5,bh,Bd,f1,EJ,-Eh]
def hy{cs:↑Nat}{ws:ξ}(FH:⇑cs<=6){B:↑↑Cz}(ok:HW cs B){h:A5}{n b:Nat}(A:JW h n cs ws)(Up:Ei h b B):Wn [.ref b,.ref n] h=.ok (.non,h):=by
 obtain⟨f,AC,AH⟩:=A.ex;obtain⟨rs,BI,Q2,BA⟩:=Up.ex;have V8:=ok.1
 have a:=aF (mi:=Q5 (Z (I 0) A1)) (it:=Pn (.ref b)) (g:=EY [(AA 0),(AA 1)]) (e:=Ae 2 We (Z (I 1) (Z (Bz "Net" "count" 1 T5 (I 2) (Z (I 0) A1)) A1))) (ρ:=[↥(.ref b),↥(.ref n)]) (h:=h) (nl:=2) (caps:=[1])
  (rs.mapIdx λi r=>.tup [.int (i:Int),.ref r]) (λρ=>∃s t,ρ=[s,t,↥(.ref n)]) (by rw[gV];lia) (by simp[Q5,Ol h BI]) ⟨none,none,rfl⟩ (λj acc Am=>by
    rw[gV]at Am;erw[Pn,Ol _ (CB h BI _),CU];by_cases q:j=⇑rs
    .rw[if_pos q,J9 (by rw[gV];lia)]
    .have:j< ⇑rs:=δ
     rw[if_neg q,E5,List.getElem?_mapIdx,CP this];rfl) (by
  rintro w hw ρ acc ⟨s,t,rfl⟩;obtain⟨i,AD,rfl⟩:=List.mem_mapIdx.mp hw;refine⟨[↥(.int (i:Int)),↥(.ref rs[i]),↥(.ref n)],γ,⟨_,_,rfl⟩,?_⟩;have c:=tN (A.more [⟨.lst,acc⟩]) (k:=i) δ;have y:=u9 (ok.2 i δ) (CB h (BA i rs[i] (CP AD)) [⟨.lst,acc⟩]);have FJ:Bz "Net" "count" 1 T5 (I 2) (Z (I 0) A1) [↥(.int (i:Int)),↥(.ref rs[i]),↥(.ref n)] (h++[⟨.lst,acc⟩])=.ok (.int (cs.getD i 0:Nat),h++[⟨.lst,acc⟩]):=Jk (us:=[.int (i:Int)]) rfl (CB h AC _) rfl rfl rfl c;erw[IV,CG,CY,v_var,DV,EG,CS,A2,FJ,DX,F2,HE,if_true,y])
 have Ck:DQ "list" (.ref b) h=.ok (.AL true,h):=by erw[DQ,MI,BI];rfl
 have Cp:Be [.ref b] h=.ok (.int ⇑cs,h):=by rw[Gl BI,CU,Q2,V8]
 have f2:B4 "Net" "many" (.ref n) h=.ok (.int ⇑cs,h):=EI AC rfl;have q:Zd [.ref b,.ref n] h=.ok (.AL true,h):=by simp[-FD,Zd,bJ,Ck,Cp,f2,a]
 simp[Wn,d4,q]
end FG
namespace C2
open PySem PySem.Spec B5
@[simp] theorem kk(b:Bool)(x y:Str)(h:A5):Ap b (.str x) (.str y) h=.ok (.AL (if b then x==y else !(x==y)),h):=by simp[Ap,CD,eqT]
theorem iA{it:Gx}{g:DG}{e:B7}{h:A5}(GK:Nat->Nat->↑W)(Zt:∀a n,GK a (n+1)=GK a n++[.ref (a+n)])(Zu:∀a n,⇑(GK a n)=n)(ws:↑W)(f:W->O)(BC:B9->Prop)(AG:⇑ws<1000)(hit:∀j H,h<+: H->j<=⇑ws->it j H=↥ws[j]?)(DT:∀w∈ws,∀ρ H,BC ρ->h<+: H->∃CO,g w ρ H=.ok (.AR CO,H)/\BC CO/\e CO H=.ok (.ref ⇑H,H++[f w])) :
  ∀k j ρ,j<=⇑ws->⇑ws-j<k->BC ρ->Kg it g (pu true) e ⇑h k j ρ (h++(⟨.lst,GK (⇑h+1) j⟩::(ws.take j).map f))=.ok (h++(⟨.lst,GK (⇑h+1) ⇑ws⟩::ws.map f))
 |0,j,ρ,Am,l,i=>δ
 |k+1,j,ρ,Am,l,i=>by
  unfold Kg;rw[hit _ _ (Fy _ _) Am];by_cases DD:j< ⇑ws
  .rw[CP DD];obtain⟨CO,AC,Ck,AH⟩:=DT ws[j] (JD DD) ρ _ i (Fy h (⟨.lst,GK (⇑h+1) j⟩::(ws.take j).map f));erw[AC,A2,Bq,if_true,AH];rw[EB,Hf,HD,DV];have BF:=Zu (⇑h+1) j;erw[BF,if_pos (show j<At by unfold At;lia),Pr,NB];have:=iA GK Zt Zu ws f BC AG hit DT k (j+1) CO DD δ Ck;rw[Zt,gG DD,I1]at this;have GZ:⇑(h++(⟨.lst,GK (⇑h+1) j⟩::(ws.take j).map f))=⇑h+1+j:=by simp;lia
   rw[GZ];exact this
  .have:j=⇑ws:=δ
   subst this;simp
def tL{mi:G4}{it:Gx}{g:DG}{e:B7}{ρ:B9}{h h0:A5}{nl:Nat}{caps:↑Nat}(GK:Nat->Nat->↑W)(xr:∀a,GK a 0=[])(Zt:∀a n,GK a (n+1)=GK a n++[.ref (a+n)])(Zu:∀a n,⇑(GK a n)=n)(ws:↑W)(f:W->O)(BC:B9->Prop)(AG:⇑ws<1000)(AD:mi ρ h0=.ok (it,h))(G_:BC (QJ nl caps ρ))(hit:∀j H,h<+: H->j<=⇑ws->it j H=↥ws[j]?)(DT:∀w∈ws,∀ρ H,BC ρ->h<+: H->∃CO,g w ρ H=.ok (.AR CO,H)/\BC CO/\e CO H=.ok (.ref ⇑H,H++[f w])) :
  Dq nl caps mi g (pu true) e ρ h0=.ok (.ref ⇑h,h++(⟨.lst,GK (⇑h+1) ⇑ws⟩::ws.map f)):=by
 unfold Dq;erw[Hu,AD,A2];have:=iA GK Zt Zu ws f BC AG hit DT Jv 0 _ (Hy _) (by unfold Jv;lia) G_;rw[xr]at this;erw[List.take_zero,I2]at this;rw[this]
end C2
namespace FG
open PySem PySem.Spec B5 C2
noncomputable def IL(a:Nat)(B:↑↑Cz):A5:=⟨.lst,IT (a+1) ⇑B⟩::B.map FS
def Nk(a:Nat)(B:↑↑Cz):⇑(IL a B)=⇑B+1:=by simp[IL]
def tM{cs:↑Nat}{B:↑↑Cz}(FH:⇑cs<=6)(ok:HW cs B){h:A5}{b i:Nat}(Up:Ei h b B){ρ:B9}(AD:ρ[i]?=↥↥(.ref b)):Dq 1 [] (DR (I i)) (AA 0) (pu true) (Bh (B6 FA (Z (I 0) A1))) ρ h=.ok (.ref ⇑h,h++IL ⇑h B):=by
 obtain⟨rs,BI,Q2,BA⟩:=Up.ex;have V8:=ok.1;have c:=tL (mi:=DR (I i)) (it:=FI (.ref b)) (g:=AA 0) (e:=Bh (B6 FA (Z (I 0) A1))) (ρ:=ρ) (h:=h) (h0:=h) (nl:=1) (caps:=[]) IT (λa=>rfl) nY nX (rs.map W.ref) (λw=>match w with
  |.ref r=>(h[r]?).getD ⟨.lst,[]⟩
  |_=>⟨.lst,[]⟩) (λρ=>∃s,ρ=[s]) (by rw[CU];lia) (K3 BI (by rw[v_var,AD];rfl)) ⟨none,rfl⟩ (λj H p _=>Mh (F_ p BI) j) (by
   rintro w hw ρ H ⟨s,rfl⟩ p;obtain⟨r,BF,rfl⟩:=List.mem_map.mp hw;obtain⟨k,AP⟩:=gc BF;have q:=BA k r AP;have RH:k< ⇑cs:=by have:=(List.getElem?_eq_some_iff.mp AP).1;lia
   have E9:=(ok.2 k RH).1;refine⟨[↥(.ref r)],γ,⟨_,rfl⟩,?_⟩;have lw:FA [.ref r] H=.ok (.ref ⇑H,H++[FS (B.getD k [])]):=T0 (H9 _ (F_ p q)) (by rw[CU];unfold At;lia);erw[FD,GA,CG,CY,v_var,DV,CS,A2,lw,q,UX];exact Nc H _ rfl (H7 _ _ l4))
 rw[c];have:(rs.map W.ref).map (λw=>match w with
  |.ref r=>(h[r]?).getD ⟨.lst,[]⟩
  |_=>⟨.lst,[]⟩)=B.map FS:=by
  apply gS;intro k;erw[E5];by_cases AP:k< ⇑rs
  .rw[CP AP,CP δ];have q:=BA k rs[k] (CP AP);erw[Qd,q,UX];rw[Eh,CP δ];rfl
  .rw[J9 δ,J9 δ];rfl
 rw[this,CU,Q2];rfl
def hv{cs:↑Nat}{B:↑↑Cz}(FH:⇑cs<=6)(ok:HW cs B){h:A5}{b:Nat}(Up:Ei h b B):Qy [.ref b] h=.ok (.ref ⇑h,h++IL ⇑h B):=by have c:=tM (i:=0) FH ok Up (ρ:=[↥(.ref b)]) rfl;have e:Qy [.ref b] h=(Au (Dq 1 [] (DR (I 0)) (AA 0) (pu true) (Bh (B6 FA (Z (I 0) A1)))) [↥(.ref b)] h).bind outF:=rfl;rw[e,Fb,c];rfl
abbrev Cq:=Option (Nat×Nat)
noncomputable def Gu(k:Nat):Str:=if k=0 then AK "teach" else if k=1 then AK "turn" else AK "forget"
noncomputable def B8:Cq->W
 |none=>.tup [.str (AK "wait")]
 |some p=>.tup [.str (Gu p.1),.int (p.2:Int)]
@[simp] theorem LZ(s:Cq):DE (B8 s)=true:=by cases s<;>simp[B8]
structure Sa(n:Nat)(ps:↑Cq):Prop where
 l:⇑ps<=40
 k:∀p,↥p∈ps->p.1<3/\p.2<n
 C7:(ps.filterMap id).Nodup
def jq(h:A5)(k:Int)(AP:k=1\/k=2):Du false (.int k) (.tup [.int 1,.int 2]) h=.ok (.AL false,h):=by rw[VV (d:=.int k) (t:=true) (ds:=[.int 1,.int 2]) rfl (by simp[CD]) (by simp[CD])];rcases AP with rfl|rfl<;>rfl
def aen{n:Nat}{cs:↑Nat}{ws:ξ}{h:A5}{m:Nat}(A:JW h m cs ws){s:Cq}(AO:∀p,s=↥p->p.1<3/\p.2< ⇑cs):RQ [B8 s,.ref m] h=.ok (.AL true,h):=by
 obtain⟨f,AC,AH⟩:=A.ex;have f2:B4 "Net" "many" (.ref m) h=.ok (.int ⇑cs,h):=EI AC rfl;have is:∀x,DQ "str" (.str x) h=.ok (.AL true,h):=λx=>rfl;cases s with
 |none=>have Ck:DQ "tuple" (B8 none) h=.ok (.AL true,h):=rfl;have Cp:Be [B8 none] h=.ok (.int 1,h):=Oi h _;have x0:AB (B8 none) (.int 0) h=.ok (.str (AK "wait"),h):=FW h _ _;simp[RQ,Yx,Ck,Cp,x0,jq,is,At]
 |some p=>
  have AV:=AO p rfl;have Ck:DQ "tuple" (B8 ↥p) h=.ok (.AL true,h):=rfl;have Cp:Be [B8 ↥p] h=.ok (.int 2,h):=Oi h _;have x0:AB (B8 ↥p) (.int 0) h=.ok (.str (Gu p.1),h):=FW h _ _;have x1:AB (B8 ↥p) (.int 1) h=.ok (.int (p.2:Int),h):=IQ h _ _ _;have w:=Ts (p.2:Int) 0 ((⇑cs:Int)-1) h;rw[decide_eq_true (show(0:Int)<=(p.2:Int)by lia),decide_eq_true (show(p.2:Int)<=(⇑cs:Int)-1 by lia)]at w;have IW:Du true (.str (Gu p.1)) (.tup [.str (AK "teach"),.str (AK "turn"),.str (AK "forget")]) h=.ok (.AL true,h):=by
   rw[VV (d:=.str (Gu p.1)) (t:=true) (ds:=[.str (AK "teach"),.str (AK "turn"),.str (AK "forget")]) rfl (by simp[CD]) (by simp[CD])];have:p.1=0\/p.1=1\/p.1=2:=δ
   rcases this with e|e|e<;>rw[e]<;>rfl
  simp[RQ,Yx,Ck,Cp,x0,x1,jq,is,At,f2,w,IW]
def Il:W->Bool
 |.tup [_,_]=>true
 |_=>false
def l9(h:A5)(s:Cq):Ap false (B8 s) N3 h=.ok (.AL (Il (B8 s)),h):=by
 cases s with
 |none=>simp[Ap,B8,N3,CD,eqT,GE,Il]
 |some p=>simp[Ap,B8,N3,CD,eqT,GE,Il]
def qo{a b:Nat}(AF:a<3)(A4:b<3)(h:Gu a=Gu b):a=b:=by
 have a1:a=0\/a=1\/a=2:=δ
 have DY:b=0\/b=1\/b=2:=δ
 rcases a1 with rfl|rfl|rfl<;>rcases DY with rfl|rfl|rfl<;>first|rfl|exact absurd h ε
noncomputable def stK(p:Nat×Nat):↑Key:=[.inr (Gu p.1),.inl (p.2:Int)]
theorem qX:∀l:↑(Nat×Nat),(l.map λp=>B8 ↥p).mapM NX=↥(l.map stK)
 |[]=>rfl
 |p::l=>by rw[D9,Q_,qX l];rfl
theorem fq:∀ps:↑Cq,(ps.map B8).filter Il=(ps.filterMap id).map λp=>B8 ↥p
 |[]=>rfl
 |none::ps=>by rw[D9,Qa,if_neg (by simp[B8,Il]),fq ps];rfl
 |some p::ps=>by rw[D9,Qa,if_pos (by simp[B8,Il]),fq ps];rfl
def acS{cs:↑Nat}{ws:ξ}{h:A5}{m q:Nat}(A:JW h m cs ws){ps:↑Cq}(P:Sa ⇑cs ps)(eq:h[q]?=↥⟨.lst,ps.map B8⟩):Ze [.ref q,.ref m] h=.ok (.AL true,h):=by
 have ZU:=P.l;have Ck:DQ "list" (.ref q) h=.ok (.AL true,h):=by erw[DQ,MI,eq];rfl
 have Cp:Be [.ref q] h=.ok (.int ⇑ps,h):=by rw[Gl eq,CU]
 have a:=bZ (mi:=DR (I 0)) (it:=FI (.ref q)) (g:=AA 0) (e:=Ae 2 RQ (Z (I 0) (Z (I 1) A1))) (ρ:=[↥(.ref q),↥(.ref m),none]) (h:=h) (nl:=1) (caps:=[1]) (ps.map B8) (λ_=>true) (λρ=>∃s,ρ=[s,↥(.ref m)]) (by rw[CU];lia) (K3 eq γ) ⟨none,rfl⟩ (λj acc _=>T1 eq _ j) (by rintro w hw ρ acc ⟨s,rfl⟩;obtain⟨c,AI,rfl⟩:=List.mem_map.mp hw;exact⟨[↥(B8 c),↥(.ref m)],γ,⟨_,rfl⟩,by simp[aen (n:=0) (A.more [⟨.lst,acc⟩]) (λp e=>P.k p (e▸AI))]⟩)
 rw[List.all_eq_true.mpr (λ_ _=>rfl)]at a;have c:=Pi (mi:=DR (I 0)) (it:=FI (.ref q)) (g:=AA 0) (t:=AT (A0 (Ap false) (I 0) (pu N3))) (e:=I 0) (ρ:=[↥(.ref q),↥(.ref m),none]) (h:=h) (h0:=h) (nl:=1) (caps:=[]) (ps.map B8) Il id (λρ=>∃s,ρ=[s]) (by rw[CU];lia) (K3 eq γ) ⟨none,rfl⟩ (λj acc _=>T1 eq _ j) (by rintro w hw ρ acc ⟨s,rfl⟩;obtain⟨c,AI,rfl⟩:=List.mem_map.mp hw;exact⟨[↥(B8 c)],γ,⟨_,rfl⟩,by simp[l9],λ_=>γ⟩)
 rw[List.map_id,fq]at c;have C7:((ps.filterMap id).map stK).Nodup:=by rw[XI,S6];refine List.Pairwise.imp_of_mem ?_ P.C7;intro x y AM AS ne z;obtain⟨u,BQ,GF⟩:=List.mem_filterMap.mp AM;obtain⟨v,Bk,ev⟩:=List.mem_filterMap.mp AS;erw[id]at GF ev;subst GF ev;have zx:=P.k _ BQ;have V7:=P.k _ Bk;erw[stK,gm,Sum.inr.injEq,Ue,and_true]at z;exact ne (Prod.ext (qo zx.1 V7.1 z.1) δ)
 have lf:⇑(ps.filterMap id)<=⇑ps:=List.length_filterMap_le ..;have Cg:E2 (h++[⟨.lst,(ps.filterMap id).map λp=>B8 ↥p⟩]) (.ref ⇑h)=↥(false,(ps.filterMap id).map λp=>B8 ↥p):=H9 _ γ;have ls:VD [.ref ⇑h] (h++[⟨.lst,(ps.filterMap id).map λp=>B8 ↥p⟩])=.ok (.int ⇑(ps.filterMap id),h++[⟨.lst,(ps.filterMap id).map λp=>B8 ↥p⟩]):=by unfold VD;erw[Cg,CU];rw[if_pos δ];erw[qX,if_pos C7,CU]
 have E9:Be [.ref ⇑h] (h++[⟨.lst,(ps.filterMap id).map λp=>B8 ↥p⟩])=.ok (.int ⇑(ps.filterMap id),h++[⟨.lst,(ps.filterMap id).map λp=>B8 ↥p⟩]):=by rw[Gl (Hf h _)];simp
 have t1:FY (Dj (AT (Aw (DQ "list") (I 0)))) (AT (A0 Kl (B6 Be (Z (I 0) A1)) (pu Sq))) [↥(.ref q),↥(.ref m),none] h=.ok (false,h):=by simp[Ck,Cp,Sq];lia
 have Ca:Hn (Dj (AT (B6 (HM true) (Z (Dq 1 [1] (DR (I 0)) (AA 0) (pu true) (Ae 2 RQ (Z (I 0) (Z (I 1) A1)))) A1)))) [↥(.ref q),↥(.ref m),none] h=.ok (false,h):=by rw[agK,v_not,GM,a];simp
 have s3:AX (Dq 1 [] (DR (I 0)) (AA 0) (AT (A0 (Ap false) (I 0) (pu N3))) (I 0)) (AA 2) [↥(.ref q),↥(.ref m),none] h=.ok (.AR [↥(.ref q),↥(.ref m),↥(.ref ⇑h)],h++[⟨.lst,(ps.filterMap id).map λp=>B8 ↥p⟩]):=by rw[DU,c];rfl
 have e:Ze [.ref q,.ref m] h=((Yw [↥(.ref q),↥(.ref m),none] h).bind outF).bind λp=>settle h p.1 p.2:=rfl;rw[e];unfold Yw;rw[Ax,Db,t1,A2,if_neg γ,FC,A2,B1,Ax,Db,Ca,A2,if_neg γ,FC,A2,B1,Ax,s3,A2,B1];erw[Fb,Bb,GA,CG,CY,v_var,DV,EG,CS,A2,ls,E9,U1,H8];simp
def acR{cs:↑Nat}{ws:ξ}(FH:⇑cs<=6){B C:↑↑Cz}(JJ:HW cs B)(ab_:HW cs C){h:A5}{m q b c:Nat}(A:JW h m cs ws)(H2:Ei h b B)(Jc:Ei h c C){ps:↑Cq}(P:Sa ⇑cs ps)(eq:h[q]?=↥⟨.lst,ps.map B8⟩):Wo [.ref m,.ref b,.ref c,.ref q] h=.ok (.non,h):=by simp[Wo,d5,hy FH JJ A H2,hy FH ab_ A Jc,acS A P eq]
noncomputable def b8:↑Str:=["net","books","plan","done","came","letters","ended"]
noncomputable def Ms(Jm LH DY pl M Bn:Nat):O:=⟨.ins "Run" b8,[.ref Jm,.tup [.ref LH,.ref DY],.ref pl,.ref M,.int (Bn:Int),.ref (M+1),.ref (M+2)]⟩
def Nu{c f:Str}{ns ns':↑Str}{us ak:↑W}{v:B7}{ρ:B9}{h X Y:A5}{w:W}(h0:ρ[0]?=↥↥(.ref ⇑h))(ev:v ρ (h++(⟨.ins c ns,us⟩::X))=.ok (w,h++(⟨.ins c ns,us⟩::(X++Y))))(l:⇑ns<1000)(AC:SP ns f=ns')(AH:RA ns us f w=ak):F1 c f (I 0) v ρ (h++(⟨.ins c ns,us⟩::X))=.ok (.AR ρ,h++(⟨.ins c ns',ak⟩::(X++Y))):=by rw[Tr,ev,A2,v_var,h0,CS,A2];rw[SR (Hf h _) l AC AH,Pr];rfl
noncomputable def J5(L:Nat)(cs:↑Nat)(ws:ξ)(A B:↑↑Cz)(ps:↑Cq):A5:=[⟨.lst,Bx cs⟩,⟨.lst,ws.map CE⟩,Mo cs ws (L+4),He ws]++IL (L+5) A++IL (L+6+⇑A) B++[⟨.lst,ps.map B8⟩]
def b9(L:Nat)(cs:↑Nat)(ws:ξ)(A B:↑↑Cz)(ps:↑Cq):⇑(J5 L cs ws A B ps)=⇑A+⇑B+7:=by simp[J5,Nk];lia
def af2{cs:↑Nat}{ws:ξ}(N:K_ cs ws){A B:↑↑Cz}(KL:HW cs A)(JJ:HW cs B){ps:↑Cq}(P:Sa ⇑cs ps){h:A5}{m a b q:Nat}(YE:JW h m cs ws)(Hl:Ei h a A)(H2:Ei h b B)(AY:h[q]?=↥⟨.lst,ps.map B8⟩) :
  Qx [.ref ⇑h,.ref m,.ref a,.ref b,.ref q] (h++[⟨.ins "Run" [],[]⟩])=.ok (.non,h++(Ms (⇑h+3) (⇑h+5) (⇑h+6+⇑A) (⇑h+7+⇑A+⇑B) (⇑h+8+⇑A+⇑B) 0::(J5 ⇑h cs ws A B ps++[⟨.lst,[]⟩,⟨.Ak [],[]⟩,⟨.lst,[]⟩]))):=by
 have e:Qx [.ref ⇑h,.ref m,.ref a,.ref b,.ref q] (h++[⟨.ins "Run" [],[]⟩])=(Xx [↥(.ref ⇑h),↥(.ref m),↥(.ref a),↥(.ref b),↥(.ref q)] (h++[⟨.ins "Run" [],[]⟩])).bind outF:=rfl;rw[e];obtain⟨ρ,C3⟩:∃ρ:B9,ρ=[↥(.ref ⇑h),↥(.ref m),↥(.ref a),↥(.ref b),↥(.ref q)]:=π;rw[<-C3];have Jb:ρ[0]?=↥↥(.ref ⇑h):=by rw[C3];rfl
 have v1:∀h',I 1 ρ h'=.ok (.ref m,h'):=by rw[C3];exact λ_=>rfl
 have v2:∀h',I 2 ρ h'=.ok (.ref a,h'):=by rw[C3];exact λ_=>rfl
 have W3:∀h',I 3 ρ h'=.ok (.ref b,h'):=by rw[C3];exact λ_=>rfl
 have v4:∀h',I 4 ρ h'=.ok (.ref q,h'):=by rw[C3];exact λ_=>rfl
 have ZU:=P.l;have kH:=KL.1;have V8:=JJ.1;have s0:E_ (Ae 4 Wo (Z (I 1) (Z (I 2) (Z (I 3) (Z (I 4) A1))))) ρ (h++[⟨.ins "Run" [],[]⟩])=.ok (.AR ρ,h++[⟨.ins "Run" [],[]⟩]):=by erw[Hv,IV,CG,CY,v1,v2,W3,v4,A2,DX,F2,HE,if_true,acR N.FH KL JJ (YE.more _) (Hl.more _) (H2.more _) P (CB h AY _)]
 have s1:F1 "Run" "net" (I 0) (Ae 1 Wb (Z (I 1) A1)) ρ (h++[⟨.ins "Run" [],[]⟩])=.ok (.AR ρ,h++(⟨.ins "Run" ["net"],[.ref (⇑h+3)]⟩::([]++[⟨.lst,Bx cs⟩,⟨.lst,ws.map CE⟩,Mo cs ws (⇑h+4),He ws]))):=by refine Nu Jb ?_ ε rfl rfl;erw[IV,CG,CY,v1,A2,DX,F2,HE,if_true,ac0 N (YE.more _)];rw[EB,Em];rfl
 obtain⟨QG,x1⟩:∃X:A5,X=[]++[⟨.lst,Bx cs⟩,⟨.lst,ws.map CE⟩,Mo cs ws (⇑h+4),He ws]:=π;have Cp:⇑QG=4:=by rw[x1];rfl
 rw[<-x1]at s1;have s2:F1 "Run" "books" (I 0) (BE (Z (Ae 1 Qy (Z (I 2) A1)) (Z (Ae 1 Qy (Z (I 3) A1)) A1))) ρ (h++(⟨.ins "Run" ["net"],[.ref (⇑h+3)]⟩::QG))=.ok (.AR ρ,h++(⟨.ins "Run" ["net","books"],[.ref (⇑h+3),.tup [.ref (⇑h+5),.ref (⇑h+6+⇑A)]]⟩::(QG++(IL (⇑h+5) A++IL (⇑h+6+⇑A) B)))):=by
  refine Nu Jb ?_ ε rfl rfl;have Bd:=hv N.FH KL (Hl.more (⟨.ins "Run" ["net"],[.ref (⇑h+3)]⟩::QG));have CA:⇑(h++(⟨.ins "Run" ["net"],[.ref (⇑h+3)]⟩::QG))=⇑h+5:=by simp[Cp]
  rw[CA,EB]at Bd;have Co:=hv N.FH JJ (H2.more ((⟨.ins "Run" ["net"],[.ref (⇑h+3)]⟩::QG)++IL (⇑h+5) A));have B5:⇑(h++((⟨.ins "Run" ["net"],[.ref (⇑h+3)]⟩::QG)++IL (⇑h+5) A))=⇑h+6+⇑A:=by simp[Cp,Nk];lia
  rw[B5]at Co;erw[QU,IV,CG,CY,v2,W3,A2,DX,F2,HE,if_true,Bd,Co];rw[if_pos ε];simp
 obtain⟨Sg,x2⟩:∃X:A5,X=QG++(IL (⇑h+5) A++IL (⇑h+6+⇑A) B):=π;have CV:⇑Sg=6+⇑A+⇑B:=by rw[x2];simp[Cp,Nk];lia
 rw[<-x2]at s2;have s3:F1 "Run" "plan" (I 0) (B6 FA (Z (I 4) A1)) ρ (h++(⟨.ins "Run" ["net","books"],[.ref (⇑h+3),.tup [.ref (⇑h+5),.ref (⇑h+6+⇑A)]]⟩::Sg))=.ok (.AR ρ,h++(⟨.ins "Run" ["net","books","plan"],[.ref (⇑h+3),.tup [.ref (⇑h+5),.ref (⇑h+6+⇑A)],.ref (⇑h+7+⇑A+⇑B)]⟩::(Sg++[⟨.lst,ps.map B8⟩]))):=by
  refine Nu Jb ?_ ε rfl rfl;have Bd:FA [.ref q] (h++(⟨.ins "Run" ["net","books"],[.ref (⇑h+3),.tup [.ref (⇑h+5),.ref (⇑h+6+⇑A)]]⟩::Sg))=_:=T0 (H9 _ (CB h AY _)) (by rw[CU];unfold At;lia);erw[GA,CG,CY,v4,A2,Bd];have:⇑(h++(⟨.ins "Run" ["net","books"],[.ref (⇑h+3),.tup [.ref (⇑h+5),.ref (⇑h+6+⇑A)]]⟩::Sg))=⇑h+7+⇑A+⇑B:=by simp[CV];lia
  rw[this,EB];rfl
 obtain⟨OH,x3⟩:∃X:A5,X=Sg++[⟨.lst,ps.map B8⟩]:=π;have Og:⇑OH=7+⇑A+⇑B:=by rw[x3];simp[CV];lia
 rw[<-x3]at s3;obtain⟨us,GF⟩:∃us:↑W,us=[.ref (⇑h+3),.tup [.ref (⇑h+5),.ref (⇑h+6+⇑A)],.ref (⇑h+7+⇑A+⇑B)]:=π;have s4:F1 "Run" "done" (I 0) (Bg A1) ρ (h++(⟨.ins "Run" ["net","books","plan"],[.ref (⇑h+3),.tup [.ref (⇑h+5),.ref (⇑h+6+⇑A)],.ref (⇑h+7+⇑A+⇑B)]⟩::OH))=.ok (.AR ρ,h++(⟨.ins "Run" ["net","books","plan","done"],[.ref (⇑h+3),.tup [.ref (⇑h+5),.ref (⇑h+6+⇑A)],.ref (⇑h+7+⇑A+⇑B),.ref (⇑h+8+⇑A+⇑B)]⟩::(OH++[⟨.lst,[]⟩]))):=by refine Nu Jb ?_ ε rfl rfl;rw[Mx,CY,A2,I8 _ γ];simp[Og];lia
 have s5:F1 "Run" "came" (I 0) η ρ (h++(⟨.ins "Run" ["net","books","plan","done"],[.ref (⇑h+3),.tup [.ref (⇑h+5),.ref (⇑h+6+⇑A)],.ref (⇑h+7+⇑A+⇑B),.ref (⇑h+8+⇑A+⇑B)]⟩::(OH++[⟨.lst,[]⟩])))=.ok (.AR ρ,h++(⟨.ins "Run" ["net","books","plan","done","came"],[.ref (⇑h+3),.tup [.ref (⇑h+5),.ref (⇑h+6+⇑A)],.ref (⇑h+7+⇑A+⇑B),.ref (⇑h+8+⇑A+⇑B),.int 0]⟩::(OH++[⟨.lst,[]⟩]++[]))):=by refine Nu Jb ?_ ε rfl rfl;rw[Io];rfl
 rw[Io]at s5;have s6:F1 "Run" "letters" (I 0) (Kq false) ρ (h++(⟨.ins "Run" ["net","books","plan","done","came"],[.ref (⇑h+3),.tup [.ref (⇑h+5),.ref (⇑h+6+⇑A)],.ref (⇑h+7+⇑A+⇑B),.ref (⇑h+8+⇑A+⇑B),.int 0]⟩::(OH++[⟨.lst,[]⟩])))=.ok (.AR ρ,h++(⟨.ins "Run" ["net","books","plan","done","came","letters"],[.ref (⇑h+3),.tup [.ref (⇑h+5),.ref (⇑h+6+⇑A)],.ref (⇑h+7+⇑A+⇑B),.ref (⇑h+8+⇑A+⇑B),.int 0,.ref (⇑h+8+⇑A+⇑B+1)]⟩::(OH++[⟨.lst,[]⟩]++[⟨.Ak [],[]⟩]))):=by refine Nu Jb ?_ ε rfl rfl;have:∀h':A5,Kq false ρ h'=.ok (.ref ⇑h',h'++[⟨.Ak [],[]⟩]):=λh'=>rfl;rw[this];simp[Og];lia
 have s7:F1 "Run" "ended" (I 0) (Bg A1) ρ (h++(⟨.ins "Run" ["net","books","plan","done","came","letters"],[.ref (⇑h+3),.tup [.ref (⇑h+5),.ref (⇑h+6+⇑A)],.ref (⇑h+7+⇑A+⇑B),.ref (⇑h+8+⇑A+⇑B),.int 0,.ref (⇑h+8+⇑A+⇑B+1)]⟩::(OH++[⟨.lst,[]⟩]++[⟨.Ak [],[]⟩])))=.ok (.AR ρ,h++(Ms (⇑h+3) (⇑h+5) (⇑h+6+⇑A) (⇑h+7+⇑A+⇑B) (⇑h+8+⇑A+⇑B) 0::(OH++[⟨.lst,[]⟩]++[⟨.Ak [],[]⟩]++[⟨.lst,[]⟩]))):=by refine Nu Jb ?_ ε rfl rfl (w:=.ref (⇑h+8+⇑A+⇑B+2));rw[Mx,CY,A2,I8 _ γ];simp[Og];lia
 unfold Xx;rw[Ax,s0,A2,B1,Ax,s1,A2,B1,Ax,s2,A2,B1,Ax,s3,A2,B1,Ax,s4,A2,B1,Ax,s5,A2,B1,Ax,s6,A2,B1,s7,A2,fP];rw[x3,x2,x1,J5];simp
end FG
namespace C2
open PySem PySem.Spec B5
noncomputable def Ja(o:Option W)(ρ:B9):FL:=match o with
 |some v=>.EM v
 |none=>.AR ρ
theorem ck{α β:Type}(p:α->Bool)(f:α->β):∀l:↑α,l.findSome? (λa=>if p a=true then↥(f a)else none)=(l.find? p).map f
 |[]=>rfl
 |a::l=>by
  rw[List.findSome?_cons,Qc];cases h:p a
  .simpa using ck p f l
  .rfl
def cW{mi:G4}{it:Gx}{g:DG}{b:Ai}{ρ:B9}{h h0:A5}(n:Nat)(AZ:n<1000)(wf:Nat->W)(BC:B9->Prop)(q:Nat->Option W)(AD:mi ρ h0=.ok (it,h))(hit:∀j,j<=n->it j h=↥(if j<n then↥(wf j)else none))(yT:BC ρ)(DT:∀j,j<n->∀ρ,BC ρ->∃CO Dk,g (wf j) ρ h=.ok (.AR CO,h)/\BC Dk/\b CO h=.ok (Ja (q j) Dk,h)) :
  ∃E4,BC E4/\Eo mi g b ρ h0=.ok (Ja ((Ch n).findSome? q) E4,h):=by
 have:=cU (mi:=mi) (it:=it) (g:=g) (b:=b) (ρ:=ρ) (h:=h0) (h0:=h) n AZ (λj ρ h'=>j<=n/\BC ρ/\h'=h/\(Ch j).findSome? q=none)
  (T:=λf h'=>h'=h/\∃E4,BC E4/\f=Ja ((Ch n).findSome? q) E4) AD ⟨Hy _,yT,rfl,rfl⟩ (by
  rintro j ρ _ ⟨Am,i,rfl,e⟩;rw[hit j Am];by_cases DD:j<n
  .obtain⟨CO,Dk,AC,F8,AH⟩:=DT j DD ρ i;refine .inr ⟨wf j,by rw[if_pos DD],DD,CO,_,AC,?_⟩;rw[AH];cases eq:q j with
   |none=>erw[Ja,Vq,YO];refine⟨DD,F8,trivial,?_⟩;rw[Xg,gJ,e];simp[eq]
   |some v=>
    erw[Ja,Vq,t5];refine⟨trivial,Dk,F8,?_⟩;have:(Ch n).findSome? q=↥v:=by
     have h2:Ch n=Ch j++(j::(List.range' (j+1) (n-(j+1)))):=by have:=List.range'_append_1 (s:=0) (m:=j) (n:=n-j);rw[Nat.zero_add,<-rx,show j+(n-j)=n by lia,<-rx]at this;rw[<-this,show n-j=(n-(j+1))+1 by lia,List.range'_succ]
     rw[h2,gJ,e];simp[eq]
    rw[this]
  .have:j=n:=δ
   subst this;refine .inl ⟨by rw[if_neg DD],rfl,ρ,i,?_⟩;rw[e];rfl)
 obtain⟨f,h',CI,rfl,E4,yS,rfl⟩:=this.Gc;exact⟨E4,yS,CI⟩
def adU(n j:Nat)(h:A5):LO 0 n j h=↥(if j<n then↥(.int (j:Int))else none):=by simp[LO]
def aaX{h:A5}{n:Nat}{α:Type}{f:α->W}{l:↑α}{d:α}(e:h[n]?=↥⟨.lst,l.map f⟩)(j:Nat):FI (.ref n) j h=↥(if j< ⇑l then↥(f (l.getD j d))else none):=by
 rw[Mh e,E5];by_cases Am:j< ⇑l
 .rw[if_pos Am,CP Am,Eh,CP Am];rfl
 .rw[if_neg Am,J9 δ];rfl
def uf{h:A5}{n:Nat}{α:Type}{f:α->W}{l:↑α}{d:α}(e:h[n]?=↥⟨.lst,l.map f⟩)(j:Nat)(Am:j<=⇑l):Pn (.ref n) j h=↥(if j< ⇑l then↥(.tup [.int (j:Int),f (l.getD j d)])else none):=by
 erw[Pn,Ol h e,CU];by_cases DD:j< ⇑l
 .rw[if_neg δ,if_pos DD,E5,CP DD,Eh,CP DD];rfl
 .rw[if_pos δ,if_neg DD]
@[simp] theorem ajS(f g k:DG)(x y z:W)(ρ:B9)(h:A5):EY [f,g,k] (.tup [x,y,z]) ρ h=(f x ρ h).bind (OR λρ h=>(g y ρ h).bind (OR λρ h=>(k z ρ h).bind (OR BR))):=by
  erw[EY,UB,DX,F2,Tp,Ax];rw[if_pos trivial]
  congr
end C2
namespace FG
open PySem PySem.Spec B5 C2
def Gf(k:Nat):Nat:=[8,4,2,1].getD k 1
noncomputable def Yd(x:Str)(a k:Nat):Bool:=x.cps.toList.getD k 0==120||x.cps.toList.getD k 0==48+a/Gf k%2
noncomputable def N7(x:Str)(a:Nat):Bool:=(Ch 4).all (Yd x a)
def qI(k:Nat):0<Gf k:=by
 unfold Gf;by_cases h:k<4
 .rcases(by lia:k=0\/k=1\/k=2\/k=3)with rfl|rfl|rfl|rfl<;>decide
 .rw[Eh,J9 (by simp;lia)];decide
def afF{c:Nat}(s:LF c)(b:Nat)(A4:b<2)(h:A5):Du true (.str ⟨#[c]⟩) (.tup [.str (AK "x"),.str (toString ((b:Nat):Int))]) h=.ok (.AL (c==120||c==48+b),h):=by
 rw[VV (d:=.str ⟨#[c]⟩) (t:=true) (ds:=[.str (AK "x"),.str (toString ((b:Nat):Int))]) rfl (by simp[CD]) (by simp[CD])];have:b=0\/b=1:=δ
 rcases this with rfl|rfl<;>rcases s with rfl|rfl|rfl<;>rfl
def acL(h:A5){k:Nat}(AP:k<4):AB (.ref ⇑h) (.int (k:Int)) (h++[⟨.lst,[.int 8,.int 4,.int 2,.int 1]⟩])=.ok (.int (Gf k:Nat),h++[⟨.lst,[.int 8,.int 4,.int 2,.int 1]⟩]):=by refine Gk (Hf h _) ?_;rcases(by lia:k=0\/k=1\/k=2\/k=3)with rfl|rfl|rfl|rfl<;>rfl
def fV{x:Str}(p:RY x){k:Nat}(AP:k<4):LF (x.cps.toList.getD k 0):=by have Cc:=p.l;rw[Eh,CP δ];exact p.s _ (JD _)
def afE{x:Str}(p:RY x){k:Nat}(AP:k<4)(h:A5):AB (.str x) (.int (k:Int)) h=.ok (.str ⟨#[x.cps.toList.getD k 0]⟩,h):=by
 have Cc:=p.l;have e:JY x.cps.toList (k:Int)=↥(x.cps.toList.getD k 0):=by unfold JY M8;rw[if_pos δ,if_pos δ];erw[Qg,gs,Eh];rw[CP δ];rfl
 have BI:⇑x<=At:=by rw[str_len,Cc];decide
 show Py (.str x) (.int (k:Int)) h=_;unfold Py;erw[if_pos BI,e]
def ul(c:Nat)(s:LF c)(h:A5):Ap false (.str ⟨#[c]⟩) (.str (AK "x")) h=.ok (.AL (!(c==120)),h):=by rw[kk];rcases s with rfl|rfl|rfl<;>rfl
def acs(h:A5){b:Nat}(A4:b<2):AB (.str (AK "01")) (.int (b:Int)) h=.ok (.str ⟨#[48+b]⟩,h):=by
 have:b=0\/b=1:=δ
 rcases this with rfl|rfl<;>rfl
def uk(c:Nat)(s:LF c){b:Nat}(A4:b<2)(h:A5):Ap false (.str ⟨#[c]⟩) (.str ⟨#[48+b]⟩) h=.ok (.AL (!(c==48+b)),h):=by
 rw[kk];have:b=0\/b=1:=δ
 rcases this with rfl|rfl<;>rcases s with rfl|rfl|rfl<;>rfl
noncomputable def dw:Ai:=AN (AX (Bh (A0 BK (A0 CT (I 1) (A0 AB (Bg (Z (pu (.int 8)) (Z (pu (.int 4)) (Z (pu (.int 2)) (Z ζ A1))))) (I 2))) (pu (.int 2)))) (AA 3))
    (BU (Eg (AT (A0 (Ap false) (A0 AB (I 0) (I 2)) (pu (.str (AK "x"))))) (AT (A0 (Ap false) (A0 AB (I 0) (I 2)) (A0 AB (pu (.str (AK "01"))) (I 3))))) (Au (pu (.AL false))) BR)
def qH(k:Nat):Gf k<=8:=by
 unfold Gf;by_cases h:k<4
 .rcases(by lia:k=0\/k=1\/k=2\/k=3)with rfl|rfl|rfl|rfl<;>decide
 .rw[Eh,J9 (by simp;lia)];decide
def range_all{n:Nat}{p:Nat->Bool}{v:W}:(Ch n).findSome? (λj=>if p j=true then none else↥v)=if(Ch n).all p=true then none else↥v:=by
 induction n with
 |zero=>rfl
 |succ n CC=>rw[Xg,gJ,CC,List.all_append];cases(Ch n).all p<;>cases h:p n<;>simp[h]
def abA{x:Str}(p:RY x)(a:Nat)(h:A5):TJ [.str x,.int (a:Int)] h=.ok (.AL (N7 x a),h):=by
 obtain⟨E4,_,e⟩:=cW (mi:=Dr (Z (pu (.int 4)) A1)) (g:=AA 2) (b:=dw) (ρ:=[↥(.str x),↥(.int (a:Int)),none,none]) (h:=h) (h0:=h) 4 δ (λj=>.int (j:Int)) (λρ=>∃s t,ρ=[↥(.str x),↥(.int (a:Int)),s,t]) (λj=>if Yd x a j=true then none else↥(.AL false)) (LN (n:=4) γ δ) (λj _=>adU 4 j h) ⟨none,none,rfl⟩ (by
  rintro j Am _ ⟨s,t,rfl⟩;have Fe:a/Gf j%2<2:=Uf _ δ;have q:=qI j;have Pg:=qH j;refine⟨[↥(.str x),↥(.int (a:Int)),↥(.int (j:Int)),t],[↥(.str x),↥(.int (a:Int)),↥(.int (j:Int)),↥(.int ((a/Gf j%2:Nat):Int))],γ,⟨_,_,rfl⟩,?_⟩;have Bd:(0:Int)<(Gf j:Int)/\(Gf j:Int)<1073741824:=δ
  have s1:AX (Bh (A0 BK (A0 CT (I 1) (A0 AB (Bg (Z (pu (.int 8)) (Z (pu (.int 4)) (Z (pu (.int 2)) (Z ζ A1))))) (I 2))) (pu (.int 2)))) (AA 3) [↥(.str x),↥(.int (a:Int)),↥(.int (j:Int)),t] h=.ok (.AR [↥(.str x),↥(.int (a:Int)),↥(.int (j:Int)),↥(.int ((a/Gf j%2:Nat):Int))],h):=by have EJ:=acL h Am;erw[DU,FD,Bb,Mx,CG,CY,v_var,Bq,DV,EG,CS,A2,I8 h (show⇑([.int 8,.int 4,.int 2,.int 1]:↑W)<=At by decide),EJ,Lc,if_pos Bd,LJ,if_pos (show(0:Int)<2 by decide)];rw[Ru _ _ _ γ];simp
  have x1:=afE p Am h;unfold dw;rw[Ax,s1,A2,B1,Db];erw[v_and,GM,Bb,v_var,Bq,DV,EG,CS,A2,x1,ul _ (fV p Am),Gj,acs h Fe,uk _ (fV p Am) Fe];have CI:Yd x a j=(x.cps.toList.getD j 0==120||x.cps.toList.getD j 0==48+a/Gf j%2):=rfl;rw[CI];cases h1:x.cps.toList.getD j 0==120<;>cases h2:x.cps.toList.getD j 0==48+a/Gf j%2<;>simp[Ja])
 have CH:TJ [.str x,.int (a:Int)] h=((AN (Eo (Dr (Z (pu (.int 4)) A1)) (AA 2) dw) (Au (pu (.AL true))) [↥(.str x),↥(.int (a:Int)),none,none] h).bind outF).bind λp=>settle h p.1 p.2:=rfl;rw[CH,Ax,e,range_all];unfold N7;cases(Ch 4).all (Yd x a)<;>simp[Ja]
noncomputable def X5(x:Str)(k:Nat):W:=.tup [.str ⟨#[x.cps.toList.getD k 0]⟩,.int (Gf k:Nat)]
noncomputable def cm(a:Nat):W->Bool
 |.tup [.str s,.int v]=>s.cps.toList.getD 0 0==120||s.cps.toList.getD 0 0==48+a/v.toNat%2
 |_=>false
def hM{a:Nat}(AF:a<16)(h:A5):TB [.int (a:Int)] h=.ok (.AL true,h):=by have w:=Ts (a:Int) 0 15 h;rw[decide_eq_true (show(0:Int)<=(a:Int)by lia),decide_eq_true (show(a:Int)<=15 by lia)]at w;simp[TB,bp,V4,w]
def xC{x:Str}(p:RY x){a:Nat}(AF:a<16)(h:A5):Wd [.str x,.int (a:Int)] h=.ok (.AL (N7 x a),h):=by
 have Cc:=p.l;have al:=bZ (mi:=WY (Z (I 0) (Z (pu P2) A1))) (it:=aH x [.int 8,.int 4,.int 2,.int 1]) (g:=EY [(AA 0),(AA 1)]) (e:=A0 (Du true) (I 0) (BE (Z (pu (.str (AK "x"))) (Z (B6 QO (Z (A0 BK (A0 CT (I 2) (I 1)) (pu (.int 2))) A1)) A1)))) (ρ:=[↥(.str x),↥(.int (a:Int))]) (h:=h) (nl:=2) (caps:=[1]) ((Ch 4).map (X5 x)) (cm a) (λρ=>∃s t,ρ=[s,t,↥(.int (a:Int))]) γ (by simp[WY,P2]) ⟨none,none,rfl⟩ (λj acc Am=>by
   erw[CU,gT]at Am;have AO:x.cps.size=4:=Cc;unfold aH;erw[AO,DX,F2];by_cases DD:j<4
   .rw[if_neg δ];rw[E5,UM DD,Le δ];rcases(by lia:j=0\/j=1\/j=2\/j=3)with rfl|rfl|rfl|rfl<;>simp[X5,Gf,AO]
   .have:j=4:=δ
    subst this;rfl) (by
  rintro w hw ρ acc ⟨s,t,rfl⟩;obtain⟨k,AP,rfl⟩:=List.mem_map.mp hw;have AP:=List.mem_range.mp AP;have q:=qI k;have Pg:=qH k;have Fe:a/Gf k%2<2:=Uf _ δ;refine⟨[↥(.str ⟨#[x.cps.toList.getD k 0]⟩),↥(.int (Gf k:Nat)),↥(.int (a:Int))],by simp[X5],⟨_,_,rfl⟩,?_⟩;have Bd:(0:Int)<(Gf k:Int)/\(Gf k:Int)<1073741824:=δ
  have AH:(a:Int)/(Gf k:Int)%2=((a/Gf k%2:Nat):Int):=γ
  have st:∀g:A5,QO [.int ((a/Gf k%2:Nat):Int)] g=.ok (.str (toString ((a/Gf k%2:Nat):Int)),g):=λg=>by unfold QO;dsimp only;rw[if_pos];rcases(by lia:a/Gf k%2=0\/a/Gf k%2=1)with e|e<;>rw[e]<;>decide
  erw[Bb,QU,CG,CY,GA,v_var,Bq,DV,EG,CS,A2,Lc,if_pos Bd,LJ,if_pos (show(0:Int)<2 by decide),AH,st];rw[if_pos (by simp[At]),A2,afF (fV p AP) _ Fe];simp[cm,X5])
 have BW:((Ch 4).map (X5 x)).all (cm a)=N7 x a:=by
  unfold N7;rw[SE]
  congr 1
 rw[BW]at al;have sq:Bh (B6 (HM true) (Z (Dq 2 [1] (WY (Z (I 0) (Z (pu P2) A1))) (EY [(AA 0),(AA 1)]) (pu true) (A0 (Du true) (I 0) (BE (Z (pu (.str (AK "x"))) (Z (B6 QO (Z (A0 BK (A0 CT (I 2) (I 1)) (pu (.int 2))) A1)) A1))))) A1)) [↥(.str x),↥(.int (a:Int))] h=.ok (.AL (N7 x a),h):=by rw[FD,al];simp
 simp[-FD,Wd,bo,mZ p,hM AF,sq]
end FG
namespace C2
open PySem PySem.Spec B5
def xB{n:Nat}{p:Nat->Bool}{k:Nat}(h:(Ch n).find? p=↥k):k<n/\p k=true:=⟨List.mem_range.mp (rW h),List.find?_some h⟩
end C2
namespace FG
open PySem PySem.Spec B5 C2
def Ie:Cz:=⟨AK "",none,none⟩
noncomputable def Mr(i a:Nat)(r:Cz):Bool:=(r.a.isNone||r.a==↥i)&&N7 r.p a
noncomputable def SS(B_:↑Cz)(i a:Nat):Option Nat:=(Ch ⇑B_).find? λj=>Mr i a (B_.getD j Ie)
inductive Tl where
 |at (d:Af)|drop (h:Nat)|out (d:Af)|NT (h:Nat)
noncomputable def CQ:Tl->W
 |.at d=>.tup [.str (AK "at"),.int (d.1:Int),.int (d.2:Int)]
 |.drop h=>.tup [.str (AK "drop"),.int (h:Int)]
 |.out d=>.tup [.str (AK "out"),.int (d.1:Int),.int (d.2:Int)]
 |.NT h=>.tup [.str (AK "lost"),.int (h:Int)]
@[simp] theorem aih(t:Tl):DE (CQ t)=true:=by cases t<;>simp[CQ]
noncomputable def LK(ws:ξ)(h:Nat):Option Nat->Tl
 |none=>.drop h
 |some o=>match EX ws (h,o)with
  |none=>.out (h,o)
  |some e=>.at e
noncomputable def Ow(ws:ξ)(B_:↑Cz)(d:Af)(a:Nat):Tl:=match SS B_ d.2 a with
 |none=>.drop d.1
 |some k=>LK ws d.1 (B_.getD k Ie).b
def jv(h:A5)(o:Option Nat):EZ true (D8 o) .non h=.ok (.AL o.isNone,h):=by cases o<;>rfl
def jV(h:A5)(o:Option Nat)(i:Nat)(ho:o.isNone=false):Ap true (D8 o) (.int (i:Int)) h=.ok (.AL (o==↥i),h):=by
 cases o with
 |none=>cases ho
 |some k=>
  rw[D8,U1]
  congr 3
  by_cases e:k=i
  .subst e;simp
  .have:¬(k:Int)=(i:Int):=δ
   simp[e,this]
def getD_mem{α:Type}{l:↑α}{k:Nat}{d:α}(h:k< ⇑l):l.getD k d∈l:=by rw[Eh,CP h];exact JD _
noncomputable def g7:Ai:=BU (Eg (FY (AT (A0 (EZ true) (A0 AB (I 4) ζ) (pu (.non)))) (AT (A0 (Ap true) (A0 AB (I 4) ζ) (I 1)))) (AT (Ae 2 Wd (Z (A0 AB (I 4) η) (Z (I 2) A1))))) (Au (I 3)) BR
def aeS{c:Nat}{B_:↑Cz}(ok:L5 c B_){h:A5}{b i a:Nat}(AF:a<16)(BI:h[b]?=↥(FS B_)):Wp [.ref b,.int (i:Int),.int (a:Int)] h=.ok (D8 (SS B_ i a),h):=by
 have aav:=ok.1;obtain⟨E4,_,e⟩:=cW (mi:=Q5 (Z (I 0) A1)) (it:=Pn (.ref b)) (g:=EY [(AA 3),(AA 4)]) (b:=g7) (ρ:=[↥(.ref b),↥(.int (i:Int)),↥(.int (a:Int)),none,none]) (h:=h) (h0:=h) ⇑B_ δ (λj=>.tup [.int (j:Int),Eb (B_.getD j Ie)]) (λρ=>∃s t,ρ=[↥(.ref b),↥(.int (i:Int)),↥(.int (a:Int)),s,t]) (λj=>if Mr i a (B_.getD j Ie)=true then↥(.int (j:Int))else none) (by simp[Q5,Ol h BI]) (λj Am=>uf BI j Am) ⟨none,none,rfl⟩ (by
  rintro j Am _ ⟨s,t,rfl⟩;obtain⟨r,BA⟩:∃r,r=B_.getD j Ie:=π;have eS:=ok.2 r (BA▸getD_mem Am);rw[<-BA];refine⟨[↥(.ref b),↥(.int (i:Int)),↥(.int (a:Int)),↥(.int (j:Int)),↥(Eb r)],[↥(.ref b),↥(.int (i:Int)),↥(.int (a:Int)),↥(.int (j:Int)),↥(Eb r)],γ,⟨_,_,rfl⟩,?_⟩;have x0:AB (Eb r) (.int 0) h=.ok (.str r.p,h):=FW h _ _;have x1:AB (Eb r) (.int 1) h=.ok (D8 r.a,h):=IQ h _ _ _;have R7:=xC eS.p AF h;unfold g7;rw[Db];erw[v_and,v_or,GM,Bb,IV,CG,CY,v_var,Bq,DV,EG,CS,A2,x0,x1,jv,Gj,R7,DX,F2,HE,if_true];unfold Mr;cases h1:r.a.isNone
  .erw[MO,if_false,jV h _ i h1,A2,Gj,gi];cases h2:r.a==↥i<;>cases BO:N7 r.p a<;>simp[Ja,x0,R7,BO]
  .cases BO:N7 r.p a<;>simp[Ja,x0,R7,BO])
 rw[ck (λj=>Mr i a (B_.getD j Ie)) (λj:Nat=>W.int (j:Int))]at e;have CH:Wp [.ref b,.int (i:Int),.int (a:Int)] h=((AN (Eo (Q5 (Z (I 0) A1)) (EY [(AA 3),(AA 4)]) g7) (Au (pu (.non))) [↥(.ref b),↥(.int (i:Int)),↥(.int (a:Int)),none,none] h).bind outF).bind λp=>settle h p.1 p.2:=rfl;rw[CH,Ax,e];unfold SS;cases(Ch ⇑B_).find? λj=>Mr i a (B_.getD j Ie)<;>simp[Ja,D8]
def aau{cs:↑Nat}{ws:ξ}{h:A5}{n:Nat}(A:JW h n cs ws)(d:Af):Qw [.ref n,A_ d] h=.ok (IA (EX ws d),h):=by
 obtain⟨f,AC,AH⟩:=A.ex;have f1:B4 "Net" "far" (.ref n) h=.ok (.ref f,h):=EI AC rfl;have vC:Ob h (.ref f)=true:=by unfold Ob;erw[AH,He]
 have q:Vd (Aw (B4 "Net" "far") (I 0)) (I 1) [↥(.ref n),↥(A_ d)] h=.ok (IA (EX ws d),h):=by unfold Vd;erw[Hu,HO,v_var,DV,CS,A2,f1,Px,vC,if_true,EG,dI AH];cases EX ws d<;>rfl
 simp[Qw,bg,q]
def abM{cs:↑Nat}{ws:ξ}{h:A5}{n b a c:Nat}{B_:↑Cz}(A:JW h n cs ws)(ok:L5 c B_)(BI:h[b]?=↥(FS B_))(AF:a<16)(d:Af):Wm [.ref n,.ref b,A_ d,.int (a:Int)] h=.ok (CQ (Ow ws B_ d a),h):=by
 obtain⟨f,AC,AH⟩:=A.ex;have x0:AB (A_ d) (.int 0) h=.ok (.int (d.1:Int),h):=FW h _ _;have x1:AB (A_ d) (.int 1) h=.ok (.int (d.2:Int),h):=IQ h _ _ _;have CW:=aeS ok (i:=d.2) AF BI;have s1:AX (Ae 3 Wp (Z (I 1) (Z (A0 AB (I 2) ζ) (Z (I 3) A1)))) (AA 4) [↥(.ref n),↥(.ref b),↥(A_ d),↥(.int (a:Int)),none,none,none] h=.ok (.AR [↥(.ref n),↥(.ref b),↥(A_ d),↥(.int (a:Int)),↥(D8 (SS B_ d.2 a)),none,none],h):=by erw[DU,IV,CG,CY,Bb,v_var,Bq,DV,EG,CS,A2,x1,DX,F2,HE,if_true,CW];rfl
 have CH:Wm [.ref n,.ref b,A_ d,.int (a:Int)] h=((ZE [↥(.ref n),↥(.ref b),↥(A_ d),↥(.int (a:Int)),none,none,none] h).bind outF).bind λp=>settle h p.1 p.2:=rfl;rw[CH];unfold ZE;rw[Ax,s1,A2,B1]
 have tail:∀(t:Option Nat)(s4:Option W),((AN (BU (AT (A0 (EZ true) (I 5) (pu (.non)))) (Au (BE (Z (pu (.str (AK "drop"))) (Z (A0 AB (I 2) η) A1)))) BR)
  (AN (AX (Bz "Net" "beyond" 1 Qw (I 0) (Z (BE (Z (A0 AB (I 2) η) (Z (I 5) A1))) A1)) (AA 6))
  (AN (BU (AT (A0 (EZ true) (I 6) (pu (.non)))) (Au (BE (Z (pu (.str (AK "out"))) (Z (A0 AB (I 2) η) (Z (I 5) A1))))) BR)
  (Au (BE (Z (pu (.str (AK "at"))) (Z (A0 AB (I 6) η) (Z (A0 AB (I 6) ζ) A1)))))))) [↥(.ref n),↥(.ref b),↥(A_ d),↥(.int (a:Int)),s4,↥(D8 t),none] h)=.ok (.EM (CQ (LK ws d.1 t)),h):=by
  intro t s4;cases t with
  |none=>simp[D8,EZ,O0,x0,At,LK,CQ]
  |some o=>
   have nb:=aau A (d.1,o);have FJ:Bz "Net" "beyond" 1 Qw (I 0) (Z (BE (Z (A0 AB (I 2) η) (Z (I 5) A1))) A1) [↥(.ref n),↥(.ref b),↥(A_ d),↥(.int (a:Int)),s4,↥(D8 ↥o),none] h=.ok (IA (EX ws (d.1,o)),h):=Jk (us:=[A_ (d.1,o)]) rfl AC rfl (by rw[show A_ (d.1,o)=.tup [.int (d.1:Int),.int (o:Int)]from rfl];simp[x0,At,D8]) rfl nb;have s6:AX (Bz "Net" "beyond" 1 Qw (I 0) (Z (BE (Z (A0 AB (I 2) η) (Z (I 5) A1))) A1)) (AA 6) [↥(.ref n),↥(.ref b),↥(A_ d),↥(.int (a:Int)),s4,↥(D8 ↥o),none] h=.ok (.AR [↥(.ref n),↥(.ref b),↥(A_ d),↥(.int (a:Int)),s4,↥(D8 ↥o),↥(IA (EX ws (d.1,o)))],h):=by rw[DU,FJ];rfl
   have Mw:AT (A0 (EZ true) (I 5) (pu (.non))) [↥(.ref n),↥(.ref b),↥(A_ d),↥(.int (a:Int)),s4,↥(D8 ↥o),none] h=.ok (false,h):=rfl;rw[Ax,Db,Mw,A2,if_neg γ,FC,A2,B1,Ax,s6,A2,B1];cases BI:EX ws (d.1,o)with
   |none=>simp[IA,EZ,O0,x0,At,LK,BI,CQ,D8]
   |some e=>have ahb:AB (A_ e) (.int 0) h=.ok (.int (e.1:Int),h):=FW h _ _;have MZ:AB (A_ e) (.int 1) h=.ok (.int (e.2:Int),h):=IQ h _ _ _;have MG:AT (A0 (EZ true) (I 6) (pu (.non))) [↥(.ref n),↥(.ref b),↥(A_ d),↥(.int (a:Int)),s4,↥(D8 ↥o),↥(IA ↥e)] h=.ok (false,h):=rfl;rw[Ax,Db,MG,A2,if_neg γ,FC,A2,B1];simp[IA,ahb,MZ,At,LK,BI,CQ]
 unfold Ow;cases CI:SS B_ d.2 a with
 |none=>have s2:AX (LX (AT (A0 (EZ true) (I 4) (pu (.non)))) (pu (.non)) (A0 AB (A0 AB (I 1) (I 4)) (pu (.int 2)))) (AA 5) [↥(.ref n),↥(.ref b),↥(A_ d),↥(.int (a:Int)),↥(D8 none),none,none] h=.ok (.AR [↥(.ref n),↥(.ref b),↥(A_ d),↥(.int (a:Int)),↥(D8 none),↥(D8 none),none],h):=rfl;rw[Ax,s2,A2,B1,tail none];simp[LK]
 |some k=>
  have AP:=(xB CI).1;have Es:AB (.ref b) (.int (k:Int)) h=.ok (Eb (B_.getD k Ie),h):=Gk BI (by rw[E5,CP AP,Eh,CP AP];rfl);have Ec:AB (Eb (B_.getD k Ie)) (.int 2) h=.ok (D8 (B_.getD k Ie).b,h):=VZ h _ _ _ _;have fv:AT (A0 (EZ true) (I 4) (pu (.non))) [↥(.ref n),↥(.ref b),↥(A_ d),↥(.int (a:Int)),↥(D8 ↥k),none,none] h=.ok (false,h):=rfl;have s2:AX (LX (AT (A0 (EZ true) (I 4) (pu (.non)))) (pu (.non)) (A0 AB (A0 AB (I 1) (I 4)) (pu (.int 2)))) (AA 5) [↥(.ref n),↥(.ref b),↥(A_ d),↥(.int (a:Int)),↥(D8 ↥k),none,none] h=.ok (.AR [↥(.ref n),↥(.ref b),↥(A_ d),↥(.int (a:Int)),↥(D8 ↥k),↥(D8 (B_.getD k Ie).b),none],h):=by rw[DU,qe,fv,A2,if_neg γ];erw[Bb,v_var,Bq,DV,EG,CS,A2,D8,Es,Ec];rfl
  rw[Ax,s2,A2,B1,tail];simp
noncomputable def e0:Ai:=BU (Eg (AT (Ae 2 TJ (Z (I 4) (Z (I 3) A1)))) (FY (AT (A0 (EZ true) (I 5) (pu (.non)))) (AT (A0 (Ap true) (I 5) (A0 AB (I 2) ζ))))) (AN (BU (AT (A0 (EZ true) (I 6) (pu (.non)))) (Au (BE (Z (pu (.str (AK "drop"))) (Z (A0 AB (I 2) η) A1)))) BR)
    (AN (AX (Ae 2 P_ (Z (I 0) (Z (BE (Z (A0 AB (I 2) η) (Z (I 6) A1))) A1))) (AA 7))
    (AN (BU (AT (A0 (EZ true) (I 7) (pu (.non)))) (Au (BE (Z (pu (.str (AK "out"))) (Z (A0 AB (I 2) η) (Z (I 6) A1))))) BR)
    (Au (A0 addW (BE (Z (pu (.str (AK "at"))) A1)) (I 7)))))) BR
def ac5{ws:ξ}(few:⇑ws<100){h:A5}{n b a c:Nat}{B_:↑Cz}(Ay:h[n]?=↥⟨.lst,ws.map CE⟩)(ok:L5 c B_)(BI:h[b]?=↥(FS B_))(d:Af):Sw [.ref n,.ref b,A_ d,.int (a:Int)] h=.ok (CQ (Ow ws B_ d a),h):=by
 have aav:=ok.1;have x0:AB (A_ d) (.int 0) h=.ok (.int (d.1:Int),h):=FW h _ _;have x1:AB (A_ d) (.int 1) h=.ok (.int (d.2:Int),h):=IQ h _ _ _;obtain⟨E4,⟨s,t,u,v,rfl⟩,e⟩:=cW (mi:=DR (I 1)) (it:=FI (.ref b)) (g:=EY [(AA 4),(AA 5),(AA 6)]) (b:=e0) (ρ:=[↥(.ref n),↥(.ref b),↥(A_ d),↥(.int (a:Int)),none,none,none,none]) (h:=h) (h0:=h) ⇑B_ δ (λj=>Eb (B_.getD j Ie)) (λρ=>∃s t u v,ρ=[↥(.ref n),↥(.ref b),↥(A_ d),↥(.int (a:Int)),s,t,u,v]) (λj=>if Mr d.2 a (B_.getD j Ie)=true then↥(CQ (LK ws d.1 (B_.getD j Ie).b))else none) (K3 BI γ) (λj Am=>aaX BI j) ⟨none,none,none,none,rfl⟩ (by
  rintro j Am _ ⟨s,t,u,v,rfl⟩;obtain⟨r,BA⟩:∃r,r=B_.getD j Ie:=π;have eS:=ok.2 r (BA▸getD_mem Am);rw[<-BA];refine⟨[↥(.ref n),↥(.ref b),↥(A_ d),↥(.int (a:Int)),↥(.str r.p),↥(D8 r.a),↥(D8 r.b),v],[↥(.ref n),↥(.ref b),↥(A_ d),↥(.int (a:Int)),↥(.str r.p),↥(D8 r.a),↥(D8 r.b),v],by simp[Eb],⟨_,_,_,_,rfl⟩,?_⟩;have R7:=abA eS.p a h;have HC:Eg (AT (Ae 2 TJ (Z (I 4) (Z (I 3) A1)))) (FY (AT (A0 (EZ true) (I 5) (pu (.non)))) (AT (A0 (Ap true) (I 5) (A0 AB (I 2) ζ)))) [↥(.ref n),↥(.ref b),↥(A_ d),↥(.int (a:Int)),↥(.str r.p),↥(D8 r.a),↥(D8 r.b),v] h=.ok (Mr d.2 a r,h):=by
   erw[v_and,v_or,GM,Bb,IV,CG,CY,v_var,Bq,DV,EG,CS,A2,x1,jv,Gj,R7,DX,F2,HE,if_true];unfold Mr;cases h1:r.a.isNone
   .erw[MO,if_false,jV h _ d.2 h1,A2,Gj,gi];cases h2:r.a==↥d.2<;>cases BO:N7 r.p a<;>simp
   .cases BO:N7 r.p a<;>simp
  unfold e0;rw[Db,HC,A2];cases BF:Mr d.2 a r
  .simp[Ja]
  .rw[if_pos rfl,if_pos rfl];cases Ep:r.b with
   |none=>simp[D8,EZ,O0,x0,At,LK,CQ,Ja]
   |some o=>
    have nb:=iZ few Ay (d.1,o);have s7:AX (Ae 2 P_ (Z (I 0) (Z (BE (Z (A0 AB (I 2) η) (Z (I 6) A1))) A1))) (AA 7) [↥(.ref n),↥(.ref b),↥(A_ d),↥(.int (a:Int)),↥(.str r.p),↥(D8 r.a),↥(D8 ↥o),v] h=.ok (.AR [↥(.ref n),↥(.ref b),↥(A_ d),↥(.int (a:Int)),↥(.str r.p),↥(D8 r.a),↥(D8 ↥o),↥(IA (EX ws (d.1,o)))],h):=by erw[A_]at nb;simp[x0,At,D8,nb]
    have MG:AT (A0 (EZ true) (I 6) (pu (.non))) [↥(.ref n),↥(.ref b),↥(A_ d),↥(.int (a:Int)),↥(.str r.p),↥(D8 r.a),↥(D8 ↥o),v] h=.ok (false,h):=rfl;rw[Ax,Db,MG,A2,if_neg γ,FC,A2,B1,Ax,s7,A2,B1];cases BI:EX ws (d.1,o)with
    |none=>simp[IA,EZ,O0,x0,At,LK,BI,CQ,D8,Ja]
    |some e=>have aS:AT (A0 (EZ true) (I 7) (pu (.non))) [↥(.ref n),↥(.ref b),↥(A_ d),↥(.int (a:Int)),↥(.str r.p),↥(D8 r.a),↥(D8 ↥o),↥(IA ↥e)] h=.ok (false,h):=rfl;rw[Ax,Db,aS,A2,if_neg γ,FC,A2,B1];have ad:addW (.tup [.str (AK "at")]) (A_ e) h=.ok (CQ (.at e),h):=rfl;simp[IA,At,LK,BI,Ja,ad])
 rw[ck (λj=>Mr d.2 a (B_.getD j Ie)) (λj:Nat=>CQ (LK ws d.1 (B_.getD j Ie).b))]at e;have CH:Sw [.ref n,.ref b,A_ d,.int (a:Int)] h=((AN (Eo (DR (I 1)) (EY [(AA 4),(AA 5),(AA 6)]) e0) (Au (BE (Z (pu (.str (AK "drop"))) (Z (A0 AB (I 2) η) A1)))) [↥(.ref n),↥(.ref b),↥(A_ d),↥(.int (a:Int)),none,none,none,none] h).bind outF).bind λp=>settle h p.1 p.2:=rfl;rw[CH,Ax,e];unfold Ow SS;cases(Ch ⇑B_).find? λj=>Mr d.2 a (B_.getD j Ie)with
 |none=>simp[Ja,x0,At,CQ]
 |some k=>simp[Ja]
end FG
namespace C2
open PySem PySem.Spec B5
section
variable{Br:Type}[DecidableEq Br]
theorem Wv{k:Br}{bs:↑Br}{w:W}{vs:↑W}:∀{as:↑Br}{us:↑W},k∉as->⇑as=⇑us->Dg (as++k::bs) (us++w::vs) k=↥w
 |[],[],_,_=>by simp[Dg]
 |a::as,u::us,n,l=>by have EC:a≠k:=λz=>n (z▸HP ..);erw[HD,Dg,if_neg EC];exact Wv (λz=>n (Gg _ z)) (l:)
theorem nf{k:Br}{x:W}:∀{as:↑Br}{us:↑W},k∉as->⇑as=⇑us->N_ as us k x=us
 |[],[],_,_=>rfl
 |a::as,u::us,n,l=>by have EC:a≠k:=λz=>n (z▸HP ..);erw[N_,if_neg EC];rw[nf (λz=>n (Gg _ z)) (l:)]
theorem nd{k:Br}{bs:↑Br}{w x:W}{vs:↑W}(nb:k∉bs)(Jd:⇑bs=⇑vs):∀{as:↑Br}{us:↑W},k∉as->⇑as=⇑us->N_ (as++k::bs) (us++w::vs) k x=us++x::vs
 |[],[],_,_=>by simp[N_,nf nb Jd]
 |a::as,u::us,n,l=>by have EC:a≠k:=λz=>n (z▸HP ..);erw[HD,N_,if_neg EC];rw[nd nb Jd (λz=>n (Gg _ z)) (l:)]
theorem jM{k:Br}:∀{as:↑Br}{us:↑W},k∉as->⇑as=⇑us->Nn as us k=us
 |[],[],_,_=>rfl
 |a::as,u::us,n,l=>by have EC:a≠k:=λz=>n (z▸HP ..);erw[Nn,if_neg EC];rw[jM (λz=>n (Gg _ z)) (l:)]
theorem jL{k:Br}{bs:↑Br}{w:W}{vs:↑W}(nb:k∉bs)(Jd:⇑bs=⇑vs):∀{as:↑Br}{us:↑W},k∉as->⇑as=⇑us->Nn (as++k::bs) (us++w::vs) k=us++vs
 |[],[],_,_=>by simp[Nn,jM nb Jd]
 |a::as,u::us,n,l=>by have EC:a≠k:=λz=>n (z▸HP ..);erw[HD,Nn,if_neg EC];rw[jL nb Jd (λz=>n (Gg _ z)) (l:)]
def xG{k:Br}{as bs:↑Br}(na:k∉as)(nb:k∉bs):(as++k::bs).filter (λx=>decide (x≠k))=as++bs:=by
 rw[List.filter_append,Qa,if_neg γ,List.filter_eq_self.mpr,List.filter_eq_self.mpr]
 .exact λa h=>(λz:a=k=>nb (z▸h):)
 .exact λa h=>(λz:a=k=>na (z▸h):)
end
def V_{h:A5}{n:Nat}{us:↑W}{w:W}(e:h[n]?=↥⟨.lst,us++[w]⟩):AB (.ref n) (.int (-1)) h=.ok (w,h):=by
 have El:Hc h (.ref n) (.int (-1))=none:=by erw[Hc,e]
 have AC:JY (us++[w]) (-1)=↥w:=by
  unfold JY M8;rw[if_neg δ,if_pos (by simp;lia)];have:(-1+(⇑(us++[w]):Int)).toNat=⇑us:=by simp;lia
  erw[gs,this];simp
 unfold AB;rw[El];unfold Py;erw[H9 h e,AC]
def dH{h:A5}{n:Nat}{AJ:↑Key}{vs:↑W}(e:h[n]?=↥⟨.Ak AJ,vs⟩)(i:Int):Hc h (.ref n) (.int i)=↥(Dg AJ vs (.inl i)):=by erw[Hc,e,keyOf,Qd]
def jH{h:A5}{n:Nat}{AJ:↑Key}{vs:↑W}{i:Int}{v:W}{ρ:B9}(e:h[n]?=↥⟨.Ak AJ,vs⟩)(WA: .inl i∉AJ)(l:⇑vs<At):N5 (.ref n) (.int i) v ρ h=.ok (.AR ρ,h.set n ⟨.Ak (AJ++[.inl i]),vs++[v]⟩):=by unfold N5;erw[e,keyOf,if_pos l,Mq,if_neg WA]
def vF{h:A5}{n:Nat}{as bs:↑Key}{us vs:↑W}{i:Int}{w v:W}{ρ:B9}(e:h[n]?=↥⟨.Ak (as++.inl i::bs),us++w::vs⟩)(na: .inl i∉as)(nb: .inl i∉bs)(Ga:⇑as=⇑us)(Jd:⇑bs=⇑vs)(l:⇑(us++w::vs)<At):N5 (.ref n) (.int i) v ρ h=.ok (.AR ρ,h.set n ⟨.Ak (as++.inl i::bs),us++v::vs⟩):=by unfold N5;erw[e,keyOf,if_pos l,Mq];rw[if_pos γ,nd nb Jd na Ga]
def iF{h:A5}{n:Nat}{as bs:↑Key}{us vs:↑W}{i:Int}{w:W}{ρ:B9}(e:h[n]?=↥⟨.Ak (as++.inl i::bs),us++w::vs⟩)(na: .inl i∉as)(nb: .inl i∉bs)(Ga:⇑as=⇑us)(Jd:⇑bs=⇑vs):Vl (.ref n) (.int i) ρ h=.ok (w,h.set n ⟨.Ak (as++bs),us++vs⟩):=by unfold Vl;erw[e,keyOf];rw[Wv na Ga,xG na nb,jL nb Jd na Ga]
def qd(d k:B7)(ρ:B9)(h:A5):Qu d k ρ h=(d ρ h).bind λp=>Px p.1 (bd k λkw=>Vl p.1 kw) ρ p.2:=rfl
end C2
namespace FG
open PySem PySem.Spec B5 C2
noncomputable def Nb:Cq->Cn
 |none=>.Cg true [.str (AK "wait")]
 |some p=>.Cg true [.str (Gu p.1),.int (p.2:Int)]
def nU(k:Nat)(h:A5)(s:Cq):CD (k+2) h (B8 s)=↥(Nb s):=by cases s<;>simp[B8,CD,Nb]
def jW{s:Cq}{k hh:Nat}(AP:k<3)(AO:∀p,s=↥p->p.1<3):eqT (Nb s) (.Cg true [.str (Gu k),.int (hh:Int)])=decide (s=↥(k,hh)):=by
 cases s with
 |none=>simp[Nb,eqT,GE]
 |some p=>
  have BO:=AO p rfl;erw[Nb,eqT,GE,List.isEmpty_nil,Bool.and_true,beq_self_eq_true,h6];by_cases e:p=(k,hh)
  .subst e;simp
  .rw[decide_eq_false (e:)];by_cases AC:p.1=k
   .have AH:p.2≠hh:=λz=>e (Prod.ext AC z);have:((p.2:Int)==(hh:Int))=false:=by simp;lia
    rw[this,UQ]
   .have:(Gu p.1==Gu k)=false:=by
      rw[beq_eq_false_iff_ne];exact λz=>AC (qo BO AP z)
    rw[this,Bool.false_and]
def Td{h:A5}{n k hh:Nat}{IN:↑Cq}(b:Bool)(e:h[n]?=↥⟨.lst,IN.map B8⟩)(AP:k<3)(hd:∀p,↥p∈IN->p.1<3):Du b (.tup [.str (Gu k),.int (hh:Int)]) (.ref n) h=.ok (.AL (if b then decide (↥(k,hh)∈IN)else !decide (↥(k,hh)∈IN)),h):=by
 have SL:Hc h (.ref n) (.tup [.str (Gu k),.int (hh:Int)])=none:=by erw[Hc,e]
 have r:CD 8 h (.ref n)=↥(.Cg false (IN.map Nb)):=by erw[CD,H9 h e];rw[mapM_some (CD 7 h) B8 Nb (λs=>nU 5 h s) IN];rfl
 rw[VV (d:=.Cg true [.str (Gu k),.int (hh:Int)]) SL (by simp[CD]) r];have:(IN.map Nb).any (λy=>eqT y (.Cg true [.str (Gu k),.int (hh:Int)]))=decide (↥(k,hh)∈IN):=by
  rw[List.any_map];rw[Xe,List.any_eq_true,decide_eq_true_eq];constructor
  .rintro⟨s,AO,q⟩;erw[Qn]at q;rw[jW AP (λp e=>hd p (e▸AO)),decide_eq_true_eq]at q;exact q▸AO
  .intro AO;refine⟨_,AO,?_⟩;erw[Qn];rw[jW AP (λp e=>hd p (e▸AO))];simp
 rw[this]
structure Lt where
 n:Nat
 m:Nat
 a:Nat
 pre:↑Af
 d:Af
 B3:Nat
 Ek:Nat
noncomputable def Q4(l:Lt):O:=⟨.ins "Letter" ["mark","address","doors"],[.int (l.m:Int),.int (l.a:Int),.ref l.Ek]⟩
def GV(l:Lt):O:=⟨.lst,(l.pre++[l.d]).map A_⟩
structure ES where
 cs:↑Nat
 ws:ξ
 A:↑↑Cz
 B:↑↑Cz
 ps:↑Cq
 r:Nat
 M:Nat
 T:Nat
 Jm:Nat
 LH:Nat
 DY:Nat
 pl:Nat
 K:A5
def Iv:O:=⟨.G0 [],[]⟩
structure Dw(C:ES):Prop where
 N:K_ C.cs C.ws
 KL:HW C.cs C.A
 JJ:HW C.cs C.B
 P:Sa ⇑C.cs C.ps
 W9:JW C.K C.Jm C.cs C.ws
 N2:Ei C.K C.LH C.A
 OP:Ei C.K C.DY C.B
 pp:C.K[C.pl]?=↥⟨.lst,C.ps.map B8⟩
 dp:C.K[C.r]?=↥Iv
 D5:⇑C.K<=C.M
 Dt:C.M+3<=C.T
structure OC(C:ES)(h:A5)(l:Lt):Prop where
 Fn:h[l.B3]?=↥(Q4 l)
 CH:h[l.Ek]?=↥(GV l)
 m:l.m<2
 a:l.a<16
 d:l.d∈DC C.cs ⇑C.cs
 t1:C.T<=l.B3
 Ca:C.T<=l.Ek
structure EE where
 done:↑Cq
 Bn:Nat
 lets:↑Lt
 ended:↑(Lt×Tl)
 D7:Nat
def Cj(S:EE):↑Lt:=S.lets++S.ended.map (·.1)
noncomputable def Nq(e:Lt×Tl):W:=.tup [.int (e.1.n:Int),.ref e.1.B3,CQ e.2]
def E7(l:Lt):Key:=.inl (l.n:Int)
structure Dh(C:ES)(h:A5)(S:EE):Prop where
 Bl:∀(n:Nat) o,C.K[n]?=↥o->o≠Iv->h[n]?=↥o
 BA:h[C.r]?=↥(Ms C.Jm C.LH C.DY C.pl C.M S.Bn)
 CH:h[C.M]?=↥⟨.lst,S.done.map B8⟩
 el:h[C.M+1]?=↥⟨.Ak (S.lets.map E7),S.lets.map λl=>.ref l.B3⟩
 Iw:h[C.M+2]?=↥⟨.lst,S.ended.map Nq⟩
 lt:∀l∈Cj S,OC C h l
 C7:((Cj S).map (·.Ek)).Nodup
 nn:(S.lets.map (·.n)).Nodup
 Hg:∀l∈S.lets,l.n<S.Bn
 Ih:∀p,↥p∈S.done->p.1<3
 few:S.Bn<1000
 le:⇑S.ended+⇑S.lets<=S.Bn
 AG:C.T<=⇑h
 pr:∀l∈Cj S,⇑l.pre<=S.D7
section
variable{C:ES}{h h':A5}{S:EE}
def OC.to{l:Lt}(x:OC C h l)(AC:h'[l.B3]?=h[l.B3]?)(AH:h'[l.Ek]?=h[l.Ek]?):OC C h' l:=⟨AC.trans x.Fn,AH.trans x.CH,x.m,x.a,x.d,x.t1,x.Ca⟩
def Dw.JM(c:Dw C):C.r<C.M:=GD (Fz c.dp) c.D5
def Dh.app(R:Dh C h S)(g:A5):Dh C (h++g) S:=by refine⟨λn o' k ne=>CB h (R.Bl n o' k ne) g,CB h R.BA g,CB h R.CH g,CB h R.el g,CB h R.Iw g,λl AG=>?_,R.C7,R.nn,R.Hg,R.Ih,R.few,R.le,by have:=R.AG;simp;lia,R.pr⟩;have x:=R.lt l AG;exact⟨CB h x.Fn g,CB h x.CH g,x.m,x.a,x.d,x.t1,x.Ca⟩
theorem Dh.W9(c:Dw C)(R:Dh C h S):JW h C.Jm C.cs C.ws:=by obtain⟨f,AC,AH⟩:=c.W9.ex;exact⟨f,R.Bl _ _ AC (λz=>by cases z),R.Bl _ _ AH (λz=>by cases z)⟩
def ZF{K:A5}(Bl:∀(n:Nat) o,K[n]?=↥o->o≠Iv->h[n]?=↥o){b:Nat}{B:↑↑Cz}(x:Ei K b B):Ei h b B:=by obtain⟨rs,e,l,r⟩:=x.ex;exact⟨rs,Bl _ _ e (λz=>by cases z),l,λi q AY=>Bl _ _ (r i q AY) (λz=>by cases z)⟩
end
section
variable{C:ES}{h:A5}{S:EE}
noncomputable def Mf(IN:↑Cq)(hh m:Nat):Bool:=if m=1 then decide (↥(0,hh)∈IN)else !decide (↥(2,hh)∈IN)
def zX(c:Dw C)(R:Dh C h S){hh m:Nat}(hm:m<2):T9 [.ref C.r,.int (hh:Int),.int (m:Int)] h=.ok (.AL (Mf S.done hh m),h):=by
 have fd:B4 "Run" "done" (.ref C.r) h=.ok (.ref C.M,h):=EI R.BA rfl;have G_:=Td (hh:=hh) (k:=0) true R.CH δ R.Ih;have F8:=Td (hh:=hh) (k:=2) false R.CH δ R.Ih;rw[show Gu 0=AK "teach" from rfl]at G_;rw[show Gu 2=AK "forget" from rfl]at F8;have:m=0\/m=1:=δ
 rcases this with rfl|rfl
 .simp[T9,Xz,fd,F8,At,Mf]
 .simp[T9,Xz,fd,G_,At,Mf]
noncomputable def Sm(C:ES)(m hh:Nat):↑Cz:=(if m=1 then C.B else C.A).getD hh []
noncomputable def I9(C:ES)(IN:↑Cq)(l:Lt):Tl:=if Mf IN l.d.1 l.m=true then Ow C.ws (Sm C l.m l.d.1) l.d l.a else .NT l.d.1
def ac4(c:Dw C)(R:Dh C h S){l:Lt}(x:OC C h l):TA [.ref C.r,.ref l.B3] h=.ok (CQ (I9 C S.done l),h):=by
 have jc:B4 "Run" "books" (.ref C.r) h=.ok (.tup [.ref C.LH,.ref C.DY],h):=EI R.BA rfl;have fn:B4 "Run" "net" (.ref C.r) h=.ok (.ref C.Jm,h):=EI R.BA rfl;have P9:B4 "Letter" "mark" (.ref l.B3) h=.ok (.int (l.m:Int),h):=EI x.Fn rfl;have ga:B4 "Letter" "address" (.ref l.B3) h=.ok (.int (l.a:Int),h):=EI x.Fn rfl;have L4:B4 "Letter" "doors" (.ref l.B3) h=.ok (.ref l.Ek,h):=EI x.Fn rfl;have E9:AB (.ref l.Ek) (.int (-1)) h=.ok (A_ l.d,h):=V_ (us:=l.pre.map A_) (by rw[x.CH];simp[GV]);have x0:AB (A_ l.d) (.int 0) h=.ok (.int (l.d.1:Int),h):=FW h _ _;have hd:=(W4.mp x.d).1;have k:=zX c R (hh:=l.d.1) x.m;have s1:AX (A0 AB (Aw (B4 "Letter" "doors") (I 1)) (Aw Ff ζ)) (AA 2) [ι,↥(.ref l.B3),none] h=.ok (.AR [ι,↥(.ref l.B3),↥(A_ l.d)],h):=by have Ou:Ff (.int 1) h=.ok (.int (-1),h):=rfl;erw[DU,Bb,HO,v_var,Bq,DV,EG,CS,A2,L4,Ou,E9];rfl
 have FJ:Bz "Run" "knows" 2 T9 (I 0) (Z (A0 AB (I 2) η) (Z (Aw (B4 "Letter" "mark") (I 1)) A1)) [ι,↥(.ref l.B3),↥(A_ l.d)] h=.ok (.AL (Mf S.done l.d.1 l.m),h):=Jk (us:=[.int (l.d.1:Int),.int (l.m:Int)]) rfl R.BA rfl (by simp[x0,P9]) rfl k;have CH:TA [.ref C.r,.ref l.B3] h=((Yt [ι,↥(.ref l.B3),none] h).bind outF).bind λp=>settle h p.1 p.2:=rfl;rw[CH];unfold Yt;rw[Ax,s1,A2,B1,Ax,Db,v_not,GM,FJ,A2,Gj,A2,A2];unfold I9;cases AP:Mf S.done l.d.1 l.m
 .simp[x0,At,CQ]
 .have on:∀(b:Nat)(B:↑↑Cz),HW C.cs B->Ei h b B->∃q,AB (.ref b) (.int (l.d.1:Int)) h=.ok (.ref q,h)/\Wm [.ref C.Jm,.ref q,A_ l.d,.int (l.a:Int)] h=.ok (CQ (Ow C.ws (B.getD l.d.1 []) l.d l.a),h):=λb B ok at'=>by
    obtain⟨rs,e,Q2,r⟩:=at'.ex;have BF:l.d.1< ⇑rs:=by rw[Q2,ok.1];exact hd
    exact⟨rs[l.d.1],Gk e (by rw[E5,CP BF];rfl),abM (R.W9 c) (ok.2 _ hd) (r _ _ (CP BF)) x.a l.d⟩
  have:l.m=0\/l.m=1:=by have:=x.m;lia
  rcases this with e|e
  .obtain⟨q,AC,AH⟩:=on C.LH C.A c.KL (ZF R.Bl c.N2);simp[fn,jc,P9,FW,IQ,x0,AC,ga,AH,Sm,e,-Eh]
  .obtain⟨q,AC,AH⟩:=on C.DY C.B c.JJ (ZF R.Bl c.OP);simp[fn,jc,P9,FW,IQ,x0,AC,ga,AH,Sm,e,-Eh]
def ad5{cs:↑Nat}{ws:ξ}{n:Nat}(A:JW h n cs ws){d:Af}(hd:d∈DC cs ⇑cs)(A4:EX ws d=none):T6 [.ref n,A_ d] h=.ok (.AL true,h):=by
 obtain⟨f,AC,AH⟩:=A.ex;have f1:B4 "Net" "far" (.ref n) h=.ok (.ref f,h):=EI AC rfl;have f2:B4 "Net" "counts" (.ref n) h=.ok (.tup (Bx cs),h):=EI AC rfl;have vM:W_ [.ref n,A_ d] h=.ok (.AL true,h):=by simp[W_,bi,f2,dK hd]
 have FJ:Bz "Net" "is_door" 1 W_ (I 0) (Z (I 1) A1) [↥(.ref n),↥(A_ d)] h=.ok (.AL true,h):=Jk (us:=[A_ d]) rfl AC rfl rfl rfl vM;have Ck:Du false (A_ d) (.ref f) h=.ok (.AL true,h):=by unfold Du;rw[dI AH,A4];rfl
 simp[T6,bj,FJ,f1,Ck]
noncomputable def EL(IN:↑Cq)(hh:Nat):Nat:=if ↥(1,hh)∈IN then 1 else 0
noncomputable def Ln(S:EE)(L:Nat)(d:Af)(a:Nat):Lt:=⟨S.Bn,EL S.done d.1,a,[],d,L,L+1⟩
def aa1(R:Dh C h S):(.inl (S.Bn:Int):Key)∉S.lets.map E7:=λz=>by obtain⟨l,AG,e⟩:=List.mem_map.mp z;have:=R.Hg l AG;erw[E7,Ue]at e;lia
def tv(c:Dw C)(R:Dh C h S)(AI:S.Bn<900){d:Af}(hd:d∈DC C.cs ⇑C.cs)(A4:EX C.ws d=none){a:Nat}(AF:a<16) :
  ∃h',T7 [.ref C.r,A_ d,.int (a:Int)] h=.ok (.int (S.Bn:Int),h')/\Dh C h' { S with Bn:=S.Bn+1,lets:=S.lets++[Ln S ⇑h d a] }/\
   ⇑h<=⇑h'/\∀n,n< ⇑h->n≠C.r->n≠C.M+1->h'[n]?=h[n]?:=by
 have q:=c.D5;have JM:=c.JM;have Dt:=c.Dt;have AG:=R.AG;have fn:B4 "Run" "net" (.ref C.r) h=.ok (.ref C.Jm,h):=EI R.BA rfl;have w5:B4 "Run" "came" (.ref C.r) h=.ok (.int (S.Bn:Int),h):=EI R.BA rfl;have fd:B4 "Run" "done" (.ref C.r) h=.ok (.ref C.M,h):=EI R.BA rfl;obtain⟨f,Ay,_⟩:=(R.W9 c).ex;have x0:AB (A_ d) (.int 0) h=.ok (.int (d.1:Int),h):=FW h _ _;have mo:Bz "Net" "is_outer" 1 T6 (Aw (B4 "Run" "net") (I 0)) (Z (I 1) A1) [ι,↥(A_ d),↥(.int (a:Int)),none,none] h=.ok (.AL true,h):=Jk (us:=[A_ d]) (by simp[fn]) Ay rfl rfl rfl (ad5 (R.W9 c) hd A4);have t1:FY (Dj (AT (Bz "Net" "is_outer" 1 T6 (Aw (B4 "Run" "net") (I 0)) (Z (I 1) A1)))) (Dj (AT (Ae 1 TB (Z (I 2) A1)))) [ι,↥(A_ d),↥(.int (a:Int)),none,none] h=.ok (false,h):=by rw[v_or,v_not,GM,mo];simp[hM AF]
 have s2:AX (Aw (B4 "Run" "came") (I 0)) (AA 3) [ι,↥(A_ d),↥(.int (a:Int)),none,none] h=.ok (.AR [ι,↥(A_ d),↥(.int (a:Int)),↥(.int (S.Bn:Int)),none],h):=by erw[DU,HO,v_var,DV,CS,A2,w5];rfl
 have Ck:=Td (hh:=d.1) (k:=1) true R.CH δ R.Ih;rw[show Gu 1=AK "turn" from rfl]at Ck;have s3:AX (LX (AT (A0 (Du true) (BE (Z (pu (.str (AK "turn"))) (Z (A0 AB (I 1) η) A1))) (Aw (B4 "Run" "done") (I 0)))) ζ η) (AA 4) [ι,↥(A_ d),↥(.int (a:Int)),↥(.int (S.Bn:Int)),none] h=.ok (.AR [ι,↥(A_ d),↥(.int (a:Int)),↥(.int (S.Bn:Int)),↥(.int (EL S.done d.1:Nat))],h):=by
  unfold EL;by_cases BV:↥(1,d.1)∈S.done
  .simp[x0,fd,Ck,At,BV]
  .simp[x0,fd,Ck,At,BV]
 obtain⟨l,el⟩:∃l,l=Ln S ⇑h d a:=π;have mk:J1 "Letter" 3 WZ (Z (I 4) (Z (I 1) (Z (I 2) A1))) [ι,↥(A_ d),↥(.int (a:Int)),↥(.int (S.Bn:Int)),↥(.int (EL S.done d.1:Nat))] h=.ok (.ref ⇑h,h++[Q4 l,GV l]):=by
  refine Zf (us:=[.int (EL S.done d.1:Nat),A_ d,.int (a:Int)]) (h1:=h) γ rfl ?_;have e:WZ [.ref ⇑h,.int (EL S.done d.1:Nat),A_ d,.int (a:Int)] (h++[⟨.ins "Letter" [],[]⟩])=(Xt [↥(.ref ⇑h),↥(.int (EL S.done d.1:Nat)),↥(A_ d),↥(.int (a:Int))] (h++[⟨.ins "Letter" [],[]⟩])).bind outF:=rfl;have a1:F1 "Letter" "mark" (I 0) (I 1) [↥(.ref ⇑h),↥(.int (EL S.done d.1:Nat)),↥(A_ d),↥(.int (a:Int))] (h++[⟨.ins "Letter" [],[]⟩])=.ok (.AR [↥(.ref ⇑h),↥(.int (EL S.done d.1:Nat)),↥(A_ d),↥(.int (a:Int))],h++(⟨.ins "Letter" ["mark"],[.int (EL S.done d.1:Nat)]⟩::([]++[]))):=Nu rfl rfl ε rfl rfl;have a2:F1 "Letter" "address" (I 0) (I 3) [↥(.ref ⇑h),↥(.int (EL S.done d.1:Nat)),↥(A_ d),↥(.int (a:Int))] (h++(⟨.ins "Letter" ["mark"],[.int (EL S.done d.1:Nat)]⟩::([]++[])))=.ok (.AR [↥(.ref ⇑h),↥(.int (EL S.done d.1:Nat)),↥(A_ d),↥(.int (a:Int))],h++(⟨.ins "Letter" ["mark","address"],[.int (EL S.done d.1:Nat),.int (a:Int)]⟩::([]++[]++[]))):=Nu rfl rfl ε rfl rfl;have IK:F1 "Letter" "doors" (I 0) (Bg (Z (I 2) A1)) [↥(.ref ⇑h),↥(.int (EL S.done d.1:Nat)),↥(A_ d),↥(.int (a:Int))] (h++(⟨.ins "Letter" ["mark","address"],[.int (EL S.done d.1:Nat),.int (a:Int)]⟩::([]++[]++[])))=.ok (.AR [↥(.ref ⇑h),↥(.int (EL S.done d.1:Nat)),↥(A_ d),↥(.int (a:Int))],h++(⟨.ins "Letter" ["mark","address","doors"],[.int (EL S.done d.1:Nat),.int (a:Int),.ref (⇑h+1)]⟩::([]++[]++[]++[⟨.lst,[A_ d]⟩]))):=by refine Nu rfl ?_ ε rfl rfl;simp[nw,At]
  rw[e];unfold Xt;rw[Ax,a1,A2,B1,Ax,a2,A2,B1,IK,A2,fP,el];rfl
 obtain⟨h1,AC⟩:∃h1,h1=h++[Q4 l,GV l]:=π;rw[<-AC]at mk;have Cp:⇑h1=⇑h+2:=by rw[AC];simp
 have Ha:Dh C h1 S:=by rw[AC];exact R.app _
 have g1:B4 "Run" "letters" (.ref C.r) h1=.ok (.ref (C.M+1),h1):=EI Ha.BA rfl;have few:=R.few;have le:=R.le;have pt:=jH (v:=.ref ⇑h) (ρ:=[ι,↥(A_ d),↥(.int (a:Int)),↥(.int (S.Bn:Int)),↥(.int (EL S.done d.1:Nat))]) Ha.el (aa1 R) (by rw[CU];unfold At;lia);obtain⟨h2,AH⟩:∃h2,h2=h1.set (C.M+1) ⟨.Ak (S.lets.map E7++[.inl (S.Bn:Int)]),(S.lets.map λl=>.ref l.B3)++[.ref ⇑h]⟩:=⟨_,rfl⟩;rw[<-AH]at pt;have jY:h2[C.r]?=↥(Ms C.Jm C.LH C.DY C.pl C.M S.Bn):=by rw[AH,Er δ];exact Ha.BA
 have s4:JG (Aw (B4 "Run" "letters") (I 0)) (I 3) (J1 "Letter" 3 WZ (Z (I 4) (Z (I 1) (Z (I 2) A1)))) [ι,↥(A_ d),↥(.int (a:Int)),↥(.int (S.Bn:Int)),↥(.int (EL S.done d.1:Nat))] h=.ok (.AR [ι,↥(A_ d),↥(.int (a:Int)),↥(.int (S.Bn:Int)),↥(.int (EL S.done d.1:Nat))],h2):=by rw[Tq,mk,A2];erw[HO,v_var,DV,EG,CS,A2,g1,pt]
 obtain⟨BO,D_⟩:∃BO,BO=h2.set C.r (Ms C.Jm C.LH C.DY C.pl C.M (S.Bn+1)):=π;have s5:F1 "Run" "came" (I 0) (A0 addW (I 3) ζ) [ι,↥(A_ d),↥(.int (a:Int)),↥(.int (S.Bn:Int)),↥(.int (EL S.done d.1:Nat))] h2=.ok (.AR [ι,↥(A_ d),↥(.int (a:Int)),↥(.int (S.Bn:Int)),↥(.int (EL S.done d.1:Nat))],BO):=by rw[Tr];erw[Bb,v_var,Bq,DV,EG,CS,A2,Mp];rw[SR (ns':=b8) (ws':=[.ref C.Jm,.tup [.ref C.LH,.ref C.DY],.ref C.pl,.ref C.M,.int ((S.Bn:Int)+1),.ref (C.M+1),.ref (C.M+2)]) jY ε rfl rfl,D_];rfl
 have CV:⇑h2=⇑h+2:=by rw[AH];simpa using Cp
 have Og:⇑BO=⇑h+2:=by rw[D_];simpa using CV
 have keep:∀n,n≠C.r->n≠C.M+1->BO[n]?=h1[n]?:=λn EC FZ=>by rw[D_,Er (λz=>EC z.symm),AH,Er (λz=>FZ z.symm)]
 refine⟨BO,?_,?_,δ,λn AZ EC FZ=>?_⟩
 .have e:T7 [.ref C.r,A_ d,.int (a:Int)] h=(Xv [ι,↥(A_ d),↥(.int (a:Int)),none,none] h).bind outF:=rfl;rw[e];unfold Xv;rw[Ax,Db,t1,A2,if_neg γ,FC,A2,B1,Ax,s2,A2,B1,Ax,s3,A2,B1,Ax,s4,A2,B1,Ax,s5,A2,B1];rfl
 .have ln:l.B3=⇑h/\l.Ek=⇑h+1/\l.n=S.Bn:=by rw[el];exact⟨rfl,rfl,rfl⟩
  have du:OC C BO l:=by
   refine⟨?_,?_,?_,?_,?_,δ,δ⟩
   .rw[keep _ δ δ,ln.1,AC];simp
   .rw[keep _ δ δ,ln.2.1,AC];simp
   .rw[el];erw[Ln,EL];split<;>lia
   .rw[el];exact AF
   .rw[el];exact hd
  rw[<-el];have old:∀x∈Cj S,OC C BO x:=λx AM=>by have y:=Ha.lt x AM;have:=y.t1;have:=y.Ca;exact y.to (keep _ δ δ) (keep _ δ δ)
  refine⟨λn o' k ne=>?_,?_,?_,?_,?_,λx AM=>?_,?_,?_,λx AM=>?_,R.Ih,?_,?_,δ,λx AM=>?_⟩
  .rw[keep n (λz=>by subst z;rw[c.dp]at k;cases k;exact ne rfl) (by have:=Fz k;lia)];exact Ha.Bl n o' k ne
  .rw[D_];exact Hr jY
  .rw[keep _ δ δ];exact Ha.CH
  .rw[D_,Er δ,AH,Hr Ha.el];simp[E7,ln.1,ln.2.2]
  .rw[keep _ δ δ];exact Ha.Iw
  .erw[Cj,EB,Hi,Lf]at AM;rcases AM with AM|rfl|AM
   .exact old x (JC _ AM)
   .exact du
   .exact old x (Hw _ AM)
  .erw[Cj,EB,I1,D9,I2];have C7:=R.C7;erw[Cj,I1]at C7;have fr:∀x∈Cj S,x.Ek≠l.Ek:=λx AM z=>by
    have:=Fz (R.lt x AM).CH;lia
   obtain⟨EC,FZ,Rn⟩:=List.nodup_append.mp C7;refine List.nodup_append.mpr ⟨EC,?_,λu BQ v Bk=>?_⟩
   .rw[gK,List.nodup_cons];refine⟨λz=>?_,FZ⟩;obtain⟨x,AM,e⟩:=List.mem_map.mp z;exact fr x (Hw _ AM) e
   .rw[gK,Ip]at Bk;rcases Bk with rfl|Bk
    .obtain⟨x,AM,e⟩:=List.mem_map.mp BQ;subst e;exact fr x (JC _ AM)
    .exact Rn u BQ v Bk
  .erw[I1,D9,I2];refine List.nodup_append.mpr ⟨R.nn,γ,λu BQ v Bk=>?_⟩;obtain⟨x,AM,e⟩:=List.mem_map.mp BQ;have:=R.Hg x AM;have Bk:=List.mem_singleton.mp Bk;lia
  .rcases List.mem_append.mp AM with AM|AM
   .have:=R.Hg x AM;show x.n<S.Bn+1;lia
   .have:=List.mem_singleton.mp AM;subst this;show x.n<S.Bn+1;lia
  .show S.Bn+1<1000;lia
  .show⇑S.ended+⇑(S.lets++[l])<=S.Bn+1;simp;lia
  .erw[Cj,EB,Hi,Lf]at AM;rcases AM with AM|rfl|AM
   .exact R.pr x (JC _ AM)
   .rw[el];exact Hy _
   .exact R.pr x (Hw _ AM)
 .rw[keep n EC FZ,AC,Gr AZ]
end
section
variable{C:ES}{h:A5}{S:EE}
noncomputable def I4(l:Lt)(e:Af):Lt:={ l with pre:=l.pre++[l.d],d:=e }
noncomputable def Fo(S:EE)(CA:↑Lt)(l:Lt)(B5:↑Lt):Tl->EE
 |.at e=>{ S with lets:=CA++I4 l e::B5,D7:=S.D7+1 }
 |t=>{ S with lets:=CA++B5,ended:=S.ended++[(l,t)],D7:=S.D7+1 }
def isAt:Tl->Bool
 |.at _=>true
 |_=>false
def u0{cs:↑Nat}{ws:ξ}(N:K_ cs ws){d e:Af}(h:EX ws d=↥e):e∈DC cs ⇑cs:=N.sub _ (d7 h).2
def abr{cs:↑Nat}{ws:ξ}(N:K_ cs ws){hh:Nat}{o:Option Nat}{e:Af}(h:LK ws hh o=.at e):e∈DC cs ⇑cs:=by
 unfold LK at h
 split at h
 .cases h
 .split at h
  .cases h
  .rename_i q;cases h;exact u0 N q
def abL{cs:↑Nat}{ws:ξ}(N:K_ cs ws){B_:↑Cz}{d:Af}{a:Nat}{e:Af}(h:Ow ws B_ d a=.at e):e∈DC cs ⇑cs:=by
 unfold Ow at h
 split at h
 .cases h
 .exact abr N h
def ki(c:Dw C){IN:↑Cq}{l:Lt}{e:Af}(h:I9 C IN l=.at e):e∈DC C.cs ⇑C.cs:=by
 unfold I9 at h
 split at h
 .exact abL c.N h
 .cases h
def Vb{L:↑Lt}{l:Lt}(h:l.n∉L.map (·.n)):E7 l∉L.map E7:=λz=>by obtain⟨x,AM,e⟩:=List.mem_map.mp z;erw[E7,Ue]at e;exact h (List.mem_map.mpr ⟨x,AM,δ⟩)
def fG{CA B5:↑Lt}{l:Lt}(h:((CA++l::B5).map (·.n)).Nodup):l.n∉CA.map (·.n)/\l.n∉B5.map (·.n):=by erw[I1,D9]at h;obtain⟨_,h2,BO⟩:=List.nodup_append.mp h;exact⟨λz=>BO _ z _ (HP ..) rfl,(List.nodup_cons.mp h2).1⟩
def wl(c:Dw C)(R:Dh C h S)(hm:S.D7<900000){CA B5:↑Lt}{l:Lt}(es:S.lets=CA++l::B5) :
  ∃h',T8 [.ref C.r,.int (l.n:Int)] h=.ok (CQ (I9 C S.done l),h')/\Dh C h' (Fo S CA l B5 (I9 C S.done l))/\ ⇑h'=⇑h/\∀n,n≠C.M+1->n≠C.M+2->n≠l.Ek->h'[n]?=h[n]?:=by
 have q:=c.D5;have JM:=c.JM;have Dt:=c.Dt;have AG:=R.AG;have J2:l∈Cj S:=JC _ (by rw[es];simp);have x:=R.lt l J2;have ajc:=x.t1;have ajd:=x.Ca;have nn:=R.nn;rw[es]at nn;obtain⟨EC,FZ⟩:=fG nn;have k1:=Vb EC;have k2:=Vb FZ;have el:h[C.M+1]?=↥⟨.Ak (CA.map E7++E7 l::B5.map E7),(CA.map λl=>.ref l.B3)++.ref l.B3::B5.map λl=>.ref l.B3⟩:=by rw[R.el,es];simp
 have Di:B4 "Run" "letters" (.ref C.r) h=.ok (.ref (C.M+1),h):=EI R.BA rfl;have gl:Hc h (.ref (C.M+1)) (.int (l.n:Int))=↥↥(.ref l.B3):=by rw[dH el];show↥(Dg _ _ (E7 l))=_;rw[Wv k1 γ]
 have G_:Du false (.int (l.n:Int)) (.ref (C.M+1)) h=.ok (.AL false,h):=by unfold Du;rw[gl];rfl
 have EJ:AB (.ref (C.M+1)) (.int (l.n:Int)) h=.ok (.ref l.B3,h):=by unfold AB;rw[gl]
 obtain⟨t,Ix⟩:∃t,t=I9 C S.done l:=π;have AR:=ac4 c R x;rw[<-Ix]at AR |-;have t1:FY (Dj (AT (Ae 1 TF (Z (I 1) A1)))) (AT (A0 (Du false) (I 1) (Aw (B4 "Run" "letters") (I 0)))) [ι,↥(.int (l.n:Int)),none,none] h=.ok (false,h):=by simp[qG,Di,G_]
 have s2:AX (A0 AB (Aw (B4 "Run" "letters") (I 0)) (I 1)) (AA 2) [ι,↥(.int (l.n:Int)),none,none] h=.ok (.AR [ι,↥(.int (l.n:Int)),↥(.ref l.B3),none],h):=by simp[Di,EJ]
 have FJ:Bz "Run" "next_of" 1 TA (I 0) (Z (I 2) A1) [ι,↥(.int (l.n:Int)),↥(.ref l.B3),none] h=.ok (CQ t,h):=Jk (us:=[.ref l.B3]) rfl R.BA rfl rfl rfl AR;have s3:AX (Bz "Run" "next_of" 1 TA (I 0) (Z (I 2) A1)) (AA 3) [ι,↥(.int (l.n:Int)),↥(.ref l.B3),none] h=.ok (.AR [ι,↥(.int (l.n:Int)),↥(.ref l.B3),↥(CQ t)],h):=by rw[DU,FJ];rfl
 have CH:T8 [.ref C.r,.int (l.n:Int)] h=(Xw [ι,↥(.int (l.n:Int)),none,none] h).bind outF:=rfl;rw[CH];unfold Xw;rw[Ax,Db,t1,A2,if_neg γ,FC,A2,B1,Ax,s2,A2,B1,Ax,s3,A2,B1,Ax,Db];have pl:=R.pr l J2;have dl:⇑(l.pre.map A_++[A_ l.d])<=900001:=by simp;lia
 by_cases AF:isAt t=true
 .obtain⟨e,te⟩:∃e,t=.at e:=by cases t<;>first|exact⟨_,rfl⟩|cases AF
  subst te;have he:=ki c Ix.symm;have tt:AT (A0 (Ap true) (A0 AB (I 3) η) (pu (.str (AK "at")))) [ι,↥(.int (l.n:Int)),↥(.ref l.B3),↥(CQ (.at e))] h=.ok (true,h):=by simp[CQ,FW]
  rw[tt,A2,if_pos rfl];have L4:B4 "Letter" "doors" (.ref l.B3) h=.ok (.ref l.Ek,h):=EI x.Fn rfl;obtain⟨h',EF⟩:∃h',h'=h.set l.Ek (GV (I4 l e)):=π;have ap:D6 DK (Aw (B4 "Letter" "doors") (I 2)) (Z (BE (Z (A0 AB (I 3) ζ) (Z (A0 AB (I 3) (pu (.int 2))) A1))) A1) [ι,↥(.int (l.n:Int)),↥(.ref l.B3),↥(CQ (.at e))] h=.ok (.non,h'):=by rw[EF];refine I7 (ws:=(l.pre++[l.d]).map A_) (ws2:=(l.pre++[l.d]).map A_) (us:=[A_ e]) (ws':=(l.pre++[l.d]++[e]).map A_) (h1:=h) (h2:=h) (by simp[L4]) x.CH ?_ x.CH (by simp[DK]) (by simp[At];lia);simp[CQ,IQ,VZ,At,A_]
  refine⟨h',?_,?_,by rw[EF];simp,λn _ _ AZ=>by rw[EF,Er (λz=>AZ z.symm)]⟩
  .rw[Hv,ap];rfl
  .have keep:∀n,n≠l.Ek->h'[n]?=h[n]?:=λn AZ=>by rw[EF,Er (λz=>AZ z.symm)]
   have C7:=R.C7;have lT:∀y∈Cj S,y.B3≠l.Ek:=λy AS z=>by have AC:=(R.lt y AS).Fn;have AH:=x.CH;rw[z,AH]at AC;cases AC
   have abK:∀y,y∈CA++(B5++S.ended.map (·.1))->y.Ek≠l.Ek:=λy AS z=>by
    erw[Cj,es,EB,HD,I1,D9]at C7;obtain⟨a1,a2,IK⟩:=List.nodup_append.mp C7;have OI:=(List.nodup_cons.mp a2).1;rcases List.mem_append.mp AS with AS|AS
    .exact IK _ (List.mem_map.mpr ⟨y,AS,rfl⟩) _ (HP ..) z
    .apply OI;rw[<-I1];exact List.mem_map.mpr ⟨y,AS,z⟩
   have WE:∀y,y∈CA++(B5++S.ended.map (·.1))->OC C h' y:=λy AS=>by
    have l0:y∈Cj S:=by
     erw[Cj,es,EB,HD,Hi,Ip]at AS |-;rcases AS with AS|AS
     .exact .inl AS
     .exact .inr (.inr AS)
    exact(R.lt y l0).to (keep _ (lT y l0)) (keep _ (abK y AS))
   have du:OC C h' (I4 l e):=⟨by show h'[l.B3]?=_;rw[keep _ (lT l J2)];exact x.Fn,by show h'[l.Ek]?=_;rw[EF];exact Hr x.CH,x.m,x.a,he,x.t1,x.Ca⟩;refine⟨λn o' k ne=>?_,?_,?_,?_,?_,λy AS=>?_,?_,?_,λy AS=>?_,R.Ih,R.few,?_,by rw[EF];simpa using AG,λy AS=>?_⟩
   .rw[keep n (by have:=Fz k;lia)];exact R.Bl n o' k ne
   .rw[keep _ δ];exact R.BA
   .rw[keep _ δ];exact R.CH
   .rw[keep _ δ,el];simp[Fo,I4,E7]
   .rw[keep _ δ];exact R.Iw
   .erw[Cj,Fo,EB,HD,Hi,Ip]at AS;rcases AS with AS|rfl|AS
    .exact WE y (JC _ AS)
    .exact du
    .exact WE y (Hw _ (List.mem_append.mpr AS))
   .have:(Cj (Fo S CA l B5 (.at e))).map (·.Ek)=(Cj S).map (·.Ek):=by simp[Cj,Fo,es,I4]
    rw[this];exact C7
   .have:(Fo S CA l B5 (.at e)).lets.map (·.n)=S.lets.map (·.n):=by simp[Fo,es,I4]
    rw[this];exact R.nn
   .erw[Fo,Hi,Ip]at AS;rcases AS with AS|rfl|AS
    .exact R.Hg y (by rw[es];simp[AS])
    .exact R.Hg l (by rw[es];simp)
    .exact R.Hg y (by rw[es];simp[AS])
   .have:=R.le;rw[es]at this;simpa[Fo]using this
   .erw[Cj,Fo,EB,HD,Hi,Ip]at AS;show⇑y.pre<=S.D7+1;have old:∀z∈Cj S,⇑z.pre<=S.D7:=R.pr;erw[Cj,es,EB,HD,Hi,Ip]at old;rcases AS with AS|rfl|AS
    .have:=old y (.inl AS);lia
    .erw[I4,Em,DX,F2];lia
    .have:=old y (.inr (.inr AS));lia
 .have tt:AT (A0 (Ap true) (A0 AB (I 3) η) (pu (.str (AK "at")))) [ι,↥(.int (l.n:Int)),↥(.ref l.B3),↥(CQ t)] h=.ok (false,h):=by
    cases t<;>first|exact absurd rfl AF|(simp[CQ,FW];decide)
  rw[tt,A2,if_neg γ];have FO:Fo S CA l B5 t={ S with lets:=CA++B5,ended:=S.ended++[(l,t)],D7:=S.D7+1 }:=by cases t<;>first|exact absurd rfl AF|rfl
  obtain⟨h1,AC⟩:∃h1,h1=h.set (C.M+1) ⟨.Ak (CA.map E7++B5.map E7),(CA.map λl=>.ref l.B3)++B5.map λl=>.ref l.B3⟩:=⟨_,rfl⟩;have db:Ob h (.ref (C.M+1))=true:=by unfold Ob;erw[el]
  have pp:Qu (Aw (B4 "Run" "letters") (I 0)) (I 1) [ι,↥(.int (l.n:Int)),↥(.ref l.B3),↥(CQ t)] h=.ok (.ref l.B3,h1):=by rw[qd];erw[HO,v_var,DV,EG,CS,A2,Di,Px,db,if_true,Hu];rw[AC];exact iF (i:=(l.n:Int)) el k1 k2 γ γ
  have um:h1[C.r]?=↥(Ms C.Jm C.LH C.DY C.pl C.M S.Bn):=by rw[AC,Er δ];exact R.BA
  have cj:B4 "Run" "ended" (.ref C.r) h1=.ok (.ref (C.M+2),h1):=EI um rfl;have R4:h1[C.M+2]?=↥⟨.lst,S.ended.map Nq⟩:=by rw[AC,Er δ];exact R.Iw
  have le:=R.le;have few:=R.few;obtain⟨h',EF⟩:∃h',h'=h1.set (C.M+2) ⟨.lst,(S.ended++[(l,t)]).map Nq⟩:=⟨_,rfl⟩;have ap:D6 DK (Aw (B4 "Run" "ended") (I 0)) (Z (BE (Z (I 1) (Z (I 2) (Z (I 3) A1)))) A1) [ι,↥(.int (l.n:Int)),↥(.ref l.B3),↥(CQ t)] h1=.ok (.non,h'):=by rw[EF];refine I7 (ws:=S.ended.map Nq) (ws2:=S.ended.map Nq) (us:=[Nq (l,t)]) (h1:=h1) (h2:=h1) (by simp[cj]) R4 ?_ R4 (by simp[DK]) (by simp[At];lia);simp[At,Nq]
  have keep:∀n,n≠C.M+1->n≠C.M+2->h'[n]?=h[n]?:=λn a b=>by rw[EF,Er (λz=>b z.symm),AC,Er (λz=>a z.symm)]
  refine⟨h',?_,?_,by rw[EF,AC];simp,λn a b _=>keep n a b⟩
  .rw[Ax,Hv,pp,A2,A2,B1,Hv,ap];rfl
  .rw[FO];have ej:(Cj { S with lets:=CA++B5,ended:=S.ended++[(l,t)],D7:=S.D7+1 }).Perm (Cj S):=by
    erw[Cj,es,I1,D9,I2,EB,HD];refine gI _ ?_;rw[<-EB];exact List.perm_append_singleton l (B5++S.ended.map (·.1))
   refine⟨λn o' k ne=>?_,?_,?_,?_,?_,λy AS=>?_,?_,?_,λy AS=>?_,R.Ih,R.few,?_,by rw[EF,AC];simpa using AG,λy AS=>?_⟩
   .rw[keep n (by have:=Fz k;lia) (by have:=Fz k;lia)];exact R.Bl n o' k ne
   .rw[keep _ δ δ];exact R.BA
   .rw[keep _ δ δ];exact R.CH
   .rw[EF,Er δ,AC,Hr el];simp
   .rw[EF,Hr R4]
   .have z:=R.lt y (ej.mem_iff.mp AS);have:=z.t1;have:=z.Ca;exact z.to (keep _ δ δ) (keep _ δ δ)
   .exact(ej.map _).nodup_iff.mpr R.C7
   .erw[I1,D9]at nn |-;obtain⟨a1,a2,IK⟩:=List.nodup_append.mp nn;exact List.nodup_append.mpr ⟨a1,(List.nodup_cons.mp a2).2,λu BQ v Bk=>IK u BQ v (Gg _ Bk)⟩
   .refine R.Hg y ?_;rw[es];rcases List.mem_append.mp AS with AS|AS<;>simp[AS]
   .rw[es]at le;erw[Em,DX,F2]at le |-;lia
   .have:=R.pr y (ej.mem_iff.mp AS);show⇑y.pre<=S.D7+1;lia
def aaO(R:Dh C h S){x y w:W}{h':A5}(e:T7 [.ref C.r,x,y] h=.ok (w,h')):JH [.ref C.r,.tup [.str (AK "come"),x,y]] h=.ok (w,h'):=by have Ck:DQ "tuple" (.tup [.str (AK "come"),x,y]) h=.ok (.AL true,h):=rfl;have F8:DQ "str" (.str (AK "come")) h=.ok (.AL true,h):=rfl;have FJ:Bz "Run" "come" 2 T7 (I 0) (Z (A0 AB (I 1) ζ) (Z (A0 AB (I 1) (pu (.int 2))) A1)) [ι,↥(.tup [.str (AK "come"),x,y])] h=.ok (w,h'):=Jk (us:=[x,y]) rfl R.BA rfl (by simp[IQ,VZ]) rfl e;simp[JH,Sj,Ck,F8,Oi,FW,FJ]
def aaP(R:Dh C h S){x w:W}{h':A5}(e:T8 [.ref C.r,x] h=.ok (w,h')):JH [.ref C.r,.tup [.str (AK "go"),x]] h=.ok (w,h'):=by have Ck:DQ "tuple" (.tup [.str (AK "go"),x]) h=.ok (.AL true,h):=rfl;have F8:DQ "str" (.str (AK "go")) h=.ok (.AL true,h):=rfl;have FJ:Bz "Run" "go" 1 T8 (I 0) (Z (A0 AB (I 1) ζ) A1) [ι,↥(.tup [.str (AK "go"),x])] h=.ok (w,h'):=Jk (us:=[x]) rfl R.BA rfl (by simp[IQ]) rfl e;have q:(AK "go"==AK "come")=false:=rfl;simp[JH,Sj,Ck,F8,Oi,FW,q,FJ]
end
def dF{ws:↑W}(k:Nat)(AP:k<=⇑ws):HI ws none ↥(k:Int)=ws.take k:=by unfold HI;rw[E6.bA,E6.U8];simp[gn AP]
def tS{ws:↑W}(k:Nat)(AP:k<=⇑ws):HI ws ↥(k:Int) none=ws.drop k:=by unfold HI;rw[E6.bA,E6.U8,gn AP];rw[UO γ]
def WQ{h:A5}{n:Nat}{ws:↑W}(e:h[n]?=↥⟨.lst,ws⟩)(l:⇑ws<=1000)(lo AD:Option Int)(ρ:B9):Lu (.ref n) lo AD ρ h=.ok (.ref ⇑h,h++[⟨.lst,HI ws lo AD⟩]):=by unfold Lu;rw[H9 h e];dsimp only;exact I8 h (by have:=hb ws lo AD;unfold At;lia)
def fZ{ρ:B9}{i:Nat}{k:Int}(h:A5)(e:ρ[i]?=↥↥(.int k)):CM (I i) ρ h=.ok (↥k,h):=by unfold CM;rw[Hu,v_var,e];rfl
def jr{h:A5}{n i k:Nat}{ws:↑W}{w:W}{ρ:B9}{mw:B7}(AH:ρ[2]?=↥↥(.ref n))(GQ:ρ[i]?=↥↥(.int (k:Int)))(Ay:h[n]?=↥⟨.lst,ws⟩)(l:⇑ws<=100)(AP:k<=⇑ws)(hw:∀h',mw ρ h'=.ok (w,h'))(La:Fg ws=true)(acE:DE w=true) :
  Bh (A0 addW (A0 addW (DI (I 2) (pu none) (CM (I i))) (Bg (Z mw A1))) (DI (I 2) (CM (I i)) (pu none))) ρ h=.ok (.ref ⇑h,h++[⟨.lst,ws.take k++[w]++ws.drop k⟩]):=by
 have s1:DI (I 2) (pu none) (CM (I i)) ρ h=.ok (.ref ⇑h,h++[⟨.lst,ws.take k⟩]):=by rw[MX,v_var,AH,CS,A2,Bq,A2,fZ _ GQ,A2,WQ Ay δ,dF k AP]
 have s2:Bg (Z mw A1) ρ (h++[⟨.lst,ws.take k⟩])=.ok (.ref (⇑h+1),h++[⟨.lst,ws.take k⟩,⟨.lst,[w]⟩]):=by rw[Mx,CG,hw,A2,CY,A2,A2,I8 _ (by simp[At])];simp
 have a1:=Lb (h:=h++[⟨.lst,ws.take k⟩,⟨.lst,[w]⟩]) (i:=⇑h) (j:=⇑h+1) (a:=ws.take k) (b:=[w]) γ γ (by simp[At];lia);obtain⟨H,C4⟩:∃H:A5,H=h++[⟨.lst,ws.take k⟩,⟨.lst,[w]⟩]++[⟨.lst,ws.take k++[w]⟩]:=π;rw[<-C4]at a1;have LS:⇑H=⇑h+3:=by rw[C4];simp
 have mU:h<+: H:=by rw[C4];exact IB (Fy _ _) _
 have s3:DI (I 2) (CM (I i)) (pu none) ρ H=.ok (.ref (⇑h+3),H++[⟨.lst,ws.drop k⟩]):=by rw[MX,v_var,AH,CS,A2,fZ _ GQ,A2,Bq,A2,WQ (F_ mU Ay) δ,tS k AP,LS]
 have h2:H[⇑h+2]?=↥⟨.lst,ws.take k++[w]⟩:=by rw[C4,EB,PB];rfl
 have a2:=Lb (h:=H++[⟨.lst,ws.drop k⟩]) (i:=⇑h+2) (j:=⇑h+3) (a:=ws.take k++[w]) (b:=ws.drop k) (CB H h2 _) (by rw[<-LS];simp) (by simp[At];lia);rw[FD,Bb,Bb,s1,A2,s2,A2,a1,A2];have lV:⇑(h++[⟨.lst,ws.take k⟩,⟨.lst,[w]⟩]:A5)=⇑h+2:=γ
 rw[lV,s3,A2,a2,A2];have:⇑(H++[⟨.lst,ws.drop k⟩]:A5)=⇑h+4:=by rw[Em,LS];rfl
 rw[this];refine IU (ws:=ws.take k++[w]++ws.drop k) h _ (Lr (IB (IB mU _) _)) δ (by rw[<-this];simp) (JI.mpr λx AM=>?_);have La:=JI.mp La;erw[Hi,Lf]at AM;rcases AM with(AM|rfl)|AM
 .exact La x (gb AM)
 .exact acE
 .exact La x (XW AM)
def vA{h:A5}{n i k:Nat}{ws:↑W}{ρ:B9}(AH:ρ[2]?=↥↥(.ref n))(GQ:ρ[i]?=↥↥(.int (k:Int)))(Ay:h[n]?=↥⟨.lst,ws⟩)(l:⇑ws<=100)(AP:k<=⇑ws)(La:Fg ws=true) :
  Bh (A0 addW (DI (I 2) (pu none) (CM (I i))) (DI (I 2) (CM (A0 addW (I i) ζ)) (pu none))) ρ h=.ok (.ref ⇑h,h++[⟨.lst,ws.take k++ws.drop (k+1)⟩]):=by
 have s1:DI (I 2) (pu none) (CM (I i)) ρ h=.ok (.ref ⇑h,h++[⟨.lst,ws.take k⟩]):=by rw[MX,v_var,AH,CS,A2,Bq,A2,fZ _ GQ,A2,WQ Ay δ,dF k AP]
 have Kf:HI ws ↥((k:Int)+1) none=ws.drop (k+1):=by
  have:((k:Int)+1)=((k+1:Nat):Int):=δ
  rw[this];unfold HI;rw[E6.bA,E6.U8];by_cases DD:k+1<=⇑ws
  .rw[gn DD,UO γ]
  .rw[Nat.min_eq_right δ,List.drop_length,List.drop_of_length_le δ];simp
 have s3:DI (I 2) (CM (A0 addW (I i) ζ)) (pu none) ρ (h++[⟨.lst,ws.take k⟩])=.ok (.ref (⇑h+1),h++[⟨.lst,ws.take k⟩]++[⟨.lst,ws.drop (k+1)⟩]):=by
  have pp:CM (A0 addW (I i) ζ) ρ (h++[⟨.lst,ws.take k⟩])=.ok (↥((k:Int)+1),h++[⟨.lst,ws.take k⟩]):=by unfold CM;rw[Hu,Bb,v_var,GQ,CS,A2,Bq,A2,Mp,A2];rfl
  rw[MX,v_var,AH,CS,A2,pp,A2,Bq,A2,WQ (CB h Ay _) δ,Kf];simp
 have a2:=Lb (h:=h++[⟨.lst,ws.take k⟩]++[⟨.lst,ws.drop (k+1)⟩]) (i:=⇑h) (j:=⇑h+1) (a:=ws.take k) (b:=ws.drop (k+1)) γ γ (by simp[At];lia);rw[FD,Bb,s1,A2,s3,A2,a2,A2];refine IU (ws:=ws.take k++ws.drop (k+1)) h _ (Lr (IB (IB (Fy _ _) _) _)) γ γ (JI.mpr λx AM=>?_);have La:=JI.mp La;rcases List.mem_append.mp AM with AM|AM
 .exact La x (gb AM)
 .exact La x (XW AM)
structure Kb(n:Nat)(ps:↑Cq):Prop where
 k:∀p,↥p∈ps->p.1<3/\p.2<n
 C7:(ps.filterMap id).Nodup
def Kb.perm{n:Nat}{ps Ee:↑Cq}(h:Kb n ps)(p:Ee.Perm ps):Kb n Ee:=⟨λx AM=>h.k x (p.mem_iff.mp AM),(p.filterMap id).nodup_iff.mpr h.C7⟩
def Kb.sub{n:Nat}{ps Ee:↑Cq}(h:Kb n ps)(s:Ee.Sublist ps):Kb n Ee:=⟨λx AM=>h.k x (s.mem AM),h.C7.sublist (s.filterMap id)⟩
def Kb.wait{n:Nat}{ps Ee:↑Cq}(h:Kb n (ps++Ee)):Kb n (ps++[none]++Ee):=by
 refine⟨λx AM=>h.k x ?_,?_⟩
 .erw[Hi,Lf]at AM |-;rcases AM with(AM|AM)|AM
  .exact .inl AM
  .cases AM
  .exact .inr AM
 .have:=h.C7;simpa[ru]using this
def lY(ps:↑Cq)(k:Nat)(s:Cq):(ps.map B8).take k++[B8 s]++(ps.map B8).drop k=(ps.take k++[s]++ps.drop k).map B8:=by simp[Ud,h7]
def aak(ps:↑Cq)(k:Nat):(ps.map B8).take k++(ps.map B8).drop (k+1)=(ps.take k++ps.drop (k+1)).map B8:=by simp[Ud,h7]
noncomputable def KP(c:Nat)(n:Nat):↑Cq:=(Ch n).map λi=>↥(c,i)
def bD(c n:Nat):⇑(KP c n)=n:=by simp[KP]
def aed(c n:Nat):(KP c n).map B8=(Ch n).map λi:Nat=>W.tup [.str (Gu c),.int (i:Int)]:=by simp[KP,B8,NC]
def fo{c n:Nat}{t:Str}(Ix:t=Gu c)(AZ:n<=6){ρ:B9}(h0:ρ[0]?=↥↥(.int (n:Int)))(h:A5):Dq 1 [] (Dr (Z (I 0) A1)) (AA 0) (pu true) (BE (Z (pu (.str t)) (Z (I 0) A1))) ρ h=.ok (.ref ⇑h,h++[⟨.lst,(KP c n).map B8⟩]):=by rw[Vi (h:=h) 0 n (λi=>.tup [.str t,.int (i:Int)]) δ (LN (n:=n) (by simp[h0]) δ) (λj Am acc=>by simp[At]),aed,Ix]
noncomputable def plain(n:Nat):↑Cq:=KP 0 n++KP 1 n++[none]++KP 2 n
def acO{n:Nat}(AZ:n<=6)(h:A5):Rk [.int (n:Int)] h=.ok (.ref ⇑h,h++[⟨.lst,(plain n).map B8⟩]):=by
 obtain⟨A,No⟩:∃A,A=(KP 0 n).map B8:=π;obtain⟨B,Pl⟩:∃B,B=(KP 1 n).map B8:=π;obtain⟨D,YY⟩:∃D,D=(KP 2 n).map B8:=π;have kH:⇑A=n:=by rw[No,CU,bD]
 have V8:⇑B=n:=by rw[Pl,CU,bD]
 have ajH:⇑D=n:=by rw[YY,CU,bD]
 have l2:Fg A=true:=by rw[No];exact H7 _ _ LZ
 have l3:Fg B=true:=by rw[Pl];exact H7 _ _ LZ
 have aaS:Fg D=true:=by rw[YY];exact H7 _ _ LZ
 have QL:=λh=>fo (c:=0) (t:=AK "teach") rfl AZ (ρ:=[↥(.int (n:Int)),none]) rfl h;have Bd:=λh=>fo (c:=1) (t:=AK "turn") rfl AZ (ρ:=[↥(.int (n:Int)),none]) rfl h;rw[<-No]at QL;rw[<-Pl]at Bd;have a1:=Lb (h:=h++[⟨.lst,A⟩]++[⟨.lst,B⟩]) (i:=⇑h) (j:=⇑h+1) (a:=A) (b:=B) γ γ (by simp[At];lia);have s1:AX (Bh (A0 addW (Dq 1 [] (Dr (Z (I 0) A1)) (AA 0) (pu true) (BE (Z (pu (.str (AK "teach"))) (Z (I 0) A1)))) (Dq 1 [] (Dr (Z (I 0) A1)) (AA 0) (pu true) (BE (Z (pu (.str (AK "turn"))) (Z (I 0) A1)))))) (AA 1) [↥(.int (n:Int)),none] h=.ok (.AR [↥(.int (n:Int)),↥(.ref ⇑h)],h++[⟨.lst,A++B⟩]):=by
  have q:Bh (A0 addW (Dq 1 [] (Dr (Z (I 0) A1)) (AA 0) (pu true) (BE (Z (pu (.str (AK "teach"))) (Z (I 0) A1)))) (Dq 1 [] (Dr (Z (I 0) A1)) (AA 0) (pu true) (BE (Z (pu (.str (AK "turn"))) (Z (I 0) A1))))) [↥(.int (n:Int)),none] h=.ok (.ref ⇑h,h++[⟨.lst,A++B⟩]):=by
   rw[FD,Bb,QL,A2,Bd,A2];have:⇑(h++[⟨.lst,A⟩]:A5)=⇑h+1:=γ
   rw[this,a1,A2];exact IU (ws:=A++B) h _ (Lr (IB (IB (Fy _ _) _) _)) γ γ (JI.mpr λx AM=>(List.mem_append.mp AM).elim (JI.mp l2 x) (JI.mp l3 x))
  rw[DU,q];rfl
 obtain⟨H,C4⟩:∃H:A5,H=h++[⟨.lst,A++B⟩]:=π;have LS:⇑H=⇑h+1:=by rw[C4];simp
 have IE:H[⇑h]?=↥⟨.lst,A++B⟩:=by rw[C4];simp
 have GB:Bg (Z (BE (Z (pu (.str (AK "wait"))) A1)) A1) [↥(.int (n:Int)),↥(.ref ⇑h)] H=.ok (.ref ⇑H,H++[⟨.lst,[B8 none]⟩]):=rfl;have a2:=Lb (h:=H++[⟨.lst,[B8 none]⟩]) (i:=⇑h) (j:=⇑H) (a:=A++B) (b:=[B8 none]) (CB H IE _) γ (by simp[At];lia);obtain⟨G,Np⟩:∃G:A5,G=H++[⟨.lst,[B8 none]⟩]++[⟨.lst,A++B++[B8 none]⟩]:=π;rw[<-Np]at a2;have V9:⇑G=⇑H+2:=by rw[Np];simp
 have ahg:G[⇑H+1]?=↥⟨.lst,A++B++[B8 none]⟩:=by rw[Np,EB,PB];rfl
 have Co:=fo (c:=2) (t:=AK "forget") rfl AZ (ρ:=[↥(.int (n:Int)),↥(.ref ⇑h)]) rfl G;rw[<-YY]at Co;have IK:=Lb (h:=G++[⟨.lst,D⟩]) (i:=⇑H+1) (j:=⇑G) (a:=A++B++[B8 none]) (b:=D) (CB G ahg _) γ (by simp[At];lia);have s2:Bh (A0 addW (A0 addW (I 1) (Bg (Z (BE (Z (pu (.str (AK "wait"))) A1)) A1))) (Dq 1 [] (Dr (Z (I 0) A1)) (AA 0) (pu true) (BE (Z (pu (.str (AK "forget"))) (Z (I 0) A1))))) [↥(.int (n:Int)),↥(.ref ⇑h)] H=.ok (.ref ⇑H,H++[⟨.lst,A++B++[B8 none]++D⟩]):=by
  rw[FD,Bb,Bb,v_var];rw[show([↥(.int (n:Int)),↥(.ref ⇑h)]:B9)[1]?=↥↥(.ref ⇑h)from rfl,CS,A2,GB,A2,a2,A2];have CV:⇑(H++[⟨.lst,[B8 none]⟩]:A5)=⇑H+1:=γ
  rw[CV,Co,A2,IK,A2];refine IU (ws:=A++B++[B8 none]++D) H _ (Lr ?_) (by rw[Em,V9];lia) γ (JI.mpr λx AM=>?_)
  .rw[Np];exact IB (IB (IB (Fy _ _) _) _) _
  .erw[Hi,Lf]at AM;rcases AM with((AM|AM)|rfl)|AM
   .exact JI.mp l2 x AM
   .exact JI.mp l3 x AM
   .exact LZ _
   .exact JI.mp aaS x AM
 have e:Rk [.int (n:Int)] h=((ZB [↥(.int (n:Int)),none] h).bind outF).bind λp=>settle h p.1 p.2:=rfl;rw[e];unfold ZB;rw[Ax,s1,A2,B1,<-C4,Fb,s2,A2,A2,H8,A2];have Aq:(plain n).map B8=A++B++[B8 none]++D:=by rw[No,Pl,YY];simp[plain]
 rw[Aq,LS];exact IU (ws:=A++B++[B8 none]++D) h _ (Lr (IB (by rw[C4];exact Fy _ _) _)) δ (by rw[<-LS];simp) (by rw[<-Aq];exact H7 _ _ LZ)
def acP(n:Nat):Kb n (plain n):=by
 refine⟨λp AV=>?_,?_⟩
 .erw[plain,KP,Hi,Ua,List.mem_range,Lf]at AV;rcases AV with((⟨i,AD,e⟩|⟨i,AD,e⟩)|e)|⟨i,AD,e⟩
  .cases e;exact⟨γ,AD⟩
  .cases e;exact⟨γ,AD⟩
  .cases e
  .cases e;exact⟨γ,AD⟩
 .have Yf:∀c,(KP c n).filterMap id=(Ch n).map λi=>(c,i):=λc=>by
    unfold KP;rw[List.filterMap_map];induction Ch n with
    |nil=>rfl
    |cons x l CC=>simp[CC]
  have C7:∀c:Nat,((Ch n).map λi=>(c,i)).Nodup:=λc=>by rw[XI,S6];exact List.nodup_range.imp λh z=>h (Prod.mk.inj z).2
  have e:(plain n).filterMap id=((Ch n).map λi=>(0,i))++((Ch n).map λi=>(1,i))++((Ch n).map λi=>(2,i)):=by erw[plain,ru,Yf];simp
  rw[e];refine List.nodup_append.mpr ⟨List.nodup_append.mpr ⟨C7 0,C7 1,λa AF b A4 z=>?_⟩,C7 2,λa AF b A4 z=>?_⟩
  .obtain⟨i,_,rfl⟩:=List.mem_map.mp AF;obtain⟨j,_,rfl⟩:=List.mem_map.mp A4;cases z
  .obtain⟨j,_,rfl⟩:=List.mem_map.mp A4;rcases List.mem_append.mp AF with AF|AF
   .obtain⟨i,_,rfl⟩:=List.mem_map.mp AF;cases z
   .obtain⟨i,_,rfl⟩:=List.mem_map.mp AF;cases z
noncomputable def Ej(a n:Nat)(p:Nat)(s3 s4 s5 s6 s7:Option W):B9:=[↥(.ref a),↥(.int (n:Int)),↥(.ref p),s3,s4,s5,s6,s7]
noncomputable def fS:Ai:=BU (Eg (AT (A0 (Ap true) (A0 BK (I 4) (pu (.int 5))) η)) (AT (A0 Jf (B6 Be (Z (I 2) A1)) (pu (.int 30))))) (AX (Bh (A0 addW (A0 addW (DI (I 2) (pu none) (CM (I 5))) (Bg (Z (BE (Z (pu (.str (AK "wait"))) A1)) A1))) (DI (I 2) (CM (I 5)) (pu none)))) (AA 2)) BR
noncomputable def fT:Ai:=BU (AT (A0 (Ap true) (A0 BK (I 4) (pu (.int 5))) ζ)) (AX (Bh (A0 addW (DI (I 2) (pu none) (CM (I 5))) (DI (I 2) (CM (A0 addW (I 5) ζ)) (pu none)))) (AA 2)) BR
noncomputable def mT:Ai:=AN (AX (D6 JK (I 2) (Z (A0 BK (I 5) (B6 Be (Z (I 2) A1))) A1)) (AA 6))
    (AN (AX (A0 BK (A0 CT (I 4) (pu (.int 200))) (A0 addW (B6 Be (Z (I 2) A1)) ζ)) (AA 7))
    (AX (Bh (A0 addW (A0 addW (DI (I 2) (pu none) (CM (I 7))) (Bg (Z (I 6) A1))) (DI (I 2) (CM (I 7)) (pu none)))) (AA 2)))
noncomputable def fU:Ai:=BU (Hn (Eg (AT (A0 Kl (A0 BK (I 4) (pu (.int 5))) (pu (.int 2)))) (AT (A0 (Ap false) (I 2) (Bg A1))))) mT BR
noncomputable def ee:Ai:=AN (AX (Ae 2 Dz (Z (I 3) (Z (pu (.int 5)) A1))) (AA 4))
    (AN (AX (A0 BK (A0 CT (I 4) (pu (.int 5))) (A0 addW (B6 Be (Z (I 2) A1)) ζ)) (AA 5))
    (AN fS (AN fT fU)))
structure M0(h:A5)(n p:Nat)(ps:↑Cq)(H:A5):Prop where
 pr:h<+: H
 B3:⇑h<=p
 e:H[p]?=↥⟨.lst,ps.map B8⟩
 i:Kb n ps
def adO{h:A5}{n:Nat}{ps:↑Cq}(e:h[n]?=↥⟨.lst,ps.map B8⟩):CD 8 h (.ref n)=↥(.Cg false (ps.map Nb)):=by erw[CD,H9 h e];rw[mapM_some (CD 7 h) B8 Nb (λs=>nU 5 h s) ps];rfl
def ne_nil{h:A5}{n m:Nat}{ps:↑Cq}(e:h[n]?=↥⟨.lst,ps.map B8⟩)(Ba:h[m]?=↥⟨.lst,[]⟩):Ap false (.ref n) (.ref m) h=.ok (.AL (!ps.isEmpty),h):=by unfold Ap;rw[adO e,WO (l:=[]) 7 Ba];cases ps<;>simp[eqT,GE]
section
variable{h H:A5}{a n p:Nat}{ps:↑Cq}{y:Int}{k:Nat}{s3 s6 s7:Option W}
def M0.new{Ee:↑Cq}{H1:A5}(x:M0 h n p ps H1)(q:Kb n Ee):M0 h n ⇑H1 Ee (H1++[⟨.lst,Ee.map B8⟩]):=⟨IB x.pr _,x.pr.length_le,γ,q⟩
def uK(x:M0 h n p ps H)(l:⇑ps<=30)(AP:k<=⇑ps):∃Ee FK A9,fS (Ej a n p s3 ↥(.int y) ↥(.int (k:Int)) s6 s7) H=.ok (.AR (Ej a n FK s3 ↥(.int y) ↥(.int (k:Int)) s6 s7),A9)/\M0 h n FK Ee A9/\ ⇑ps<=⇑Ee/\ ⇑Ee<=⇑ps+1/\ ⇑Ee<=30:=by
 unfold fS;have lw:Be [.ref p] H=.ok (.int ⇑ps,H):=by rw[Gl x.e,CU]
 have t:Eg (AT (A0 (Ap true) (A0 BK (I 4) (pu (.int 5))) η)) (AT (A0 Jf (B6 Be (Z (I 2) A1)) (pu (.int 30)))) (Ej a n p s3 ↥(.int y) ↥(.int (k:Int)) s6 s7) H=.ok (decide (y%5=0)&&decide ((⇑ps:Int)<30),H):=by
  by_cases F7:y%5=0
  .simp[Ej,F7,lw]
  .simp[Ej,F7]
 rw[Db,t,A2];by_cases A4:(decide (y%5=0)&&decide ((⇑ps:Int)<30))=true
 .rw[if_pos A4];have Qs:⇑ps<30:=by
   have:=(I0 .. ▸A4:_/\_).2;have:=of_decide_eq_true this;lia
  have im:=jr (i:=5) (k:=k) (w:=B8 none) (ρ:=Ej a n p s3 ↥(.int y) ↥(.int (k:Int)) s6 s7) (mw:=BE (Z (pu (.str (AK "wait"))) A1)) rfl rfl x.e (by simp;lia) (AP:) (λh'=>rfl) (H7 _ _ LZ) (LZ _);rw[lY]at im;have q:Kb n (ps.take k++[none]++ps.drop k):=Kb.wait (by rw[PM];exact x.i);refine⟨_,⇑H,_,?_,x.new q,by simp;lia,by simp;lia,by simp;lia⟩;rw[DU,im];rfl
 .rw[if_neg A4];exact⟨ps,p,H,rfl,x,C9 _,δ,l⟩
def tT(x:M0 h n p ps H)(l:⇑ps<=30)(AP:k<=⇑ps):∃Ee FK A9,fT (Ej a n p s3 ↥(.int y) ↥(.int (k:Int)) s6 s7) H=.ok (.AR (Ej a n FK s3 ↥(.int y) ↥(.int (k:Int)) s6 s7),A9)/\M0 h n FK Ee A9/\ ⇑Ee<=⇑ps:=by
 unfold fT;have t:AT (A0 (Ap true) (A0 BK (I 4) (pu (.int 5))) ζ) (Ej a n p s3 ↥(.int y) ↥(.int (k:Int)) s6 s7) H=.ok (decide (y%5=1),H):=by simp[Ej]
 rw[Db,t,A2];by_cases A4:decide (y%5=1)=true
 .rw[if_pos A4];have im:=vA (i:=5) (k:=k) (ρ:=Ej a n p s3 ↥(.int y) ↥(.int (k:Int)) s6 s7) rfl rfl x.e (by simp;lia) (AP:) (H7 _ _ LZ);rw[aak]at im;have Fk:(ps.take k++ps.drop (k+1)).Sublist ps:=by
   have:(ps.take k++ps.drop (k+1)).Sublist (ps.take k++ps.drop k):=(List.Sublist.refl _).append (by rw[<-List.drop_drop];exact List.drop_sublist _ _)
   rwa [PM]at this
  refine⟨_,⇑H,_,?_,x.new (x.i.sub Fk),Fk.length_le⟩;rw[DU,im];rfl
 .rw[if_neg A4];exact⟨ps,p,H,rfl,x,C9 _⟩
def tU(x:M0 h n p ps H)(l:⇑ps<=30):∃Ee FK A9 MG aS,fU (Ej a n p s3 ↥(.int y) ↥(.int (k:Int)) s6 s7) H=.ok (.AR (Ej a n FK s3 ↥(.int y) ↥(.int (k:Int)) MG aS),A9)/\M0 h n FK Ee A9/\ ⇑Ee=⇑ps:=by
 unfold fU;have et:Ap false (.ref p) (.ref ⇑H) (H++[⟨.lst,[]⟩])=.ok (.AL (!ps.isEmpty),H++[⟨.lst,[]⟩]):=ne_nil (CB H x.e _) γ;have t:Hn (Eg (AT (A0 Kl (A0 BK (I 4) (pu (.int 5))) (pu (.int 2)))) (AT (A0 (Ap false) (I 2) (Bg A1)))) (Ej a n p s3 ↥(.int y) ↥(.int (k:Int)) s6 s7) H=.ok (decide (2<y%5)&&!ps.isEmpty,H):=by
  by_cases F7:2<y%5
  .simp[Ej,F7,nw,et]
  .simp[Ej,F7]
 rw[Db,t,A2];by_cases A4:(decide (2<y%5)&&!ps.isEmpty)=true
 .rw[if_pos A4];have ne:0< ⇑ps:=by
   have:=(I0 .. ▸A4:_/\_).2;cases ps with
   |nil=>cases this
   |cons _ _=>simp
  obtain⟨j,Am,GW⟩:=Jl (k:Int) (n:=⇑ps) ne;have lw:Be [.ref p] H=.ok (.int ⇑ps,H):=by rw[Gl x.e,CU]
  have Jo:(0:Int)<(⇑ps:Int):=δ
  obtain⟨H1,AC⟩:∃H1:A5,H1=H.set p ⟨.lst,(ps.eraseIdx j).map B8⟩:=⟨_,rfl⟩;have s1:AX (D6 JK (I 2) (Z (A0 BK (I 5) (B6 Be (Z (I 2) A1))) A1)) (AA 6) (Ej a n p s3 ↥(.int y) ↥(.int (k:Int)) s6 s7) H=.ok (.AR (Ej a n p s3 ↥(.int y) ↥(.int (k:Int)) ↥(B8 ps[j]) s7),H1):=by
   have q:D6 JK (I 2) (Z (A0 BK (I 5) (B6 Be (Z (I 2) A1))) A1) (Ej a n p s3 ↥(.int y) ↥(.int (k:Int)) s6 s7) H=.ok (B8 ps[j],H1):=by
    rw[AC];refine I7 (ws:=ps.map B8) (ws2:=ps.map B8) (us:=[.int (j:Int)]) (h1:=H) (h2:=H) rfl x.e ?_ x.e ?_ (by simp[At];have:=List.length_eraseIdx_le ps j;lia)
    .erw[Ej,CG,Bb,GA,CY,v_var,DV,EG,CS,A2,lw,LJ,if_pos Jo,GW]
    .rw[eh (Am:) (by simp;lia)];simp[Yb]
   rw[DU,q];rfl
  have Es:H1[p]?=↥⟨.lst,(ps.eraseIdx j).map B8⟩:=by rw[AC];exact Hr x.e
  have le:⇑(ps.eraseIdx j)=⇑ps-1:=gO Am;have aac:Be [.ref p] H1=.ok (.int ⇑(ps.eraseIdx j),H1):=by rw[Gl Es,CU]
  obtain⟨i,AD,GQ⟩:=Jl (y/200) (n:=⇑(ps.eraseIdx j)+1) δ;have GQ:y/200%((⇑(ps.eraseIdx j):Int)+1)=(i:Int):=by rw[<-GQ];simp
  have ER:(0:Int)<(⇑(ps.eraseIdx j):Int)+1:=δ
  have s2:AX (A0 BK (A0 CT (I 4) (pu (.int 200))) (A0 addW (B6 Be (Z (I 2) A1)) ζ)) (AA 7) (Ej a n p s3 ↥(.int y) ↥(.int (k:Int)) ↥(B8 ps[j]) s7) H1=.ok (.AR (Ej a n p s3 ↥(.int y) ↥(.int (k:Int)) ↥(B8 ps[j]) ↥(.int (i:Int))),H1):=by erw[Ej,DU,Bb,GA,CG,CY,v_var,Bq,DV,EG,CS,A2,Lc,if_pos (show(0:Int)<200/\(200:Int)<1073741824 by decide),aac,Mp,LJ,if_pos ER,GQ];rfl
  have im:=jr (i:=7) (k:=i) (w:=B8 ps[j]) (ρ:=Ej a n p s3 ↥(.int y) ↥(.int (k:Int)) ↥(B8 ps[j]) ↥(.int (i:Int))) (mw:=I 6) rfl rfl Es (by rw[CU];lia) (by rw[CU];lia) (λh'=>rfl) (H7 _ _ LZ) (LZ _);rw[lY]at im;have pm:((ps.eraseIdx j).take i++[ps[j]]++(ps.eraseIdx j).drop i).Perm ps:=by
   have q1:((ps.eraseIdx j).take i++[ps[j]]++(ps.eraseIdx j).drop i).Perm (ps[j]::ps.eraseIdx j):=by
    rw[EB,gK];have:=List.perm_middle (a:=ps[j]) (l₁:=(ps.eraseIdx j).take i) (l₂:=(ps.eraseIdx j).drop i)
    rwa [PM]at this
   exact q1.trans (Yc ps j Am)
  have x1:M0 h n p (ps.eraseIdx j) H1:=⟨by rw[AC];exact Rq x.pr x.B3 _,x.B3,Es,x.i.sub (List.eraseIdx_sublist ps j)⟩;refine⟨_,⇑H1,_,↥(B8 ps[j]),↥(.int (i:Int)),?_,x1.new (x.i.perm pm),pm.length_eq⟩;unfold mT;rw[Ax,s1,A2,B1,Ax,s2,A2,B1,DU,im];rfl
 .rw[if_neg A4];exact⟨ps,p,H,s6,s7,rfl,x,rfl⟩
end
def IM{h h1:A5}{k:Nat}{mf:Bi}{ma:EP}{ρ:B9}{us:↑W}{r:R (W×A5)}(BW:ma ρ h=.ok (us,h1))(l:⇑us=k)(BA:mf us h1=r):Ae k mf ma ρ h=r:=by rw[IV,BW,A2,if_pos l,BA]
def acQ{l:↑Int}(AG:⇑l<=10){n:Nat}(AZ:n<=6){h:A5}{a:Nat}(BW:h[a]?=↥⟨.lst,BD l⟩):∃ps,Sa n ps/\ ⇑ps<=30/\Rl [.ref a,.int (n:Int)] h=.ok (.ref ⇑h,h++[⟨.lst,ps.map B8⟩]):=by
 have pm:=acO AZ h;have jl:⇑(plain n)=3*n+1:=by simp[plain,bD];lia
 have B3:=Pm (mi:=DR (I 0)) (it:=FI (.ref a)) (g:=AA 3) (b:=ee) (ρ:=Ej a n ⇑h none none none none none) (h:=h++[⟨.lst,(plain n).map B8⟩]) (h0:=h++[⟨.lst,(plain n).map B8⟩]) (BD l) (by simp[BD];lia)
  (λj ρ H=>∃ps p s3 s4 s5 s6 s7,ρ=Ej a n p s3 s4 s5 s6 s7/\M0 h n p ps H/\ ⇑ps<=30)
  (T:=λf H=>∃ps p s3 s4 s5 s6 s7,f=.AR (Ej a n p s3 s4 s5 s6 s7)/\M0 h n p ps H/\ ⇑ps<=30)
  (K3 (CB h BW _) rfl) (λj ρ H _ q=>by obtain⟨ps,p,_,_,_,_,_,_,x,_⟩:=q;exact Mh (F_ x.pr BW) j)
  ⟨plain n,⇑h,none,none,none,none,none,rfl,⟨Fy _ _,C9 _,γ,acP n⟩,δ⟩ ?_ ?_
 .obtain⟨f,H,CI,ps,p,s3,s4,s5,s6,s7,rfl,x,Qs⟩:=B3.Gc;refine⟨ps,⟨δ,x.i.k,x.i.C7⟩,Qs,?_⟩;have e:Rl [.ref a,.int (n:Int)] h=((AN (AX (Ae 1 Rk (Z (I 1) A1)) (AA 2)) (AN (Eo (DR (I 0)) (AA 3) ee) (Au (I 2))) [↥(.ref a),↥(.int (n:Int)),none,none,none,none,none,none] h).bind outF).bind λp=>settle h p.1 p.2:=rfl;have s1:AX (Ae 1 Rk (Z (I 1) A1)) (AA 2) [↥(.ref a),↥(.int (n:Int)),none,none,none,none,none,none] h=.ok (.AR (Ej a n ⇑h none none none none none),h++[⟨.lst,(plain n).map B8⟩]):=by
   have q:Ae 1 Rk (Z (I 1) A1) [↥(.ref a),↥(.int (n:Int)),none,none,none,none,none,none] h=.ok (.ref ⇑h,h++[⟨.lst,(plain n).map B8⟩]):=IM (us:=[.int (n:Int)]) (h1:=h) rfl rfl pm;rw[DU,q];rfl
  rw[e,Ax,s1,A2,B1,Ax,K7,CI,A2,B1,Fb,v_var,show(Ej a n p s3 s4 s5 s6 s7)[2]?=↥↥(.ref p)from rfl,CS,A2,A2,H8,A2];exact IU h H (Lr x.pr) x.B3 x.e (H7 _ _ LZ)
 .rintro j w _ H C_ ⟨ps,p,s3,s4,s5,s6,s7,rfl,x,Qs⟩;erw[BD,E5]at C_;cases ec:l[j]? with
  |none=>rw[ec]at C_;cases C_
  |some c=>
   rw[ec]at C_;cases C_;refine⟨Ej a n p ↥(.int c) s4 s5 s6 s7,H,rfl,?_⟩;obtain⟨y,DP⟩:=Mn c 5 δ;have DP:∀h,Dz [.int c,.int 5] h=.ok (.int y,h):=DP;have q1:AX (Ae 2 Dz (Z (I 3) (Z (pu (.int 5)) A1))) (AA 4) (Ej a n p ↥(.int c) s4 s5 s6 s7) H=.ok (.AR (Ej a n p ↥(.int c) ↥(.int y) s5 s6 s7),H):=by simp[Ej,DP]
   have lw:Be [.ref p] H=.ok (.int ⇑ps,H):=by rw[Gl x.e,CU]
   obtain⟨k,AP,DH⟩:=Jl (y/5) (n:=⇑ps+1) δ;have DH:y/5%((⇑ps:Int)+1)=(k:Int):=by rw[<-DH];simp
   have ER:(0:Int)<(⇑ps:Int)+1:=δ
   have q2:AX (A0 BK (A0 CT (I 4) (pu (.int 5))) (A0 addW (B6 Be (Z (I 2) A1)) ζ)) (AA 5) (Ej a n p ↥(.int c) ↥(.int y) s5 s6 s7) H=.ok (.AR (Ej a n p ↥(.int c) ↥(.int y) ↥(.int (k:Int)) s6 s7),H):=by erw[Ej,DU,Bb,GA,CG,CY,v_var,Bq,DV,EG,CS,A2,Lc,if_pos (show(0:Int)<5/\(5:Int)<1073741824 by decide),lw,Mp,LJ,if_pos ER,DH];rfl
   obtain⟨Ee,FK,A9,Bd,x1,g1,g2,g3⟩:=uK (a:=a) (y:=y) (s3:=↥(.int c)) (s6:=s6) (s7:=s7) x Qs (k:=k) δ;obtain⟨air,Cv,AU,Co,x2,g4⟩:=tT (a:=a) (y:=y) (s3:=↥(.int c)) (s6:=s6) (s7:=s7) x1 g3 (k:=k) δ;obtain⟨adh,Hh,Bv,MG,aS,F5,x3,Kk⟩:=tU (a:=a) (y:=y) (k:=k) (s3:=↥(.int c)) (s6:=s6) (s7:=s7) x2 δ;unfold ee;rw[Ax,q1,A2,B1,Ax,q2,A2,B1,Ax,Bd,A2,B1,Ax,Co,A2,B1,F5];exact⟨_,_,rfl,adh,Hh,_,_,_,_,_,rfl,x3,δ⟩
 .rintro _ H ⟨ps,p,s3,s4,s5,s6,s7,rfl,x,Qs⟩;exact⟨ps,p,s3,s4,s5,s6,s7,rfl,x,Qs⟩
end FG
namespace C2
open PySem PySem.Spec B5
def e_{h:A5}{n:Nat}{o Cu:O}(e:h[n]?=↥o)(g:A5):(h.set n Cu++g).set n o=h++g:=by have AZ:n< ⇑h:=(List.getElem?_eq_some_iff.mp e).1;have Ay:h[n]=o:=(List.getElem?_eq_some_iff.mp e).2;rw[ry _ _ (AZ:),List.set_set,<-Ay,List.set_getElem_self]
def iH{m e:B7}{ρ:B9}{h:A5}{n:Nat}{AJ:↑Key}{ws:↑W}(p:W->Bool)(AG:⇑ws<1000)(em:m ρ h=.ok (.ref n,h))(Ay:h[n]?=↥⟨.Ak AJ,ws⟩)(DT:∀w∈ws,∀acc,e [↥w] (h.set n ⟨.G0 AJ,ws⟩++[⟨.lst,acc⟩])=.ok (.AL (p w),h.set n ⟨.G0 AJ,ws⟩++[⟨.lst,acc⟩])) :
  Bh (B6 (HM true) (Z (LW Nh 1 [] m (AA 0) (pu true) e) A1)) ρ h=.ok (.AL (ws.all p),h):=by
 have AZ:n< ⇑h:=(List.getElem?_eq_some_iff.mp Ay).1;obtain⟨H,C4⟩:∃H:A5,H=h.set n ⟨.G0 AJ,ws⟩:=⟨_,rfl⟩;rw[<-C4]at DT;have LS:⇑H=⇑h:=by rw[C4];simp
 have IE:H[n]?=↥⟨.G0 AJ,ws⟩:=by rw[C4];exact J8 AZ
 have c:=Pi (mi:=pu (Nh AJ ws)) (it:=Nh AJ ws) (g:=AA 0) (t:=pu true) (e:=e) (ρ:=ρ) (h:=H) (h0:=H) (nl:=1) (caps:=[]) ws (λ_=>true) (λw=>.AL (p w)) (λρ=>∃s,ρ=[s]) AG rfl ⟨none,rfl⟩ (λj acc Am=>by
   unfold Nh;by_cases q:j=⇑ws
   .rw[if_pos q,J9 δ]
   .rw[if_neg q,CP δ];rfl) (by
   rintro w hw ρ acc ⟨s,rfl⟩;exact⟨[↥w],rfl,⟨_,rfl⟩,rfl,λ_=>DT w hw acc⟩)
 rw[List.filter_eq_self.mpr (λ_ _=>rfl)]at c;have z:LW Nh 1 [] m (AA 0) (pu true) e ρ h=.ok (.ref ⇑h,h++[⟨.lst,ws.map λw=>.AL (p w)⟩]):=by unfold LW;rw[Hu,em,A2];erw[Ay];rw[<-C4,c];unfold g5;erw[Gr (show n< ⇑H by lia),IE];rw[C4,e_ Ay];simp
 have q:E2 (h++[⟨.lst,ws.map λw=>W.AL (p w)⟩]) (.ref ⇑h)=↥(false,ws.map λw=>W.AL (p w)):=H9 _ γ;have eu:HM true [.ref ⇑h] (h++[⟨.lst,ws.map λw=>W.AL (p w)⟩])=.ok (.AL (ws.all p),h++[⟨.lst,ws.map λw=>W.AL (p w)⟩]):=by erw[HM,q,YT p ws,if_true];rw[SE];rfl
 rw[FD,GA,CG,z,A2,CY,A2,A2,eu,A2];exact Ru _ _ _ rfl
end C2
namespace FG
open PySem PySem.Spec B5 C2
section
variable{C:ES}{h:A5}{S:EE}
structure NJ(C:ES)(S:EE):Prop where
 le:⇑S.done<=⇑C.ps
 e:S.done=C.ps.take ⇑S.done
def ef(R:Dh C h S):KH [.ref C.r] h=.ok (.int (⇑S.done:Int),h):=by
 have fd:B4 "Run" "done" (.ref C.r) h=.ok (.ref C.M,h):=EI R.BA rfl;have lw:Be [.ref C.M] h=.ok (.int ⇑S.done,h):=by rw[Gl R.CH,CU]
 simp[KH,bl,fd,lw]
def allM(S:EE):Bool:=S.lets.all λl=>l.m==1
noncomputable def G1(C:ES)(S:EE):Bool:=if ⇑S.done=⇑C.ps then false else if(C.ps.getD ⇑S.done none).isSome then true else allM S
noncomputable def Tw(h:A5):W->Bool
 |.ref n=>match h[n]? with
  |some ⟨.ins _ _,.int m::_⟩=>m==1
  |_=>false
 |_=>false
def W5{h h1:A5}{n:Nat}{c x:Str}{ns:↑Str}{ws:↑W}{mf:Bi}{o:B7}{ρ:B9}{r:C2.R (W×A5)}(Fn:o ρ h=.ok (.ref n,h))(e:h[n]?=↥⟨.ins c ns,ws⟩)(v:Dg ns ws x=none)(BA:mf [.ref n] h=r):Bz c x 0 mf o A1 ρ h=r:=Jk (us:=[]) Fn e v rfl rfl BA
def mm(c:Dw C)(R:Dh C h S):h[C.pl]?=↥⟨.lst,C.ps.map B8⟩:=R.Bl _ _ c.pp (λz=>by cases z)
def mn(c:Dw C)(R:Dh C h S){k:Nat}(AP:k< ⇑C.ps):AB (.ref C.pl) (.int (k:Int)) h=.ok (B8 (C.ps.getD k none),h):=Gk (mm c R) (by rw[E5,CP AP,Eh,CP AP];rfl)
def dX(c:Dw C)(R:Dh C h S)(D:NJ C S):NW [.ref C.r] h=.ok (.AL (G1 C S),h):=by
 have BP:B4 "Run" "plan" (.ref C.r) h=.ok (.ref C.pl,h):=EI R.BA rfl;have Di:B4 "Run" "letters" (.ref C.r) h=.ok (.ref (C.M+1),h):=EI R.BA rfl;have lw:Be [.ref C.pl] h=.ok (.int ⇑C.ps,h):=by rw[Gl (mm c R),CU]
 have mp:Bz "Run" "place" 0 KH (I 0) A1 [ι] h=.ok (.int (⇑S.done:Int),h):=W5 (h1:=h) rfl R.BA rfl (ef R);have le:=R.le;have few:=R.few;have vE:=D.le;have al:=iH (m:=Aw (B4 "Run" "letters") (I 0)) (e:=A0 (Ap true) (Aw (B4 "Letter" "mark") (I 0)) ζ) (ρ:=[ι]) (Tw h) (by rw[CU];lia) (by simp[Di]) R.el (by
  intro w hw acc;obtain⟨l,AG,rfl⟩:=List.mem_map.mp hw;have x:=R.lt l (JC _ AG);have t1:=x.t1;have Dt:=c.Dt;obtain⟨H,C4⟩:∃H:A5,H=h.set (C.M+1) ⟨.G0 (S.lets.map E7),S.lets.map λl=>.ref l.B3⟩++[⟨.lst,acc⟩]:=π;have z:H[l.B3]?=↥(Q4 l):=by rw[C4];exact CB _ (by rw[Er δ];exact x.Fn) _
  rw[<-C4];have P9:B4 "Letter" "mark" (.ref l.B3) H=.ok (.int (l.m:Int),H):=EI z rfl;have pm:Tw h (.ref l.B3)=decide ((l.m:Int)=1):=by erw[Tw,x.Fn,Q4];by_cases q:(l.m:Int)=1<;>simp[q]
  rw[pm];simp[P9])
 have BW:(S.lets.map λl=>W.ref l.B3).all (Tw h)=allM S:=by
  unfold allM;rw[SE,Xe,UY,UY];refine forall_congr' λl=>⟨λq AG=>?_,λq AG=>?_⟩
  .have:=q AG;erw[Qn,Tw,(R.lt l (JC _ AG)).Fn,Q4,beq_iff_eq]at this |-;lia
  .have:=q AG;erw[Qn,Tw,(R.lt l (JC _ AG)).Fn,Q4,beq_iff_eq]at this |-;lia
 rw[BW]at al;have t1:AT (A0 (Ap true) (Bz "Run" "place" 0 KH (I 0) A1) (B6 Be (Z (Aw (B4 "Run" "plan") (I 0)) A1))) [ι] h=.ok (decide (⇑S.done=⇑C.ps),h):=by
  rw[GM,Bb,mp,A2];erw[GA,CG,CY,HO,v_var,DV,CS,A2,BP,lw,U1,Gj]
  congr 2
  exact decide_eq_decide.mpr δ
 have e:NW [.ref C.r] h=((Ys [ι] h).bind outF).bind λp=>settle h p.1 p.2:=rfl;rw[e];unfold Ys G1;rw[Ax,Db,t1,A2];by_cases hd:⇑S.done=⇑C.ps
 .rw[if_pos (decide_eq_true hd),if_pos hd,Fb,Bq,A2,A2,UA,A2,H8,A2];exact QN h _ rfl
 .rw[if_neg (hd:),if_neg hd,FC,A2,B1];have EJ:=mn c R (k:=⇑S.done) δ;have Ca:AT (A0 (Ap false) (A0 AB (Aw (B4 "Run" "plan") (I 0)) (Bz "Run" "place" 0 KH (I 0) A1)) (pu N3)) [ι] h=.ok (Il (B8 (C.ps.getD ⇑S.done none)),h):=by
   rw[GM,Bb,Bb,HO,v_var];rw[show([ι]:B9)[0]?=↥ι from rfl,CS,A2,BP,A2,mp,A2,EJ,A2,Bq,A2,l9,A2,Gj]
  rw[Ax,Db,Ca,A2];cases Aq:C.ps.getD ⇑S.done none with
  |some q=>rw[if_pos (show Il (B8 ↥q)=true from rfl),if_pos (show(↥q).isSome=true from rfl),Fb,Bq,A2,A2,UA,A2,H8,A2];exact QN h _ rfl
  |none=>rw[if_neg (show¬Il (B8 none)=true by simp[Il,B8]),if_neg (show¬(none:Option (Nat×Nat)).isSome=true by simp),FC,A2,B1,Fb,al,A2,A2,H8,A2];exact QN h _ rfl
def aem(c:Dw C)(R:Dh C h S)(D:NJ C S)(hm:G1 C S=false):PZ [.ref C.r] h=.exc "NoMove" h:=by have FJ:Bz "Run" "may_step" 0 NW (I 0) A1 [ι] h=.ok (.AL (G1 C S),h):=W5 (h1:=h) rfl R.BA rfl (dX c R D);rw[hm]at FJ;have e:PZ [.ref C.r] h=(Sk [ι] h).bind outF:=rfl;rw[e];unfold Sk;rw[Ax,Db,v_not,GM,FJ,A2,Gj,A2,A2];rfl
def lZ(D:NJ C S)(hm:G1 C S=true):⇑S.done< ⇑C.ps:=by
 unfold G1 at hm;have:=D.le
 split at hm
 .cases hm
 .lia
noncomputable def MF(C:ES)(S:EE):EE:={ S with done:=S.done++[C.ps.getD ⇑S.done none] }
def ael(D:NJ C S)(DD:⇑S.done< ⇑C.ps):NJ C (MF C S):=by refine⟨by simp[MF];lia,?_⟩;show S.done++[_]=C.ps.take ⇑(S.done++[_]);rw[Em,sF,gG DD,<-D.e,Eh,CP DD];rfl
def aeo(c:Dw C)(R:Dh C h S)(D:NJ C S)(hm:G1 C S=true):∃h',PZ [.ref C.r] h=.ok (B8 (C.ps.getD ⇑S.done none),h')/\Dh C h' (MF C S)/\ ⇑h'=⇑h/\∀n,n≠C.M->h'[n]?=h[n]?:=by
 have DD:=lZ D hm;have ZU:=c.P.l;have JM:=c.JM;have Dt:=c.Dt;have FJ:Bz "Run" "may_step" 0 NW (I 0) A1 [ι] h=.ok (.AL (G1 C S),h):=W5 (h1:=h) rfl R.BA rfl (dX c R D);rw[hm]at FJ;have BP:B4 "Run" "plan" (.ref C.r) h=.ok (.ref C.pl,h):=EI R.BA rfl;have fd:B4 "Run" "done" (.ref C.r) h=.ok (.ref C.M,h):=EI R.BA rfl;have mp:Bz "Run" "place" 0 KH (I 0) A1 [ι] h=.ok (.int (⇑S.done:Int),h):=W5 (h1:=h) rfl R.BA rfl (ef R);obtain⟨s,es⟩:∃s,s=C.ps.getD ⇑S.done none:=π;have EJ:=mn c R DD;rw[<-es]at EJ |-;obtain⟨h',EF⟩:∃h':A5,h'=h.set C.M ⟨.lst,(S.done++[s]).map B8⟩:=⟨_,rfl⟩;have ap:D6 DK (Aw (B4 "Run" "done") (I 0)) (Z (A0 AB (Aw (B4 "Run" "plan") (I 0)) (Bz "Run" "place" 0 KH (I 0) A1)) A1) [ι] h=.ok (.non,h'):=by rw[EF];refine I7 (ws:=S.done.map B8) (ws2:=S.done.map B8) (us:=[B8 s]) (h1:=h) (h2:=h) (by simp[fd]) R.CH ?_ R.CH (by simp[DK]) (by simp[At];lia);rw[CG,Bb,HO,v_var,show([ι]:B9)[0]?=↥ι from rfl,CS,A2,BP,A2,mp,A2,EJ,A2];rfl
 have keep:∀n,n≠C.M->h'[n]?=h[n]?:=λn AZ=>by rw[EF,Er (λz=>AZ z.symm)]
 have Y_:h'[C.M]?=↥⟨.lst,(S.done++[s]).map B8⟩:=by rw[EF];exact Hr R.CH
 have jX:h'[C.r]?=↥(Ms C.Jm C.LH C.DY C.pl C.M S.Bn):=by rw[keep _ δ];exact R.BA
 have x8:B4 "Run" "done" (.ref C.r) h'=.ok (.ref C.M,h'):=EI jX rfl;have eM:AB (.ref C.M) (.int (-1)) h'=.ok (B8 s,h'):=V_ (us:=S.done.map B8) (by rw[Y_];simp);have q:=c.D5;refine⟨h',?_,?_,by rw[EF];simp,keep⟩
 .have e:PZ [.ref C.r] h=(Sk [ι] h).bind outF:=rfl;rw[e];unfold Sk;rw[Ax,Db,v_not,GM,FJ,A2,Gj,A2,A2,if_neg γ,FC,A2,B1,Ax,Hv,ap,A2,A2,B1,Fb,Bb,HO,v_var];rw[show([ι]:B9)[0]?=↥ι from rfl,CS,A2,x8,A2,HO,Bq,A2];have Ou:Ff (.int 1) h'=.ok (.int (-1),h'):=rfl;rw[Ou,A2,eM,A2,A2,H8]
 .refine⟨λn o' k ne=>?_,jX,by rw[Y_];simp[MF,es],by rw[keep _ δ];exact R.el,by rw[keep _ δ];exact R.Iw,λl AG=>?_,R.C7,R.nn,R.Hg,λp AV=>?_,R.few,R.le,by rw[EF];simpa using R.AG,R.pr⟩
  .rw[keep n (by have:=Fz k;lia)];exact R.Bl n o' k ne
  .have x:=R.lt l AG;have:=x.t1;have:=x.Ca;exact x.to (keep _ δ) (keep _ δ)
  .erw[MF,Hi,Lf]at AV;rcases AV with AV|AV
   .exact R.Ih p AV
   .refine(c.P.k p ?_).1;rw[AV,Eh,CP DD];exact JD _
def kv(R:Dh C h S){r:C2.R (W×A5)}(e:PZ [.ref C.r] h=r)(BF:r=.exc "NoMove" h\/∃p,r=.ok p):JH [.ref C.r,.tup [.str (AK "step")]] h=r:=by
 have Ck:DQ "tuple" (.tup [.str (AK "step")]) h=.ok (.AL true,h):=rfl;have F8:DQ "str" (.str (AK "step")) h=.ok (.AL true,h):=rfl;have FJ:Bz "Run" "step" 0 PZ (I 0) A1 [ι,↥(.tup [.str (AK "step")])] h=r:=W5 (h1:=h) rfl R.BA rfl e;have q1:(AK "step"==AK "come")=false:=rfl;have q2:(AK "step"==AK "go")=false:=rfl;have Ea:Ap true (.tup [.str (AK "step")]) H0 h=.ok (.AL true,h):=by simp[Ap,H0,CD,eqT,GE]
 rcases BF with BF|⟨⟨w,h'⟩,BF⟩
 .rw[BF]at FJ |-;simp[JH,Sj,Ck,F8,Oi,FW,q1,q2,Ea,FJ]
 .rw[BF]at FJ |-;simp[JH,Sj,Ck,F8,Oi,FW,q1,q2,Ea,FJ]
end
end FG
namespace C2
open PySem PySem.Spec B5
def vB{h:A5}{n:Nat}{AJ:↑Key}{vs:↑W}(e:h[n]?=↥⟨.Ak AJ,vs⟩)(x:Str):Hc h (.ref n) (.str x)=↥(Dg AJ vs (.inr x)):=by erw[Hc,e,keyOf,Qd]
def M9{h:A5}{n:Nat}{AJ:↑Key}{vs:↑W}{x:Str}{w:W}(e:h[n]?=↥⟨.Ak AJ,vs⟩)(v:Dg AJ vs (.inr x)=↥w):AB (.ref n) (.str x) h=.ok (w,h):=by unfold AB;rw[vB e,v]
def jI{h:A5}{n:Nat}{AJ:↑Key}{vs ql:↑W}{x:Str}{v:W}{ρ:B9}(e:h[n]?=↥⟨.Ak AJ,vs⟩)(l:⇑vs<At)(m: .inr x∈AJ)(ev:N_ AJ vs (.inr x) v=ql):N5 (.ref n) (.str x) v ρ h=.ok (.AR ρ,h.set n ⟨.Ak AJ,ql⟩):=by unfold N5;erw[e,keyOf,if_pos l,Mq,if_pos m,ev]
end C2
namespace FG
open PySem PySem.Spec B5 C2
noncomputable def Oz:↑Key:=[.inr (AK "wires"),.inr (AK "books"),.inr (AK "plan"),.inr (AK "done"),.inr (AK "letters"),.inr (AK "came"),.inr (AK "ended")]
structure Ia where
 J4:Nat
 po:Nat
 Ci:Nat
 pp:Nat
noncomputable def Q8(C:ES)(P:Ia)(IN ce:Nat):O:=⟨.Ak Oz,[.ref P.J4,.ref (C.M+4),.ref P.pp,.int (IN:Int),.ref (C.M+5),.int (ce:Int),.ref (C.M+6)]⟩
structure HX(C:ES)(P:Ia):Prop where
 w:C.K[P.J4]?=↥⟨.lst,C.ws.map CE⟩
 a:Ei C.K P.po C.A
 b:Ei C.K P.Ci C.B
 p:C.K[P.pp]?=↥⟨.lst,C.ps.map B8⟩
 t:C.M+7<=C.T
noncomputable def Dp(f:Nat->Nat)(l:Lt):W:=.tup [.int (l.m:Int),.int (l.a:Int),.ref (f l.n)]
def PD(l:Lt):Af:=l.pre.headD l.d
noncomputable def HL(f:Nat->Nat)(e:Lt×Tl):W:=.tup [.int (e.1.n:Int),.int (e.1.m:Int),A_ (PD e.1),.int (e.1.a:Int),.ref (f e.1.n),CQ e.2]
structure Dm(C:ES)(P:Ia)(h:A5)(S:EE)(f:Nat->Nat):Prop where
 Bl:∀(n:Nat) o,C.K[n]?=↥o->o≠Iv->h[n]?=↥o
 D:NJ C S
 st:h[C.M+3]?=↥(Q8 C P ⇑S.done S.Bn)
 Fk:h[C.M+4]?=↥⟨.lst,[.ref P.po,.ref P.Ci]⟩
 Bt:h[C.M+5]?=↥⟨.Ak (S.lets.map E7),S.lets.map (Dp f)⟩
 U9:h[C.M+6]?=↥⟨.lst,S.ended.map (HL f)⟩/\ ⇑S.ended+⇑S.lets<=S.Bn
 JN:∀l∈Cj S,h[f l.n]?=↥(GV l)/\C.T<=f l.n
 lt:∀l∈S.lets,l.m<2/\l.a<16/\l.d∈DC C.cs ⇑C.cs
 nn:((Cj S).map (·.n)).Nodup
 Hg:∀l∈Cj S,l.n<S.Bn
 Ih:∀p,↥p∈S.done->p.1<3
 few:S.Bn<1000
 AG:C.T<=⇑h
 pr:∀l∈S.lets,⇑l.pre<=S.D7
 so:S.lets.Pairwise λa b=>a.n<b.n
section
variable{C:ES}{P:Ia}{h:A5}{S:EE}{f:Nat->Nat}
def Dm.E9(J:Dm C P h S f):⇑S.lets<=S.Bn:=by have:=J.U9.2;lia
def Tc{l:Lt}(h:l∈S.lets):l∈Cj S:=JC _ h
def VU{e:Lt×Tl}(h:e∈S.ended):e.1∈Cj S:=Hw _ (List.mem_map.mpr ⟨e,h,rfl⟩)
def Dm.to{h':A5}(c:Dw C)(k:HX C P)(J:Dm C P h S f)(e:∀n,(n< ⇑C.K/\C.K[n]?≠↥Iv)\/(C.M+3<=n/\n<C.M+7)\/(∃l∈Cj S,n=f l.n)->h'[n]?=h[n]?)(AG:C.T<=⇑h'):Dm C P h' S f:=by obtain⟨AC,AH⟩:=J.U9;have q:∀n,C.M+3<=n/\n<C.M+7->h'[n]?=h[n]?:=λn AZ=>e n (.inr (.inl AZ));exact⟨λn o K5 ne=>(e n (.inl ⟨Fz K5,λz=>ne (by rw[K5]at z;cases z;rfl)⟩)).trans (J.Bl n o K5 ne),J.D,(q _ δ).trans J.st,(q _ δ).trans J.Fk,(q _ δ).trans J.Bt,⟨(q _ δ).trans AC,AH⟩,λl AG=>⟨(e _ (.inr (.inr ⟨l,AG,rfl⟩))).trans (J.JN l AG).1,(J.JN l AG).2⟩,J.lt,J.nn,J.Hg,J.Ih,J.few,AG,J.pr,J.so⟩
def xU(J:Dm C P h S f):AB μ (.str (AK "wires")) h=.ok (.ref P.J4,h):=M9 J.st rfl
def xR(J:Dm C P h S f):AB μ (.str (AK "books")) h=.ok (.ref (C.M+4),h):=M9 J.st rfl
def Yk(J:Dm C P h S f):AB μ (.str (AK "plan")) h=.ok (.ref P.pp,h):=M9 J.st rfl
def Sv(J:Dm C P h S f):AB μ (.str (AK "done")) h=.ok (.int (⇑S.done:Int),h):=M9 J.st rfl
def TP(J:Dm C P h S f):AB μ (.str (AK "letters")) h=.ok (.ref (C.M+5),h):=M9 J.st rfl
def xS(J:Dm C P h S f):AB μ (.str (AK "came")) h=.ok (.int (S.Bn:Int),h):=M9 J.st rfl
def xT(J:Dm C P h S f):AB μ (.str (AK "ended")) h=.ok (.ref (C.M+6),h):=M9 J.st rfl
def ay(k:HX C P)(R:Dm C P h S f):h[P.pp]?=↥⟨.lst,C.ps.map B8⟩:=R.Bl _ _ k.p (λz=>by cases z)
def ha(k:HX C P)(c:Dw C)(J:Dm C P h S f)(ρ:B9):Lu (.ref P.pp) none ↥(⇑S.done:Int) ρ h=.ok (.ref ⇑h,h++[⟨.lst,S.done.map B8⟩]):=by have ZU:=c.P.l;rw[WQ (ay k J) (by rw[CU];lia),dF _ (by rw[CU];exact J.D.le),<-Ud,<-J.D.e]
def fY{ρ:B9}{m:B7}{k:Int}{h h1:A5}(e:m ρ h=.ok (.int k,h1)):CM m ρ h=.ok (↥k,h1):=by unfold CM;rw[Hu,e];rfl
def abE(k:HX C P)(c:Dw C)(J:Dm C P h S f){hh m:Nat}(hm:m<2):TM [.ref (C.M+3),.int (hh:Int),.int (m:Int)] h=.ok (.AL (Mf S.done hh m),h):=by
 obtain⟨H,C4⟩:∃H:A5,H=h++[⟨.lst,S.done.map B8⟩]:=π;have IE:H[⇑h]?=↥⟨.lst,S.done.map B8⟩:=by rw[C4];simp
 have s1:AX (Bh (DI (A0 AB (I 0) (pu (.str (AK "plan")))) (pu none) (CM (A0 AB (I 0) (pu (.str (AK "done"))))))) (AA 3) [↥μ,↥(.int (hh:Int)),↥(.int (m:Int)),none] h=.ok (.AR [↥μ,↥(.int (hh:Int)),↥(.int (m:Int)),↥(.ref ⇑h)],H):=by
  have v0:∀h':A5,I 0 [↥μ,↥(.int (hh:Int)),↥(.int (m:Int)),none] h'=.ok (.ref (C.M+3),h'):=λ_=>rfl;have L4:CM (A0 AB (I 0) (pu (.str (AK "done")))) [↥μ,↥(.int (hh:Int)),↥(.int (m:Int)),none] h=.ok (↥(⇑S.done:Int),h):=fY (by rw[Bb,v0,A2,Bq,A2,Sv J]);have q:Bh (DI (A0 AB (I 0) (pu (.str (AK "plan")))) (pu none) (CM (A0 AB (I 0) (pu (.str (AK "done")))))) [↥μ,↥(.int (hh:Int)),↥(.int (m:Int)),none] h=.ok (.ref ⇑h,H):=by rw[FD,MX,Bb,v0,A2,Bq,A2,Yk J,A2,Bq,A2,L4,A2,ha k c J,A2,C4];exact Nc h _ rfl (H7 _ _ LZ)
  rw[DU,q];rfl
 have G_:=Td (hh:=hh) (k:=0) true IE δ J.Ih;have F8:=Td (hh:=hh) (k:=2) false IE δ J.Ih;rw[show Gu 0=AK "teach" from rfl]at G_;rw[show Gu 2=AK "forget" from rfl]at F8;have e:TM [.ref (C.M+3),.int (hh:Int),.int (m:Int)] h=((Z7 [↥μ,↥(.int (hh:Int)),↥(.int (m:Int)),none] h).bind outF).bind λp=>settle h p.1 p.2:=rfl;rw[e];unfold Z7;rw[Ax,s1,A2,B1];have:m=0\/m=1:=δ
 rcases this with rfl|rfl
 .simp[F8,At,Mf];rw[C4];simp
 .simp[G_,At,Mf];rw[C4];simp
def Tx:W->Bool
 |.tup (.int m::_)=>m==1
 |_=>false
def abz(h:A5)(s:Cq):Ap false (B8 s) (.tup [.str (AK "wait")]) h=.ok (.AL (Il (B8 s)),h):=by
 cases s with
 |none=>simp[Ap,B8,CD,eqT,GE,Il]
 |some p=>simp[Ap,B8,CD,eqT,GE,Il]
def dz(k:HX C P)(c:Dw C)(J:Dm C P h S f):Oq [.ref (C.M+3)] h=.ok (.AL (G1 C S),h):=by
 have v0:∀h':A5,I 0 [↥μ] h'=.ok (.ref (C.M+3),h'):=λ_=>rfl;have lw:Be [.ref P.pp] h=.ok (.int ⇑C.ps,h):=by rw[Gl (ay k J),CU]
 have le:=J.E9;have few:=J.few;have vE:=J.D.le;have al:=iH (m:=A0 AB (I 0) (pu (.str (AK "letters")))) (e:=A0 (Ap true) (A0 AB (I 0) η) ζ) (ρ:=[↥μ]) Tx (by rw[CU];lia) (by rw[Bb,v0,A2,Bq,A2,TP J]) J.Bt (by
  intro w hw acc;obtain⟨l,AG,rfl⟩:=List.mem_map.mp hw;have pm:Tx (Dp f l)=decide ((l.m:Int)=1):=by erw[Tx,Dp];by_cases q:(l.m:Int)=1<;>simp[q]
  rw[pm];simp[Dp,FW])
 have BW:(S.lets.map (Dp f)).all Tx=allM S:=by
  unfold allM;rw[SE]
  congr 1
  funext l
  by_cases q:l.m=1
  .have Ce:(l.m:Int)=1:=δ
   simp[Qn,Tx,Dp,q]
  .have Ce:¬(l.m:Int)=1:=δ
   erw[Qn,Tx,Dp];rw[beq_false_of_ne Ce,beq_false_of_ne q]
 rw[BW]at al;have t1:AT (A0 (Ap true) (A0 AB (I 0) (pu (.str (AK "done")))) (B6 Be (Z (A0 AB (I 0) (pu (.str (AK "plan")))) A1))) [↥μ] h=.ok (decide (⇑S.done=⇑C.ps),h):=by
  rw[GM,Bb,Bb,v0,A2,Bq,A2,Sv J,A2,GA,CG,Bb,v0,A2,Bq,A2,Yk J,A2,CY,A2,A2,lw,A2,U1,A2,Gj]
  congr 2
  exact decide_eq_decide.mpr δ
 have e:Oq [.ref (C.M+3)] h=((ZA [↥μ] h).bind outF).bind λp=>settle h p.1 p.2:=rfl;rw[e];unfold ZA G1;rw[Ax,Db,t1,A2];by_cases hd:⇑S.done=⇑C.ps
 .rw[if_pos (decide_eq_true hd),if_pos hd,Fb,Bq,A2,A2,UA,A2,H8,A2];exact QN h _ rfl
 .rw[if_neg (hd:),if_neg hd,FC,A2,B1];have DD:⇑S.done< ⇑C.ps:=δ
  have EJ:AB (.ref P.pp) (.int (⇑S.done:Int)) h=.ok (B8 (C.ps.getD ⇑S.done none),h):=Gk (ay k J) (by rw[E5,CP DD,Eh,CP DD];rfl);have Ca:AT (A0 (Ap false) (A0 AB (A0 AB (I 0) (pu (.str (AK "plan")))) (A0 AB (I 0) (pu (.str (AK "done"))))) (BE (Z (pu (.str (AK "wait"))) A1))) [↥μ] h=.ok (Il (B8 (C.ps.getD ⇑S.done none)),h):=by rw[GM,Bb,Bb,Bb,v0,A2,Bq,A2,Yk J,A2,Bb,v0,A2,Bq,A2,Sv J,A2,EJ,A2];have OV:BE (Z (pu (.str (AK "wait"))) A1) [↥μ] h=.ok (.tup [.str (AK "wait")],h):=rfl;rw[OV,A2,abz,A2,Gj]
  rw[Ax,Db,Ca,A2];cases Aq:C.ps.getD ⇑S.done none with
  |some q=>rw[if_pos (show Il (B8 ↥q)=true from rfl),if_pos (show(↥q).isSome=true from rfl),Fb,Bq,A2,A2,UA,A2,H8,A2];exact QN h _ rfl
  |none=>rw[if_neg (show¬Il (B8 none)=true by simp[Il,B8]),if_neg (show¬(none:Option (Nat×Nat)).isSome=true by simp),FC,A2,B1,Fb,al,A2,A2,H8,A2];exact QN h _ rfl
end
section
variable{C:ES}{P:Ia}{h:A5}{S:EE}{f:Nat->Nat}
noncomputable def QM(S:EE)(q:Nat)(d:Af)(a:Nat):EE:={ S with Bn:=S.Bn+1,lets:=S.lets++[Ln S q d a] }
noncomputable def Gs(f:Nat->Nat)(n p:Nat):Nat->Nat:=λk=>if k=n then p else f k
def YL{q:Nat}{d:Af}{a:Nat}{y:Lt}:y∈Cj (QM S q d a)↔y∈Cj S\/y=Ln S q d a:=by erw[Cj,QM,Hi,Lf];exact⟨λh=>by rcases h with(h|h)|h<;>simp[h],λh=>by rcases h with(h|h)|h<;>simp[h]⟩
def bG{h h1:A5}{ws:↑W}(p:G2 h h1=true)(e:Fg ws=false):settle h (.tup ws) h1=.ok (.tup ws,h1):=by unfold C2.settle;erw[p,if_true,DE,e];rfl
def Dm.di(J:Dm C P h S f):(.inl (S.Bn:Int):Key)∉S.lets.map E7:=λz=>by obtain⟨l,AG,e⟩:=List.mem_map.mp z;have:=J.Hg l (Tc AG);erw[E7,Ue]at e;lia
def ab2(k:HX C P)(c:Dw C)(J:Dm C P h S f)(AI:S.Bn<900)(q:Nat){d:Af}(hd:d∈DC C.cs ⇑C.cs){a:Nat}(AF:a<16) :
  ∃h',Wi [.ref (C.M+3),A_ d,.int (a:Int)] h=.ok (.int (S.Bn:Int),h')/\Dm C P h' (QM S q d a) (Gs f S.Bn ⇑h)/\
   ⇑h<=⇑h'/\∀n,n< ⇑h->n≠C.M+3->n≠C.M+5->h'[n]?=h[n]?:=by
 have D5:=c.D5;have kt:=k.t;have AG:=J.AG;have few:=J.few;have E9:=J.E9;obtain⟨R3,Qt⟩:=J.U9;obtain⟨ρ,C3⟩:∃ρ:Option W->Option W->B9,ρ=λx y=>[↥μ,↥(A_ d),↥(.int (a:Int)),x,y]:=π;have v0:∀x y(h':A5),I 0 (ρ x y) h'=.ok (.ref (C.M+3),h'):=λ_ _ _=>by rw[C3];rfl
 have v1:∀x y(h':A5),I 1 (ρ x y) h'=.ok (A_ d,h'):=λ_ _ _=>by rw[C3];rfl
 have v2:∀x y(h':A5),I 2 (ρ x y) h'=.ok (.int (a:Int),h'):=λ_ _ _=>by rw[C3];rfl
 have W3:∀x y(h':A5),I 3 (ρ ↥x y) h'=.ok (x,h'):=λ_ _ _=>by rw[C3];rfl
 have v4:∀x y(h':A5),I 4 (ρ x ↥y) h'=.ok (y,h'):=λ_ _ _=>by rw[C3];rfl
 have IE:(h++[(⟨.lst,S.done.map B8⟩:O)])[⇑h]?=↥⟨.lst,S.done.map B8⟩:=γ
 have Ck:=Td (hh:=d.1) (k:=1) true IE δ J.Ih;rw[show Gu 1=AK "turn" from rfl]at Ck;have s1:AX (Bh (B6 Rw (Z (Bh (A0 (Du true) (BE (Z (pu (.str (AK "turn"))) (Z (A0 AB (I 1) η) A1))) (DI (A0 AB (I 0) (pu (.str (AK "plan")))) (pu none) (CM (A0 AB (I 0) (pu (.str (AK "done")))))))) A1))) (AA 3) (ρ none none) h=.ok (.AR (ρ ↥(.int (EL S.done d.1:Nat)) none),h):=by
  have L4:CM (A0 AB (I 0) (pu (.str (AK "done")))) (ρ none none) h=.ok (↥(⇑S.done:Int),h):=fY (by rw[Bb,v0,A2,Bq,A2,Sv J]);have QS:BE (Z (pu (.str (AK "turn"))) (Z (A0 AB (I 1) η) A1)) (ρ none none) h=.ok (.tup [.str (AK "turn"),.int (d.1:Int)],h):=by rw[C3];simp[A_,FW,At]
  have q:Bh (A0 (Du true) (BE (Z (pu (.str (AK "turn"))) (Z (A0 AB (I 1) η) A1))) (DI (A0 AB (I 0) (pu (.str (AK "plan")))) (pu none) (CM (A0 AB (I 0) (pu (.str (AK "done"))))))) (ρ none none) h=.ok (.AL (decide (↥(1,d.1)∈S.done)),h):=by rw[FD,Bb,QS,A2,MX,Bb,v0,A2,Bq,A2,Yk J,A2,Bq,A2,L4,A2,ha k c J,A2,Ck,A2];exact Ru h _ _ rfl
  rw[DU,FD,GA,CG,q,A2,CY,A2,A2];have t:Rw [.AL (decide (↥(1,d.1)∈S.done))] h=.ok (.int (EL S.done d.1:Nat),h):=by unfold EL;by_cases z:↥(1,d.1)∈S.done<;>simp[Rw,z]
  rw[t,A2,QN h _ rfl,A2,C3];rfl
 have s2:AX (A0 AB (I 0) (pu (.str (AK "came")))) (AA 4) (ρ ↥(.int (EL S.done d.1:Nat)) none) h=.ok (.AR (ρ ↥(.int (EL S.done d.1:Nat)) ↥(.int (S.Bn:Int))),h):=by rw[DU,Bb,v0,A2,Bq,A2,xS J,A2,C3];rfl
 obtain⟨r,BA⟩:∃r,r=ρ ↥(.int (EL S.done d.1:Nat)) ↥(.int (S.Bn:Int)):=π;obtain⟨h1,AC⟩:∃h1,h1=h++[⟨.lst,[A_ d]⟩]:=π;have Cp:⇑h1=⇑h+1:=by rw[AC];simp
 have Cu:∀n,n< ⇑h->h1[n]?=h[n]?:=λn AZ=>by rw[AC,Gr AZ]
 have Rx:Bh (BE (Z (I 3) (Z (I 2) (Z (Bg (Z (I 1) A1)) A1)))) r h=.ok (.tup [.int (EL S.done d.1:Nat),.int (a:Int),.ref ⇑h],h1):=by
  have z:BE (Z (I 3) (Z (I 2) (Z (Bg (Z (I 1) A1)) A1))) r h=.ok (.tup [.int (EL S.done d.1:Nat),.int (a:Int),.ref ⇑h],h1):=by rw[BA,C3,AC];simp[At,nw]
  rw[FD,z,A2,AC];exact bG (Rp h _) rfl
 have Na:h1[C.M+3]?=↥(Q8 C P ⇑S.done S.Bn):=by rw[Cu _ δ];exact J.st
 have Rt:h1[C.M+5]?=↥⟨.Ak (S.lets.map E7),S.lets.map (Dp f)⟩:=by rw[Cu _ δ];exact J.Bt
 have cp:AB μ (.str (AK "letters")) h1=.ok (.ref (C.M+5),h1):=M9 Na rfl;have pt:=jH (v:=.tup [.int (EL S.done d.1:Nat),.int (a:Int),.ref ⇑h]) (ρ:=r) Rt J.di (by rw[CU];unfold At;lia);obtain⟨h2,AH⟩:∃h2,h2=h1.set (C.M+5) ⟨.Ak (S.lets.map E7++[.inl (S.Bn:Int)]),S.lets.map (Dp f)++[.tup [.int (EL S.done d.1:Nat),.int (a:Int),.ref ⇑h]]⟩:=⟨_,rfl⟩;rw[<-AH]at pt;have s3:JG (A0 AB (I 0) (pu (.str (AK "letters")))) (I 4) (Bh (BE (Z (I 3) (Z (I 2) (Z (Bg (Z (I 1) A1)) A1))))) r h=.ok (.AR r,h2):=by rw[Tq,Rx,A2,Bb];have K8:=v0 ↥(.int (EL S.done d.1:Nat)) ↥(.int (S.Bn:Int)) h1;have Wy:=v4 ↥(.int (EL S.done d.1:Nat)) (.int (S.Bn:Int)) h1;rw[<-BA]at K8 Wy;rw[K8,A2,Bq,A2,cp,A2,Wy,A2,pt]
 have Js:h2[C.M+3]?=↥(Q8 C P ⇑S.done S.Bn):=by rw[AH,Er δ];exact Na
 obtain⟨BO,D_⟩:∃BO,BO=h2.set (C.M+3) (Q8 C P ⇑S.done (S.Bn+1)):=π;have s4:JG (I 0) (pu (.str (AK "came"))) (A0 addW (I 4) ζ) r h2=.ok (.AR r,BO):=by have K8:=v0 ↥(.int (EL S.done d.1:Nat)) ↥(.int (S.Bn:Int)) h2;have Wy:=v4 ↥(.int (EL S.done d.1:Nat)) (.int (S.Bn:Int)) h2;rw[<-BA]at K8 Wy;rw[Tq,Bb,Wy,A2,Bq,A2,Mp,A2,K8,A2,Bq,A2,D_];exact jI Js (by simp[At]) (by simp[Oz]) rfl
 have CV:⇑h2=⇑h+1:=by rw[AH];simpa using Cp
 have Og:⇑BO=⇑h+1:=by rw[D_];simpa using CV
 have keep:∀n,n≠C.M+3->n≠C.M+5->BO[n]?=h1[n]?:=λn EC FZ=>by rw[D_,Er (λz=>EC z.symm),AH,Er (λz=>FZ z.symm)]
 have Pc:∀l∈Cj S,Gs f S.Bn ⇑h l.n=f l.n:=λl AG=>by have:=J.Hg l AG;erw[Gs];rw[if_neg δ]
 have un:Gs f S.Bn ⇑h S.Bn=⇑h:=by simp[Gs]
 have nl:(Ln S q d a).n=S.Bn:=rfl;refine⟨BO,?_,?_,δ,λn AZ EC FZ=>(keep n EC FZ).trans (Cu n AZ)⟩
 .have e:Wi [.ref (C.M+3),A_ d,.int (a:Int)] h=(Z3 (ρ none none) h).bind outF:=by rw[C3];rfl
  rw[e];unfold Z3;rw[Ax,s1,A2,B1,Ax,s2,A2,B1,<-BA,Ax,s3,A2,B1,Ax,s4,A2,B1,Fb,BA,v4];rfl
 .refine⟨λn o' K5 ne=>?_,⟨J.D.le,J.D.e⟩,?_,?_,?_,⟨?_,?_⟩,λl LQ=>?_,λl LQ=>?_,?_,λl LQ=>?_,J.Ih,?_,δ,λl LQ=>?_,?_⟩
  .have:=Fz K5;rw[keep n δ δ,Cu n δ];exact J.Bl n o' K5 ne
  .rw[D_,Hr Js];rfl
  .rw[keep _ δ δ,Cu _ δ];exact J.Fk
  .rw[D_,Er δ,AH,Hr Rt];erw[QM,I1,D9,I2];have H5:S.lets.map (Dp f)=S.lets.map (Dp (Gs f S.Bn ⇑h)):=SB λl AG=>by erw[Dp,Pc l (Tc AG)]
   have H6:Dp (Gs f S.Bn ⇑h) (Ln S q d a)=.tup [.int (EL S.done d.1:Nat),.int (a:Int),.ref ⇑h]:=by erw[Dp,nl,un];rfl
   rw[H5,H6];rfl
  .rw[keep _ δ δ,Cu _ δ,R3];exact congrArg (λx=>↥(O.mk .lst x)) (SB λe he=>by erw[HL,Pc e.1 (VU he)])
  .erw[QM,Em,DX,F2];lia
  .rcases YL.mp LQ with hm|hm
   .rw[Pc l hm];have z:=J.JN l hm;have:=Fz z.1;exact⟨by rw[keep _ δ δ,Cu _ δ];exact z.1,z.2⟩
   .subst hm;rw[nl,un];refine⟨?_,AG⟩;rw[keep _ δ δ,AC];simp[GV,Ln]
  .rcases List.mem_append.mp LQ with hm|hm
   .exact J.lt l hm
   .rw[Lf]at hm;subst hm;refine⟨?_,AF,hd⟩;erw[Ln,EL];split<;>lia
  .rw[show Cj (QM S q d a)=S.lets++Ln S q d a::S.ended.map (·.1)by simp[Cj,QM],(List.perm_middle.map _).nodup_iff,D9];refine List.nodup_cons.mpr ⟨λz=>?_,J.nn⟩;obtain⟨y,AS,e⟩:=List.mem_map.mp z;have:=J.Hg y AS;rw[nl]at e;lia
  .show l.n<S.Bn+1;rcases YL.mp LQ with hm|hm
   .have:=J.Hg l hm;lia
   .subst hm;rw[nl];lia
  .show S.Bn+1<1000;lia
  .show⇑l.pre<=S.D7;rcases List.mem_append.mp LQ with hm|hm
   .exact J.pr l hm
   .rw[Lf]at hm;subst hm;simp[Ln]
  .refine List.pairwise_append.mpr ⟨J.so,γ,λx AM y AS=>?_⟩;rw[Lf]at AS;subst AS;exact J.Hg x (Tc AM)
end
section
variable{C:ES}{P:Ia}{h:A5}{S:EE}{f:Nat->Nat}
def ab1(k:HX C P)(c:Dw C)(J:Dm C P h S f){m hh:Nat}(hm:m<2)(hd:hh< ⇑C.cs):∃q r,AB (.ref (C.M+4)) (.int (m:Int)) h=.ok (.ref q,h)/\AB (.ref q) (.int (hh:Int)) h=.ok (.ref r,h)/\h[r]?=↥(FS (Sm C m hh))/\L5 (C.cs.getD hh 0) (Sm C m hh):=by
 have on:∀(b:Nat)(B:↑↑Cz),HW C.cs B->Ei h b B->∃r,AB (.ref b) (.int (hh:Int)) h=.ok (.ref r,h)/\h[r]?=↥(FS (B.getD hh []))/\L5 (C.cs.getD hh 0) (B.getD hh []):=λb B ok at'=>by
  obtain⟨rs,e,Q2,r⟩:=at'.ex;have BF:hh< ⇑rs:=by rw[Q2,ok.1];exact hd
  exact⟨rs[hh],Gk e (by rw[E5,CP BF];rfl),r _ _ (CP BF),ok.2 _ hd⟩
 have:m=0\/m=1:=δ
 rcases this with rfl|rfl
 .obtain⟨r,AC,AH,D_⟩:=on P.po C.A c.KL (ZF J.Bl k.a);exact⟨P.po,r,Gk J.Fk rfl,AC,AH,D_⟩
 .obtain⟨r,AC,AH,D_⟩:=on P.Ci C.B c.JJ (ZF J.Bl k.b);exact⟨P.Ci,r,Gk J.Fk rfl,AC,AH,D_⟩
def abB(k:HX C P)(c:Dw C)(J:Dm C P h S f)(hm:S.D7<900000){CA B5:↑Lt}{l:Lt}(es:S.lets=CA++l::B5) :
  ∃h' p,TL [.ref (C.M+3),.int (l.n:Int)] h=.ok (CQ (I9 C S.done l),h')/\Dm C P h' (Fo S CA l B5 (I9 C S.done l)) (Gs f l.n p)/\(⇑h<=p\/p=f l.n)/\
   ⇑h<=⇑h'/\∀n,n< ⇑h->n≠C.M+5->n≠C.M+6->h'[n]?=h[n]?:=by
 have D5:=c.D5;have kt:=k.t;have AG:=J.AG;have few:=J.few;have E9:=J.E9;obtain⟨R3,Qt⟩:=J.U9;have J2:l∈S.lets:=by rw[es];simp
 have an:Cj S=CA++l::(B5++S.ended.map (·.1)):=by simp[Cj,es]
 have nn:=J.nn;rw[an]at nn;obtain⟨EC,fC⟩:=fG nn;have FZ:l.n∉B5.map (·.n):=λz=>fC (by rw[I1];exact JC _ z);have ne:∀e∈S.ended,e.1.n≠l.n:=λe he z=>fC (by rw[I1,<-z];exact Hw _ (List.mem_map.mpr ⟨e.1,List.mem_map.mpr ⟨e,he,rfl⟩,rfl⟩));have k1:=Vb EC;have k2:=Vb FZ;obtain⟨lm,Ga,ld⟩:=J.lt l J2;obtain⟨Ep,ajI⟩:=J.JN l (Tc J2);have pl:=J.pr l J2;have hd:=(W4.mp ld).1;have Bt:h[C.M+5]?=↥⟨.Ak (CA.map E7++E7 l::B5.map E7),CA.map (Dp f)++Dp f l::B5.map (Dp f)⟩:=by rw[J.Bt,es];simp
 have EJ:AB (.ref (C.M+5)) (.int (l.n:Int)) h=.ok (Dp f l,h):=by unfold AB;rw[dH Bt];have:Dg (CA.map E7++E7 l::B5.map E7) (CA.map (Dp f)++Dp f l::B5.map (Dp f)) (.inl (l.n:Int))=↥(Dp f l):=Wv k1 γ;rw[this]
 obtain⟨ρ,C3⟩:∃ρ:Option W->Option W->Option W->Option W->B9,ρ=λx y z w=>[↥μ,↥(.int (l.n:Int)),x,y,z,w]:=π;have v0:∀x y z w(h':A5),I 0 (ρ x y z w) h'=.ok (.ref (C.M+3),h'):=λ_ _ _ _ _=>by rw[C3];rfl
 have v1:∀x y z w(h':A5),I 1 (ρ x y z w) h'=.ok (.int (l.n:Int),h'):=λ_ _ _ _ _=>by rw[C3];rfl
 have s1:MD (A0 AB (A0 AB (I 0) (pu (.str (AK "letters")))) (I 1)) (EY [(AA 2),(AA 3),(AA 4)]) (ρ none none none none) h=.ok (.AR (ρ ↥(.int (l.m:Int)) ↥(.int (l.a:Int)) ↥(.ref (f l.n)) none),h):=by rw[qc,Bb,Bb,v0,A2,Bq,A2,TP J,A2,v1,A2,EJ,A2,C3];simp[Dp]
 obtain⟨σ,eσ⟩:∃ σ :Option W->B9,σ =λw=>ρ ↥(.int (l.m:Int)) ↥(.int (l.a:Int)) ↥(.ref (f l.n)) w:=π;have Tn:∀w(h':A5),I 0 (σ w) h'=.ok (.ref (C.M+3),h'):=λ_ _=>by rw[eσ,C3];rfl
 have gB:∀w(h':A5),I 1 (σ w) h'=.ok (.int (l.n:Int),h'):=λ_ _=>by rw[eσ,C3];rfl
 have QT:∀w(h':A5),I 2 (σ w) h'=.ok (.int (l.m:Int),h'):=λ_ _=>by rw[eσ,C3];rfl
 have gC:∀w(h':A5),I 3 (σ w) h'=.ok (.int (l.a:Int),h'):=λ_ _=>by rw[eσ,C3];rfl
 have gD:∀w(h':A5),I 4 (σ w) h'=.ok (.ref (f l.n),h'):=λ_ _=>by rw[eσ,C3];rfl
 have To:∀w(h':A5),I 5 (σ ↥w) h'=.ok (w,h'):=λ_ _=>by rw[eσ,C3];rfl
 have NN:∀w v(h':A5),AA 5 v (σ w) h'=.ok (.AR (σ ↥v),h'):=λ_ _ _=>by rw[eσ,C3];rfl
 have KN:AB (.ref (f l.n)) (.int (-1)) h=.ok (A_ l.d,h):=V_ (us:=l.pre.map A_) (by rw[Ep];simp[GV]);have Ou:Ff (.int 1) h=.ok (.int (-1),h):=rfl;have lI:∀w,A0 AB (I 4) (Aw Ff ζ) (σ w) h=.ok (A_ l.d,h):=λw=>by rw[Bb,gD,A2,HO,Bq,A2,Ou,A2,KN]
 have dt:∀w,A0 AB (A0 AB (I 4) (Aw Ff ζ)) η (σ w) h=.ok (.int (l.d.1:Int),h):=λw=>by rw[Bb,lI,A2,Bq,A2];exact FW h _ _
 have s2:AX (BE (Z (pu (.str (AK "lost"))) (Z (A0 AB (A0 AB (I 4) (Aw Ff ζ)) η) A1))) (AA 5) (σ none) h=.ok (.AR (σ ↥(CQ (.NT l.d.1))),h):=by
  have z:BE (Z (pu (.str (AK "lost"))) (Z (A0 AB (A0 AB (I 4) (Aw Ff ζ)) η) A1)) (σ none) h=.ok (CQ (.NT l.d.1),h):=by erw[QU,CG,Bq,CY,A2,dt];simp[At,CQ]
  rw[DU,z,A2,NN]
 have di:Ae 3 TM (Z (I 0) (Z (A0 AB (A0 AB (I 4) (Aw Ff ζ)) η) (Z (I 2) A1))) (σ ↥(CQ (.NT l.d.1))) h=.ok (.AL (Mf S.done l.d.1 l.m),h):=
  IM (us:=[.ref (C.M+3),.int (l.d.1:Int),.int (l.m:Int)]) (by erw[CG,CY,A2,Tn,QT,dt]) rfl (abE k c J lm)
 obtain⟨q,r,DY,Fe,OJ,sO⟩:=ab1 k c J lm hd;have C_:h[P.J4]?=↥⟨.lst,C.ws.map CE⟩:=J.Bl _ _ k.w (λz=>by cases z);have AR:Ae 4 Sw (Z (A0 AB (I 0) (pu (.str (AK "wires")))) (Z (A0 AB (A0 AB (A0 AB (I 0) (pu (.str (AK "books")))) (I 2)) (A0 AB (A0 AB (I 4) (Aw Ff ζ)) η)) (Z (A0 AB (I 4) (Aw Ff ζ)) (Z (I 3) A1)))) (σ ↥(CQ (.NT l.d.1))) h=.ok (CQ (Ow C.ws (Sm C l.m l.d.1) l.d l.a),h):=by
  refine IM (us:=[.ref P.J4,.ref r,A_ l.d,.int (l.a:Int)]) (h1:=h) ?_ rfl (ac5 c.N.few C_ sO OJ l.d);have GB:A0 AB (I 0) (pu (.str (AK "wires"))) (σ ↥(CQ (.NT l.d.1))) h=.ok (.ref P.J4,h):=by rw[Bb,Tn,A2,Bq,A2,xU J]
  have Gq:A0 AB (A0 AB (A0 AB (I 0) (pu (.str (AK "books")))) (I 2)) (A0 AB (A0 AB (I 4) (Aw Ff ζ)) η) (σ ↥(CQ (.NT l.d.1))) h=.ok (.ref r,h):=by rw[Bb,Bb,Bb,Tn,A2,Bq,A2,xR J,A2,QT,A2,DY,A2,dt,A2,Fe]
  rw[CG,GB,A2,CG,Gq,A2,CG,lI,A2,CG,gC,A2,CY];rfl
 obtain⟨t,Ix⟩:∃t,t=I9 C S.done l:=π;have s3:BU (AT (Ae 3 TM (Z (I 0) (Z (A0 AB (A0 AB (I 4) (Aw Ff ζ)) η) (Z (I 2) A1))))) (AX (Ae 4 Sw (Z (A0 AB (I 0) (pu (.str (AK "wires")))) (Z (A0 AB (A0 AB (A0 AB (I 0) (pu (.str (AK "books")))) (I 2)) (A0 AB (A0 AB (I 4) (Aw Ff ζ)) η)) (Z (A0 AB (I 4) (Aw Ff ζ)) (Z (I 3) A1))))) (AA 5)) BR (σ ↥(CQ (.NT l.d.1))) h=.ok (.AR (σ ↥(CQ t)),h):=by
  rw[Db,GM,di,A2,Gj,A2,Ix];unfold I9;cases AP:Mf S.done l.d.1 l.m
  .rw[if_neg γ,FC,if_neg γ]
  .rw[if_pos rfl,DU,AR,A2,NN,if_pos rfl]
 have Pc:∀(p:Nat)(y:Lt),y.n≠l.n->Gs f l.n p y.n=f y.n:=λp y AS=>by erw[Gs];rw[if_neg AS]
 have up:∀p,Gs f l.n p l.n=p:=λp=>by simp[Gs]
 have fM:∀y∈CA,y.n≠l.n:=λy AS z=>EC (List.mem_map.mpr ⟨y,AS,z⟩);have kj:∀y∈B5,y.n≠l.n:=λy AS z=>FZ (List.mem_map.mpr ⟨y,AS,z⟩);have H5:∀p,CA.map (Dp (Gs f l.n p))=CA.map (Dp f):=λp=>SB λy AS=>by erw[Dp,Pc p y (fM y AS)]
 have Za:∀p,S.ended.map (HL (Gs f l.n p))=S.ended.map (HL f):=λp=>SB λe he=>by erw[HL,Pc p e.1 (ne e he)]
 have H6:∀p,B5.map (Dp (Gs f l.n p))=B5.map (Dp f):=λp=>SB λy AS=>by erw[Dp,Pc p y (kj y AS)]
 have CH:TL [.ref (C.M+3),.int (l.n:Int)] h=(Z6 (ρ none none none none) h).bind outF:=by rw[C3];rfl
 rw[CH,<-Ix];unfold Z6;rw[Ax,s1,A2,B1,show ρ ↥(.int (l.m:Int)) ↥(.int (l.a:Int)) ↥(.ref (f l.n)) none= σ none by rw[eσ],Ax,s2,A2,B1,Ax,s3,A2,B1,Ax,Db];by_cases AF:isAt t=true
 .obtain⟨e,te⟩:∃e,t=.at e:=by cases t<;>first|exact⟨_,rfl⟩|cases AF
  subst te;have he:=ki c Ix.symm;have tt:AT (A0 (Ap true) (A0 AB (I 5) η) (pu (.str (AK "at")))) (σ ↥(CQ (.at e))) h=.ok (true,h):=by rw[GM,Bb,Bb,To,A2,Bq,A2];simp[CQ,FW]
  rw[tt,A2,if_pos rfl];obtain⟨h1,AC⟩:∃h1,h1=h++[GV (I4 l e)]:=π;have Cp:⇑h1=⇑h+1:=by rw[AC];simp
  have Cu:∀n,n< ⇑h->h1[n]?=h[n]?:=λn AZ=>by rw[AC,Gr AZ]
  have tR:Bh (DI (I 5) (CM ζ) (pu none)) (σ ↥(CQ (.at e))) h=.ok (A_ e,h):=by
   rw[FD,MX,To,A2,fY (Bq ..),A2,Bq,A2];have z:∀ρ,Lu (CQ (.at e)) ↥1 none ρ h=.ok (A_ e,h):=λρ=>by simp[Lu,CQ,UB,HI,E6.Cf,A_]
   rw[z,A2];exact QN h _ rfl
  have lst:Bg (Z (Bh (DI (I 5) (CM ζ) (pu none))) A1) (σ ↥(CQ (.at e))) h=.ok (.ref ⇑h,h++[⟨.lst,[A_ e]⟩]):=by rw[Mx,CG,tR,A2,CY,A2,A2];simp[nw,At]
  have add:Bh (A0 addW (I 4) (Bg (Z (Bh (DI (I 5) (CM ζ) (pu none))) A1))) (σ ↥(CQ (.at e))) h=.ok (.ref ⇑h,h1):=by
   rw[FD,Bb,gD,A2,lst,A2,Lb (CB h Ep _) (by simp;rfl) (by simp[At];lia),A2];rw[AC];refine(IU h _ γ γ (List.getElem?_concat_length ..) ?_).trans ?_
   .rw[show(l.pre++[l.d]).map A_++[A_ e]=(l.pre++[l.d]++[e]).map A_ by simp];exact H7 _ _ fD
   .simp[GV,I4]
  have Rx:Bh (BE (Z (I 2) (Z (I 3) (Z (Bh (A0 addW (I 4) (Bg (Z (Bh (DI (I 5) (CM ζ) (pu none))) A1)))) A1)))) (σ ↥(CQ (.at e))) h=.ok (.tup [.int (l.m:Int),.int (l.a:Int),.ref ⇑h],h1):=by
   have z:BE (Z (I 2) (Z (I 3) (Z (Bh (A0 addW (I 4) (Bg (Z (Bh (DI (I 5) (CM ζ) (pu none))) A1)))) A1))) (σ ↥(CQ (.at e))) h=.ok (.tup [.int (l.m:Int),.int (l.a:Int),.ref ⇑h],h1):=by rw[QU,CG,QT,A2,CG,gC,A2,CG,add,A2,CY];simp[At]
   rw[FD,z,A2,AC];exact bG (Rp h _) rfl
  have Na:h1[C.M+3]?=↥(Q8 C P ⇑S.done S.Bn):=by rw[Cu _ δ];exact J.st
  have Rt:=Bt;rw[<-Cu _ δ]at Rt;have cp:AB μ (.str (AK "letters")) h1=.ok (.ref (C.M+5),h1):=M9 Na rfl;have pt:=vF (i:=(l.n:Int)) (v:=.tup [.int (l.m:Int),.int (l.a:Int),.ref ⇑h]) (ρ:= σ ↥(CQ (.at e))) Rt k1 k2 γ γ (by rw[es]at E9;erw[Em,DX,CU]at E9 |-;unfold At;lia);obtain⟨h',EF⟩:∃h',h'=h1.set (C.M+5) ⟨.Ak (CA.map E7++.inl (l.n:Int)::B5.map E7),CA.map (Dp f)++.tup [.int (l.m:Int),.int (l.a:Int),.ref ⇑h]::B5.map (Dp f)⟩:=⟨_,rfl⟩;rw[<-EF]at pt;have Mg:⇑h'=⇑h+1:=by rw[EF];simpa using Cp
  have keep:∀n,n≠C.M+5->h'[n]?=h1[n]?:=λn AZ=>by rw[EF,Er (λz=>AZ z.symm)]
  refine⟨h',⇑h,?_,?_,.inl (C9 _),δ,λn AZ a _=>(keep n a).trans (Cu n AZ)⟩
  .rw[Tq,Rx,A2,Bb,Tn,A2,Bq,A2,cp,A2,gB,A2,pt,A2,B1,Fb,To];rfl
  .have FO:(Fo S CA l B5 (.at e)).lets=CA++I4 l e::B5:=rfl;refine⟨λn o' K5 ne=>?_,⟨J.D.le,J.D.e⟩,?_,?_,?_,⟨?_,?_⟩,λy AS=>?_,λy AS=>?_,?_,λy AS=>?_,J.Ih,J.few,δ,λy AS=>?_,?_⟩
   .have:=Fz K5;rw[keep n δ,Cu n δ];exact J.Bl n o' K5 ne
   .rw[keep _ δ];exact Na
   .rw[keep _ δ,Cu _ δ];exact J.Fk
   .rw[EF,Hr Rt,FO];erw[I1,D9,H5,H6];have:Dp (Gs f l.n ⇑h) (I4 l e)=.tup [.int (l.m:Int),.int (l.a:Int),.ref ⇑h]:=by
     erw[Dp,show(I4 l e).n=l.n from rfl,up];rfl
    rw[this];rfl
   .rw[keep _ δ,Cu _ δ,R3,<-Za ⇑h];rfl
   .rw[es]at Qt;rw[FO];show⇑S.ended+_<=S.Bn;simpa using Qt
   .have AS:y∈CA++I4 l e::(B5++S.ended.map (·.1)):=by
      have:Cj (Fo S CA l B5 (.at e))=CA++I4 l e::(B5++S.ended.map (·.1)):=by simp[Cj,Fo]
      rw[<-this];exact AS
    have old:∀z∈Cj S,z.n≠l.n->h'[Gs f l.n ⇑h z.n]?=↥(GV z)/\C.T<=Gs f l.n ⇑h z.n:=λz hz acG=>by rw[Pc _ z acG];have w:=J.JN z hz;have:=Fz w.1;exact⟨by rw[keep _ δ,Cu _ δ];exact w.1,w.2⟩
    rcases List.mem_append.mp AS with AS|AS
    .exact old y (by rw[an];simp[AS]) (fM y AS)
    .rcases List.mem_cons.mp AS with rfl|AS
     .rw[show(I4 l e).n=l.n from rfl,up];refine⟨?_,AG⟩;rw[keep _ δ,AC];simp
     .exact old y (by rw[an];exact Hw _ (Gg _ AS)) λz=>fC (List.mem_map.mpr ⟨y,AS,z⟩)
   .rw[FO]at AS;rcases List.mem_append.mp AS with AS|AS
    .exact J.lt y (by rw[es];simp[AS])
    .rcases List.mem_cons.mp AS with rfl|AS
     .exact⟨lm,Ga,he⟩
     .exact J.lt y (by rw[es];simp[AS])
   .have:(Cj (Fo S CA l B5 (.at e))).map (·.n)=(Cj S).map (·.n):=by simp[Cj,Fo,es,I4]
    rw[this];exact J.nn
   .have:y.n∈(Cj S).map (·.n):=by
      have:(Cj (Fo S CA l B5 (.at e))).map (·.n)=(Cj S).map (·.n):=by simp[Cj,Fo,es,I4]
      rw[<-this];exact List.mem_map.mpr ⟨y,AS,rfl⟩
    obtain⟨z,hz,e⟩:=List.mem_map.mp this;rw[<-e];exact J.Hg z hz
   .rw[FO]at AS;show⇑y.pre<=S.D7+1;rcases List.mem_append.mp AS with AS|AS
    .have:=J.pr y (by rw[es];simp[AS]);lia
    .rcases List.mem_cons.mp AS with rfl|AS
     .erw[I4,Em,DX,F2];lia
     .have:=J.pr y (by rw[es];simp[AS]);lia
   .have so:=J.so;rw[es]at so;rw[FO];have g:(I4 l e).n=l.n:=rfl;erw[List.pairwise_append,List.pairwise_cons,Ip,forall_eq_or_imp,g]at so |-;exact so
 .have tt:AT (A0 (Ap true) (A0 AB (I 5) η) (pu (.str (AK "at")))) (σ ↥(CQ t)) h=.ok (false,h):=by
    rw[GM,Bb,Bb,To,A2,Bq,A2];cases t<;>first|exact absurd rfl AF|(simp[CQ,FW];decide)
  rw[tt,A2,if_neg γ];obtain⟨Ay,dN⟩:∃Ay,Ay=S.ended.map (HL f):=π;have ln:⇑Ay=⇑S.ended:=by rw[dN,CU]
  rw[<-dN]at R3;have FO:Fo S CA l B5 t={ S with lets:=CA++B5,ended:=S.ended++[(l,t)],D7:=S.D7+1 }:=by cases t<;>first|exact absurd rfl AF|rfl
  obtain⟨h1,AC⟩:∃h1,h1=h.set (C.M+5) ⟨.Ak (CA.map E7++B5.map E7),CA.map (Dp f)++B5.map (Dp f)⟩:=⟨_,rfl⟩;have db:Ob h (.ref (C.M+5))=true:=by unfold Ob;erw[Bt]
  have pp:Qu (A0 AB (I 0) (pu (.str (AK "letters")))) (I 1) (σ ↥(CQ t)) h=.ok (Dp f l,h1):=by rw[qd,Bb,Tn,A2,Bq,A2,TP J,A2];erw[Px,db,if_true,Hu];rw[gB,A2,AC];exact iF (i:=(l.n:Int)) Bt k1 k2 γ γ
  have Na:h1[C.M+3]?=↥(Q8 C P ⇑S.done S.Bn):=by rw[AC,Er δ];exact J.st
  have cj:AB μ (.str (AK "ended")) h1=.ok (.ref (C.M+6),h1):=M9 Na rfl;have R4:h1[C.M+6]?=↥⟨.lst,Ay⟩:=by rw[AC,Er δ];exact R3
  have adV:h1[f l.n]?=↥(GV l):=by rw[AC,Er δ];exact Ep
  have JL:AB (.ref (f l.n)) (.int 0) h1=.ok (A_ (PD l),h1):=by refine Gk (k:=0) adV ?_;cases Aq:l.pre<;>simp[Aq,PD]
  obtain⟨w,ja⟩:∃w,w=HL f (l,t):=π;obtain⟨h',EF⟩:∃h',h'=h1.set (C.M+6) ⟨.lst,Ay++[w]⟩:=⟨_,rfl⟩;have ap:D6 DK (A0 AB (I 0) (pu (.str (AK "ended")))) (Z (BE (Z (I 1) (Z (I 2) (Z (A0 AB (I 4) η) (Z (I 3) (Z (I 4) (Z (I 5) A1))))))) A1) (σ ↥(CQ t)) h1=.ok (.non,h'):=by rw[EF];refine I7 (ws:=Ay) (ws2:=Ay) (us:=[w]) (h1:=h1) (h2:=h1) (by rw[Bb,Tn,A2,Bq,A2,cj]) R4 ?_ R4 (by simp[DK]) (by simp[At];lia);erw[CG,CY,QU,Bb,Bq,gB,QT,gC,gD,To,JL,A2];rw[ja,HL];simp[At]
  have keep:∀n,n≠C.M+5->n≠C.M+6->h'[n]?=h[n]?:=λn a b=>by rw[EF,Er (λz=>b z.symm),AC,Er (λz=>a z.symm)]
  have Mg:⇑h'=⇑h:=by rw[EF,AC];simp
  have agB:Gs f l.n (f l.n)=f:=by funext z;erw[Gs];split<;>simp_all
  refine⟨h',f l.n,?_,?_,.inr rfl,δ,λn _ a b=>keep n a b⟩
  .rw[Ax,Hv,pp,A2,A2,B1,Hv,ap,A2,A2,B1,Fb,To];rfl
  .rw[FO];have sub:∀y∈CA++B5,y∈S.lets/\y.n≠l.n:=λy AS=>by
    rw[es];rcases List.mem_append.mp AS with AS|AS
    .exact⟨by simp[AS],fM y AS⟩
    .exact⟨by simp[AS],kj y AS⟩
   have pm:(Cj { S with lets:=CA++B5,ended:=S.ended++[(l,t)],D7:=S.D7+1 }).Perm (Cj S):=by rw[an];erw[Cj,I1,D9,I2,EB];exact gI _ ((EB .. ▸List.perm_append_comm (l₁:=B5++S.ended.map (·.1)) (l₂:=[l])))
   rw[agB];refine⟨λn o' K5 ne=>?_,⟨J.D.le,J.D.e⟩,?_,?_,?_,⟨?_,?_⟩,λy AS=>?_,λy AS=>J.lt y (sub y AS).1,?_,λy AS=>J.Hg y (pm.mem_iff.mp AS),J.Ih,J.few,δ,λy AS=>?_,?_⟩
   .have:=Fz K5;rw[keep n δ δ];exact J.Bl n o' K5 ne
   .rw[keep _ δ δ];exact J.st
   .rw[keep _ δ δ];exact J.Fk
   .rw[EF,Er δ,AC,Hr Bt];erw[I1]
   .rw[EF,Hr R4,dN,ja,I1];rfl
   .rw[es]at Qt;erw[Em,DX,F2]at Qt |-;lia
   .have z:=J.JN y (pm.mem_iff.mp AS);exact⟨by rw[keep _ δ δ];exact z.1,z.2⟩
   .exact(pm.map _).nodup_iff.mpr J.nn
   .have:=J.pr y (sub y AS).1;show⇑y.pre<=S.D7+1;lia
   .have so:=J.so;rw[es]at so;exact so.sublist (List.Sublist.append_left (List.sublist_cons_self _ _) _)
end
section
variable{C:ES}{P:Ia}{h h':A5}{S:EE}{f:Nat->Nat}
theorem kD:∀L:↑Lt,Pz (L.map E7)=↥(L.map λl=>(l.n:Int))
 |[]=>rfl
 |l::L=>by show(Pz (L.map E7)).map _=_;rw[kD L];rfl
def pW{vs:↑W}(L:↑Lt){n:Nat}(e:h[n]?=↥⟨.Ak (L.map E7),vs⟩)(l:⇑L<64):Mv [.ref n] h=.ok (.ref ⇑h,h++[⟨.lst,Fh (LT.Jr (L.map λl=>(l.n:Int)))⟩]):=by have p:(LT.Jr (L.map λl=>(l.n:Int))).Perm (L.map λl=>(l.n:Int)):=XX _ _;have AG:=p.length_eq;rw[CU]at AG;unfold Mv;erw[Zm,e,kD,CU,if_pos l];exact I8 h (by simp[Fh,AG,At];lia)
def aeh{L:↑Lt}{x:Int}:x∈LT.Jr (L.map λl=>(l.n:Int))↔∃l∈L,(l.n:Int)=x:=by have p:(LT.Jr (L.map λl=>(l.n:Int))).Perm (L.map λl=>(l.n:Int)):=XX _ _;rw[p.mem_iff,Ua]
def wj(S:EE)(CA:↑Lt)(l:Lt)(B5:↑Lt)(t:Tl):(Fo S CA l B5 t).Bn=S.Bn:=by cases t<;>rfl
def wk(S:EE)(CA:↑Lt)(l:Lt)(B5:↑Lt)(t:Tl):(Fo S CA l B5 t).D7=S.D7+1:=by cases t<;>rfl
def aj1{S:EE}{CA:↑Lt}{l:Lt}{B5:↑Lt}{t:Tl}{y:Lt}(h:y∈CA++B5):y∈(Fo S CA l B5 t).lets:=by
 cases t<;>erw[Fo,Hi,Ip]at h |-
 .exact h.elim .inl λh=>.inr (.inr h)
 all_goals exact h
def pZ{L:↑Lt}{l:Lt}(h:l∈L):∃CA B5,L=CA++l::B5:=List.append_of_mem h
def jA{S:EE}{CA:↑Lt}{l:Lt}{B5:↑Lt}{t:Tl}(es:S.lets=CA++l::B5){y:Lt}(h:y∈Cj (Fo S CA l B5 t)):∃z∈Cj S,z.Ek=y.Ek/\z.n=y.n:=by
 have q:∀z,z∈CA\/z=l\/z∈B5\/z∈S.ended.map (·.1)->z∈Cj S:=λz hz=>by erw[Cj,es,EB,HD,Hi,Ip];exact hz
 cases t<;>erw[Cj,Fo,EB,HD,Hi,Ip,I1,D9,I2,PQ,or_false]at h
 .rcases h with h|rfl|h
  .exact⟨y,q y (.inl h),rfl,rfl⟩
  .exact⟨l,q l (.inr (.inl rfl)),rfl,rfl⟩
  .exact⟨y,q y (.inr (.inr h)),rfl,rfl⟩
 all_goals
  rcases h with h|h|h|h
  .exact⟨y,q y (.inl h),rfl,rfl⟩
  .exact⟨y,q y (.inr (.inr (.inl h))),rfl,rfl⟩
  .exact⟨y,q y (.inr (.inr (.inr h))),rfl,rfl⟩
  .exact⟨l,q l (.inr (.inl rfl)),by rw[h],by rw[h]⟩
def Dh.to(c:Dw C)(R:Dh C h S)(e:∀n,n< ⇑h->¬(C.M+3<=n/\n<C.T)->h'[n]?=h[n]?)(l:⇑h<=⇑h'):Dh C h' S:=by have D5:=c.D5;have JM:=c.JM;have Dt:=c.Dt;have AG:=R.AG;have g:∀{n:Nat}{o:O},h[n]?=↥o->¬(C.M+3<=n/\n<C.T)->h'[n]?=↥o:=λ{n o} a b=>(e n (Fz a) b).trans a;refine⟨λn o' k ne=>g (R.Bl n o' k ne) (by have:=Fz k;lia),g R.BA δ,g R.CH δ,g R.el δ,g R.Iw δ,λy AS=>?_,R.C7,R.nn,R.Hg,R.Ih,R.few,R.le,δ,R.pr⟩;have x:=R.lt y AS;have:=x.t1;have:=x.Ca;exact⟨g x.Fn δ,g x.CH δ,x.m,x.a,x.d,x.t1,x.Ca⟩
structure Gv(C:ES)(P:Ia)(h:A5)(S:EE)(f:Nat->Nat):Prop where
 R:Dh C h S
 L:Dm C P h S f
 s:∀l∈Cj S,∀Mg∈Cj S,f l.n≠Mg.Ek
noncomputable def N4(d:Af)(a:Nat):W:=.tup [.str (AK "come"),A_ d,.int (a:Int)]
noncomputable def GY(n:Nat):W:=.tup [.str (AK "go"),.int (n:Int)]
def GL:W:=.tup [.str (AK "step")]
def eY(R:Dh C h S){w v:W}{h1:A5}(e:JH [.ref C.r,w] h=.ok (v,h1)):Lm [.ref C.r,w] h=.ok (v,h1):=by
 have FJ:Bz "Run" "move" 1 JH (I 0) (Z (I 1) A1) [ι,↥w,↥.non] h=.ok (v,h1):=Jk (us:=[w]) rfl R.BA rfl rfl rfl e;have CH:Lm [.ref C.r,w] h=(Sl [ι,↥w,none] h).bind outF:=rfl;have s1:AX (pu (.non)) (AA 2) [ι,↥w,none] h=.ok (.AR [ι,↥w,↥.non],h):=rfl;have s2:Op (Bz "Run" "move" 1 JH (I 0) (Z (I 1) A1)) 2 ["NoMove"] (AX (pu (.non)) (AA 2)) [ι,↥w,↥.non] h=.ok (.AR [ι,↥w,↥v],h1):=by unfold Op;rw[FJ];rfl
 rw[CH];unfold Sl;rw[Ax,s1,A2,B1,Ax,s2,A2,B1];rfl
def af6(R:Dh C h S){w:W}(e:JH [.ref C.r,w] h=.exc "NoMove" h):Lm [.ref C.r,w] h=.ok (.non,h):=by
 have FJ:Bz "Run" "move" 1 JH (I 0) (Z (I 1) A1) [ι,↥w,↥.non] h=.exc "NoMove" h:=Jk (us:=[w]) rfl R.BA rfl rfl rfl e;have CH:Lm [.ref C.r,w] h=(Sl [ι,↥w,none] h).bind outF:=rfl;have s1:AX (pu (.non)) (AA 2) [ι,↥w,none] h=.ok (.AR [ι,↥w,↥.non],h):=rfl;have s2:Op (Bz "Run" "move" 1 JH (I 0) (Z (I 1) A1)) 2 ["NoMove"] (AX (pu (.non)) (AA 2)) [ι,↥w,↥.non] h=.ok (.AR [ι,↥w,↥.non],h):=by unfold Op;rw[FJ];rfl
 rw[CH];unfold Sl;rw[Ax,s1,A2,B1,Ax,s2,A2,B1];rfl
def uA(k:HX C P)(c:Dw C)(B:Gv C P h S f)(AI:S.Bn<900){d:Af}(hd:d∈DC C.cs ⇑C.cs)(A4:EX C.ws d=none){a:Nat}(AF:a<16) :
  ∃h1 h2 GX,Lm [.ref C.r,N4 d a] h=.ok (.int (S.Bn:Int),h1)/\K6 [.ref (C.M+3),N4 d a] h1=.ok (.int (S.Bn:Int),h2)/\Gv C P h2 (QM S ⇑h d a) GX/\ ⇑h<=⇑h2/\∀n,C.M+7<=n->n<C.T->h2[n]?=h[n]?:=by
 have D5:=c.D5;have JM:=c.JM;have kt:=k.t;have AG:=B.R.AG;obtain⟨h1,AC,Ha,Cp,fr⟩:=tv c B.R AI hd A4 AF;have Ac:Dm C P h1 S f:=B.L.to c k (λn AZ=>by
  rcases AZ with⟨a,b⟩|⟨a,b⟩|⟨y,AS,rfl⟩
  .exact fr n δ (λz=>b (by rw[z];exact c.dp)) δ
  .exact fr n δ δ δ
  .have z:=B.L.JN y AS;have:=Fz z.1;exact fr _ this δ δ) δ
 obtain⟨h2,AH,BN,CV,Po⟩:=ab2 k c Ac AI ⇑h hd AF;have Tv:K6 [.ref (C.M+3),N4 d a] h1=.ok (.int (S.Bn:Int),h2):=by have cl:Ae 3 Wi (Z (I 0) (Z (A0 AB (I 1) ζ) (Z (A0 AB (I 1) (pu (.int 2))) A1))) [↥μ,↥(N4 d a)] h1=.ok (.int (S.Bn:Int),h2):=IM (us:=[.ref (C.M+3),A_ d,.int (a:Int)]) (by simp[N4,IQ,VZ]) rfl AH;simp[K6,Rc,N4,FW,-IV]at cl |-;rw[cl];simp
 refine⟨h1,h2,_,eY B.R (aaO B.R AC),Tv,⟨Dh.to c Ha (λn AZ no=>Po n AZ δ δ) CV,BN,λy AS X2 OZ=>?_⟩,δ,λn a b=>?_⟩
 .have Ic:=Fz (Ha.lt X2 OZ).CH;rcases YL.mp AS with AS|AS
  .have:=B.L.Hg y AS;have q:=B.L.JN y AS;have q1:=Fz q.1;erw[Gs];rw[if_neg δ];rcases YL.mp OZ with OZ|rfl
   .exact B.s y AS X2 OZ
   .show f y.n≠⇑h+1;lia
  .subst AS;erw[Gs,show(Ln S ⇑h d a).n=S.Bn from rfl];rw[if_pos trivial];lia
 .rw[Po n δ δ δ,fr n δ δ δ]
def uC(k:HX C P)(c:Dw C)(B:Gv C P h S f)(hm:S.D7<900000){CA B5:↑Lt}{l:Lt}(es:S.lets=CA++l::B5) :
  ∃h1 h2 GX,JH [.ref C.r,GY l.n] h=.ok (CQ (I9 C S.done l),h1)/\TL [.ref (C.M+3),.int (l.n:Int)] h1=.ok (CQ (I9 C S.done l),h2)/\Gv C P h2 (Fo S CA l B5 (I9 C S.done l)) GX/\ ⇑h<=⇑h2/\Dh C h1 (Fo S CA l B5 (I9 C S.done l))/\∀n,n< ⇑h->n≠C.M+1->n≠C.M+2->n≠C.M+5->n≠C.M+6->n≠l.Ek->h2[n]?=h[n]?:=by
 have D5:=c.D5;have JM:=c.JM;have kt:=k.t;have AG:=B.R.AG;have J2:l∈Cj S:=JC _ (by rw[es];simp);have ai1:=(B.R.lt l J2).Ca;obtain⟨h1,AC,Ha,Cp,fr⟩:=wl c B.R hm es;have Ac:Dm C P h1 S f:=B.L.to c k (λn AZ=>by
  rcases AZ with⟨a,b⟩|⟨a,b⟩|⟨y,AS,rfl⟩
  .exact fr n δ δ δ
  .exact fr n δ δ δ
  .have z:=B.L.JN y AS;exact fr _ δ δ (B.s y AS l J2)) δ
 obtain⟨h2,p,AH,BN,B3,CV,Po⟩:=abB k c Ac hm es;refine⟨h1,h2,_,aaP B.R AC,AH,⟨Dh.to c Ha (λn AZ no=>Po n AZ δ δ) CV,BN,λy AS X2 OZ=>?_⟩,δ,Ha,λn a b d e g j=>?_⟩
 .have Ic:=Fz (Ha.lt X2 OZ).CH;erw[Gs];obtain⟨z,hz,FN,_⟩:=jA es OZ;obtain⟨x,AM,_,ex⟩:=jA es AS;by_cases AZ:y.n=l.n
  .rw[if_pos AZ];rcases B3 with B3|rfl
   .lia
   .rw[<-FN];exact B.s l J2 z hz
  .rw[if_neg AZ,<-FN,<-ex];exact B.s x AM z hz
 .rw[Po n δ e g,fr n b d j]
def uB(k:HX C P)(c:Dw C)(B:Gv C P h S f)(hm:S.D7<900000){CA B5:↑Lt}{l:Lt}(es:S.lets=CA++l::B5) :
  ∃h1 h2 GX,Lm [.ref C.r,GY l.n] h=.ok (CQ (I9 C S.done l),h1)/\K6 [.ref (C.M+3),GY l.n] h1=.ok (CQ (I9 C S.done l),h2)/\Gv C P h2 (Fo S CA l B5 (I9 C S.done l)) GX/\ ⇑h<=⇑h2/\∀n,C.M+7<=n->n<C.T->h2[n]?=h[n]?:=by
 obtain⟨h1,h2,GX,AC,AH,JT,CV,_,fr⟩:=uC k c B hm es;have AG:=B.R.AG;have kt:=k.t;have ai1:=(B.R.lt l (JC _ (by rw[es];simp))).Ca;refine⟨h1,h2,GX,eY B.R AC,?_,JT,CV,λn a b=>fr n δ δ δ δ δ δ⟩;have q:(AK "go"==AK "come")=false:=rfl;have cl:Ae 2 TL (Z (I 0) (Z (A0 AB (I 1) ζ) A1)) [↥μ,↥(GY l.n)] h1=.ok (CQ (I9 C S.done l),h2):=IM (us:=[.ref (C.M+3),.int (l.n:Int)]) (by simp[GY,IQ]) rfl AH;simp[K6,Rc,GY,FW,q,-IV]at cl |-;rw[cl];simp
def aa_(k:HX C P)(c:Dw C)(J:Dm C P h S f)(hm:G1 C S=false):K6 [.ref (C.M+3),GL] h=.ok (.non,h):=by have q1:(AK "step"==AK "come")=false:=rfl;have q2:(AK "step"==AK "go")=false:=rfl;have cl:Ae 1 Oq (Z (I 0) A1) [↥μ,↥GL] h=.ok (.AL (G1 C S),h):=IM (us:=[.ref (C.M+3)]) rfl rfl (dz k c J);simp[K6,Rc,GL,FW,q1,q2,hm,-IV]at cl |-;rw[cl];simp
def aaa(k:HX C P)(c:Dw C)(J:Dm C P h S f)(hm:G1 C S=true):∃h',K6 [.ref (C.M+3),GL] h=.ok (B8 (C.ps.getD ⇑S.done none),h')/\Dm C P h' (MF C S) f/\ ⇑h'=⇑h/\∀n,n≠C.M+3->h'[n]?=h[n]?:=by
 have D5:=c.D5;have kt:=k.t;have DD:=lZ J.D hm;have q1:(AK "step"==AK "come")=false:=rfl;have q2:(AK "step"==AK "go")=false:=rfl;have cl:Ae 1 Oq (Z (I 0) A1) [↥μ,↥GL] h=.ok (.AL (G1 C S),h):=IM (us:=[.ref (C.M+3)]) rfl rfl (dz k c J);have v0:∀h':A5,I 0 [↥μ,↥GL] h'=.ok (.ref (C.M+3),h'):=λ_=>rfl;have t0:∀x:Str,AT (A0 (Ap true) (A0 AB (I 1) η) (pu (.str x))) [↥μ,↥GL] h=.ok (AK "step"==x,h):=λx=>by simp[GL,FW]
 obtain⟨h',EF⟩:∃h',h'=h.set (C.M+3) (Q8 C P (⇑S.done+1) S.Bn):=π;have keep:∀n,n≠C.M+3->h'[n]?=h[n]?:=λn AZ=>by rw[EF,Er (λz=>AZ z.symm)]
 have Mg:⇑h'=⇑h:=by rw[EF];simp
 have Gp:h'[C.M+3]?=↥(Q8 C P (⇑S.done+1) S.Bn):=by rw[EF,Hr J.st]
 have FM:Dm C P h' (MF C S) f:=by
  obtain⟨R3,Qt⟩:=J.U9;refine⟨λn o' K5 ne=>?_,ael J.D DD,?_,?_,?_,⟨?_,Qt⟩,λy AS=>?_,J.lt,J.nn,J.Hg,λp AV=>?_,J.few,by rw[Mg];exact J.AG,J.pr,J.so⟩
  .have:=Fz K5;rw[keep n δ];exact J.Bl n o' K5 ne
  .rw[Gp];simp[MF]
  .rw[keep _ δ];exact J.Fk
  .rw[keep _ δ];exact J.Bt
  .rw[keep _ δ];exact R3
  .have z:=J.JN y AS;exact⟨by rw[keep _ δ];exact z.1,z.2⟩
  .erw[MF,Hi,Lf]at AV;rcases AV with AV|AV
   .exact J.Ih p AV
   .have e4:↥p∈C.ps:=by rw[AV];exact getD_mem DD
    exact(c.P.k p e4).1
 have s1:JG (I 0) (pu (.str (AK "done"))) (A0 addW (A0 AB (I 0) (pu (.str (AK "done")))) ζ) [↥μ,↥GL] h=.ok (.AR [↥μ,↥GL],h'):=by rw[Tq,Bb,Bb,v0,A2,Bq,A2,Sv J,A2,Bq,A2,Mp,A2,v0,A2,Bq,A2,EF];exact jI J.st (by simp[At]) (by simp[Oz]) rfl
 have wm:AB μ (.str (AK "plan")) h'=.ok (.ref P.pp,h'):=M9 Gp rfl;have L4:AB μ (.str (AK "done")) h'=.ok (.int ((⇑S.done+1:Nat):Int),h'):=M9 Gp rfl;have EJ:AB (.ref P.pp) (.int (⇑S.done:Int)) h'=.ok (B8 (C.ps.getD ⇑S.done none),h'):=Gk (ay k FM) (by rw[E5,CP DD,Eh,CP DD];rfl);have Fk:Nf (.int ((⇑S.done+1:Nat):Int)) (.int 1) h'=.ok (.int (⇑S.done:Int),h'):=by show R.ok (W.int (((⇑S.done+1:Nat):Int)-1),h')=_;rw[show(((⇑S.done+1:Nat):Int)-1)=(⇑S.done:Int)by lia]
 refine⟨h',?_,FM,Mg,keep⟩;have CH:K6 [.ref (C.M+3),GL] h=(Rc [↥μ,↥GL] h).bind outF:=rfl;rw[CH];unfold Rc;rw[Ax,Db,t0,A2,if_neg (by rw[q1];simp),FC,A2,B1,Ax,Db,t0,A2,if_neg (by rw[q2];simp),FC,A2,B1,Ax,Db,v_not,GM,cl,A2,Gj,A2,A2,hm,if_neg γ,FC,A2,B1,Ax,s1,A2,B1,Fb,Bb,Bb,v0,A2,Bq,A2,wm,A2,Bb,Bb,v0,A2,Bq,A2,L4,A2,Bq,A2,Fk,A2,EJ];rfl
noncomputable def aO(C:ES)(S:EE):W:=if G1 C S=true then B8 (C.ps.getD ⇑S.done none)else .non
noncomputable def aN(C:ES)(S:EE):EE:=if G1 C S=true then MF C S else S
def uF(k:HX C P)(c:Dw C)(B:Gv C P h S f) :
  ∃h1 h2,Lm [.ref C.r,GL] h=.ok (aO C S,h1)/\K6 [.ref (C.M+3),GL] h1=.ok (aO C S,h2)/\Gv C P h2 (aN C S) f/\ ⇑h<=⇑h2/\∀n,C.M+7<=n->n<C.T->h2[n]?=h[n]?:=by
 have D5:=c.D5;have JM:=c.JM;have kt:=k.t;have AG:=B.R.AG;unfold aO aN;cases hm:G1 C S
 .rw[if_neg γ,if_neg γ];exact⟨h,h,af6 B.R (kv B.R (aem c B.R B.L.D hm) (.inl rfl)),aa_ k c B.L hm,B,C9 _,λ_ _ _=>rfl⟩
 .rw[if_pos rfl,if_pos rfl];obtain⟨h1,AC,Ha,Cp,fr⟩:=aeo c B.R B.L.D hm;have Ac:Dm C P h1 S f:=B.L.to c k (λn AZ=>by
   rcases AZ with⟨a,b⟩|⟨a,b⟩|⟨y,AS,rfl⟩
   .exact fr n δ
   .exact fr n δ
   .have z:=B.L.JN y AS;exact fr _ δ) δ
  obtain⟨h2,AH,BN,CV,Po⟩:=aaa k c Ac hm;exact⟨h1,h2,eY B.R (kv B.R AC (.inr ⟨_,rfl⟩)),AH,⟨Dh.to c Ha (λn AZ no=>Po n δ) δ,BN,B.s⟩,δ,λn a b=>by rw[Po n δ,fr n δ]⟩
end
section
variable{C:ES}{P:Ia}{h h':A5}{S:EE}{f:Nat->Nat}
noncomputable def outD(C:ES):↑Af:=(DC C.cs ⇑C.cs).filter λd=>(EX C.ws d).isNone
def ks{C:ES}{d:Af}:d∈outD C↔d∈DC C.cs ⇑C.cs/\EX C.ws d=none:=by unfold outD;rw[List.mem_filter,Option.isNone_iff_eq_none]
structure Uv(C:ES)(P:Ia)(DM:Nat):Prop where
 k:HX C P
 o:C.K[DM]?=↥⟨.lst,(outD C).map A_⟩
 ne:outD C≠[]
def uj{h:A5}{n m:Nat}{l:↑Int}(e:h[n]?=↥⟨.lst,Fh l⟩)(Ba:h[m]?=↥⟨.lst,[]⟩):Ap true (.ref n) (.ref m) h=.ok (.AL l.isEmpty,h):=by unfold Ap;rw[WO 7 (l:=l) e,WO (l:=[]) 7 Ba];cases l<;>simp[eqT,GE]
inductive Uq(C:ES)(S:EE):W->Prop where
 |i9 {d:Af} {a:Nat} (hd:d∈outD C) (AF:a<16):Uq C S (N4 d a)
 |go {l:Lt} (AG:l∈S.lets):Uq C S (GY l.n)
 |jO:Uq C S GL
def tn{DM:Nat}(k:Uv C P DM)(c:Dw C)(J:Dm C P h S f)(AI:S.Bn<=60)(x:Int):∃w,Uq C S w/\Ri [.ref (C.M+3),.int x,.ref DM] h=.ok (w,h):=by
 have D5:=c.D5;have kt:=k.k.t;have AG:=J.AG;have E9:=J.E9;obtain⟨y,DP⟩:=Mn x 1 δ;have DP:∀h,Dz [.int x,.int 1] h=.ok (.int y,h):=DP;have Fn:h[DM]?=↥⟨.lst,(outD C).map A_⟩:=J.Bl _ _ k.o (λz=>by cases z);obtain⟨ME,es⟩:∃ME,ME=LT.Jr (S.lets.map λl=>(l.n:Int)):=π;have so:=pW S.lets J.Bt δ;rw[<-es]at so;obtain⟨H,C4⟩:∃H,H=h++[⟨.lst,Fh ME⟩]:=π;rw[<-C4]at so;have Aq:H[⇑h]?=↥⟨.lst,Fh ME⟩:=by rw[C4];simp
 have jT:H[DM]?=↥⟨.lst,(outD C).map A_⟩:=by rw[C4];exact CB h Fn _
 obtain⟨ρ,C3⟩:∃ρ:Option W->Option W->Option W->B9,ρ=λa b c=>[↥μ,↥(.int x),↥(.ref DM),a,b,c]:=π;have s1:AX (Ae 2 Dz (Z (I 1) (Z ζ A1))) (AA 3) (ρ none none none) h=.ok (.AR (ρ ↥(.int y) none none),h):=by rw[C3];simp[DP]
 have s2:AX (B6 Mv (Z (A0 AB (I 0) (pu (.str (AK "letters")))) A1)) (AA 4) (ρ ↥(.int y) none none) h=.ok (.AR (ρ ↥(.int y) ↥(.ref ⇑h) none),H):=by rw[C3];simp[TP J,so]
 have s3:AX (A0 BK (I 3) (pu (.int 8))) (AA 5) (ρ ↥(.int y) ↥(.ref ⇑h) none) H=.ok (.AR (ρ ↥(.int y) ↥(.ref ⇑h) ↥(.int (y%8))),H):=by rw[C3];simp
 obtain⟨r,BA⟩:∃r,r=ρ ↥(.int y) ↥(.ref ⇑h) ↥(.int (y%8)):=π;have et:Ap true (.ref ⇑h) (.ref ⇑H) (H++[⟨.lst,[]⟩])=.ok (.AL ME.isEmpty,H++[⟨.lst,[]⟩]):=uj (CB H Aq _) γ;obtain⟨b,BI⟩:∃b,b=(decide (y%8<2)||(decide (y%8<6)&&ME.isEmpty)):=π;have t1:Hn (FY (AT (A0 Jf (I 5) (pu (.int 2)))) (Eg (AT (A0 Jf (I 5) (pu (.int 6)))) (AT (A0 (Ap true) (I 4) (Bg A1))))) r H=.ok (b,H):=by
  rw[BA,C3,BI];by_cases h2:y%8<2
  .simp[h2]
  .by_cases FH:y%8<6
   .simp[h2,FH,nw,et]
   .simp[h2,FH]
 have Ca:AT (A0 Jf (I 5) (pu (.int 6))) r H=.ok (decide (y%8<6),H):=by rw[BA,C3];simp
 have CH:Ri [.ref (C.M+3),.int x,.ref DM] h=((Z2 (ρ none none none) h).bind outF).bind λp=>C2.settle h p.1 p.2:=by rw[C3];rfl
 have fin:∀{w:W},DE w=true->C2.settle h w H=.ok (w,h):=λ{w} e=>by rw[C4];exact Ru h _ _ e
 rw[CH];unfold Z2;rw[Ax,s1,A2,B1,Ax,s2,A2,B1,Ax,s3,A2,B1,<-BA,Ax,Db,t1,A2];cases A4:b
 .rw[if_neg γ,FC,A2,B1,Ax,Db,Ca,A2];by_cases FH:y%8<6
  .rw[if_pos (FH:)];have ne:ME≠[]:=λz=>by
    rw[A4,z]at BI;simp[FH]at BI
   have lo:0< ⇑ME:=List.length_pos_iff.mpr ne;obtain⟨j,Am,GW⟩:=Jl (y/8) (n:=⇑ME) lo;obtain⟨z,FN⟩:∃z,z=ME[j]:=π;obtain⟨l,J2,ln⟩:=aeh.mp (show z∈LT.Jr (S.lets.map λl=>(l.n:Int))by rw[<-es,FN];exact JD _);have EJ:AB (.ref ⇑h) (.int (j:Int)) H=.ok (.int (l.n:Int),H):=Gk Aq (by erw[Fh];rw[E5,CP Am,<-FN,ln];rfl);have Jo:(0:Int)<(⇑ME:Int):=δ
   have lw:Be [.ref ⇑h] H=.ok (.int ⇑ME,H):=by rw[Gl Aq];simp[Fh]
   have v:BE (Z (pu (.str (AK "go"))) (Z (A0 AB (I 4) (A0 BK (A0 CT (I 3) (pu (.int 8))) (B6 Be (Z (I 4) A1)))) A1)) r H=.ok (GY l.n,H):=by rw[BA,C3];erw[QU,Bb,GA,CG,CY,v_var,Bq,DV,EG,CS,A2,Lc,if_pos (show(0:Int)<8/\(8:Int)<1073741824 by decide),lw,LJ,if_pos Jo,GW,EJ];simp[At,GY]
   refine⟨GY l.n,.go J2,?_⟩;rw[Fb,v,A2,A2,UA,A2,H8,A2];exact fin (by simp[GY])
  .rw[if_neg (FH:),FC,A2,B1];refine⟨GL,.jO,?_⟩;have v:BE (Z (pu (.str (AK "step"))) A1) r H=.ok (GL,H):=by simp[At,GL]
   rw[Fb,v,A2,A2,H8,A2];exact fin (by simp[GL])
 .rw[if_pos rfl];have lo:0< ⇑(outD C):=List.length_pos_iff.mpr k.ne;obtain⟨j,Am,GW⟩:=Jl (y/8) (n:=⇑(outD C)) lo;obtain⟨d,CH⟩:∃d,d=(outD C)[j]:=π;have Tv:d∈outD C:=by rw[CH];exact JD _
  have EJ:AB (.ref DM) (.int (j:Int)) H=.ok (A_ d,H):=Gk jT (by rw[E5,CP Am,CH];rfl);obtain⟨a,AF,BW⟩:=Jl (y/64) (n:=16) ε;have BW:y/64%16=(a:Int):=BW;have Jo:(0:Int)<(⇑(outD C):Int):=δ
  have v:BE (Z (pu (.str (AK "come"))) (Z (A0 AB (I 2) (A0 BK (A0 CT (I 3) (pu (.int 8))) (B6 Be (Z (I 2) A1)))) (Z (A0 BK (A0 CT (I 3) (pu (.int 64))) (pu (.int 16))) A1))) r H=.ok (N4 d a,H):=by rw[BA,C3];erw[QU,Bb,GA,CG,CY,v_var,Bq,DV,EG,CS,A2,Lc,if_pos (show(0:Int)<8/\(8:Int)<1073741824 by decide),if_pos (show(0:Int)<64/\(64:Int)<1073741824 by decide),Gl jT,CU,LJ,if_pos Jo,if_pos (show(0:Int)<16 by decide),GW,EJ,BW];simp[At,N4]
  refine⟨N4 d a,.i9 Tv AF,?_⟩;rw[Fb,v,A2,A2,UA,A2,H8,A2];exact fin (by simp[N4])
end
section
variable{ns:↑Int}{C:ES}{P:Ia}{DM x1 x2 x3 x4 x6:Nat}{h h':A5}{S:EE}{f:Nat->Nat}
noncomputable def Iu(ns:↑Int)(C:ES)(x1 x2 x3 x4 DM x6:Nat)(EN Hq Gm:Option W):B9:=[↥(.Df (BD ns)),↥(.ref x1),↥(.ref x2),↥(.ref x3),↥(.ref x4),↥(.ref DM),↥(.ref x6),ι,↥μ,EN,Hq,Gm]
def ne_self(h:A5){w:W}(e:(∃t,w=CQ t)\/(∃s,w=B8 s)\/(∃i,w=.int i)\/w=.non):Ap false w w h=.ok (.AL false,h):=by
 rcases e with⟨t,rfl⟩|⟨s,rfl⟩|⟨i,rfl⟩|rfl
 .cases t<;>simp[Ap,CQ,CD,eqT,GE]
 .cases s<;>simp[Ap,B8,CD,eqT,GE]
 .simp[Ap,CD,eqT]
 .simp[Ap,CD,eqT]
def uE(k:Uv C P DM)(c:Dw C)(B:Gv C P h S f)(AI:S.Bn<=60)(hm:S.D7<900000){w:W}(d:Uq C S w) :
  ∃v h1 h2 GS GX,Lm [.ref C.r,w] h=.ok (v,h1)/\K6 [.ref (C.M+3),w] h1=.ok (v,h2)/\Gv C P h2 GS GX/\GS.Bn<=S.Bn+1/\GS.D7<=S.D7+1/\((∃t,v=CQ t)\/(∃s,v=B8 s)\/(∃i,v=.int i)\/v=.non)/\∀n,C.M+7<=n->n<C.T->h2[n]?=h[n]?:=by
 cases d with
 |i9 hd AF=>obtain⟨H5,H6⟩:=ks.mp hd;obtain⟨h1,h2,GX,AC,AH,JT,_,fr⟩:=uA k.k c B δ H5 H6 AF;exact⟨_,h1,h2,_,GX,AC,AH,JT,C9 _,PT _,.inr (.inr (.inl ⟨_,rfl⟩)),fr⟩
 |go AG=>obtain⟨CA,B5,sp⟩:=pZ AG;obtain⟨h1,h2,GX,AC,AH,JT,_,fr⟩:=uB k.k c B hm sp;exact⟨_,h1,h2,_,GX,AC,AH,JT,by rw[wj];lia,by rw[wk];lia,.inl ⟨_,rfl⟩,fr⟩
 |jO=>
  obtain⟨h1,h2,AC,AH,JT,_,fr⟩:=uF k.k c B;refine⟨_,h1,h2,_,f,AC,AH,JT,?_,?_,?_,fr⟩
  .unfold aN;split<;>simp[MF]
  .unfold aN;split<;>simp[MF]
  .unfold aO;split
   .exact .inr (.inl ⟨_,rfl⟩)
   .exact .inr (.inr (.inr rfl))
end
end FG
namespace C2
open PySem PySem.Spec B5
def tK{it:QF}{m e:B7}{ρ:B9}{h:A5}{n:Nat}{AJ:↑Key}{ws us:↑W}(g:W->W)(AG:⇑us<1000)(em:m ρ h=.ok (.ref n,h))(Ay:h[n]?=↥⟨.Ak AJ,ws⟩)(hit:∀j h',j<=⇑us->it AJ ws j h'=↥us[j]?)(DT:∀w∈us,∀acc,e [↥w] (h.set n ⟨.G0 AJ,ws⟩++[⟨.lst,acc⟩])=.ok (g w,h.set n ⟨.G0 AJ,ws⟩++[⟨.lst,acc⟩])) :
  LW it 1 [] m (AA 0) (pu true) e ρ h=.ok (.ref ⇑h,h++[⟨.lst,us.map g⟩]):=by
 have AZ:n< ⇑h:=(List.getElem?_eq_some_iff.mp Ay).1;obtain⟨H,C4⟩:∃H:A5,H=h.set n ⟨.G0 AJ,ws⟩:=⟨_,rfl⟩;rw[<-C4]at DT;have LS:⇑H=⇑h:=by rw[C4];simp
 have IE:H[n]?=↥⟨.G0 AJ,ws⟩:=by rw[C4];exact J8 AZ
 have c:=Pi (mi:=pu (it AJ ws)) (it:=it AJ ws) (g:=AA 0) (t:=pu true) (e:=e) (ρ:=ρ) (h:=H) (h0:=H) (nl:=1) (caps:=[]) us (λ_=>true) g (λρ=>∃s,ρ=[s]) AG rfl ⟨none,rfl⟩ (λj acc Am=>hit j _ Am) (by rintro w hw ρ acc ⟨s,rfl⟩;exact⟨[↥w],rfl,⟨_,rfl⟩,rfl,λ_=>DT w hw acc⟩)
 rw[List.filter_eq_self.mpr (λ_ _=>rfl)]at c;unfold LW;rw[Hu,em,A2];erw[Ay];rw[<-C4,c];unfold g5;erw[Gr (show n< ⇑H by lia),IE];rw[C4,e_ Ay];simp
def cc{H:A5}{a b:Nat}{us vs:↑W}{ds:↑Cn}(d9:Bool)(BW:H[a]?=↥⟨.lst,us⟩)(BI:H[b]?=↥⟨.lst,vs⟩)(Fj:us.mapM (CD 7 H)=↥ds)(C0:vs.mapM (CD 7 H)=↥ds)(ok:∀d∈ds,Fw 7 d=true):Ap d9 (.ref a) (.ref b) H=.ok (.AL d9,H):=by
 have q:∀(n:Nat)(ws:↑W),H[n]?=↥⟨.lst,ws⟩->ws.mapM (CD 7 H)=↥ds->CD 8 H (.ref n)=↥(.Cg false ds):=λn ws e r=>by show(match E2 H (.ref n)with|some (t,ws)=>(ws.mapM (CD 7 H)).map (Cn.Cg t)|none=>none)=_;rw[H9 H e];erw[r,Qd]
 unfold Ap;rw[q a us BW Fj,q b vs BI C0];erw[c_ 8 (d:=.Cg false ds) (by simpa[Fw]using ok)];cases d9<;>rfl
theorem Tu{α β MJ:Type}{f:α->β}{r:β->Option MJ}{g:α->MJ}:∀{L:↑α},(∀x∈L,r (f x)=↥(g x))->(L.map f).mapM r=↥(L.map g)
 |[],_=>rfl
 |x::L,h=>by rw[D9,Q_,h x γ,Tu λy AS=>h y (by simp[AS])];rfl
end C2
namespace FG
open PySem PySem.Spec B5 C2
section
variable{C:ES}{P:Ia}{h:A5}{S:EE}{f:Nat->Nat}
noncomputable def DS(l:Lt):W:=.tup [.int (l.n:Int),.int (l.m:Int),.int (l.a:Int),.int (l.d.1:Int),.int (l.d.2:Int)]
noncomputable def ai(l:Lt):Cn:=.Cg true [.int (l.n:Int),.int (l.m:Int),.int (l.a:Int),.int (l.d.1:Int),.int (l.d.2:Int)]
def nV(H:A5)(l:Lt):CD 7 H (DS l)=↥(ai l):=by simp[DS,ai,CD]
def l5(l:Lt):DE (DS l)=true:=by simp[DS]
def aaU(l:Lt):DE (GY l.n)=true:=by simp[GY]
noncomputable def ah:Ai:=(AN (AX (A0 AB (Aw (B4 "Letter" "doors") (I 3)) (Aw Ff ζ)) (AA 4))
    (E_ (D6 DK (I 1) (Z (BE (Z (I 2) (Z (Aw (B4 "Letter" "mark") (I 3)) (Z (Aw (B4 "Letter" "address") (I 3)) (Z (A0 AB (I 4) η) (Z (A0 AB (I 4) ζ) A1)))))) A1))))
def gE(c:Dw C)(R:Dh C h S):Mj [.ref C.r] h=.ok (.ref ⇑h,h++[⟨.lst,S.lets.map DS⟩]):=by
 have D5:=c.D5;have JM:=c.JM;have Dt:=c.Dt;have AG:=R.AG;have few:=R.few;have le:=R.le;have E9:⇑S.lets<1000:=δ
 obtain⟨q,eq⟩:∃q:O,q=⟨.G0 (S.lets.map E7),S.lets.map λl=>.ref l.B3⟩:=⟨_,rfl⟩;obtain⟨G,Np⟩:∃G:A5,G=h.set (C.M+1) q:=π;have V9:⇑G=⇑h:=by rw[Np];simp
 have s1:AX (Bg A1) (AA 1) [ι,none,none,none,none] h=.ok (.AR [ι,↥(.ref ⇑h),none,none,none],h++[⟨.lst,[]⟩]):=by simp[nw,At]
 have gl:Aw (B4 "Run" "letters") (I 0) [ι,↥(.ref ⇑h),none,none,none] (h++[⟨.lst,[]⟩])=.ok (.ref (C.M+1),h++[⟨.lst,[]⟩]):=by rw[HO,v_var];exact EI (CB h R.BA _) rfl
 have B3:=Yg (it:=Tf (S.lets.map E7) (S.lets.map λl=>.ref l.B3)) (g:=EY [(AA 2),(AA 3)]) (b:=ah) ⇑S.lets (λj ρ H=>∃s2 s3 s4,j<=⇑S.lets/\ρ=[ι,↥(.ref ⇑h),s2,s3,s4]/\H=G++[⟨.lst,(S.lets.take j).map DS⟩]) (λDi H=>∃ρ,Di=.AR ρ/\ρ[1]?=↥↥(.ref ⇑h)/\H=G++[⟨.lst,S.lets.map DS⟩]) (by
  rintro j ρ H ⟨s2,s3,s4,Am,rfl,rfl⟩;by_cases e:j=⇑S.lets
  .subst e;exact .inl ⟨by simp[Tf],_,rfl,rfl,by rw[gu]⟩
  .have DD:j< ⇑S.lets:=δ
   obtain⟨l,el⟩:∃l,l=S.lets[j]:=π;have x:=R.lt l (Tc (by rw[el];exact JD _));have old:∀(n:Nat) o,h[n]?=↥o->C.T<=n->∀a,(G++a)[n]?=↥o:=λn o e t a=>CB G (by rw[Np,Er δ];exact e) a;refine .inr ⟨.tup [.int (l.n:Int),.ref l.B3],?_,DD,[ι,↥(.ref ⇑h),↥(.int (l.n:Int)),↥(.ref l.B3),s4],_,rfl,?_⟩
   .unfold Tf;rw[CU,if_neg e,E5,E5,CP DD,<-el];rfl
   .have L4:B4 "Letter" "doors" (.ref l.B3) (G++[⟨.lst,(S.lets.take j).map DS⟩])=.ok (.ref l.Ek,_):=EI (old _ _ x.Fn x.t1 _) rfl;have P9:B4 "Letter" "mark" (.ref l.B3) (G++[⟨.lst,(S.lets.take j).map DS⟩])=.ok (.int (l.m:Int),_):=EI (old _ _ x.Fn x.t1 _) rfl;have ga:B4 "Letter" "address" (.ref l.B3) (G++[⟨.lst,(S.lets.take j).map DS⟩])=.ok (.int (l.a:Int),_):=EI (old _ _ x.Fn x.t1 _) rfl;have Ga:AB (.ref l.Ek) (.int (-1)) (G++[⟨.lst,(S.lets.take j).map DS⟩])=.ok (A_ l.d,_):=V_ (us:=l.pre.map A_) (by rw[old _ _ x.CH x.Ca];simp[GV]);have Ou:∀H,Ff (.int 1) H=.ok (.int (-1),H):=λ_=>rfl;unfold ah;have t:(S.lets.take (j+1)).map DS=(S.lets.take j).map DS++[DS l]:=by rw[XS,CP DD,<-el];simp
    have ap:D6 DK (I 1) (Z (BE (Z (I 2) (Z (Aw (B4 "Letter" "mark") (I 3)) (Z (Aw (B4 "Letter" "address") (I 3)) (Z (A0 AB (I 4) η) (Z (A0 AB (I 4) ζ) A1)))))) A1) [ι,↥(.ref ⇑h),↥(.int (l.n:Int)),↥(.ref l.B3),↥(A_ l.d)] (G++[⟨.lst,(S.lets.take j).map DS⟩])=.ok (.non,G++[⟨.lst,(S.lets.take (j+1)).map DS⟩]):=by
     rw[I7 (n:=⇑h) (ws:=(S.lets.take j).map DS) (ws2:=(S.lets.take j).map DS) (us:=[DS l]) (ws':=(S.lets.take j).map DS++[DS l]) (r:=.non) (h1:=G++[⟨.lst,(S.lets.take j).map DS⟩]) (h2:=G++[⟨.lst,(S.lets.take j).map DS⟩]) rfl (by rw[<-V9];simp) ?_ (by rw[<-V9];simp) (by simp[DK]) (by simp[At];lia),t,<-V9]
     .simp
     .simp[P9,ga,A_,FW,IQ,At,DS,-Ud]
    rw[Ax,DU,Bb,HO,v_var,show[ι,↥(.ref ⇑h),↥(.int (l.n:Int)),↥(.ref l.B3),s4][3]?=↥↥(.ref l.B3)from rfl,CS,A2,L4,A2,HO,Bq,A2,Ou,A2,Ga,A2,OW,if_pos γ,A2,B1,Hv];rw[show([ι,↥(.ref ⇑h),↥(.int (l.n:Int)),↥(.ref l.B3),s4]:B9).set 4 ↥(A_ l.d)=[ι,↥(.ref ⇑h),↥(.int (l.n:Int)),↥(.ref l.B3),↥(A_ l.d)]from rfl,ap,A2];exact⟨_,_,rfl,_,_,_,DD,rfl,rfl⟩) Jv 0 [ι,↥(.ref ⇑h),none,none,none] (G++[⟨.lst,[]⟩]) ⟨_,_,_,Hy _,rfl,rfl⟩ (by unfold Jv;lia)
 obtain⟨_,_,FN,ρ,rfl,C3,rfl⟩:=B3;have hz:(G++[(⟨.lst,S.lets.map DS⟩:O)])[C.M+1]?=↥q:=CB G (by rw[Np];exact Hr R.el) _;have s2:WV (Aw (B4 "Run" "letters") (I 0)) (EY [(AA 2),(AA 3)]) ah [ι,↥(.ref ⇑h),none,none,none] (h++[⟨.lst,[]⟩])=.ok (.AR ρ,h++[⟨.lst,S.lets.map DS⟩]):=by unfold WV Qv Zb;rw[Hu,gl,A2];erw[CB h R.el];rw[ry _ _ (Fz R.el),<-eq,<-Np,FN];unfold qV;erw[hz,eq];rw[Np,e_ R.el];rfl
 have e:Mj [.ref C.r] h=((Yu [ι,none,none,none,none] h).bind outF).bind λp=>settle h p.1 p.2:=rfl;rw[e];rw[show Yu=AN (AX (Bg A1) (AA 1)) (AN (WV (Aw (B4 "Run" "letters") (I 0)) (EY [(AA 2),(AA 3)]) ah) (Au (I 1)))from rfl,Ax,s1,A2,B1,Ax,s2,A2,B1,Fb,v_var,C3,CS,A2,A2,H8,A2];exact Nc h _ rfl (H7 _ _ l5)
end
section
variable{C:ES}{P:Ia}{h:A5}{S:EE}{f:Nat->Nat}
def Dm.app(c:Dw C)(k:HX C P)(J:Dm C P h S f)(g:A5):Dm C P (h++g) S f:=J.to c k (λn AZ=>by
 have D5:=c.D5;have kt:=k.t;have AG:=J.AG;refine Gr ?_;rcases AZ with⟨a,_⟩|⟨_,a⟩|⟨y,AS,rfl⟩
 .have:=c.Dt;lia
 .lia
 .exact Fz (J.JN y AS).1) (by have:=J.AG;simp;lia)
theorem Gv.app(c:Dw C)(k:HX C P)(B:Gv C P h S f)(g:A5):Gv C P (h++g) S f:=⟨B.R.app g,B.L.app c k g,B.s⟩
def GH(S:EE):↑Int:=S.lets.map λl=>(l.n:Int)
def aeg(J:Dm C P h S f):LT.Jr (GH S)=GH S:=by refine List.mergeSort_of_pairwise ?_;rw[GH,S6];exact J.so.imp λe=>decide_eq_true δ
noncomputable def Ho(w:W)(C:ES)(S:EE):↑W:=S.lets.map (λl=>GY l.n)++if G1 C S=true then[w]else[]
def fE{w:W}(hw:DE w=true):Fg (Ho w C S)=true:=by
 rw[JI];intro x AM;rcases List.mem_append.mp AM with AM|AM
 .obtain⟨l,_,rfl⟩:=List.mem_map.mp AM;exact aaU l
 .split at AM
  .rw[List.mem_singleton.mp AM];exact hw
  .cases AM
def dW(c:Dw C)(R:Dh C h S)(D:NJ C S):Mi [.ref C.r] h=.ok (.ref ⇑h,h++[⟨.lst,Ho H0 C S⟩]):=by
 have few:=R.few;have le:=R.le;obtain⟨h1,AC⟩:∃h1,h1=h++[⟨.lst,S.lets.map λl=>GY l.n⟩]:=π;have Bd:=tK (it:=λAJ _=>Oe AJ) (m:=Aw (B4 "Run" "letters") (I 0)) (e:=BE (Z (pu (.str (AK "go"))) (Z (I 0) A1))) (ρ:=[ι,none]) (us:=(GH S).map W.int) (λw=>.tup [.str (AK "go"),w]) (by simp[GH];lia) (by rw[HO,v_var];exact EI R.BA rfl) R.el (λj h' Am=>by
  have Am:j<=⇑S.lets:=by simpa[GH]using Am
  unfold Oe GH;erw[CU,E5];by_cases q:j=⇑S.lets
  .rw[if_pos q,J9 δ];rfl
  .rw[if_neg q,CP δ];rfl) (λw hw acc=>by simp[At])
 have s1:AX (LW (λAJ _=>Oe AJ) 1 [] (Aw (B4 "Run" "letters") (I 0)) (AA 0) (pu true) (BE (Z (pu (.str (AK "go"))) (Z (I 0) A1)))) (AA 1) [ι,none] h=.ok (.AR [ι,↥(.ref ⇑h)],h1):=by rw[DU,Bd,A2,AC];simp[GH,GY,NC]
 have Cp:⇑h1=⇑h+1:=by rw[AC];simp
 have Es:h1[⇑h]?=↥⟨.lst,S.lets.map λl=>GY l.n⟩:=by rw[AC];simp
 have FJ:Bz "Run" "may_step" 0 NW (I 0) A1 [ι,↥(.ref ⇑h)] h1=.ok (.AL (G1 C S),h1):=Jk (us:=[]) rfl (by rw[AC];exact CB h R.BA _) rfl rfl rfl (dX c (by rw[AC];exact R.app _) D);have CV:⇑(S.lets.map λl=>GY l.n)+⇑(if G1 C S=true then[H0]else[])<=At:=by rw[CU];cases G1 C S<;>simp[At]<;>lia
 have s2:Bh (A0 addW (I 1) (LX (AT (Bz "Run" "may_step" 0 NW (I 0) A1)) (Bg (Z (pu H0) A1)) (Bg A1))) [ι,↥(.ref ⇑h)] h1=.ok (.ref ⇑h1,h1++[⟨.lst,Ho H0 C S⟩]):=by
  have q:LX (AT (Bz "Run" "may_step" 0 NW (I 0) A1)) (Bg (Z (pu H0) A1)) (Bg A1) [ι,↥(.ref ⇑h)] h1=.ok (.ref ⇑h1,h1++[⟨.lst,if G1 C S=true then[H0]else[]⟩]):=by rw[qe,GM,FJ,A2,Gj,A2];cases G1 C S<;>simp[nw,At]
  rw[FD,Bb,v_var,show([ι,↥(.ref ⇑h)]:B9)[1]?=↥↥(.ref ⇑h)from rfl,CS,A2,q,A2,Lb (CB h1 Es _) γ CV,A2];exact IU _ _ γ γ (by rw[MM γ];simp[Ho]) (fE rfl)
 have e:Mi [.ref C.r] h=((YM [ι,none] h).bind outF).bind λp=>settle h p.1 p.2:=rfl;rw[e];unfold YM;rw[Ax,s1,A2,B1,Fb,s2,A2,A2,H8,A2];exact IU _ _ (by rw[AC];simp) δ γ (fE rfl)
end
section
variable{C:ES}{P:Ia}{h:A5}{S:EE}{f:Nat->Nat}
def abD(J:Dm C P h S f){l:Lt}(AG:l∈S.lets):AB (.ref (C.M+5)) (.int (l.n:Int)) h=.ok (Dp f l,h):=by
 obtain⟨CA,B5,es⟩:=pZ AG;have nn:=J.nn;rw[Cj,es,EB,HD]at nn;have Bt:h[C.M+5]?=↥⟨.Ak (CA.map E7++E7 l::B5.map E7),CA.map (Dp f)++Dp f l::B5.map (Dp f)⟩:=by rw[J.Bt,es];simp
 unfold AB;rw[dH Bt,show Dg (CA.map E7++E7 l::B5.map E7) (CA.map (Dp f)++Dp f l::B5.map (Dp f)) (.inl (l.n:Int))=↥(Dp f l)from Wv (Vb (fG nn).1) γ]
def lU(J:Dm C P h S f)(g:A5){s1 s2 s3 s4 s5:Option W}(FM:Dm C P (h++g) S f)(few:⇑S.lets<64)(r:↑(Option W)):DR (B6 Mv (Z (A0 AB (I 0) (pu (.str (AK "letters")))) A1)) (↥μ::r) (h++g)=.ok (FI (.ref ⇑(h++g)),h++g++[⟨.lst,Fh (GH S)⟩]):=by refine K3 (ws:=Fh (GH S)) γ ?_;have so:=pW S.lets FM.Bt few;rw[show(S.lets.map λl=>(l.n:Int))=GH S from rfl,aeg FM]at so;simp[TP FM,so]
def aal(k:HX C P)(c:Dw C)(J:Dm C P h S f)(AI:S.Bn<64):TN [.ref (C.M+3)] h=.ok (.ref ⇑h,h++[⟨.lst,Ho GL C S⟩]):=by
 have E9:=J.E9;obtain⟨h1,AC⟩:∃h1,h1=h++[⟨.lst,Fh (GH S)⟩]:=π;have it:=lU (s1:=none) (s2:=none) (s3:=none) (s4:=none) (s5:=none) J [] (by rw[Io];exact J) δ [none];rw[Io,<-AC]at it;have Es:h1[⇑h]?=↥⟨.lst,Fh (GH S)⟩:=by rw[AC];simp
 have Bd:=Pi (mi:=_) (it:=FI (.ref ⇑h)) (g:=AA 0) (t:=pu true) (e:=BE (Z (pu (.str (AK "go"))) (Z (I 0) A1))) (ρ:=[↥μ,none]) (h:=h1) (h0:=h) (nl:=1) (caps:=[]) (Fh (GH S)) (λ_=>true) (λw=>.tup [.str (AK "go"),w]) (λρ=>∃s,ρ=[s]) (by simp[Fh,GH];lia) it ⟨none,rfl⟩ (λj acc _=>T1 Es _ j) (by rintro w hw ρ acc ⟨s,rfl⟩;exact⟨[↥w],rfl,⟨_,rfl⟩,rfl,λ_=>by simp[At]⟩)
 rw[List.filter_eq_self.mpr (λ_ _=>rfl),show(Fh (GH S)).map (λw=>W.tup [.str (AK "go"),w])=S.lets.map λl=>GY l.n by simp[Fh,GH,GY,NC]]at Bd;obtain⟨h2,AH⟩:∃h2,h2=h1++[⟨.lst,S.lets.map λl=>GY l.n⟩]:=π;rw[<-AH]at Bd;have Cp:⇑h1=⇑h+1:=by rw[AC];simp
 have Ec:h2[⇑h1]?=↥⟨.lst,S.lets.map λl=>GY l.n⟩:=by rw[AH];simp
 have BN:Dm C P h2 S f:=by rw[AH,AC,EB];exact J.app c k _
 have cl:Ae 1 Oq (Z (I 0) A1) [↥μ,↥(.ref ⇑h1)] h2=.ok (.AL (G1 C S),h2):=IM (us:=[.ref (C.M+3)]) rfl rfl (dz k c BN);have s2:BU (AT (Ae 1 Oq (Z (I 0) A1))) (E_ (D6 DK (I 1) (Z (BE (Z (pu (.str (AK "step"))) A1)) A1))) BR [↥μ,↥(.ref ⇑h1)] h2=.ok (.AR [↥μ,↥(.ref ⇑h1)],h1++[⟨.lst,Ho GL C S⟩]):=by
  rw[Db,GM,cl,A2,Gj,A2];unfold Ho;cases G1 C S
  .rw[if_neg γ,FC,AH];simp
  .rw[if_pos rfl,Hv,I7 (n:=⇑h1) (us:=[GL]) (ws':=(S.lets.map λl=>GY l.n)++[GL]) (r:=.non) (h1:=h2) (h2:=h2) rfl Ec (by simp[At,GL]) Ec (by simp[DK]) (by simp[At];lia),A2,AH];simp
 have e:TN [.ref (C.M+3)] h=((Z9 [↥μ,none] h).bind outF).bind λp=>settle h p.1 p.2:=rfl;rw[e];unfold Z9;rw[Ax,DU,Bd,A2,OW,if_pos γ,A2,B1,Ax,show([↥μ,none]:B9).set 1 ↥(.ref ⇑h1)=[↥μ,↥(.ref ⇑h1)]from rfl,s2,A2,B1,Fb,v_var,show([↥μ,↥(.ref ⇑h1)]:B9)[1]?=↥↥(.ref ⇑h1)from rfl,CS,A2,A2,H8,A2];exact IU _ _ (by rw[AC,EB];simp) δ γ (fE rfl)
noncomputable def dT:Ai:=(AN (MD (A0 AB (A0 AB (I 0) (pu (.str (AK "letters")))) (I 2)) (EY [(AA 3),(AA 4),(AA 5)]))
    (E_ (D6 DK (I 1) (Z (BE (Z (I 2) (Z (I 3) (Z (I 4) (Z (A0 AB (A0 AB (I 5) (Aw Ff ζ)) η) (Z (A0 AB (A0 AB (I 5) (Aw Ff ζ)) ζ) A1)))))) A1))))
def aab(k:HX C P)(c:Dw C)(J:Dm C P h S f)(AI:S.Bn<64):TO [.ref (C.M+3)] h=.ok (.ref ⇑h,h++[⟨.lst,S.lets.map DS⟩]):=by
 have E9:=J.E9;have it:=lU (s1:=none) (s2:=none) (s3:=none) (s4:=none) (s5:=none) J [⟨.lst,[]⟩] (J.app c k _) δ [↥(.ref ⇑h),none,none,none,none];rw[EB,Em]at it
 have B3:=Pm (mi:=_) (it:=FI (.ref (⇑h+1))) (g:=AA 2) (b:=dT) (ρ:=[↥μ,↥(.ref ⇑h),none,none,none,none]) (h:=h++[⟨.lst,[]⟩]) (h0:=h++[⟨.lst,[]⟩,⟨.lst,Fh (GH S)⟩]) (Fh (GH S)) (by simp[Fh,GH];lia)
  (λj ρ H=>∃s2 s3 s4 s5,ρ=[↥μ,↥(.ref ⇑h),s2,s3,s4,s5]/\H=h++[⟨.lst,(S.lets.take j).map DS⟩,⟨.lst,Fh (GH S)⟩]) (T:=λDi H=>∃ρ,Di=.AR ρ/\ρ[1]?=↥↥(.ref ⇑h)/\H=h++[⟨.lst,S.lets.map DS⟩,⟨.lst,Fh (GH S)⟩]) it (λj ρ H _ q=>by obtain⟨_,_,_,_,rfl,rfl⟩:=q;exact Mh γ j) ⟨none,none,none,none,rfl,rfl⟩ (by
  rintro j w ρ H C_ ⟨s2,s3,s4,s5,rfl,rfl⟩;have Am:j< ⇑S.lets:=by have:=(List.getElem?_eq_some_iff.mp C_).1;simpa[Fh,GH]using this
  obtain⟨l,el⟩:∃l,l=S.lets[j]:=π;have J2:l∈S.lets:=by rw[el];exact JD _
  obtain rfl:w=.int (l.n:Int):=by rw[Fh,GH,hC,E5,CP Am,<-el]at C_;exact(GC C_).symm
  obtain⟨H,C4⟩:∃H,H=h++[(⟨.lst,(S.lets.take j).map DS⟩:O),⟨.lst,Fh (GH S)⟩]:=π;rw[<-C4];have c0:Dm C P H S f:=by rw[C4];exact J.app c k _
  have IE:H[⇑h]?=↥⟨.lst,(S.lets.take j).map DS⟩:=by rw[C4];simp
  have Ep:=(c0.JN l (Tc J2)).1;have Ga:AB (.ref (f l.n)) (.int (-1)) H=.ok (A_ l.d,H):=V_ (us:=l.pre.map A_) (by rw[Ep];simp[GV]);have Ou:∀H,Ff (.int 1) H=.ok (.int (-1),H):=λ_=>rfl;refine⟨[↥μ,↥(.ref ⇑h),↥(.int (l.n:Int)),s3,s4,s5],H,rfl,.AR [↥μ,↥(.ref ⇑h),↥(.int (l.n:Int)),↥(.int (l.m:Int)),↥(.int (l.a:Int)),↥(.ref (f l.n))],_,?_,⟨_,_,_,_,rfl,rfl⟩⟩;have t:(S.lets.take (j+1)).map DS=(S.lets.take j).map DS++[DS l]:=by rw[XS,CP Am,<-el];simp
  have s1:MD (A0 AB (A0 AB (I 0) (pu (.str (AK "letters")))) (I 2)) (EY [(AA 3),(AA 4),(AA 5)]) [↥μ,↥(.ref ⇑h),↥(.int (l.n:Int)),s3,s4,s5] H=.ok (.AR [↥μ,↥(.ref ⇑h),↥(.int (l.n:Int)),↥(.int (l.m:Int)),↥(.int (l.a:Int)),↥(.ref (f l.n))],H):=by simp[TP c0,abD c0 J2,Dp]
  unfold dT;rw[Ax,s1,A2,B1,Hv,I7 (n:=⇑h) (us:=[DS l]) (ws':=(S.lets.take j).map DS++[DS l]) (r:=.non) (h1:=H) (h2:=H) rfl IE (by simp[Ou,Ga,A_,FW,IQ,At,DS]) IE (by simp[DK]) (by simp[At];lia),A2,C4,t];simp) (by
  rintro ρ H ⟨s2,s3,s4,s5,rfl,rfl⟩;refine⟨_,rfl,rfl,?_⟩;rw[UO (by simp[Fh,GH])])
 obtain⟨_,_,FN,ρ,rfl,C3,rfl⟩:=B3.Gc;have e:TO [.ref (C.M+3)] h=((ZD [↥μ,none,none,none,none,none] h).bind outF).bind λp=>settle h p.1 p.2:=rfl;have s1:AX (Bg A1) (AA 1) [↥μ,none,none,none,none,none] h=.ok (.AR [↥μ,↥(.ref ⇑h),none,none,none,none],h++[⟨.lst,[]⟩]):=by simp[nw,At]
 rw[e,show ZD=AN (AX (Bg A1) (AA 1)) (AN (Eo (DR (B6 Mv (Z (A0 AB (I 0) (pu (.str (AK "letters")))) A1))) (AA 2) dT) (Au (I 1)))from rfl,Ax,s1,A2,B1,Ax,K7,FN,A2,B1,Fb,v_var,C3,CS,A2,A2,H8,A2];exact Nc h _ rfl (H7 _ _ l5)
end
section
variable{C:ES}{P:Ia}{h:A5}{S:EE}{f:Nat->Nat}
noncomputable def IR(q:Nat)(e:Lt×Tl):W:=.tup [.int (e.1.n:Int),.int (e.1.m:Int),A_ (PD e.1),.int (e.1.a:Int),.ref q,CQ e.2]
noncomputable def G7:Nat->↑(Lt×Tl)->↑W
 |_,[]=>[]
 |q,e::r=>IR q e::G7 (q+1) r
theorem k7(x:Lt×Tl):∀(L:↑(Lt×Tl))(q:Nat),G7 q (L++[x])=G7 q L++[IR (q+⇑L) x]
 |[],q=>rfl
 |e::r,q=>by rw[HD,G7,k7 x r,DX,show q+1+⇑r=q+(⇑r+1)by lia];rfl
theorem RM:∀(L:↑(Lt×Tl))(q:Nat),⇑(G7 q L)=⇑L
 |[],_=>rfl
 |_::r,q=>by rw[G7,DX,RM r,DX]
noncomputable def Tg:Ai:=E_ (D6 DK (I 1) (Z (Bh (BE (Z (I 2) (Z (Aw (B4 "Letter" "mark") (I 3)) (Z (A0 AB (Aw (B4 "Letter" "doors") (I 3)) η) (Z (Aw (B4 "Letter" "address") (I 3)) (Z (B6 FA (Z (Aw (B4 "Letter" "doors") (I 3)) A1)) (Z (I 4) A1)))))))) A1))
noncomputable def Fu(h:A5)(E:↑(Lt×Tl)):A5:=h++(⟨.lst,G7 (⇑h+1) E⟩::E.map λe=>GV e.1)
def aC(c:Dw C)(R:Dh C h S)(hm:S.D7<900000):LY [.ref C.r] h=.ok (.ref ⇑h,Fu h S.ended):=by
 have few:=R.few;have le:=R.le
 have B3:=Pm (mi:=DR (Aw (B4 "Run" "ended") (I 0))) (it:=FI (.ref (C.M+2))) (g:=EY [(AA 2),(AA 3),(AA 4)]) (b:=Tg) (ρ:=[ι,↥(.ref ⇑h),none,none,none]) (h:=Fu h []) (h0:=Fu h []) (S.ended.map Nq) (by simp;lia)
  (λj ρ H=>∃s2 s3 s4,ρ=[ι,↥(.ref ⇑h),s2,s3,s4]/\H=Fu h (S.ended.take j)) (T:=λDi H=>∃ρ,Di=.AR ρ/\ρ[1]?=↥↥(.ref ⇑h)/\H=Fu h S.ended) (K3 (CB h R.Iw _) (by rw[HO,v_var];exact EI (CB h R.BA _) rfl)) (λj ρ H _ q=>by obtain⟨_,_,_,rfl,rfl⟩:=q;exact Mh (CB h R.Iw _) j) ⟨none,none,none,rfl,rfl⟩ (by
  rintro j w ρ H C_ ⟨s2,s3,s4,rfl,C4⟩;have Am:j< ⇑S.ended:=by have:=(List.getElem?_eq_some_iff.mp C_).1;simpa using this
  obtain⟨e,Iw⟩:∃e,e=S.ended[j]:=π;obtain rfl:w=Nq e:=by rw[E5,CP Am,<-Iw]at C_;exact(GC C_).symm
  have t:S.ended.take (j+1)=S.ended.take j++[e]:=by rw[XS,CP Am,<-Iw];rfl
  have lt:⇑(S.ended.take j)=j:=by rw[Ku];lia
  obtain⟨E,Vm⟩:∃E,E=S.ended.take j:=π;rw[<-Vm]at t lt C4;have x:=R.lt e.1 (VU (by rw[Iw];exact JD _));have pr:=R.pr e.1 (VU (by rw[Iw];exact JD _));have LS:⇑H=⇑h+1+j:=by rw[C4];simp[Fu,lt];lia
  have ff:H[e.1.B3]?=↥(Q4 e.1):=by rw[C4];exact CB h x.Fn _
  have S0:H[e.1.Ek]?=↥(GV e.1):=by rw[C4];exact CB h x.CH _
  have IE:H[⇑h]?=↥⟨.lst,G7 (⇑h+1) E⟩:=by rw[C4];simp[Fu]
  have P9:B4 "Letter" "mark" (.ref e.1.B3) H=.ok (.int (e.1.m:Int),H):=EI ff rfl;have ga:B4 "Letter" "address" (.ref e.1.B3) H=.ok (.int (e.1.a:Int),H):=EI ff rfl;have L4:B4 "Letter" "doors" (.ref e.1.B3) H=.ok (.ref e.1.Ek,H):=EI ff rfl;have JL:AB (.ref e.1.Ek) (.int 0) H=.ok (A_ (PD e.1),H):=by refine Gk (k:=0) S0 ?_;cases Aq:e.1.pre<;>simp[Aq,PD]
  have Su:FA [.ref e.1.Ek] H=.ok (.ref ⇑H,H++[GV e.1]):=T0 (H9 _ S0) (by simp[At];lia);refine⟨[ι,↥(.ref ⇑h),↥(.int (e.1.n:Int)),↥(.ref e.1.B3),↥(CQ e.2)],H,by simp[Nq],.AR [ι,↥(.ref ⇑h),↥(.int (e.1.n:Int)),↥(.ref e.1.B3),↥(CQ e.2)],_,?_,⟨_,_,_,rfl,rfl⟩⟩;have Rx:Bh (BE (Z (I 2) (Z (Aw (B4 "Letter" "mark") (I 3)) (Z (A0 AB (Aw (B4 "Letter" "doors") (I 3)) η) (Z (Aw (B4 "Letter" "address") (I 3)) (Z (B6 FA (Z (Aw (B4 "Letter" "doors") (I 3)) A1)) (Z (I 4) A1))))))) [ι,↥(.ref ⇑h),↥(.int (e.1.n:Int)),↥(.ref e.1.B3),↥(CQ e.2)] H=.ok (IR ⇑H e,H++[GV e.1]):=by
   have z:BE (Z (I 2) (Z (Aw (B4 "Letter" "mark") (I 3)) (Z (A0 AB (Aw (B4 "Letter" "doors") (I 3)) η) (Z (Aw (B4 "Letter" "address") (I 3)) (Z (B6 FA (Z (Aw (B4 "Letter" "doors") (I 3)) A1)) (Z (I 4) A1)))))) [ι,↥(.ref ⇑h),↥(.int (e.1.n:Int)),↥(.ref e.1.B3),↥(CQ e.2)] H=.ok (IR ⇑H e,H++[GV e.1]):=by simp[P9,ga,L4,JL,Su,At,IR]
   rw[FD,z,A2];exact bG (Rp _ _) (by simp[Fg,DE])
  unfold Tg;rw[Hv,I7 (n:=⇑h) (us:=[IR ⇑H e]) (ws:=G7 (⇑h+1) E) (ws2:=G7 (⇑h+1) E) (ws':=G7 (⇑h+1) E++[IR ⇑H e]) (r:=.non) (h1:=H) (h2:=H++[GV e.1]) rfl IE (by rw[CG,Rx,A2,CY];rfl) (CB H IE _) (by simp[DK]) (by simp[At,RM];lia),A2,t,LS];unfold Fu;rw[k7,C4,lt];simp[Fu]) (by
  rintro ρ H ⟨s2,s3,s4,rfl,rfl⟩;exact⟨_,rfl,rfl,by rw[UO γ]⟩)
 obtain⟨_,_,FN,ρ,rfl,C3,rfl⟩:=B3.Gc;have e:LY [.ref C.r] h=(Xy [ι,none,none,none,none] h).bind outF:=rfl;have s1:AX (Bg A1) (AA 1) [ι,none,none,none,none] h=.ok (.AR [ι,↥(.ref ⇑h),none,none,none],Fu h []):=by simp[nw,At,Fu,G7]
 rw[e,show Xy=AN (AX (Bg A1) (AA 1)) (AN (Eo (DR (Aw (B4 "Run" "ended") (I 0))) (EY [(AA 2),(AA 3),(AA 4)]) Tg) (Au (I 1)))from rfl,Ax,s1,A2,B1,Ax,K7,FN,A2,B1,Fb,v_var,C3,CS,A2];rfl
noncomputable def Pk(d:Af):Cn:=.Cg true [.int (d.1:Nat),.int (d.2:Nat)]
noncomputable def af:Tl->Cn
 |.at d=>.Cg true [.str (AK "at"),.int (d.1:Int),.int (d.2:Int)]
 |.drop h=>.Cg true [.str (AK "drop"),.int (h:Int)]
 |.out d=>.Cg true [.str (AK "out"),.int (d.1:Int),.int (d.2:Int)]
 |.NT h=>.Cg true [.str (AK "lost"),.int (h:Int)]
noncomputable def Th(e:Lt×Tl):Cn:=.Cg true [.int (e.1.n:Int),.int (e.1.m:Int),Pk (PD e.1),.int (e.1.a:Int),.Cg false ((e.1.pre++[e.1.d]).map Pk),af e.2]
def lr(H:A5)(e:Lt×Tl){p:Nat}(z:H[p]?=↥(GV e.1)):CD 7 H (IR p e)=↥(Th e):=by
 have r:CD 6 H (.ref p)=↥(.Cg false ((e.1.pre++[e.1.d]).map Pk)):=by show(match E2 H (.ref p)with|some (t,ws)=>(ws.mapM (CD 5 H)).map (Cn.Cg t)|none=>none)=_;rw[H9 H z];erw[Tu (r:=CD 5 H) (f:=A_) (g:=Pk) λd _=>by simp[A_,Pk,CD],Qd]
 have t:CD 6 H (CQ e.2)=↥(af e.2):=by cases e.2<;>simp[CQ,af,CD]
 have d:∀x,CD 6 H (A_ x)=↥(Pk x):=λx=>by simp[A_,Pk,CD]
 show(match E2 H (IR p e)with|some (t,ws)=>(ws.mapM (CD 6 H)).map (Cn.Cg t)|none=>none)=_;simp[IR,Th,r,t,d,show ∀i,CD 6 H (.int i)=↥(.int i)from λ_=>rfl]
def abh(e:Lt×Tl):Fw 7 (Th e)=true:=by cases BV:e.2<;>simp[Th,Fw,Pk,af,BV]
theorem lu(H:A5):∀(L:↑(Lt×Tl))(q:Nat),(∀(i:Nat) e,L[i]?=↥e->H[q+i]?=↥(GV e.1))->(G7 q L).mapM (CD 7 H)=↥(L.map Th)
 |[],_,_=>rfl
 |e::r,q,z=>by rw[G7,Q_,lr H e (p:=q) (z 0 e rfl:),lu H r (q+1) λi x AM=>by rw[show q+1+i=q+(i+1)by lia];exact z (i+1) x (AM:)];rfl
def ab5(e:Lt×Tl):HL f e=IR (f e.1.n) e:=rfl
def de(i:Nat)(e:Lt×Tl)(z:S.ended[i]?=↥e):(Fu h S.ended)[⇑h+1+i]?=↥(GV e.1):=by unfold Fu;rw[show⇑h+1+i=⇑h+(1+i)by lia,PB,show 1+i=i+1 by lia,EG,E5,z];rfl
def yU(k:HX C P)(c:Dw C)(J:Dm C P h S f)(b:Bool):Ap b (.ref ⇑h) (.ref (C.M+6)) (Fu h S.ended)=.ok (.AL b,Fu h S.ended):=by
 have FM:Dm C P (Fu h S.ended) S f:=J.app c k _;refine cc (ds:=S.ended.map Th) b (by simp[Fu]) FM.U9.1 (lu _ _ _ de) (Tu λe he=>?_) λd hd=>?_
 .rw[ab5];exact lr _ e (FM.JN e.1 (VU he)).1
 .obtain⟨e,_,rfl⟩:=List.mem_map.mp hd;exact abh e
end
section
variable{C:ES}{P:Ia}{h:A5}{S:EE}{f:Nat->Nat}
def agE{H:A5}{a b:Nat}(BW:H[a]?=↥⟨.lst,S.lets.map DS⟩)(BI:H[b]?=↥⟨.lst,S.lets.map DS⟩):Ap false (.ref a) (.ref b) H=.ok (.AL false,H):=
 cc (ds:=S.lets.map ai) false BW BI (Tu λl _=>nV H l) (Tu λl _=>nV H l) λd hd=>by obtain⟨l,_,rfl⟩:=List.mem_map.mp hd;simp[ai,Fw]
def lx(H:A5){w:W}(hw:CD 7 H w=↥(.Cg true [.str (AK "step")])):(Ho w C S).mapM (CD 7 H)=↥(S.lets.map (λl=>Cn.Cg true [.str (AK "go"),.int (l.n:Int)])++if G1 C S=true then[.Cg true [.str (AK "step")]]else[]):=by
 have a:(S.lets.map λl=>GY l.n).mapM (CD 7 H)=↥(S.lets.map λl=>Cn.Cg true [.str (AK "go"),.int (l.n:Int)]):=Tu λl _=>by simp[GY,CD]
 unfold Ho;rw[List.mapM_append,a];cases G1 C S
 .rfl
 .rw[if_pos rfl,if_pos rfl,Q_,hw];rfl
def aam{H:A5}{a b:Nat}(BW:H[a]?=↥⟨.lst,Ho H0 C S⟩)(BI:H[b]?=↥⟨.lst,Ho GL C S⟩):Ap false (.ref a) (.ref b) H=.ok (.AL false,H):=by
 refine cc _ BW BI (lx H (by simp[H0,CD])) (lx H (by simp[GL,CD])) λd hd=>?_;rcases List.mem_append.mp hd with hd|hd
 .obtain⟨l,_,rfl⟩:=List.mem_map.mp hd;simp[Fw]
 .split at hd
  .rw[List.mem_singleton.mp hd];simp[Fw]
  .cases hd
noncomputable def ZW:Ai:=(AN (AX (A0 BK (A0 addW (I 3) (I 2)) (pu (.int 4))) (AA 4))
    (AN (BU (Eg (AT (A0 (Ap true) (I 4) η)) (AT (A0 (Ap false) (Bz "Run" "under" 0 Mj (I 0) A1) (Ae 1 TO (Z (I 1) A1))))) (Au (pu (.AL false))) BR)
    (AN (BU (Eg (AT (A0 (Ap true) (I 4) ζ)) (AT (A0 (Ap false) (Bz "Run" "journal" 0 LY (I 0) A1) (A0 AB (I 1) (pu (.str (AK "ended"))))))) (Au (pu (.AL false))) BR)
    (AN (BU (Eg (AT (A0 (Ap true) (I 4) (pu (.int 2)))) (AT (A0 (Ap false) (Bz "Run" "may" 0 Mi (I 0) A1) (Ae 1 TN (Z (I 1) A1))))) (Au (pu (.AL false))) BR)
    (BU (Eg (AT (A0 (Ap true) (I 4) (pu (.int 3)))) (AT (A0 (Ap false) (Bz "Run" "place" 0 KH (I 0) A1) (A0 AB (I 1) (pu (.str (AK "done"))))))) (Au (pu (.AL false))) BR)))))
def Z_{m:B7}{ρ:B9}{x:Int}(i:Int)(Cc:ρ[4]?=↥↥(.int x))(B:Gv C P h S f)(q:∀h,Gv C P h S f->∃g,m ρ h=.ok (.AL false,h++g)):∃g,BU (Eg (AT (A0 (Ap true) (I 4) (pu (.int i)))) (AT m)) (Au (pu (.AL false))) BR ρ h=.ok (.AR ρ,h++g):=by
 obtain⟨g,e⟩:=q h B;rw[Db,v_and,GM,Bb,v_var,Cc,CS,A2,Bq,A2,U1,A2,Gj,A2];by_cases z:x=i
 .exact⟨g,by rw[if_pos (z:),GM,e,A2,Gj,A2,if_neg γ,FC]⟩
 .exact⟨[],by rw[if_neg (z:),A2,if_neg γ,FC,Io]⟩
def lO(k:HX C P)(c:Dw C)(B:Gv C P h S f)(AI:S.Bn<64)(hm:S.D7<900000)(NP:Int):Mm [.ref C.r,.ref (C.M+3),.int NP] h=.ok (.AL true,h):=by
 have B3:=R5 (mi:=Dr (Z (pu (.int 4)) A1)) (g:=AA 3) (b:=ZW) (ρ:=[ι,↥μ,↥(.int NP),none,none]) (h:=h) (h0:=h) 0 4 δ
  (λ_ ρ H=>∃s3 s4 g,ρ=[ι,↥μ,↥(.int NP),s3,s4]/\H=h++g) (T:=λDi H=>∃ρ g,Di=.AR ρ/\H=h++g) (LN (n:=4) rfl δ) ⟨none,none,[],rfl,(Io h).symm⟩ (by
  rintro j ρ H Am ⟨s3,s4,Jb,rfl,rfl⟩;obtain⟨ρ,C3⟩:∃ρ:B9,ρ=[ι,↥μ,↥(.int NP),↥(.int (0+j)),↥(.int (((0:Int)+j+NP)%4))]:=π;have Cc:ρ[4]?=↥↥(.int (((0:Int)+j+NP)%4)):=by rw[C3];rfl
  have v0:∀H,I 0 ρ H=.ok (.ref C.r,H):=by rw[C3];exact λ_=>rfl
  have v1:∀H,I 1 ρ H=.ok (.ref (C.M+3),H):=by rw[C3];exact λ_=>rfl
  have cl:∀{mf:Bi}{H:A5}{r:R (W×A5)},mf [.ref (C.M+3)] H=r->Ae 1 mf (Z (I 1) A1) ρ H=r:=λe=>IM (us:=[.ref (C.M+3)]) (by rw[CG,v1,A2,CY];rfl) rfl e;have mt:∀{x:Str}{mf:Bi}{H:A5}{r:R (W×A5)},Gv C P H S f->Dg b8 (Ms C.Jm C.LH C.DY C.pl C.M S.Bn).ws x=none->mf [.ref C.r] H=r->Bz "Run" x 0 mf (I 0) A1 ρ H=r:=λB v e=>Jk (us:=[]) (v0 _) B.R.BA v rfl rfl e;obtain⟨g1,q1⟩:=Z_ (m:=A0 (Ap false) (Bz "Run" "under" 0 Mj (I 0) A1) (Ae 1 TO (Z (I 1) A1))) 0 Cc (B.app c k Jb) λH B=>⟨_,by
   rw[Bb,mt B rfl (gE c B.R),A2,cl (aab k c (B.app c k _).L AI),A2,agE (S:=S) (CB _ γ _) γ,EB]⟩
  obtain⟨g2,q2⟩:=Z_ (m:=A0 (Ap false) (Bz "Run" "journal" 0 LY (I 0) A1) (A0 AB (I 1) (pu (.str (AK "ended"))))) 1 Cc (B.app c k (Jb++g1)) λH B=>⟨_,by
   have BN:Dm C P (Fu H S.ended) S f:=B.L.app c k _;rw[Bb,mt B rfl (aC c B.R hm),A2,Bb,v1,A2,Bq,A2,xT BN,A2];exact yU k c B.L false⟩
  obtain⟨g3,Ea⟩:=Z_ (m:=A0 (Ap false) (Bz "Run" "may" 0 Mi (I 0) A1) (Ae 1 TN (Z (I 1) A1))) 2 Cc (B.app c k (Jb++g1++g2)) λH B=>⟨_,by
   rw[Bb,mt B rfl (dW c B.R B.L.D),A2,cl (aal k c (B.app c k _).L AI),A2,aam (S:=S) (C:=C) (CB _ γ _) γ,EB]⟩
  obtain⟨g4,KM⟩:=Z_ (m:=A0 (Ap false) (Bz "Run" "place" 0 KH (I 0) A1) (A0 AB (I 1) (pu (.str (AK "done"))))) 3 Cc (B.app c k (Jb++g1++g2++g3)) λH B=>⟨[],by
   rw[Bb,mt B rfl (ef B.R),A2,Bb,v1,A2,Bq,A2,Sv B.L,A2,abV,Io];simp⟩
  have s0:AX (A0 BK (A0 addW (I 3) (I 2)) (pu (.int 4))) (AA 4) [ι,↥μ,↥(.int NP),↥(.int (0+j)),s4] (h++Jb)=.ok (.AR ρ,h++Jb):=by rw[C3];simp
  refine⟨_,_,rfl,.AR ρ,_,?_,⟨_,_,Jb++g1++g2++g3++g4,C3,rfl⟩⟩;erw[EB]at q1 q2 Ea KM |-;show ZW [ι,↥μ,↥(.int NP),↥(.int (0+j)),s4] (h++Jb)=_;unfold ZW;rw[Ax,s0,A2,B1,Ax,q1,A2,B1,Ax,q2,A2,B1,Ax,Ea,A2,B1,KM]) (by
  rintro ρ H ⟨_,_,g,_,rfl⟩;exact⟨_,g,rfl,rfl⟩)
 obtain⟨_,_,FN,ρ,g,rfl,rfl⟩:=B3.Gc;have e:Mm [.ref C.r,.ref (C.M+3),.int NP] h=((Z8 [ι,↥μ,↥(.int NP),none,none] h).bind outF).bind λp=>settle h p.1 p.2:=rfl;rw[e,show Z8=AN (Eo (Dr (Z (pu (.int 4)) A1)) (AA 3) ZW) (Au (pu (.AL true)))from rfl,Ax,K7,FN,A2,B1,Fb,Bq,A2,A2,H8,A2];exact Ru _ _ _ rfl
end
section
variable{C:ES}{P:Ia}{h:A5}{S:EE}{f:Nat->Nat}
theorem Zg{w:W}:∀{L:↑(Lt×Tl)}{q:Nat},w∈G7 q L->∃i e,L[i]?=↥e/\w=IR (q+i) e
 |e::r,q,hw=>by
  rcases List.mem_cons.mp hw with rfl|hw
  .exact⟨0,e,rfl,rfl⟩
  .obtain⟨i,x,AM,rfl⟩:=Zg hw;exact⟨i+1,x,(AM:),by rw[show q+1+i=q+(i+1)by lia]⟩
def Rm(s_:Dh C h S){x:Str}{mf:Bi}{ρ:B9}{r:R (W×A5)}(h0:ρ[0]?=↥ι)(v:Dg b8 (Ms C.Jm C.LH C.DY C.pl C.M S.Bn).ws x=none)(e:mf [.ref C.r] h=r):Bz "Run" x 0 mf (I 0) A1 ρ h=r:=
 Jk (us:=[]) (by rw[v_var,h0];rfl) s_.BA v rfl rfl e
def xI(c:Dw C)(R:Dh C h S)(D:NJ C S)(AI:S.Bn<64)(hm:S.D7<900000):Wj [.ref C.r] h=.ok (.AL true,h):=by
 have le:=R.le;obtain⟨ρ,C3⟩:∃ρ:Option W->B9,ρ=λs=>[ι,s]:=π;have JL:∀s,(ρ s)[0]?=↥ι:=λs=>by rw[C3];rfl
 obtain⟨H1,AC⟩:∃H1,H1=h++[⟨.lst,S.lets.map DS⟩]:=π;have Ha:Dh C H1 S:=by rw[AC];exact R.app _
 have En:Dh C (Fu H1 S.ended) S:=Ha.app _;obtain⟨AU,AH⟩:∃AU,AU=Fu H1 S.ended:=π;rw[<-AH]at En;obtain⟨Bv,D_⟩:∃Bv,Bv=AU++[⟨.lst,S.lets.map DS++G7 (⇑H1+1) S.ended⟩]:=π;have cH:Dh C Bv S:=by rw[D_];exact En.app _
 obtain⟨Cb,Jz⟩:∃Cb,Cb=Bv++[⟨.lst,Ho H0 C S⟩]:=π;obtain⟨X,dM⟩:∃X,X=S.lets.map DS++G7 (⇑H1+1) S.ended++Ho H0 C S:=π;have J2:⇑(Ho H0 C S)<=⇑S.lets+1:=by unfold Ho;cases G1 C S<;>simp
 have aiR:⇑X<200:=by rw[dM];simp[RM];lia
 have it:A0 addW (A0 addW (Bz "Run" "under" 0 Mj (I 0) A1) (Bz "Run" "journal" 0 LY (I 0) A1)) (Bz "Run" "may" 0 Mi (I 0) A1) (ρ none) h=.ok (.ref ⇑Cb,Cb++[⟨.lst,X⟩]):=by
  have a1:AU[⇑h]?=↥⟨.lst,S.lets.map DS⟩:=by rw[AH];exact CB H1 (by rw[AC];simp) _
  have a2:AU[⇑H1]?=↥⟨.lst,G7 (⇑H1+1) S.ended⟩:=by rw[AH];simp[Fu]
  rw[Bb,Bb,Rm R (JL _) rfl (gE c R),A2,<-AC,Rm Ha (JL _) rfl (aC c Ha hm),A2,<-AH,Lb a1 a2 (by simp[At,RM];lia),A2,<-D_,Rm cH (JL _) rfl (dW c cH D),A2,<-Jz,
   Lb (h:=Cb) (a:=S.lets.map DS++G7 (⇑H1+1) S.ended) (b:=Ho H0 C S) (by rw[Jz];exact CB Bv (by rw[D_];simp) _) (by rw[Jz];simp) (by simp[At,RM];lia),dM]
 obtain⟨H,C4⟩:∃H,H=Cb++[⟨.lst,X⟩]:=π;rw[<-C4]at it;have IE:H[⇑Cb]?=↥⟨.lst,X⟩:=by rw[C4];simp
 have hF:Dh C H S:=by rw[C4,Jz];exact(cH.app _).app _
 have aeP:∀w∈X,DQ "tuple" w H=.ok (.AL true,H):=λw hw=>by
  rw[dM]at hw;rcases List.mem_append.mp hw with hw|hw
  .rcases List.mem_append.mp hw with hw|hw
   .obtain⟨l,_,rfl⟩:=List.mem_map.mp hw;rfl
   .obtain⟨i,e,_,rfl⟩:=Zg hw;rfl
  .rcases List.mem_append.mp hw with hw|hw
   .obtain⟨l,_,rfl⟩:=List.mem_map.mp hw;rfl
   .split at hw
    .rw[List.mem_singleton.mp hw];rfl
    .cases hw
 have B3:=Pm (mi:=DR (A0 addW (A0 addW (Bz "Run" "under" 0 Mj (I 0) A1) (Bz "Run" "journal" 0 LY (I 0) A1)) (Bz "Run" "may" 0 Mi (I 0) A1))) (it:=FI (.ref ⇑Cb)) (g:=AA 1) (b:=BU (Dj (AT (Aw (DQ "tuple") (I 1)))) (Au (pu (.AL false))) BR) (ρ:=ρ none) (h:=h) (h0:=H) X δ
  (λ_ E4 A9=>∃s,E4=ρ s/\A9=H) (T:=λDi A9=>∃s,Di=.AR (ρ s)/\A9=H) (K3 IE it) (λj _ _ _ q=>by obtain⟨_,_,q⟩:=q;rw[q];exact Mh IE j) ⟨none,rfl,rfl⟩ (by
  rintro j w _ A9 C_ ⟨s,rfl,Vn⟩;rw[Vn];refine⟨ρ ↥w,H,by rw[C3];rfl,.AR (ρ ↥w),H,?_,⟨_,rfl,rfl⟩⟩;rw[Db,v_not,GM,HO,v_var,show(ρ ↥w)[1]?=↥↥w by rw[C3];rfl,CS,A2,aeP w (KD C_),A2,Gj,A2,A2,if_neg γ,FC]) (by
  rintro _ A9 ⟨s,rfl,Vn⟩;exact⟨s,rfl,Vn⟩)
 obtain⟨_,A9,FN,s,rfl,Vn⟩:=B3.Gc;rw[Vn]at FN;obtain⟨BC,YZ⟩:∃BC,BC=Fu H S.ended:=π;have rH:BC[⇑H]?=↥⟨.lst,G7 (⇑H+1) S.ended⟩:=by rw[YZ];simp[Fu]
 have Bd:=Pi (mi:=DR (Bz "Run" "journal" 0 LY (I 0) A1)) (it:=FI (.ref ⇑H)) (g:=AA 0) (t:=pu true) (e:=Aw (DQ "list") (A0 AB (I 0) (pu (.int 4)))) (ρ:=ρ s) (h:=BC) (h0:=H) (nl:=1) (caps:=[]) (G7 (⇑H+1) S.ended) (λ_=>true) (λ_=>.AL true) (λρ=>∃s,ρ=[s]) (by rw[RM];lia) (K3 rH (by rw[Rm hF (JL _) rfl (aC c hF hm),YZ])) ⟨none,rfl⟩ (λj acc _=>T1 rH _ j) (by
  rintro w hw ρ acc ⟨s,rfl⟩;obtain⟨i,e,he,rfl⟩:=Zg hw;refine⟨[↥(IR (⇑H+1+i) e)],rfl,⟨_,rfl⟩,rfl,λ_=>?_⟩;have z:(BC++[(⟨.lst,acc⟩:O)])[⇑H+1+i]?=↥(GV e.1):=CB BC (by rw[YZ];exact de i e he) _;have EJ:AB (IR (⇑H+1+i) e) (.int 4) (BC++[⟨.lst,acc⟩])=.ok (.ref (⇑H+1+i),BC++[⟨.lst,acc⟩]):=Oc (k:=4) _ rfl;have eM:DQ "list" (.ref (⇑H+1+i)) (BC++[⟨.lst,acc⟩])=.ok (.AL true,BC++[⟨.lst,acc⟩]):=by erw[DQ,MI,z,GV];rfl
  rw[HO,Bb,v_var,show([↥(IR (⇑H+1+i) e)]:B9)[0]?=↥↥(IR (⇑H+1+i) e)from rfl,CS,A2,Bq,A2,EJ,A2,eM])
 rw[List.filter_eq_self.mpr (λ_ _=>rfl)]at Bd;have eu:HM true [.ref ⇑BC] (BC++[⟨.lst,(G7 (⇑H+1) S.ended).map λ_=>W.AL true⟩])=.ok (.AL true,BC++[⟨.lst,(G7 (⇑H+1) S.ended).map λ_=>W.AL true⟩]):=by erw[HM,H9 (BC++[(⟨.lst,(G7 (⇑H+1) S.ended).map λ_=>W.AL true⟩:O)]) (n:=⇑BC) (ws:=(G7 (⇑H+1) S.ended).map λ_=>W.AL true) γ,YT (λ_=>true) (G7 (⇑H+1) S.ended),if_true];simp
 have e:Wj [.ref C.r] h=((Z5 (ρ none) h).bind outF).bind λp=>settle h p.1 p.2:=by rw[C3];rfl
 rw[e];unfold Z5;rw[Ax,K7,FN,A2,B1,Fb,GA,CG,Bd,A2,CY,A2,A2,eu,A2,A2,H8,A2];refine aek _ _ _ rfl ?_;rw[YZ,C4,Jz,D_,AH,AC];simp[Fu]
def aee(c:Dw C)(R:Dh C h S)(D:NJ C S)(AI:S.Bn<64)(hm:S.D7<900000):Wl [.ref C.r] h=.ok (.non,h):=by
 have le:=R.le;obtain⟨ρ,C3⟩:∃ρ:Option W->Option W->B9,ρ=λs t=>[ι,s,t]:=π;have JL:∀s t,(ρ s t)[0]?=↥ι:=λs t=>by rw[C3];rfl
 have Av:∀w t(H:A5),I 1 (ρ ↥w t) H=.ok (w,H):=λw t H=>by rw[C3];rfl
 have BJ:∀s w(H:A5),I 2 (ρ s ↥w) H=.ok (w,H):=λs w H=>by rw[C3];rfl
 obtain⟨g1,s1⟩:∃g,E_ (D6 DK (Bz "Run" "under" 0 Mj (I 0) A1) (Z (BE (Z η (Z η (Z η (Z η (Z η A1)))))) A1)) (ρ none none) h=.ok (.AR (ρ none none),h++g):=⟨_,by
  rw[Hv,I7 (n:=⇑h) (h1:=h++[⟨.lst,S.lets.map DS⟩]) (h2:=h++[⟨.lst,S.lets.map DS⟩]) (ws:=S.lets.map DS) (ws2:=S.lets.map DS) (us:=[.tup [.int 0,.int 0,.int 0,.int 0,.int 0]]) (r:=.non) (ws':=S.lets.map DS++[.tup [.int 0,.int 0,.int 0,.int 0,.int 0]]) (Rm R (JL _ _) rfl (gE c R)) γ (by simp[At]) γ (by simp[DK]) (by simp[At];lia),A2,Pr]⟩
 obtain⟨g2,s2⟩:∃g,E_ (D6 Vg (Bz "Run" "may" 0 Mi (I 0) A1) A1) (ρ none none) (h++g1)=.ok (.AR (ρ none none),h++g):=⟨_,by
  rw[Hv,I7 (n:=⇑(h++g1)) (h1:=h++g1++[⟨.lst,Ho H0 C S⟩]) (h2:=h++g1++[⟨.lst,Ho H0 C S⟩]) (ws:=Ho H0 C S) (ws2:=Ho H0 C S) (us:=[]) (r:=.non) (ws':=[]) (Rm (R.app _) (JL _ _) rfl (dW c (R.app _) D)) γ rfl γ rfl γ,A2,Pr,EB]⟩
 obtain⟨BM,El⟩:∃BM,BM=h++g2:=π;have Sb:Dh C BM S:=by rw[El];exact R.app _
 obtain⟨HK,GW⟩:∃HK,HK=G7 (⇑BM+1) S.ended:=π;have aiT:⇑HK=⇑S.ended:=by rw[GW,RM]
 have s3:AX (Bz "Run" "journal" 0 LY (I 0) A1) (AA 1) (ρ none none) BM=.ok (.AR (ρ ↥(.ref ⇑BM) none),Fu BM S.ended):=by rw[DU,Rm Sb (JL _ _) rfl (aC c Sb hm),A2,C3];rfl
 have B3:=Pm (mi:=DR (I 1)) (it:=FI (.ref ⇑BM)) (g:=AA 2) (b:=E_ (D6 DK (A0 AB (I 2) (pu (.int 4))) (Z (BE (Z (pu (.int 9)) (Z (pu (.int 9)) A1))) A1))) (ρ:=ρ ↥(.ref ⇑BM) none) (h:=Fu BM S.ended) (h0:=Fu BM S.ended) HK δ
  (λj E4 H=>∃s,E4=ρ ↥(.ref ⇑BM) s/\BM<+: H/\H[⇑BM]?=↥⟨.lst,HK⟩/\∀i,i< ⇑HK->∃us,H[⇑BM+1+i]?=↥⟨.lst,us⟩/\ ⇑us<=S.D7+1+j) (T:=λDi H=>∃s,Di=.AR (ρ ↥(.ref ⇑BM) s)/\BM<+: H/\H[⇑BM]?=↥⟨.lst,HK⟩) (K3 (ws:=HK) (by rw[GW];simp[Fu]) (Av _ _ _)) (λj _ _ _ q=>by
    obtain⟨_,_,_,z,_⟩:=q;exact Mh z j) ⟨none,rfl,Fy _ _,by rw[GW];simp[Fu],λi AD=>by
     have RG:i< ⇑S.ended:=δ
     have pr:=Sb.pr _ (VU (JD RG));exact⟨_,de i _ (CP RG),by simp;lia⟩⟩ (by
  rintro j w _ H C_ ⟨s,rfl,p,z,al⟩;obtain⟨i,e,he,rfl⟩:=Zg (GW▸KD C_);have AD:i< ⇑HK:=by have:=(List.getElem?_eq_some_iff.mp he).1;lia
  obtain⟨us,fk,li⟩:=al i AD;have Am:j< ⇑HK:=(List.getElem?_eq_some_iff.mp C_).1;refine⟨ρ ↥(.ref ⇑BM) ↥(IR (⇑BM+1+i) e),H,by rw[C3];rfl,.AR (ρ ↥(.ref ⇑BM) ↥(IR (⇑BM+1+i) e)),H.set (⇑BM+1+i) ⟨.lst,us++[.tup [.int 9,.int 9]]⟩,?_,⟨_,rfl,Rq p δ _,by rw[Er δ];exact z,λVP RG=>?_⟩⟩
  .rw[Hv,I7 (n:=⇑BM+1+i) (h1:=H) (h2:=H) (us:=[.tup [.int 9,.int 9]]) (r:=.non) (ws':=us++[.tup [.int 9,.int 9]]) (by rw[Bb,BJ,A2,Bq,A2];exact Oc (k:=4) _ rfl) fk (by simp[At]) fk (by simp[DK]) (by simp[At];lia),A2]
  .by_cases q:VP=i
   .subst q;exact⟨_,Hr fk,by simp;lia⟩
   .obtain⟨ak,FE,Mg⟩:=al VP RG;exact⟨ak,by rw[Er δ];exact FE,δ⟩) (by
  rintro _ H ⟨s,rfl,p,z,_⟩;exact⟨s,rfl,p,z⟩)
 obtain⟨_,H,FN,s,rfl,p,z⟩:=B3.Gc;have Rx:Bh (BE (Z η (Z η (Z (BE (Z η (Z η A1))) (Z η (Z (Bg A1) (Z (BE (Z (pu (.str (AK "drop"))) (Z η A1))) A1))))))) (ρ ↥(.ref ⇑BM) s) H=.ok (.tup [.int 0,.int 0,.tup [.int 0,.int 0],.int 0,.ref ⇑H,.tup [.str (AK "drop"),.int 0]],H++[⟨.lst,[]⟩]):=by
  have q:BE (Z η (Z η (Z (BE (Z η (Z η A1))) (Z η (Z (Bg A1) (Z (BE (Z (pu (.str (AK "drop"))) (Z η A1))) A1)))))) (ρ ↥(.ref ⇑BM) s) H=.ok (.tup [.int 0,.int 0,.tup [.int 0,.int 0],.int 0,.ref ⇑H,.tup [.str (AK "drop"),.int 0]],H++[⟨.lst,[]⟩]):=by simp[nw,At]
  rw[FD,q,A2];exact bG (Rp _ _) rfl
 have e:Wl [.ref C.r] h=((ZC (ρ none none) h).bind outF).bind λp=>settle h p.1 p.2:=by rw[C3];rfl
 rw[e];unfold ZC;rw[Ax,s1,A2,B1,Ax,s2,A2,B1,<-El,Ax,s3,A2,B1,Ax,K7,FN,A2,B1,Hv,I7 (n:=⇑BM) (h1:=H) (h2:=H++[⟨.lst,[]⟩]) (ws:=HK) (ws2:=HK) (us:=[_]) (r:=.non) (ws':=HK++[_]) (Av _ _ _) z (by rw[CG,Rx,A2,CY];rfl) (CB H z _) rfl (by simp[At];lia),A2,A2,fP,A2];have adf:h<+: (H++[(⟨.lst,[]⟩:O)]).set ⇑BM ⟨.lst,HK++[.tup [.int 0,.int 0,.tup [.int 0,.int 0],.int 0,.ref ⇑H,.tup [.str (AK "drop"),.int 0]]]⟩:=List.IsPrefix.trans (by rw[El];exact Fy _ _) (Rq (p.trans (Fy _ _)) (C9 _) _);obtain⟨r,BA⟩:=adf;rw[<-BA];exact Ru _ _ _ rfl
end
section
variable{ns:↑Int}{C:ES}{P:Ia}{DM x1 x2 x3 x4 x6:Nat}{h h':A5}{S:EE}{f:Nat->Nat}
noncomputable def ZX(m:B7):DN:=Dj (AT (Ae 3 Mm (Z (I 7) (Z (I 8) (Z m A1)))))
noncomputable def T2:Ai:=(AN (AX (Ae 3 Ri (Z (I 8) (Z (I 9) (Z (I 5) A1)))) (AA 10))
    (AN (BU (AT (A0 (Ap false) (Ae 2 Lm (Z (I 7) (Z (I 10) A1))) (Ae 2 K6 (Z (I 8) (Z (I 10) A1))))) (Au (pu (.AL false))) BR)
    (AN (AX (Ae 2 Dz (Z (I 9) (Z (pu (.int 4)) A1))) (AA 11))
    (AN (BU (FY (ZX (A0 BK (I 11) (pu (.int 4)))) (Dj (AT (Ae 1 Wj (Z (I 7) A1))))) (Au (pu (.AL false))) BR)
    (BU (AT (A0 (Ap true) (A0 BK (A0 CT (I 11) (pu (.int 4))) (pu (.int 3))) η)) (AN (E_ (Ae 1 Wl (Z (I 7) A1)))
    (BU (ZX (A0 BK (A0 CT (I 11) (pu (.int 12))) (pu (.int 4)))) (Au (pu (.AL false))) BR)) BR)))))
def u8(k:Uv C P DM)(c:Dw C)(B:Gv C P h S f)(AI:S.Bn<=60)(hm:S.D7<800000){x:Int}(Hq Gm:Option W) :
  ∃h' GS GX Ti Tj,T2 (Iu ns C x1 x2 x3 x4 DM x6 ↥(.int x) Hq Gm) h=.ok (.AR (Iu ns C x1 x2 x3 x4 DM x6 ↥(.int x) Ti Tj),h')/\Gv C P h' GS GX/\GS.Bn<=S.Bn+1/\GS.D7<=S.D7+1/\∀n,C.M+7<=n->n<C.T->h'[n]?=h[n]?:=by
 obtain⟨w,d,C_⟩:=tn k c B.L AI x;obtain⟨v,h1,h2,GS,GX,AC,AH,JT,ce,D7,aev,fr⟩:=uE k c B AI δ d;obtain⟨y,DP⟩:=Mn x 4 δ;have DP:∀h,Dz [.int x,.int 4] h=.ok (.int y,h):=DP;obtain⟨ρ,C3⟩:∃ρ:Option W->Option W->B9,ρ=λs t=>Iu ns C x1 x2 x3 x4 DM x6 ↥(.int x) s t:=π;have s1:AX (Ae 3 Ri (Z (I 8) (Z (I 9) (Z (I 5) A1)))) (AA 10) (ρ Hq Gm) h=.ok (.AR (ρ ↥w Gm),h):=by have q:Ae 3 Ri (Z (I 8) (Z (I 9) (Z (I 5) A1))) (ρ Hq Gm) h=.ok (w,h):=IM (us:=[.ref (C.M+3),.int x,.ref DM]) (h1:=h) (by rw[C3];rfl) rfl C_;rw[DU,q,C3];rfl
 have a1:Ae 2 Lm (Z (I 7) (Z (I 10) A1)) (ρ ↥w Gm) h=.ok (v,h1):=IM (us:=[.ref C.r,w]) (h1:=h) (by rw[C3];rfl) rfl AC;have a2:Ae 2 K6 (Z (I 8) (Z (I 10) A1)) (ρ ↥w Gm) h1=.ok (v,h2):=IM (us:=[.ref (C.M+3),w]) (h1:=h1) (by rw[C3];rfl) rfl AH;have s3:AX (Ae 2 Dz (Z (I 9) (Z (pu (.int 4)) A1))) (AA 11) (ρ ↥w Gm) h2=.ok (.AR (ρ ↥w ↥(.int y)),h2):=by have q:Ae 2 Dz (Z (I 9) (Z (pu (.int 4)) A1)) (ρ ↥w Gm) h2=.ok (.int y,h2):=IM (us:=[.int x,.int 4]) (h1:=h2) (by rw[C3];rfl) rfl (DP h2);rw[DU,q,C3];rfl
 obtain⟨σ,eσ⟩:∃ σ,σ =ρ ↥w ↥(.int y):=π;have qa:∀H,I 7 σ H=.ok (.ref C.r,H):=by rw[eσ,C3];exact λ_=>rfl
 have agG:∀H,I 8 σ H=.ok (.ref (C.M+3),H):=by rw[eσ,C3];exact λ_=>rfl
 have v11:∀H,I 11 σ H=.ok (.int y,H):=by rw[eσ,C3];exact λ_=>rfl
 have lk:∀{m:B7}{i:Int},m σ h2=.ok (.int i,h2)->ZX m σ h2=.ok (false,h2):=λ{m i} q=>by have cl:Ae 3 Mm (Z (I 7) (Z (I 8) (Z m A1))) σ h2=.ok (.AL true,h2):=IM (us:=[.ref C.r,.ref (C.M+3),.int i]) (h1:=h2) (by rw[CG,qa,A2,CG,agG,A2,CG,q,A2,CY];rfl) rfl (lO k.k c JT δ δ i);unfold ZX;rw[v_not,GM,cl,A2,Gj,A2];rfl
 have Bd:∀{mf:Bi}{r:R (W×A5)},mf [.ref C.r] h2=r->Ae 1 mf (Z (I 7) A1) σ h2=r:=λe=>IM (us:=[.ref C.r]) (h1:=h2) (by rw[CG,qa,A2,CY];rfl) rfl e;have Ck:A0 BK (I 11) (pu (.int 4)) σ h2=.ok (.int (y%4),h2):=by rw[Bb,v11,A2,Bq,A2];rfl
 have F8:A0 BK (A0 CT (I 11) (pu (.int 4))) (pu (.int 3)) σ h2=.ok (.int (y/4%3),h2):=by rw[Bb,Bb,v11,A2,Bq,A2,Lc,if_pos ε,A2,Bq,A2];rfl
 have xb:A0 BK (A0 CT (I 11) (pu (.int 12))) (pu (.int 4)) σ h2=.ok (.int (y/12%4),h2):=by rw[Bb,Bb,v11,A2,Bq,A2,Lc,if_pos ε,A2,Bq,A2];rfl
 refine⟨h2,GS,GX,↥w,↥(.int y),?_,JT,ce,D7,fr⟩;show T2 ((λs t=>Iu ns C x1 x2 x3 x4 DM x6 ↥(.int x) s t) Hq Gm) h=.ok (.AR ((λs t=>Iu ns C x1 x2 x3 x4 DM x6 ↥(.int x) s t) ↥w ↥(.int y)),h2);rw[<-C3];unfold T2;rw[Ax,s1,A2,B1,Ax,Db,GM,Bb,a1,A2,a2,A2,ne_self h2 aev,A2,Gj,A2,if_neg γ,FC,A2,B1,Ax,s3,A2,B1,<-eσ,Ax,Db,v_or,lk Ck,A2,if_neg γ,v_not,GM,Bd (xI c JT.R JT.L.D δ δ),A2,Gj,A2,A2,if_neg γ,FC,A2,B1,Db,GM,Bb,F8,A2,Bq,A2,U1,A2,Gj,A2]
 split
 .rw[Ax,Hv,Bd (aee c JT.R JT.L.D δ δ),A2,A2,B1,Db,lk xb,A2,if_neg γ,FC]
 .rw[FC]
def v9(k:Uv C P DM)(c:Dw C){cells:↑Int}(AG:⇑cells<=50){p:Nat}{mi:G4}(xo:C.M+7<=p)(VM:p<C.T){h0:A5}(B:Gv C P h S f)(s0:S.Bn=0)(m0:S.D7=0)(Aq:h[p]?=↥⟨.lst,BD cells⟩){EN Hq Gm:Option W}(AD:mi (Iu ns C x1 x2 x3 x4 DM x6 EN Hq Gm) h0=.ok (FI (.ref p),h)) :
  Ends (Eo mi (AA 9) T2 (Iu ns C x1 x2 x3 x4 DM x6 EN Hq Gm) h0) λDi h'=>∃GS GX EN Hq Gm,Di=.AR (Iu ns C x1 x2 x3 x4 DM x6 EN Hq Gm)/\Gv C P h' GS GX/\GS.Bn<=60/\GS.D7<=60:=by
 rw[K7]
 refine Ends.Gc (Pm (mi:=mi) (it:=FI (.ref p)) (g:=AA 9) (b:=T2) (ρ:=Iu ns C x1 x2 x3 x4 DM x6 EN Hq Gm) (h:=h0) (h0:=h) (BD cells) (by simp[BD];lia)
  (λj ρ h'=>∃GS GX EN Hq Gm,ρ=Iu ns C x1 x2 x3 x4 DM x6 EN Hq Gm/\Gv C P h' GS GX/\GS.Bn<=j/\GS.D7<=j/\h'[p]?=↥⟨.lst,BD cells⟩)
  AD (λj ρ h' _ q=>by obtain⟨GS,_,_,_,_,_,_,_,_,e⟩:=q;exact Mh e j) ⟨S,f,EN,Hq,Gm,rfl,B,δ,δ,Aq⟩ ?_ ?_)
 .rintro j w _ H C_ ⟨GS,GX,pB,Ti,Tj,rfl,Uo,ce,D7,e⟩;erw[BD,E5]at C_;cases ex:cells[j]? with
  |none=>rw[ex]at C_;cases C_
  |some x=>rw[ex]at C_;cases C_;have Am:=(List.getElem?_eq_some_iff.mp ex).1;obtain⟨h',sa,f2,ajP,ajQ,BI,JT,aiE,aiY,fr⟩:=u8 (ns:=ns) (x1:=x1) (x2:=x2) (x3:=x3) (x4:=x4) (x6:=x6) k c Uo δ δ (x:=x) Ti Tj;refine⟨Iu ns C x1 x2 x3 x4 DM x6 ↥(.int x) Ti Tj,H,by simp[Iu],?_⟩;exact⟨_,_,BI,sa,f2,_,_,_,rfl,JT,δ,δ,by rw[fr p xo VM];exact e⟩
 .rintro _ h' ⟨GS,GX,pB,Ti,Tj,rfl,Uo,ce,D7,e⟩;erw[BD,CU]at ce D7;exact⟨GS,GX,pB,Ti,Tj,rfl,Uo,δ,δ⟩
end
def abv:([(AK "wires"),(AK "books"),(AK "plan"),(AK "done"),(AK "letters"),(AK "came"),(AK "ended")]:↑Str).Nodup:=ε
def t2(h:A5)(J4 po Ci pp:Nat):Rh [.ref J4,.ref po,.ref Ci,.ref pp] h=.ok (.ref ⇑h,h++[⟨.Ak Oz,[.ref J4,.ref (⇑h+1),.ref pp,.int 0,.ref (⇑h+2),.int 0,.ref (⇑h+3)]⟩,⟨.lst,[.ref po,.ref Ci]⟩,⟨.Ak [],[]⟩,⟨.lst,[]⟩]):=by
 have q:T3 [(AK "wires"),(AK "books"),(AK "plan"),(AK "done"),(AK "letters"),(AK "came"),(AK "ended")] [(I 0),(Bg (Z (I 1) (Z (I 2) A1))),(I 3),η,(Kq false),η,(Bg A1)] [↥(.ref J4),↥(.ref po),↥(.ref Ci),↥(.ref pp)] h=.ok (.ref ⇑h,h++[⟨.Ak Oz,[.ref J4,.ref (⇑h+1),.ref pp,.int 0,.ref (⇑h+2),.int 0,.ref (⇑h+3)]⟩,⟨.lst,[.ref po,.ref Ci]⟩,⟨.Ak [],[]⟩,⟨.lst,[]⟩]):=by
  have a:On [(I 0),(Bg (Z (I 1) (Z (I 2) A1))),(I 3),η,(Kq false),η,(Bg A1)] [↥(.ref J4),↥(.ref po),↥(.ref Ci),↥(.ref pp)] (h++[⟨.Ak [],[]⟩])=.ok ([.ref J4,.ref (⇑h+1),.ref pp,.int 0,.ref (⇑h+2),.int 0,.ref (⇑h+3)],h++[⟨.Ak [],[]⟩,⟨.lst,[.ref po,.ref Ci]⟩,⟨.Ak [],[]⟩,⟨.lst,[]⟩]):=by simp[On,Kq,nw,At]
  unfold T3;rw[a,A2];erw[Hf,DV,Pr];rw[if_pos ⟨abv,ε⟩];rfl
 have e:Rh [.ref J4,.ref po,.ref Ci,.ref pp] h=(Z0 [↥(.ref J4),↥(.ref po),↥(.ref Ci),↥(.ref pp)] h).bind outF:=rfl;rw[e];unfold Z0;rw[Fb,FD,q,A2];have s:C2.settle h (.ref ⇑h) (h++[⟨.Ak Oz,[.ref J4,.ref (⇑h+1),.ref pp,.int 0,.ref (⇑h+2),.int 0,.ref (⇑h+3)]⟩,⟨.lst,[.ref po,.ref Ci]⟩,⟨.Ak [],[]⟩,⟨.lst,[]⟩])=.ok (.ref ⇑h,h++[⟨.Ak Oz,[.ref J4,.ref (⇑h+1),.ref pp,.int 0,.ref (⇑h+2),.int 0,.ref (⇑h+3)]⟩,⟨.lst,[.ref po,.ref Ci]⟩,⟨.Ak [],[]⟩,⟨.lst,[]⟩]):=by unfold C2.settle;simp[DE]
 rw[s];rfl
def hu{h:A5}{b:Nat}{B:↑↑Cz}(e:∀i,i< ⇑B+1->h[b+i]?=(IL b B)[i]?):Ei h b B:=by
 refine⟨(Ch ⇑B).map λi=>b+1+i,?_,γ,λi r BA=>?_⟩
 .have:=e 0 δ;rw[Nat.add_zero]at this;rw[this];simp[IL,IT,NC]
 .rw[E5]at BA;by_cases AD:i< ⇑B
  .rw[UM AD]at BA;cases BA;show h[b+1+i]?=_;rw[show b+1+i=b+(i+1)by lia,e (i+1) δ];simp[IL,Eh,AD]
  .rw[J9 (AD:)]at BA;cases BA
def Ei.to{h h':A5}{b:Nat}{B:↑↑Cz}(x:Ei h b B)(e:∀n,n< ⇑h->h'[n]?=h[n]?):Ei h' b B:=by obtain⟨rs,AC,l,r⟩:=x.ex;exact⟨rs,(e _ (Fz AC)).trans AC,l,λi q AY=>(e _ (Fz (r i q AY))).trans (r i q AY)⟩
section
variable{cs:↑Nat}{ws:ξ}{A B:↑↑Cz}{ps:↑Cq}(h:A5)
noncomputable def JP(h:A5)(cs:↑Nat)(ws:ξ)(A B:↑↑Cz)(ps:↑Cq):A5:=h++(Ms (⇑h+3) (⇑h+5) (⇑h+6+⇑A) (⇑h+7+⇑A+⇑B) (⇑h+8+⇑A+⇑B) 0::(J5 ⇑h cs ws A B ps++[⟨.lst,[]⟩,⟨.Ak [],[]⟩,⟨.lst,[]⟩]))
def adj:⇑(JP h cs ws A B ps)=⇑h+8+⇑A+⇑B+3:=by unfold JP;rw[Em,DX,Em,b9];simp;lia
def adk{n:Nat}(AZ:n< ⇑h):(JP h cs ws A B ps)[n]?=h[n]?:=by unfold JP;exact Gr AZ
def adl:(JP h cs ws A B ps)[⇑h]?=↥(Ms (⇑h+3) (⇑h+5) (⇑h+6+⇑A) (⇑h+7+⇑A+⇑B) (⇑h+8+⇑A+⇑B) 0):=by unfold JP;simp
def adm{k:Nat}(AP:k< ⇑A+⇑B+7):(JP h cs ws A B ps)[⇑h+1+k]?=(J5 ⇑h cs ws A B ps)[k]?:=by unfold JP;rw[show⇑h+1+k=⇑h+(k+1)by lia,PB,EG,Gr (by rw[b9];exact AP)]
def ew(k:Nat):(JP h cs ws A B ps)[⇑h+8+⇑A+⇑B+k]?=([⟨.lst,[]⟩,⟨.Ak [],[]⟩,⟨.lst,[]⟩]:A5)[k]?:=by
 unfold JP;rw[show⇑h+8+⇑A+⇑B+k=⇑h+(⇑A+⇑B+7+k+1)by lia,PB,EG,MM (by rw[b9];lia),b9]
 congr 1;lia
def adw:(J5 ⇑h cs ws A B ps)[2]?=↥(Mo cs ws (⇑h+4)):=by simp[J5]
def adv:(J5 ⇑h cs ws A B ps)[3]?=↥(He ws):=by simp[J5]
def adt{i:Nat}(AD:i< ⇑A+1):(J5 ⇑h cs ws A B ps)[4+i]?=(IL (⇑h+5) A)[i]?:=by
 unfold J5;rw[Gr (by simp[Nk];lia),Gr (by simp[Nk];lia),MM γ]
 congr 1;simp
def adu{i:Nat}(AD:i< ⇑B+1):(J5 ⇑h cs ws A B ps)[5+⇑A+i]?=(IL (⇑h+6+⇑A) B)[i]?:=by
 unfold J5;rw[Gr (by simp[Nk];lia),MM (by simp[Nk];lia)]
 congr 1;simp[Nk];lia
def adx:(J5 ⇑h cs ws A B ps)[6+⇑A+⇑B]?=↥⟨.lst,ps.map B8⟩:=by
 unfold J5;rw[MM (by simp[Nk];lia)];have:6+⇑A+⇑B- ⇑([⟨.lst,Bx cs⟩,⟨.lst,ws.map CE⟩,Mo cs ws (⇑h+4),He ws]++IL (⇑h+5) A++IL (⇑h+6+⇑A) B)=0:=by simp[Nk];lia
 rw[this];rfl
end
noncomputable def Ss(h:A5)(cs:↑Nat)(ws:ξ)(A B:↑↑Cz)(ps:↑Cq)(ED:A5):ES:=
 ⟨cs,ws,A,B,ps,⇑h,⇑h+8+⇑A+⇑B,⇑h+8+⇑A+⇑B+8,⇑h+3,⇑h+5,⇑h+6+⇑A,⇑h+7+⇑A+⇑B,(ED.take (⇑h+8+⇑A+⇑B)).set ⇑h Iv⟩
def cA{cs:↑Nat}{ws:ξ}{A B:↑↑Cz}{ps:↑Cq}{h ED:A5}(NR:⇑ED=⇑h+8+⇑A+⇑B+3)(I3:∀n,⇑h<=n->ED[n]?=(JP h cs ws A B ps)[n]?){n:Nat}(h1:n< ⇑h+8+⇑A+⇑B)(h2:n≠⇑h):(Ss h cs ws A B ps ED).K[n]?=ED[n]?:=by show((ED.take (⇑h+8+⇑A+⇑B)).set ⇑h Iv)[n]?=_;rw[Er (λz=>h2 z.symm),List.getElem?_take,if_pos h1]
def Ut{cs:↑Nat}{ws:ξ}{A B:↑↑Cz}{ps:↑Cq}{h ED:A5}(NR:⇑ED=⇑h+8+⇑A+⇑B+3)(I3:∀n,⇑h<=n->ED[n]?=(JP h cs ws A B ps)[n]?){k:Nat}(AP:k< ⇑A+⇑B+7):(Ss h cs ws A B ps ED).K[⇑h+1+k]?=(J5 ⇑h cs ws A B ps)[k]?:=by rw[cA NR I3 δ δ,I3 _ δ,adm h AP]
def tq{cs:↑Nat}{ws:ξ}{A B:↑↑Cz}{ps:↑Cq}{h ED:A5}(NR:⇑ED=⇑h+8+⇑A+⇑B+3)(I3:∀n,⇑h<=n->ED[n]?=(JP h cs ws A B ps)[n]?)(N:K_ cs ws)(KL:HW cs A)(JJ:HW cs B)(P:Sa ⇑cs ps):Dw (Ss h cs ws A B ps ED):=by
 refine⟨N,KL,JJ,P,⟨⇑h+4,?_,?_⟩,hu λi AD=>?_,hu λi AD=>?_,?_,?_,?_,?_⟩
 .have:=Ut NR I3 (k:=2) δ;rw[adw]at this;exact this
 .have:=Ut NR I3 (k:=3) δ;rw[adv]at this;exact this
 .have:=Ut NR I3 (k:=4+i) (by have:i< ⇑A+1:=AD;lia);rw[adt (A:=A) h AD]at this;rw[show⇑h+1+(4+i)=⇑h+5+i by lia]at this;exact this
 .have:=Ut NR I3 (k:=5+⇑A+i) (by have:i< ⇑B+1:=AD;lia);rw[adu (B:=B) h AD]at this;rw[show⇑h+1+(5+⇑A+i)=⇑h+6+⇑A+i by lia]at this;exact this
 .have:=Ut NR I3 (k:=6+⇑A+⇑B) δ;rw[adx,show⇑h+1+(6+⇑A+⇑B)=⇑h+7+⇑A+⇑B by lia]at this;exact this
 .show((ED.take (⇑h+8+⇑A+⇑B)).set ⇑h Iv)[⇑h]?=_;rw[J8 (by rw[Ku];lia)]
 .show⇑((ED.take (⇑h+8+⇑A+⇑B)).set ⇑h Iv)<=⇑h+8+⇑A+⇑B;rw[gy,Ku];lia
 .show⇑h+8+⇑A+⇑B+3<=⇑h+8+⇑A+⇑B+8;lia
def af1{cs:↑Nat}{ws:ξ}{A B:↑↑Cz}{ps:↑Cq}{h ED:A5}(NR:⇑ED=⇑h+8+⇑A+⇑B+3)(I3:∀n,⇑h<=n->ED[n]?=(JP h cs ws A B ps)[n]?)(g:A5)(aiS:5<=⇑g):Dh (Ss h cs ws A B ps ED) (ED++g) ⟨[],0,[],[],0⟩:=by
 have e:∀n o,ED[n]?=↥o->(ED++g)[n]?=↥o:=λn o x=>CB ED x g;refine⟨λn o k ne=>?_,e _ _ ?_,e _ _ ?_,e _ _ ?_,e _ _ ?_,(λ_ x=>by cases x),SG,SG,(λ_ x=>by cases x),(λ_ x=>by cases x),ε,ε,?_,(λ_ x=>by cases x)⟩
 .have AZ:=Fz k;have PA:n< ⇑h+8+⇑A+⇑B:=by
   have:⇑((ED.take (⇑h+8+⇑A+⇑B)).set ⇑h Iv)<=⇑h+8+⇑A+⇑B:=by rw[gy,Ku];lia
   exact GD AZ this
  have La:n≠⇑h:=λz=>by
   have:(Ss h cs ws A B ps ED).K[⇑h]?=↥Iv:=by show((ED.take (⇑h+8+⇑A+⇑B)).set ⇑h Iv)[⇑h]?=_;rw[J8 (by rw[Ku];lia)]
   subst z;rw[this]at k;cases k;exact ne rfl
  rw[cA NR I3 PA La]at k;exact e _ _ k
 .exact(I3 _ (C9 _)).trans (adl h)
 .have:=ew (cs:=cs) (ws:=ws) (A:=A) (B:=B) (ps:=ps) h 0;exact(I3 _ (by show⇑h<=⇑h+8+⇑A+⇑B;lia)).trans this
 .have:=ew (cs:=cs) (ws:=ws) (A:=A) (B:=B) (ps:=ps) h 1;exact(I3 _ (by show⇑h<=⇑h+8+⇑A+⇑B+1;lia)).trans this
 .have:=ew (cs:=cs) (ws:=ws) (A:=A) (B:=B) (ps:=ps) h 2;exact(I3 _ (by show⇑h<=⇑h+8+⇑A+⇑B+2;lia)).trans this
 .show⇑h+8+⇑A+⇑B+8<=⇑(ED++g);rw[Em];lia
noncomputable def HZ(ns:↑Int)(s1 s2 s3 s4 s5 s6 s7 Gd:Option W):B9:=[↥(.Df (BD ns)),s1,s2,s3,s4,s5,s6,s7,Gd,none,none,none]
def aeZ{ns:↑Int}{h:A5}{ρ:B9}(h0:ρ[0]?=↥↥(.Df (BD ns))):∃l:↑Int,⇑l<=8/\Bh (DI (I 0) (CM (pu (.int 10))) (CM (pu (.int 18)))) ρ h=.ok (.ref ⇑h,h++[⟨.lst,BD l⟩]):=by
 obtain⟨l,el⟩:∃l,HI (BD ns) ↥10 ↥18=BD l:=dE ns _ _;have E9:⇑l<=8:=by
  have e:⇑(HI (BD ns) ↥10 ↥18)=⇑l:=by rw[el];simp[BD]
  rw[<-e];unfold HI;have a:E6.Cf ⇑(BD ns) 0 ↥10=min 10 ⇑(BD ns):=E6.U8 _ _ 10;have b:E6.Cf ⇑(BD ns) ⇑(BD ns) ↥18=min 18 ⇑(BD ns):=E6.U8 _ _ 18;rw[a,b];simp;lia
 refine⟨l,E9,?_⟩;have s1:DI (I 0) (CM (pu (.int 10))) (CM (pu (.int 18))) ρ h=.ok (.ref ⇑h,h++[⟨.lst,BD l⟩]):=by rw[MX,v_var,h0,CS,A2,Ws,A2,Ws,A2];unfold Lu;erw[bF,el];rw[I8 _ (by simp[BD,At];lia)]
 rw[FD,s1,A2];exact IU (ws:=BD l) h _ (Lr (Fy _ _)) γ γ (Zj _)
def tk{ns:↑Int}(AG:⇑ns<=63){h:A5}{ρ:B9}(h0:ρ[0]?=↥↥(.Df (BD ns))):∃l:↑Int,⇑l<=50/\DR (Bh (A0 addW (Bg (Z (pu (.int 2)) (Z (pu (.int 5)) A1))) (DI (I 0) (CM (pu (.int 16))) (pu none)))) ρ h=.ok (FI (.ref ⇑h),h++[⟨.lst,BD l⟩]):=by
 obtain⟨l,el⟩:∃l,HI (BD ns) ↥16 none=BD l:=dE ns _ _;have E9:⇑l<=47:=by
  have e:⇑(HI (BD ns) ↥16 none)=⇑l:=by rw[el];simp[BD]
  rw[<-e];unfold HI;have:E6.Cf ⇑(BD ns) 0 ↥16=min 16 ⇑(BD ns):=E6.U8 _ _ 16;rw[this,E6.bA];simp[BD];lia
 refine⟨2::5::l,by simp;lia,?_⟩;have EC:Bg (Z (pu (.int 2)) (Z (pu (.int 5)) A1)) ρ h=.ok (.ref ⇑h,h++[⟨.lst,[.int 2,.int 5]⟩]):=rfl;have s1:DI (I 0) (CM (pu (.int 16))) (pu none) ρ (h++[⟨.lst,[.int 2,.int 5]⟩])=.ok (.ref (⇑h+1),h++[⟨.lst,[.int 2,.int 5]⟩]++[⟨.lst,BD l⟩]):=by rw[MX,v_var,h0,CS,A2,Ws,A2,Bq,A2];unfold Lu;erw[bF,el];rw[I8 _ (by simp[BD,At];lia)];simp
 have a1:=Lb (h:=h++[⟨.lst,[.int 2,.int 5]⟩]++[⟨.lst,BD l⟩]) (i:=⇑h) (j:=⇑h+1) (a:=[.int 2,.int 5]) (b:=BD l) γ γ (by simp[BD,At];lia);have m:Bh (A0 addW (Bg (Z (pu (.int 2)) (Z (pu (.int 5)) A1))) (DI (I 0) (CM (pu (.int 16))) (pu none))) ρ h=.ok (.ref ⇑h,h++[⟨.lst,BD (2::5::l)⟩]):=by rw[FD,Bb,EC,A2,s1,A2,a1,A2];exact IU (ws:=BD (2::5::l)) h _ (Lr (IB (IB (Fy _ _) _) _)) γ (by simp[BD]) (Zj _)
 exact K3 (ws:=BD (2::5::l)) γ m
def ss{ns:↑Int}(AG:⇑ns<=63):∃(cs:↑Nat)(ws:ξ)(po Ci:Nat)(A B:↑↑Cz)(H:A5),(1<=⇑cs/\ ⇑cs<=6)/\K_ cs ws/\(∃SL∈DC cs ⇑cs,SL∉ends ws)/\HW cs A/\HW cs B/\2<=⇑H/\H[0]?=↥⟨.lst,Bx cs⟩/\H[1]?=↥⟨.lst,ws.map CE⟩/\Ei H po A/\Ei H Ci B/\Rg [.Df (BD ns)] []=.ok (.tup [.ref 0,.ref 1,.ref po,.ref Ci],H):=by
 obtain⟨BM,bw⟩:∃BM:A5,BM=[]:=π;rw[<-bw];have LC:⇑BM=0:=by rw[bw];rfl
 obtain⟨cell,ec⟩:=i3 BM ns 0;have ec:Ll [.Df (BD ns),.int 0] BM=.ok (.int cell,BM):=ec;obtain⟨cs,⟨Bd,Un⟩,FT,em⟩:=tO cell;have em:=em BM;obtain⟨H1,bx⟩:∃H1:A5,H1=BM++[⟨.lst,Bx cs⟩]:=π;rw[<-bx,LC]at em;have CA:⇑H1=1:=by rw[bx];simp[LC]
 have Es:H1[0]?=↥⟨.lst,Bx cs⟩:=by rw[bx];have:=Hf BM [⟨.lst,Bx cs⟩];rw[LC]at this;exact this
 obtain⟨ws,N,hd,C_⟩:=afg cell cs Bd Un FT Es;obtain⟨AU,Y2⟩:∃AU:A5,AU=H1++[⟨.lst,ws.map CE⟩]:=π;rw[<-Y2,CA]at C_;have B5:⇑AU=2:=by rw[Y2];simp[CA]
 have Ec:AU[1]?=↥⟨.lst,ws.map CE⟩:=by rw[Y2];have:=Hf H1 [⟨.lst,ws.map CE⟩];rw[CA]at this;exact this
 have qp:AU[0]?=↥⟨.lst,Bx cs⟩:=by rw[Y2];exact CB H1 Es _
 obtain⟨po,Ci,g,A,B,KL,JJ,N2,OP,BI⟩:=uD AG Bd Un FT qp;refine⟨cs,ws,po,Ci,A,B,AU++g,⟨Bd,Un⟩,N,hd,KL,JJ,by rw[Em];lia,CB _ qp _,CB _ Ec _,N2,OP,?_⟩;have CH:Rg [.Df (BD ns)] BM=(Yz [↥(.Df (BD ns)),none,none,none,none,none] BM).bind outF:=rfl;rw[CH];unfold Yz;have t1:AX (Ae 2 Ll (Z (I 0) (Z η A1))) (AA 1) [↥(.Df (BD ns)),none,none,none,none,none] BM=.ok (.AR [↥(.Df (BD ns)),↥(.int cell),none,none,none,none],BM):=by simp[ec]
 have Ca:AX (Ae 1 TH (Z (I 1) A1)) (AA 2) [↥(.Df (BD ns)),↥(.int cell),none,none,none,none] BM=.ok (.AR [↥(.Df (BD ns)),↥(.int cell),↥(.ref 0),none,none,none],H1):=by simp[em]
 have t3:AX (Ae 2 Os (Z (I 1) (Z (I 2) A1))) (AA 3) [↥(.Df (BD ns)),↥(.int cell),↥(.ref 0),none,none,none] H1=.ok (.AR [↥(.Df (BD ns)),↥(.int cell),↥(.ref 0),↥(.ref 1),none,none],AU):=by simp[C_]
 have Mw:MD (Ae 2 Wh (Z (I 0) (Z (I 2) A1))) (EY [(AA 4),(AA 5)]) [↥(.Df (BD ns)),↥(.int cell),↥(.ref 0),↥(.ref 1),none,none] AU=.ok (.AR [↥(.Df (BD ns)),↥(.int cell),↥(.ref 0),↥(.ref 1),↥(.ref po),↥(.ref Ci)],AU++g):=by simp[BI]
 rw[Ax,t1,A2,B1,Ax,Ca,A2,B1,Ax,t3,A2,B1,Ax,Mw,A2,B1];rfl
def aaz{ns:↑Int}(AG:⇑ns<=63):Ends (lX [.Df (BD ns)] []) λw _=>w=.AL true:=by
 obtain⟨cs,ws,po,Ci,A,B,Bv,⟨Bd,Un⟩,N,⟨SL,wa,wb⟩,KL,JJ,ai9,rD,rE,N2,OP,BW⟩:=ss AG;have kH:=KL.1;have V8:=JJ.1;obtain⟨O,jR⟩:∃O,O=(DC cs ⇑cs).filter λd=>(EX ws d).isNone:=π;have Fn:=ad4 N rD rE;rw[<-jR]at Fn;obtain⟨DM,cY⟩:∃DM,DM=⇑Bv:=π;obtain⟨Cb,Y3⟩:∃Cb:A5,Cb=Bv++[⟨.lst,O.map A_⟩]:=π;rw[<-Y3,<-cY]at Fn;have C2:⇑Cb=DM+1:=by rw[Y3,cY];simp
 have fQ:Bv<+: Cb:=by rw[Y3];exact Fy _ _
 have X4:Cb[DM]?=↥⟨.lst,O.map A_⟩:=by rw[Y3,cY,Hf];rfl
 obtain⟨l,E9,es⟩:=aeZ (ns:=ns) (ρ:=HZ ns ↥(.ref 0) ↥(.ref 1) ↥(.ref po) ↥(.ref Ci) ↥(.ref DM) none none none) (h:=Cb) rfl;obtain⟨ps,P,Qs,Aq⟩:=acQ (l:=l) δ Un (h:=Cb++[⟨.lst,BD l⟩]) (a:=⇑Cb) (by rw[Hf];rfl);obtain⟨Dx,Y4⟩:∃Dx:A5,Dx=Cb++[⟨.lst,ps.map B8⟩]:=π;obtain⟨pp,cZ⟩:∃pp,pp=⇑Cb:=π;have rF:=F_ fQ rD;have rG:=F_ fQ rE;have lc:Be [.ref 0] (Cb++[⟨.lst,BD l⟩])=.ok (.int (⇑cs:Int),Cb++[⟨.lst,BD l⟩]):=by rw[Gl (CB _ rF _)];simp[Bx]
 have ui:Bh (Ae 2 Rl (Z (Bh (DI (I 0) (CM (pu (.int 10))) (CM (pu (.int 18))))) (Z (B6 Be (Z (I 1) A1)) A1))) (HZ ns ↥(.ref 0) ↥(.ref 1) ↥(.ref po) ↥(.ref Ci) ↥(.ref DM) none none none) Cb=.ok (.ref pp,Dx):=by
  have v1:∀h',I 1 (HZ ns ↥(.ref 0) ↥(.ref 1) ↥(.ref po) ↥(.ref Ci) ↥(.ref DM) none none none) h'=.ok (.ref 0,h'):=λ_=>rfl;have ba:Z (Bh (DI (I 0) (CM (pu (.int 10))) (CM (pu (.int 18))))) (Z (B6 Be (Z (I 1) A1)) A1) (HZ ns ↥(.ref 0) ↥(.ref 1) ↥(.ref po) ↥(.ref Ci) ↥(.ref DM) none none none) Cb=.ok ([.ref ⇑Cb,.int (⇑cs:Int)],Cb++[⟨.lst,BD l⟩]):=by rw[CG,es,A2,CG,GA,CG,v1,A2,CY,A2,A2,lc,A2,CY,A2,A2]
  have q:=IM (mf:=Rl) (k:=2) ba rfl Aq;rw[FD,q,A2,cZ,Y4];exact IU (ws:=ps.map B8) Cb _ (Lr (IB (Fy _ _) _)) γ γ (H7 _ _ LZ)
 have tH:⇑Dx=pp+1:=by rw[Y4,cZ];simp
 have WG:Cb<+: Dx:=by rw[Y4];exact Fy _ _
 have aG:Dx[pp]?=↥⟨.lst,ps.map B8⟩:=by rw[Y4,cZ,Hf];rfl
 have ZU:=P.l;have nm:=lA N (h:=Dx) (a:=0) (b:=1) (F_ WG rF) (F_ WG rG);obtain⟨I_,Ur⟩:∃I_:A5,I_=Dx++[Mo cs ws (⇑Dx+1),He ws]:=π;rw[<-Ur]at nm;have tI:⇑I_=pp+3:=by rw[Ur];simp[tH]
 have fR:Dx<+: I_:=by rw[Ur];exact Fy _ _
 have k3:FA [.ref pp] I_=.ok (.ref ⇑I_,I_++[⟨.lst,ps.map B8⟩]):=
  T0 (H9 _ (F_ fR aG)) (by rw[CU];unfold At;lia)
 obtain⟨Dl,Y5⟩:∃Dl:A5,Dl=I_++[⟨.lst,ps.map B8⟩]:=π;rw[<-Y5]at k3;have aiA:⇑Dl=pp+4:=by rw[Y5];simp[tI]
 have ax:I_<+: Dl:=by rw[Y5];exact Fy _ _
 have ahe:Dl[⇑I_]?=↥⟨.lst,ps.map B8⟩:=by rw[Y5,Hf];rfl
 have YE:JW Dl ⇑Dx cs ws:=by
  refine⟨⇑Dx+1,F_ ax ?_,F_ ax ?_⟩
  .rw[Ur,Hf];rfl
  .rw[Ur,PB];rfl
 have ad6:Bv<+: Dl:=fQ.trans (WG.trans (fR.trans ax));have dA:∀{b:Nat}{X:↑↑Cz},Ei Bv b X->Ei Dl b X:=λx=>by obtain⟨r,BA⟩:=ad6;rw[<-BA];exact x.more _
 have fA:=af2 N KL JJ P YE (dA N2) (dA OP) ahe;obtain⟨Go,Y6⟩:∃Go,Go=JP Dl cs ws A B ps:=π;have fA:Qx [.ref ⇑Dl,.ref ⇑Dx,.ref po,.ref Ci,.ref ⇑I_] (Dl++[⟨.ins "Run" [],[]⟩])=.ok (.non,Go):=by rw[Y6];exact fA
 obtain⟨Nj,R6⟩:∃ρ,ρ=HZ ns ↥(.ref 0) ↥(.ref 1) ↥(.ref po) ↥(.ref Ci) ↥(.ref DM) ↥(.ref pp) none none:=π;have mk:J1 "Run" 4 Qx (Z (J1 "Net" 2 NV (Z (I 1) (Z (I 2) A1))) (Z (I 3) (Z (I 4) (Z (B6 FA (Z (I 6) A1)) A1)))) Nj Dx=.ok (.ref ⇑Dl,Go):=by
  have v1:∀h',I 1 Nj h'=.ok (.ref 0,h'):=by rw[R6];exact λ_=>rfl
  have v2:∀h',I 2 Nj h'=.ok (.ref 1,h'):=by rw[R6];exact λ_=>rfl
  have W3:∀h',I 3 Nj h'=.ok (.ref po,h'):=by rw[R6];exact λ_=>rfl
  have v4:∀h',I 4 Nj h'=.ok (.ref Ci,h'):=by rw[R6];exact λ_=>rfl
  have v6:∀h',I 6 Nj h'=.ok (.ref pp,h'):=by rw[R6];exact λ_=>rfl
  have aat:J1 "Net" 2 NV (Z (I 1) (Z (I 2) A1)) Nj Dx=.ok (.ref ⇑Dx,I_):=by refine Zf (us:=[.ref 0,.ref 1]) (h1:=Dx) ?_ rfl nm;rw[CG,v1,A2,CG,v2,A2,CY,A2,A2]
  refine Zf (us:=[.ref ⇑Dx,.ref po,.ref Ci,.ref ⇑I_]) (h1:=Dl) ?_ rfl fA;rw[CG,aat,A2,CG,W3,A2,CG,v4,A2,CG,GA,CG,v6,A2,CY,A2,A2,k3,A2,CY,A2,A2,A2,A2]
 have cB:⇑Go=⇑Dl+8+⇑A+⇑B+3:=by rw[Y6];exact adj Dl
 have ahf:∀n,n< ⇑Dl->Go[n]?=Dl[n]?:=λn AZ=>by rw[Y6];exact adk Dl AZ
 have I3:∀n,⇑Dl<=n->Go[n]?=(JP Dl cs ws A B ps)[n]?:=λn _=>by rw[Y6]
 have c:=tq cB I3 N KL JJ P;obtain⟨C,L1⟩:∃C,C=Ss Dl cs ws A B ps Go:=π;rw[<-L1]at c;have low:∀n,n< ⇑Dl->C.K[n]?=Dl[n]?:=λn AZ=>by rw[L1,cA cB I3 δ δ,ahf n AZ]
 have ai6:C.M=⇑Dl+8+⇑A+⇑B:=by rw[L1];rfl
 have t7:C.T=C.M+8:=by rw[L1];rfl
 have t8:C.r=⇑Dl:=by rw[L1];rfl
 have lo:∀{n o},Dx[n]?=↥o->C.K[n]?=↥o:=λ{n o} e=>by have q:=F_ (fR.trans ax) e;rw[low n (Fz q)];exact q
 have AL:∀{b:Nat}{X:↑↑Cz},Ei Bv b X->Ei C.K b X:=λx=>(dA x).to low;have uV:C.ps=ps:=by rw[L1];rfl
 have k:Uv C ⟨1,po,Ci,pp⟩ DM:=by
  refine⟨⟨?_,?_,?_,?_,δ⟩,?_,?_⟩
  .have:C.ws=ws:=by rw[L1];rfl
   rw[this];exact lo (F_ WG rG)
  .have:C.A=A:=by rw[L1];rfl
   rw[this];exact AL N2
  .have:C.B=B:=by rw[L1];rfl
   rw[this];exact AL OP
  .rw[uV];exact lo aG
  .have WC:outD C=O:=by rw[L1,jR];rfl
   rw[WC];exact lo (F_ WG X4)
  .have Tv:SL∈outD C:=by
     refine ks.mpr ⟨by rw[L1];exact wa,?_⟩;have:C.ws=ws:=by rw[L1];rfl
     rw[this];cases q:EX ws SL with
     |none=>rfl
     |some x=>exact absurd (d7 q).1 wb
   exact λz=>by rw[z]at Tv;cases Tv
 have i_:=t2 Go 1 po Ci pp;have YA:⇑Go=C.M+3:=δ
 obtain⟨ED,Y7⟩:∃ED:A5,ED=Go++[⟨.Ak Oz,[.ref 1,.ref (⇑Go+1),.ref pp,.int 0,.ref (⇑Go+2),.int 0,.ref (⇑Go+3)]⟩,⟨.lst,[.ref po,.ref Ci]⟩,⟨.Ak [],[]⟩,⟨.lst,[]⟩]:=π;rw[<-Y7]at i_;have tJ:⇑ED=C.M+7:=by rw[Y7];simp[YA]
 obtain⟨cells,lcs,ec⟩:=tk AG (ρ:=Iu ns C 0 1 po Ci DM pp none none none) (h:=ED) rfl;have Yi:∀i o,([⟨.Ak Oz,[.ref 1,.ref (⇑Go+1),.ref pp,.int 0,.ref (⇑Go+2),.int 0,.ref (⇑Go+3)]⟩,⟨.lst,[.ref po,.ref Ci]⟩,⟨.Ak [],[]⟩,⟨.lst,[]⟩]:A5)[i]?=↥o->(ED++[⟨.lst,BD cells⟩])[C.M+3+i]?=↥o:=λi o e=>by refine CB _ ?_ _;rw[Y7,<-YA,PB];exact e
 have Sb:Dh C (ED++[⟨.lst,BD cells⟩]) ⟨[],0,[],[],0⟩:=by rw[Y7,EB,L1];exact af1 cB I3 _ γ
 have tB:Gv C ⟨1,po,Ci,pp⟩ (ED++[⟨.lst,BD cells⟩]) ⟨[],0,[],[],0⟩ (λ_=>0):=by
  refine⟨Sb,⟨Sb.Bl,?_,?_,?_,?_,⟨?_,γ⟩,(λ_ x=>by cases x),(λ_ x=>by cases x),SG,(λ_ x=>by cases x),(λ_ x=>by cases x),ε,?_,(λ_ x=>by cases x),.nil⟩,(λ_ x=>by cases x)⟩
  .exact⟨Hy _,γ⟩
  .have:=Yi 0 _ rfl;rw[YA]at this;exact this
  .exact Yi 1 _ rfl
  .exact Yi 2 _ rfl
  .exact Yi 3 _ rfl
  .rw[Em,tJ,t7];simp
 have dl:=v9 (x1:=0) (x2:=1) (x3:=po) (x4:=Ci) (x6:=pp) k c lcs (p:=⇑ED) δ δ tB rfl rfl (by rw[Hf];rfl) ec;obtain⟨Di,hz,FN,GS,GX,EN,Hq,Gm,rfl,Uo,sc,ajJ⟩:=dl;have fin:Au (Ae 3 Mm (Z (I 7) (Z (I 8) (Z η A1)))) (Iu ns C 0 1 po Ci DM pp EN Hq Gm) hz=.ok (.EM (.AL true),hz):=by have q:Ae 3 Mm (Z (I 7) (Z (I 8) (Z η A1))) (Iu ns C 0 1 po Ci DM pp EN Hq Gm) hz=.ok (.AL true,hz):=IM (us:=[.ref C.r,.ref (C.M+3),.int 0]) (h1:=hz) rfl rfl (lO k.k c Uo δ δ 0);rw[Fb,q];rfl
 have C3:Iu ns C 0 1 po Ci DM pp none none none=HZ ns ↥(.ref 0) ↥(.ref 1) ↥(.ref po) ↥(.ref Ci) ↥(.ref DM) ↥(.ref pp) ↥(.ref ⇑Dl) ↥μ:=by unfold Iu HZ;rw[t8]
 rw[C3]at FN;have t1:MD (Ae 1 Rg (Z (I 0) A1)) (EY [(AA 1),(AA 2),(AA 3),(AA 4)]) (HZ ns none none none none none none none none) []=.ok (.AR (HZ ns ↥(.ref 0) ↥(.ref 1) ↥(.ref po) ↥(.ref Ci) none none none none),Bv):=by have q:Ae 1 Rg (Z (I 0) A1) (HZ ns none none none none none none none none) []=.ok (.tup [.ref 0,.ref 1,.ref po,.ref Ci],Bv):=IM (us:=[.Df (BD ns)]) (h1:=[]) rfl rfl BW;obtain⟨ρ,C3⟩:∃ρ,ρ=HZ ns none none none none none none none none:=π;rw[<-C3]at q |-;erw[qc,q,A2];rw[C3];rfl
 have Ca:AX (Ae 2 Sx (Z (I 1) (Z (I 2) A1))) (AA 5) (HZ ns ↥(.ref 0) ↥(.ref 1) ↥(.ref po) ↥(.ref Ci) none none none none) Bv=.ok (.AR (HZ ns ↥(.ref 0) ↥(.ref 1) ↥(.ref po) ↥(.ref Ci) ↥(.ref DM) none none none),Cb):=by simp[HZ,Fn]
 have t3:∀{m:B7},m (HZ ns ↥(.ref 0) ↥(.ref 1) ↥(.ref po) ↥(.ref Ci) ↥(.ref DM) none none none) Cb=.ok (.ref pp,Dx)->AX m (AA 6) (HZ ns ↥(.ref 0) ↥(.ref 1) ↥(.ref po) ↥(.ref Ci) ↥(.ref DM) none none none) Cb=.ok (.AR Nj,Dx):=λ{m} q=>by rw[DU,q,R6];rfl
 have fv:∀{m:B7},m Nj Dx=.ok (.ref ⇑Dl,Go)->AX m (AA 7) Nj Dx=.ok (.AR (HZ ns ↥(.ref 0) ↥(.ref 1) ↥(.ref po) ↥(.ref Ci) ↥(.ref DM) ↥(.ref pp) ↥(.ref ⇑Dl) none),Go):=λ{m} q=>by rw[DU,q,R6];rfl
 have Mw:AX (Ae 4 Rh (Z (I 2) (Z (I 3) (Z (I 4) (Z (I 6) A1))))) (AA 8) (HZ ns ↥(.ref 0) ↥(.ref 1) ↥(.ref po) ↥(.ref Ci) ↥(.ref DM) ↥(.ref pp) ↥(.ref ⇑Dl) none) Go=.ok (.AR (HZ ns ↥(.ref 0) ↥(.ref 1) ↥(.ref po) ↥(.ref Ci) ↥(.ref DM) ↥(.ref pp) ↥(.ref ⇑Dl) ↥μ),ED):=by have q:Ae 4 Rh (Z (I 2) (Z (I 3) (Z (I 4) (Z (I 6) A1)))) (HZ ns ↥(.ref 0) ↥(.ref 1) ↥(.ref po) ↥(.ref Ci) ↥(.ref DM) ↥(.ref pp) ↥(.ref ⇑Dl) none) Go=_:=IM (us:=[.ref 1,.ref po,.ref Ci,.ref pp]) (h1:=Go) rfl rfl i_;rw[DU,q,YA];rfl
 have CH:lX [.Df (BD ns)] []=(Rb (HZ ns none none none none none none none none) []).bind outF:=rfl;rw[CH]
 have BI:Rb=(AN (MD (Ae 1 Rg (Z (I 0) A1)) (EY [(AA 1),(AA 2),(AA 3),(AA 4)]))
  (AN (AX (Ae 2 Sx (Z (I 1) (Z (I 2) A1))) (AA 5))
  (AN (AX (Bh (Ae 2 Rl (Z (Bh (DI (I 0) (CM (pu (.int 10))) (CM (pu (.int 18))))) (Z (B6 Be (Z (I 1) A1)) A1)))) (AA 6))
  (AN (AX (J1 "Run" 4 Qx (Z (J1 "Net" 2 NV (Z (I 1) (Z (I 2) A1))) (Z (I 3) (Z (I 4) (Z (B6 FA (Z (I 6) A1)) A1))))) (AA 7))
  (AN (AX (Ae 4 Rh (Z (I 2) (Z (I 3) (Z (I 4) (Z (I 6) A1))))) (AA 8))
  (AN (Eo (DR (Bh (A0 addW (Bg (Z (pu (.int 2)) (Z (pu (.int 5)) A1))) (DI (I 0) (CM (pu (.int 16))) (pu none))))) (AA 9) T2)
  (Au (Ae 3 Mm (Z (I 7) (Z (I 8) (Z η A1))))))))))):=rfl
 rw[BI,Ax,t1,A2,B1,Ax,Ca,A2,B1,Ax,t3 ui,A2,B1,Ax,fv mk,A2,B1,Ax,Mw,A2,B1,Ax,FN,A2,B1,fin];exact⟨_,_,rfl,rfl⟩
def ag9{P:C5}{w:Bo}{K:As}{mg:Str->Option A7}{f:A6}{GJ Cd Ig pm cd DL:A7}{E1 an:Option A6}{Bt:Array (Option A7)}(T:Dd K mg)(a:JB K FQ "law"=↥↥(.ref f))(l:K.lookup f=↥⟨GJ,E1,.func (KB "law" "law" (M5 Jq) (Ki Jq) (Bj Jq) .none Cd Ig pm an cd DL),Bt⟩)(c:ND K cd "law"=true)(k:KA K (.ref f)=true) :
  (∃(f:A6)(GJ:A7)(E1 an:Option A6)(Cd Ig pm cd DL:A7)(Bt:Array (Option A7)),JB K FQ "law"=↥↥(.ref f)/\K.lookup f=↥⟨GJ,E1,.func (KB "law" "law" (M5 Jq) (Ki Jq) (Bj Jq) .none Cd Ig pm an cd DL),Bt⟩/\ND K cd "law"=true/\KA K (.ref f)=true)/\∀base:BH,C6 P w K mg base "law" Jq ["_law_script","_law_counts_here","_law_wires_here","_law_old","_law_new","_law_outer_here","_law_plan_here","_law_run","_law_state","_law_cell","_law_deed","_law_kind"] 10 Rb:=
 ⟨⟨f,GJ,E1,an,Cd,Ig,pm,cd,DL,Bt,a,l,c,k⟩,λbase=>u6 _ _ base T⟩
def afc{l:h3}{q:C5}{loose:↑Str}{LG:(Str->Option A7)->BH->Prop}{N0:Bo->BH->Prop}{d:DefRec}{K:Params->As}(AZ:l.most=↥63)(RF:d.params.defaults=[])(hd:d.name="law")(VE:∀(w:Bo)(h:BH),N0 w h->(K w.params).In h)(T:∀(w:Bo)(mg:Str->Option A7)(h:BH),(K w.params).In h->h.Ns FQ mg->(∃(f:A6)(GJ:A7)(E1 an:Option A6)(Cd Ig pm cd DL:A7)(Bt:Array (Option A7)),JB (K w.params) FQ "law"=↥↥(.ref f)/\(K w.params).lookup f=↥⟨GJ,E1,.func (KB "law" "law" (M5 Jq) (Ki Jq) (Bj Jq) .none Cd Ig pm an cd DL),Bt⟩/\ND (K w.params) cd "law"=true/\KA (K w.params) (.ref f)=true)/\∀base:BH,C6 l.prog w (K w.params) mg base "law" Jq ["_law_script","_law_counts_here","_law_wires_here","_law_old","_law_new","_law_outer_here","_law_plan_here","_law_run","_law_state","_law_cell","_law_deed","_law_kind"] 10 Rb) :
  gj q loose LG N0 l.row.toRowW d [] (λf vs=>Xn f vs):=
 afb (st:=Jq) (x:="law") (k:=10) (m:=Rb) AZ RF ⟨rfl,ε,ε⟩ pj hd VE T λns AG=>aaz AG
end FG
end
namespace PySem.W.Fast
def tw3779383926906756712:=0
def tw3079167380823954831:=0
def tw16956868785079575308:=0
def tw18010519492736441617:=0
def tw6000930895271717881:=0
def tw15336989501515484746:=0
def tw10720118236368418192:=0
def tw25684998283796854:=0
def tw9194930099447111383:=0
def tw18204572745722605771:=0
def tw7508979296828417940:=0
def tw9231965263505154120:=0
def tw8225112412802055643:=0
def tw12872604119533264661:=0
def tw4983334047738004036:=0
def tw9983239774375995056:=0
def tw2961923669157679751:=0
def tw2676477567875709047:=0
def tw3349462461398141424:=0
def tw2547660061922962706:=0
def tw2534957344464353839:=0
def tw12574552168868273043:=0
def tw5658367361886156224:=0
def tw7545729944261772736:=0
def tw4561194688129711115:=0
def tw626037991056914178:=0
def tw1503931454790157151:=0
def tw9135614780492631418:=0
def tw12495251614333086866:=0
def tw13847011501939226727:=0
def tw1233806382532112157:=0
def tw5769812900214777644:=0
def tw1320011137321056471:=0
def tw3129665163754375214:=0
def tw7130424562221762555:=0
def tw9014093512728898036:=0
def tw14134129645600256996:=0
def tw7011502631532311951:=0
def tw6067160533350445390:=0
def tw4272263927683711061:=0
def tw13717066769950961276:=0
def tw2971542480628168983:=0
def tw12290654339379030511:=0
def tw11083753012096971587:=0
def tw10346709553598923254:=0
def tw17209560755330922732:=0
def tw16235111961814852921:=0
def tw215920547203522925:=0
def tw8499983192179917099:=0
def tw5497908795807557669:=0
def tw16199416981917981424:=0
def tw5575514817829564912:=0
def tw5182455298331314499:=0
def tw8275440619336823494:=0
def tw10459414603285904973:=0
def tw4597378227512530726:=0
def tw8311233171316582061:=0
def tw10892703213000373525:=0
def tw14656575129954907390:=0
def tw4402777906131125458:=0
def tw11831400342810586863:=0
def tw8921948938674617011:=0
def tw5743608448072391061:=0
def tw5656576244641184122:=0
def tw12952296809459045672:=0
def tw13945195616264959181:=0
def tw12204168204697843586:=0
def tw3545426277871889340:=0
def tw15711911646952111885:=0
def tw2364361879862135370:=0
def tw5913737185054162309:=0
def tw3277091755994660244:=0
def tw10464408556128159267:=0
def tw13095658403874461894:=0
def tw9510216150496031346:=0
def tw653273831662103811:=0
def tw2495956144519647570:=0
def tw15126732679703717340:=0
def tw5465311349511525553:=0
def tw86360465677227552:=0
def tw4481172844636938329:=0
def tw15821915325796708858:=0
def tw1103194131223223639:=0
def tw16406670033396247950:=0
def tw13887890139179255543:=0
def tw4008188166629731016:=0
def tw14500861081948458543:=0
def tw17647555520101394938:=0
def tw366080092175180022:=0
def tw3062616718967834568:=0
def tw16450825123183469086:=0
def tw14366087318649985917:=0
def tw11461903964994004985:=0
def tw4803290970676719916:=0
def tw3540961796548100048:=0
def tw5579863725793918675:=0
def tw14260364598099397346:=0
def tw3070096374818822916:=0
def tw16138319296221751978:=0
def tw17972105677778354981:=0
def tw12456726640011261751:=0
def tw6400055700691903082:=0
def tw1019023533517209494:=0
def tw13934692266879166832:=0
def tw6537542578523536910:=0
def tw16802589868748842244:=0
def tw15606381743889136469:=0
def tw10099720074480357654:=0
def tw4804433021481670658:=0
def tw5933910385051528797:=0
def tw7701057497389900284:=0
def tw14814060978264883863:=0
def tw16701372136258537247:=0
def tw16790296565740403809:=0
def tw11783661798415531514:=0
def tw13855485070817879471:=0
def tw12206185257207891348:=0
def tw17078554344402418622:=0
def tw12509748421405609708:=0
def tw9828507019555793775:=0
def tw16228423510933476956:=0
def tw18268225133286828874:=0
def tw6837583707782356244:=0
def tw11312309939200082413:=0
def tw6120036786825246840:=0
def tw10201361835161888393:=0
def tw15205975089745423234:=0
def tw16105517316692238802:=0
def tw10032928753388801716:=0
def tw16616030825829455138:=0
def tw16537415100969572238:=0
def tw13680860375718246899:=0
def tw17083676842584468178:=0
def tw3401723512735640703:=0
def tw8878509874752336736:=0
def tw8241113432838930524:=0
def tw17928542017934685072:=0
end PySem.W.Fast
open PySem PySem.W PyProof.Rows B5 C2 FG
set_option maxRecDepth 100000 in
set_option maxHeartbeats 0 in
theorem PySem.Challenge.cw_nohalfway_k33_under_and_journal_holds : PySem.Challenge.rw_nohalfway_k33_under_and_journal.Holds := by
 w_on;o_law;k_head;(case hw=>w_witness2)
 k_fill
 refine FG.afc (l:=PySem.Challenge.rw_nohalfway_k33_under_and_journal) rfl rfl rfl (λw h Y=>PySem.W.kIn_of Y) ?T
 case T=>
  intro w mg h IH G
  refine' FG.ag9 ?T ?ya ?yl ?yc ?yk
  (case T=>constructor<;>first
    |(refine' C2.x9 IH G ?a ?l ?c ?k;(case a=>k_is);(case l=>k_is);(case c=>k_is);(case k=>k_is))
    |(refine' C2.aas ?n ?g1 ?g2 ?g3 ?g4 ?a ?l ?c ?k ?i;(case n=>k_is);(case g1=>k_is);(case g2=>k_is);(case g3=>k_is);(case g4=>k_is);(case a=>k_is);(case l=>k_is);(case c=>k_is);(case k=>k_is);(case i=>k_is))
    |(refine' C2.aao IH G ?n ?mk ?kc ?a ?l ?c ?k ?i;(case n=>k_is);(case mk=>k_is);(case kc=>k_is);(case a=>k_is);(case l=>k_is);(case c=>k_is);(case k=>k_is);(case i=>k_is))
    |(refine' C2.tm ?n ?g1 ?g2 ?g3 ?g4 ?u;(case n=>k_is);(case g1=>k_is);(case g2=>k_is);(case g3=>k_is);(case g4=>k_is);(case u=>(repeat' first|exact λ_ h=>absurd h PQ|refine rz.2 ⟨?_,?_⟩|k_is)))
    |(refine' C2.uq IH G ?n ?e;(case n=>k_is);(case e=>k_exc))
    |(refine' C2.aeY IH G ?n ?u;(case n=>k_is);(case u=>(repeat' first|exact λ_ h=>absurd h PQ|refine rz.2 ⟨?_,?_⟩|(refine' C2.aeX ?va ?vb;(case va=>k_is);(case vb=>kts_exm)))))
    |(refine' C2.tp IH G ?z;(case z=>k_is))
    |(refine' PySem.W.mg_none_of IH G ?a;(case a=>k_is))
    |(refine' C2.tQ IH G ?z ?y ?hz ?e;(case z=>k_is);(case y=>k_is);(case hz=>exact rk rfl);(case e=>rfl)))
  case ya|yl|yc|yk=>k_is
