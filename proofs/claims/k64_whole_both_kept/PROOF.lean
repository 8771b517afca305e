import PyProof.Rows.All
import Wide.All
import OpenK.AllK
import Wide.FinOn
import Lean
import PyProof.EqAt
import PyProof.EqKinds
import PyProof.TupleCall
import PySem.SetOps
import PyProof.TupleKey
import PyProof.SetKind
import PyProof.IsRules
import PyProof.Rows.SetFrom
import PyProof.DictWalks
import PyProof.CollectWalk
import PyProof.Rows.SortWalk
import PyProof.Rows.SortShell
import PyProof.NeKinds
import KE.KEqDict
import PyProof.SetRoads
import PyProof.AutoListH
import PyProof.DictValues
import PyProof.DictItems
import PyProof.DictItemsLoops
import KE.RegKIsAll
import KE.RegKTryMore
import PySem.Challenge.RW_nohalfway_k64_whole_both_kept
set_option bootstrap.genMatcherCode false
set_option genSizeOf false
set_option compiler.extract_closed false
open PySem.Str renaming ofString -> AO, ofString -> Sh
open List renaming getElem?_eq_getElem -> C3, length_map -> Cd, size_toArray -> Df, getD_eq_getElem?_getD -> Fg, getElem?_map -> Dl, length_append -> EL, getElem?_append_left -> Fz, append_assoc -> EZ, prefix_append -> Eu, getElem?_cons_zero -> Gl, range -> Cg, length_cons -> FF, getElem?_append_right -> IN, map_cons -> EM, mem_cons_of_mem -> Gw, mem_append_left -> Gx, getElem?_cons_succ -> IP, mem_append_right -> Hz, mem_of_getElem? -> Ik, mem_cons_self -> I0, getElem?_eq_none -> J_, replicate -> Gy, mem_append -> Hf, map_append -> Hg, getElem?_set_self -> LJ, cons_append -> Ij, getElem_mem -> J9, mem_cons -> He, length_singleton -> MB, length_nil -> JB, take_of_length_le -> Nz, mem_singleton -> MC, length_take -> LK, getElem?_range -> Ny, getElem?_set_ne -> PL, not_mem_nil -> My, map_map -> K4, replicate_succ -> Qb, flatten_cons -> PP, append_nil -> O4, map_nil -> LP, take_append_drop -> SY, getElem?_of_mem -> SZ, mapM_cons -> O0, filterMap_cons -> SS, nodup_iff_pairwise_ne -> X1, length_drop -> QY, filter_cons -> Q_, length_replicate -> US, getElem?_take -> SW, take_succ_eq_append_getElem -> fP, find?_cons -> Qa, nodup_append -> Sb, length_range -> Sd, getElem?_replicate -> XB, getElem_of_mem -> UZ, nodup_nil -> Qk, length_pos_of_mem -> XD, length_filter_le -> XF, length_eraseIdx_of_lt -> fQ, drop_eq_getElem_cons -> fS, all_eq_true -> UU, length_erase_of_mem -> fT, nil_append -> UV, mem_singleton_self -> fV, prefix_rfl -> UW, lookup -> Qe, eraseIdxIfInBounds_toArray -> rM, pairwise_map -> X5, eraseIdx_eq_take_drop_succ -> rP, all_map -> Si, getElem_inj -> XQ, lookup_cons -> XR, eq_nil_of_length_eq_zero -> ra, any_eq_true -> XS, mem_of_mem_drop -> fl, mem_of_mem_take -> fm, mem_erase_of_ne -> fo, all_cons -> Ul, range_succ -> XM, perm_append_singleton -> rX, lookup_append -> fe, mem_map -> Ui, length_mapIdx -> fg, mem_of_find?_eq_some -> rQ, eraseIdx_cons_succ -> rx, drop_of_length_le -> sC, of_mem_zip -> fv, getElem?_toArray -> rj, any_map -> XX, dropLast_eq_take -> rl, filter_map -> fy, set_append_right -> ro, findSome?_append -> rp, singleton_append -> rq, range_eq_range' -> rr, any_cons -> gK, map_take -> gP
open PySem.W renaming Frag -> Ao, kia_one -> JA, findIn -> JY, keepIn -> K1, nsIn -> J8, emptyDict -> O3, fnOf -> K3, codeIn -> Mz, instObj -> PN, plainGet -> Se, hasDictIn -> Ud, mg_of -> Qg, plainOver -> X4, methodCall_KW -> fi, excIn -> Uk, hideAll -> XT, plainGet_of -> fa, isFn -> Ug, callWith_K -> fc, lookIn -> XN, kitOne -> XO, exmOne -> XH, methodObj -> fX, cellsFrom_some -> s7, takerIn -> ft, makesIn -> fu, OpenLaw -> fw, hideAll_get -> re, of_hideAll -> rt, kitx_tuple -> sE, WalkO -> gM, kitx_none -> sI, kitx_bool -> sJ, kitx_list -> sK, kitx_dict -> sL
open PySem renaming wpAny_bind -> Ah, Value -> A8, Shared -> AR, wpAny_pure -> Bk, Addr -> A6, starEach -> CM, sizeLine -> CU, Program -> CD, wpAny -> Av, model -> B7, mainGlobals -> FQ, World -> Bq, Around -> D3, compareOp -> G0, tupleKeyHash -> IL, mem_of_lookup -> Mw, Expr -> Au, wpAny_truthy_bool -> MD, wpAny_newObj_type -> ME, foldedSetIterable -> Mv, attributeBase -> Ko, strIterType -> JC, Heap -> BG, wpAny_callSpecial?_slot -> SX, wpAny_mono -> Im, Stmt -> BO, cellsFrom -> I2, behindInMarks -> MH, wpAny_typeNameOfWhole_keyiter -> X3, eval -> Bd, FuncData -> Hh, keywordEach -> LO, cLine -> Dr, wpAny_call_entry -> QZ, wpAny_holding -> O1, wpAny_field -> MF, wpAny_seqItems -> PM, backTo -> Fh, SetTable -> Il, sysModules -> LM, assignEach -> LN, wpAny_passesOwn -> QX, wpAny_typeNameOf_keyiter -> XA, bootBuiltins -> O8, binaryOp -> Ja, wpAny_Call_Name_kw -> Ua, tupleKind_room_in1 -> Ub, wpAny_setField_rec -> Uc, wpAny_setState_of -> Uf, NameKind -> Kq, Scope -> FH, call_meets -> O6, IsTupleKey -> O7, backToKw -> LQ, holding -> K5, sizeLine_eq -> Qd, sliceBounds -> Qf, ofAClassStatement -> X6, carriedByValue -> Uj, codeAny_mono -> Sg, DictEntry -> O9, Keyword -> Kr, step -> DO, wpAny_execs_nil -> XI, swapsWith -> PS, letOwnedTupleGo -> XJ, relabel -> LR, codeAny_builtin -> XK, call_meetsIn -> Uh, codeAny -> MI, wpAny_setField -> XP, firstArgMember -> XG, getMethod -> Ql, wpAny_Call_method -> fZ, wpAny_pyIter_strU -> f_, wpAny_pyIter_list -> g6, wpAny_dictEntries -> g7, assign -> Ks, wpAny_forIn_list -> g9, standAt -> OA, seqIndex? -> Sj, wpAny_dictEpoch -> fx, newFunctionEnv -> g5, getItem -> PT, subscripted -> XU, evalArgs_none -> rf, valueAt -> PU, callerA -> PV, notedBy -> PW, hashByValue -> XV, KeyKind -> fs, rawInt -> N1, callWith -> Sm, IsPair -> N2, call -> Xa, Within -> gB, pyNext -> OB
open PySem.Heap renaming get?_push_of_some -> Dm, get?_push_size -> GG, lt_size -> EN, size_push -> LI, SameBut -> Kp, get?_update_self -> XE, get?_update_other -> s9
open Nat renaming le_refl -> CB, lt_of_lt_of_le -> GH, ne_of_lt -> FG, le_trans -> Gm, zero_le -> IM, lt_irrefl -> MG, lt_of_le_of_lt -> Qc, lt_succ_self -> PQ, le_add_right -> PR, reduceAdd -> Mx, lt_succ_of_lt -> Sa, add_le_add_left -> UY, le_of_lt -> Qh, ne_of_gt -> Qi, min_eq_left -> UX, le_of_lt_succ -> fh, le_succ -> Uo, min_eq_right -> gA, le_of_ble_eq_true -> rh, add_zero -> XW, mod_lt -> Xb, le_of_eq -> gC, lt_trans -> gF, le_total -> gG, lt_or_ge -> gI
open PySem.Value renaming ref -> DB, none -> K2, type -> O5, bool -> Qm, int -> Sk, str -> Sl, float -> gJ
open Option.some renaming inj -> Ga
open Array renaming getElem?_eq_getElem -> LL, getD_eq_getD_getElem? -> SO, length_toList -> SU, getElem?_toList -> UT, append_assoc -> fb
open Bool renaming and_eq_true -> I1, false_ne_true -> Km, false_eq_true -> Kn, eq_iff_iff -> Qj, and_false -> S_, true_and -> XY, and_true -> XZ, false_and -> g0, false_or -> gL, not_true -> gO
open PyProof.Rows renaming callWith_type1 -> QW, slot_tuple_getitem -> rL, IsTup -> ff, kindOf -> K7, AllBare -> N0, Call_ -> sG, envOfC -> OC
open PySem.NameKind renaming free -> JZ
open Option renaming map_some -> LH, getD_some -> Sf, isSome_map -> fY, bind_some -> g8, isSome_some -> sF
open PySem.F renaming plainAttrs_list -> QV, slot_dict_keyiterator_next -> Wz, slot_tuple_iterator_next -> X0, plainAttrs_dict -> fU, slot_dict_get -> fj, args_dict_keyiterator_next_1 -> rZ, entry_dict_keyiterator_next -> r_, args_tuple_iterator_next_1 -> rc, entry_tuple_iterator_next -> rS, slot_dict_delitem -> rY, args_tuple_add_2 -> rR, entry_tuple_add -> rv, args_dict_get_2 -> ry, slot_list_index -> s6, slot_tuple_add -> s8, entry_dict_get -> sA, slot_dict_pop -> rg, slot_list_pop -> rm, type_list_pop -> rn
open PySem.Builtin.SmallTypes renaming nextOf -> SP, ownedTupleHandOut -> rN, ownedTupleIsFree -> rO
open Classical renaming byContradiction -> SQ, axiomOfChoice -> XC
open False renaming elim -> IQ
open True renaming intro -> Io
open ForInStep renaming yield -> PO
open PySem.Heap.SameBut renaming update -> SV
open PySem.Calls renaming callWith_builtin -> UR, spliced_cons -> U_, spliced_nil -> Ue, evalArgs_plain -> X8, Name_function_global -> rT
open Function renaming comp -> O2, comp_def -> Sc
open PySem.Builtin.Slice renaming slicePlaces -> X2, sliceAdjust -> fR, sliceApplied -> rV
open Int renaming toNat_natCast -> SR, fdiv_eq_ediv_of_nonneg -> rU, zero_add -> gH
open PySem.Builtin.Tuple renaming tupleExact -> Wx
open PySem.Builtin.List renaming listTooLong -> Wy, listFitsIndex -> rW
open PySem.Obj renaming data_mapFields -> X9, isFreed_of_fields -> ri, mapSeq -> Um
open PyProof.Rows.F renaming plain_set_update_loop -> fW, entry_set_update_loop -> rz
open Ne renaming symm -> K6
open PySem.SetTable renaming insertAt -> X7, leap -> gN, sizeAbove -> sH
open List.Perm renaming append_left -> fk, refl -> fq
open PySem.Around renaming under_plainId -> fp, under -> gD
open PySem.Builtin.Dict_items renaming ownsTuple -> rd
open PySem.Builtin.Range renaming rangeSize -> ru
open Sum.inl renaming injEq -> X_
open PySem.SeqAt renaming ne_of_list_tuple -> sB, RcAt -> Un, EqAt -> Xc
open PySem.Builtin.Dict renaming showsAll -> rk
open PySem.PassesOwn renaming never -> fz
open PySem.Data renaming cell -> Up
open Sum renaming inl -> Qn, inr -> Qo
open List.Pairwise renaming nil -> sM
open PySem.Code renaming isFrame -> gE
open List.cons renaming injEq -> sD
set_option Elab.async false
set_option linter.all false
set_option maxRecDepth 100000
noncomputable section
set_option hygiene false in
local macro_rules|`(π)=>`((I 0))|`(ς)=>`(↥(.int (a:Int)))|`(τ)=>`((I 1))|`(υ)=>`((pu (.int 2)))|`(χ)=>`(↥(.ref ⇑h))|`(ψ)=>`((I 2))|`(ω)=>`((.AL true,h))|`(Γ)=>`((pu (.int 4)))|`(Δ)=>`((GI scope X.N nl caps))|`(Θ)=>`((B7 prog w))|`(Ξ)=>`(↥(.ref n))|`(Φ)=>`((BC true))|`(Ψ)=>`((I 3))|`(Ω)=>`((Z π A2))|`(ac)=>`((pu true))|`(Cl)=>`((Z τ A2))|`(Fr)=>`((pu (.int 3)))|`(Tm)=>`((pu (.non)))|`(Ty)=>`((A1 A7 ψ η))|`(XL)=>`((Z (I 4) A2))|`(ST)=>`(↥(.ref b))|`(KK)=>`((.ref n))
set_option hygiene false in
local macro_rules|`(γ)=>`(by simp)|`(δ)=>`(by lia)|`(ε)=>`(by decide)|`(ζ)=>`((pu (.int 1)))|`(η)=>`((pu (.int 0)))|`(ο)=>`(⟨_,rfl⟩)|`(θ)=>`(Inv X A3 σ H s)|`(ι)=>`(↥(.ref C.r))|`(μ)=>`(↑(A6×Obj))|`(ν)=>`(↑(AN×AN))|`(ξ)=>`((B7 X.prog X.w))
set_option hygiene false in
local macro_rules|`(($e :))=>`(by simpa using $e)
set_option hygiene false in
local macro_rules|`(tactic|erw [$[$a:term],*])=>`(tactic|simp only [$[$a:term],*])|`(tactic|erw [$[$a:term],*]$l:location)=>`(tactic|simp only [$[$a:term],*]$l:location)
set_option hygiene false in
local macro_rules|`(tactic|ac_nf)=>`(tactic|(unfold CF;intros;ac_rfl))
set_option hygiene false in
local macro_rules|`(tactic|exists $a)=>`(tactic|have:=$a P w base T)|`(tactic|exists $k,$m,$a,$b)=>`(tactic|(have h:=EY (P:=P) (w:=w) (base:=base) (k:=$k) (m:=$m) $a $b;refine h ?_;have:=$b))
set_option hygiene false in
local macro_rules|`(tactic|nofun)=>`(tactic|(intro X E6 hw A_ AK i A3 s σ H E A0 hf st Ar;subst E6 hw A_))
set_option hygiene false in
local macro_rules|`(⇑$x)=>`(($x).length)|`(↥$x)=>`(some $x)|`(↑$x)=>`(List $x)
set_option hygiene false in
local macro_rules| `(tactic|ac_rfl)=> `(tactic|repeat' first
 |(show AY _ _ _ _;first|with_reducible refine agn ?_|(show AY _ _ (.Name _ _) _;first|exact agu _|exact PJ (Dt.P3 ‹_›)|exact PJ (Dt.Tb ‹_›)|exact PJ (Dt.Tc ‹_›)|exact PJ (Dt.Vo ‹_›)|exact PJ (Dt.Td ‹_›)|exact PJ (Dt.R8 ‹_›)|exact PJ (Dt.Go ‹_›)|exact PJ (Dt.Ml ‹_›)|exact PJ (Dt.P4 ‹_›))|(show AY _ _ (.Constant _ _ _) _;first|exact ah6|exact afP|exact ago|exact agd)|(show AY _ _ (.BinOp _ _ _ _) _;first|refine aft ?_ ?_|refine agq ?_ ?_|refine agY ?_ ?_|refine agz ?_ ?_|refine agX ?_ ?_|refine agk ?_ ?_|refine agl ?_ ?_|refine afw ?_ ?_)|(show AY _ _ (.Compare _ _ _ _) _;first|refine agx (DE.units ‹_›) ?_|refine ag_ (DE.units ‹_›) ?_|refine afy (DE.units ‹_›) ?_ ?_|refine agZ (DE.units ‹_›) ?_ ?_|refine ahG ?_ ?_|refine ahA ?_ ?_|refine ah1 ?_ ?_|refine ah0 ?_ ?_|refine ah7 ?_ ?_|refine agf ?_ ?_|refine ah3 (DE.units ‹_›) ?_ ?_|refine agc (DE.units ‹_›) ?_ ?_|refine qt Q6 Q6 UN UN ?_ ?_ ?_|refine qt Q6 Zh UN lH ?_ ?_ ?_)|(show AY _ _ (.BoolOp _ _ _) _;first|refine afv ?_ ?_|refine agh ?_ ?_|refine agg ?_)|(show AY _ _ (.UnaryOp _ _ _) _;first|refine age ?_|refine aga ?_)|(show AY _ _ (.IfExp _ _ _ _) _;first|refine ah2 ?_ ?_ ?_)|(show AY _ _ (.Attribute _ _ _) _;first|refine fD (Dt.kq ‹_›) ?_|refine fD (Dt.kr ‹_›) ?_|refine fD (Dt.ks ‹_›) ?_)|(show AY _ _ (.Subscript _ _ _) _;first|refine ah8 (DE.units ‹_›) ?_ ?_ Oy|refine agm ?_ ?_ ?_)|(show AY _ _ (.Tuple _ _ _) _;first|refine ags ?_)|(show AY _ _ (.List _ _) _;first|refine ahF ?_)|(show AY _ _ (.Dict _ _ _) _;first|exact afW|exact afX)|(show AY _ _ (.ListComp _ _ _ _) _;first|refine afU _ _ (by rfl) ?_ ?_ ?_ (λ_ _ _ _ _ _ _=>?_)|refine afT _ _ (by rfl) ?_ ?_ ?_ (λ_ _ _ _ _ _ _=>?_)|refine afS _ _ (by rfl) ?_ ?_ ?_ (λ_ _ _ _ _ _ _=>?_))|(show AY _ _ (.Call (.Name _ _) _ _ _) _;first|refine afQ ‹_› (DE.mono ‹_› ε) ?_|refine ahH ‹_› (DE.mono ‹_› ε) ?_|refine afu ‹_› (Dt.sU ‹_›) ?_|refine W1 (WP _ ε) (Dt.Vk ‹_›) (Dt.sV ‹_›) (by kernel_rfl) ?_|refine agr (Dt.hW ‹_›) ?_|refine W1 (WP _ ε) (Dt.Vk ‹_›) (Dt.hW ‹_›) (by kernel_rfl) ?_|refine ahC ‹_› (Dt.gx ‹_›) (Dt.sX ‹_›) ?_|refine ahB (Dt.gx ‹_›) ?_|refine ahE (Dt.bh ‹_›) (Dt.bi ‹_›) ?_|refine ahD (Dt.bh ‹_›) ?_|refine W1 (WP _ ε) (Dt.Vk ‹_›) (Dt.bh ‹_›) (by kernel_rfl) ?_|refine agp (Dt.gy ‹_›) ?_|refine W1 (WP _ ε) (Dt.Vk ‹_›) (Dt.gy ‹_›) (by kernel_rfl) ?_|refine agt (Dt.h3 ‹_›) ?_|refine W1 (WP _ ε) (Dt.Vk ‹_›) (Dt.h3 ‹_›) (by kernel_rfl) ?_)|(show AY _ _ (.Call (.Attribute _ _ _) _ _ _) _;first|refine ahJ ‹_› (DE.mono ‹_› ε) ?_|refine ahI ‹_› (DE.mono ‹_› ε) ?_ ?_|refine afx ?_ ?_|refine afR ?_|refine ajU ?_|refine ah5 ?_ ?_ ?_|refine agy ?_ ?_|refine ah9 ?_|refine ah4 (DE.units ‹_›) ?_ ?_|refine afV (DE.units ‹_›) ?_ ?_|refine afY ?_ ?_|refine agi ?_|refine agj ?_ ?_))
 |(show Fi _ _ _ _;first|(show Fi _ _ (.Compare _ _ _ _) _;first|refine ai9 (DE.units ‹_›) ?_|refine ahV (DE.units ‹_›) ?_|refine ai8 (DE.units ‹_›) ?_ ?_|refine ahU (DE.units ‹_›) ?_ ?_|refine ahT ?_ ?_|refine ahS ?_ ?_|refine aiB ?_ ?_|refine aiA ?_ ?_|refine ahR ?_ ?_|refine ahY ?_ ?_|refine ahQ (DE.units ‹_›) ?_ ?_|refine ahW (DE.units ‹_›) ?_ ?_|refine qu Q6 Q6 UN UN ?_ ?_ ?_|refine qu Q6 Zh UN lH ?_ ?_ ?_)|with_reducible refine ahZ ?_|refine ahX ?_|refine ah_ ?_|refine aha ?_)
 |(show Lc _ _ _ _;first|exact afs|exact ahz|refine ai0 ?_|refine ahs ?_ ?_)
 |(show G7 _ _ _ _;first|(show G7 _ _ (.Expr _ _) _;first|exact aht|refine ahv ?_)|(show G7 _ _ (.Return _ _) _;first|exact ai4|refine ai3 ?_)|(show G7 _ _ (.Assign _ _ _) _;first|refine ai6 ?_|refine ahq _ _ _ (C6.Bj ‹_›) (by rfl) ?_ ?_ ?_ (λ_ _ _ _ _ _ _=>?_)|refine ai5 _ (C6.Bj ‹_›) ?_|refine agw ?_ ?_|refine ahu (DE.units ‹_›) ?_ ?_ ?_|refine ai2 ?_ ?_ ?_|refine ahr _ _ _ (C6.Bj ‹_›) (by rfl) ?_ ?_ ?_ (λ_ _ _ _ _ _ _=>?_)|refine fG (Dt.kq ‹_›) ?_ ?_|refine fG (Dt.kr ‹_›) ?_ ?_|refine fG (Dt.ks ‹_›) ?_ ?_)|(show G7 _ _ (.For _ _ _ _ _) _;first|refine ahw ?_ ?_ ?_|refine ahx ?_ ?_ ?_)|exact ahp|exact ai1|refine ahy ?_ ?_ ?_|exact W3 (Dt.afl ‹_›)|exact W3 (Dt.afm ‹_›)|exact W3 (Dt.afn ‹_›)|exact W3 (Dt.afo ‹_›)|exact W3 (Dt.afp ‹_›)|refine ai7 ?_ ?_)
 |exact afr
 |refine afq ?_ ?_
 |refine ahb ?_ ?_
 |refine ahd ?_ ?_
 |refine ahc ?_
 |refine ahe ?_
 |exact agV
 |refine agW ?_
 |exact uA _ (hN:=of_decide_eq_true ( by kernel_rfl ))
 |exact u9 _ (hN:=of_decide_eq_true ( by kernel_rfl ))
 |exact uB _ _ (hN:=of_decide_eq_true ( by kernel_rfl ))
 |exact uM
 |refine uL (λ_ _ _ _ _ _ _=>?_)
 |exact agN _ (C6.Bj ‹_›)
 |refine agP ?_
 |exact agO
 |refine agv ?_ ?_
 |refine agR (Dt.sW ‹_›) ?_
 |refine agS (Dt.bi ‹_›) ?_
 |refine agT (Dt.bi ‹_›) ?_
 |refine agU (Dt.sY ‹_›) ?_
 |refine agQ ?_
 )
namespace BN
end BN
namespace BJ
end BJ
open PySem PySem.Spec BN BJ
namespace BN
open PyProof.Rows
abbrev Key:=Sum Int Str
noncomputable def S9:Key->A8->Bool
 |.inl k,v=>Value.isInt k v
 |.inr x,v=>Value.isStrOf x v
noncomputable def yQ(w:Bq):Key->Int
 |.inl k=>hashInt k
 |.inr x=>hashStr w x
def NK:∀{k:Key}{v:A8},S9 k v=true->(∃i t,k=Qn i/\v=Sk i t)\/(∃x t,k=Qo x/\v=Sl x t)
 |.inl i,v,h=>by obtain⟨t,e⟩:=Value.isInt_shape (k:=i) (v:=v) h;exact .inl ⟨i,t,rfl,e⟩
 |.inr x,v,h=>by obtain⟨t,e⟩:=Value.isStrOf_shape (x:=x) (v:=v) h;exact .inr ⟨x,t,rfl,e⟩
def yR(i:Int)(t:Tok):S9 (.inl i) (.int i t)=true:=by simp[S9,Value.isInt]
def yS(x:Str)(t:Tok):S9 (.inr x) (.str x t)=true:=by simp[S9,Value.isStrOf]
def yT(a b:Int):decide ((Qn a:Key)=Qn b)=(a==b):=by
 by_cases e:a=b
 .subst e;simp
 .have h:¬(Qn a:Key)=Qn b:=λq=>e (Sum.inl.inj q);rw[decide_eq_false h];exact(beq_eq_false_iff_ne.mpr e).symm
def zy(a b:Str):decide ((Qo a:Key)=Qo b)=decide (a=b):=by
 by_cases e:a=b
 .subst e;simp
 .have h:¬(Qo a:Key)=Qo b:=λq=>e (Sum.inr.inj q);rw[decide_eq_false h,decide_eq_false e]
def yU(a:Int)(b:Str):decide ((Qn a:Key)=Qo b)=false:=decide_eq_false (λq=>nomatch q)
def yy(a:Str)(b:Int):decide ((Qo a:Key)=Qn b)=false:=decide_eq_false (λq=>nomatch q)
def HA(prog:CD)(w:Bq):fs prog w Key where
 is:=S9
 hash:=yQ w
 inj:=λv a b AF A4=>by
  rcases NK AF with⟨i,t,rfl,rfl⟩|⟨x,t,rfl,rfl⟩
  .rcases NK A4 with⟨j,u,rfl,e⟩|⟨y,u,rfl,e⟩
   .injection e with A9 _;rw[A9]
   .exact nomatch e
  .rcases NK A4 with⟨j,u,rfl,e⟩|⟨y,u,rfl,e⟩
   .exact nomatch e
   .injection e with A9 _;rw[A9]
 byValue:=λk v h=>by rcases NK h with⟨i,t,rfl,rfl⟩|⟨x,t,rfl,rfl⟩<;>rfl
 pyHash:=λCL h=>by
  rcases NK CL with⟨i,t,rfl,rfl⟩|⟨x,t,rfl,rfl⟩
  .exact wpAny_pyHash_int h
  .exact wpAny_pyHash_str h
 eqBool:=λBS CL h=>by
  rcases NK BS with⟨i,t,rfl,rfl⟩|⟨x,t,rfl,rfl⟩
  .rcases NK CL with⟨j,u,rfl,rfl⟩|⟨y,u,rfl,rfl⟩
   .rw[yT]at h;exact wpAny_eqBool_int h
   .rw[yU]at h;exact SeqAt.EqAt.int_str i t y u _ _ _ _ h
  .rcases NK CL with⟨j,u,rfl,rfl⟩|⟨y,u,rfl,rfl⟩
   .rw[yy]at h;exact SeqAt.EqAt.str_int x t j u _ _ _ _ h
   .rw[zy]at h;exact wpAny_eqBool_str h
 «strs»:=λk x t v h=>by
  rcases NK h with⟨i,u,rfl,e⟩|⟨y,u,rfl,e⟩
  .exact nomatch e
  .injection e with A9 _;subst A9;cases v<;>rfl
def aaX(prog:CD)(w:Bq)(k:Key)(v:A8):(HA prog w).is k v=S9 k v:=rfl
def abJ(prog:CD)(w:Bq)(i:Int)(t:Tok):(HA prog w).is (.inl i) (.int i t)=true:=yR i t
def aaY(prog:CD)(w:Bq)(x:Str)(t:Tok):(HA prog w).is (.inr x) (.str x t)=true:=yS x t
abbrev Ex:=↑Key
inductive V where
 |non|AL (b:Bool)|int (i:Int)|str (x:Str)|Pm (b:Array UInt8)|RJ (b:UInt64)|ref (a:A6)|ty (n:String)
 deriving DecidableEq
def RelV:V->A8->Prop
 |.non,u=>u=K2
 |.AL b,u=>u=Qm b
 |.int i,u=>∃t,u=Sk i t
 |.str x,u=>∃t,u=Sl x t
 |.Pm b,u=>∃t,u=Value.bytes b t
 |.RJ b,u=>∃t,u=gJ b t
 |.ref a,u=>u=DB a
 |.ty n,u=>u=O5 n
abbrev Vals:↑V->↑A8->Prop:=Paired RelV
theorem Vals.length{xs:↑V}{us:↑A8}(r:Vals xs us):⇑xs=⇑us:=Paired.length r
theorem Vals.get:∀{xs:↑V}{us:↑A8}{i:Nat}{x:V},Vals xs us->xs[i]?=↥x->∃u,us[i]?=↥u/\RelV x u
 |_,_,_,_,.nil,e=>by simp at e
 |_,_,0,_,.cons r _,e=>by simp at e;subst e;exact⟨_,rfl,r⟩
 |_,_,i+1,x,.cons _ t,e=>by obtain⟨u,h1,h2⟩:=Vals.get (i:=i) (x:=x) t (e:);exact⟨u,(h1:),h2⟩
theorem Vals.set{x:V}{u:A8}(r:RelV x u):∀{xs:↑V}{us:↑A8}(i:Nat),Vals xs us->Vals (xs.set i x) (us.set i u)
 |_,_,_,.nil=>.nil
 |_,_,0,.cons _ t=>.cons r t
 |_,_,i+1,.cons q t=>.cons q (Vals.set r i t)
theorem Vals.append:∀{xs ys:↑V}{us ws:↑A8},Vals xs us->Vals ys ws->Vals (xs++ys) (us++ws)
 |_,_,_,_,.nil,s=>s
 |_,_,_,_,.cons r t,s=>.cons r (Vals.append t s)
theorem Vals.take:∀{xs:↑V}{us:↑A8}(n:Nat),Vals xs us->Vals (xs.take n) (us.take n)
 |_,_,0,_=>.nil
 |_,_,_+1,.nil=>.nil
 |_,_,n+1,.cons r t=>.cons r (Vals.take n t)
theorem Vals.drop:∀{xs:↑V}{us:↑A8}(n:Nat),Vals xs us->Vals (xs.drop n) (us.drop n)
 |_,_,0,r=>r
 |_,_,_+1,.nil=>.nil
 |_,_,n+1,.cons _ t=>Vals.drop n t
def I4:Option V->Option A8->Prop
 |some v,↥u=>RelV v u
 |none,none=>True
 |_,_=>False
def Fn{Bp:Type}:↑(Bp×V)->↑(Bp×A8)->Prop:=Paired λ(p:Bp×V)(q:Bp×A8)=>p.1=q.1/\RelV p.2 q.2
def D0:Key->V
 |.inl i=>.int i
 |.inr x=>.str x
inductive Ev where
 |lst (xs:↑V)
 |tup (xs:↑V)
 |BM (AD:↑(Key×V))|ED (AD:↑(Ex×V))
 |set (S:Int->Bool) (n:Nat)
 |ins (C Bt:A6) (BA:↑(Str×V))
 |own (x:A6)
 |S1 (BA:↑(Str×V))
 |met (f x:A6)
 |Zt (lo AA:Int)
 |Dg (o:Obj) (u:Ev)
 |OU (ps:Array A8)
 |ext (φ:BG->Prop)
abbrev AE:=A6->Option Ev
noncomputable def upd(H:AE)(a:A6)(o:Ev):AE:=λb=>if b=a then↥o else H b
def Ec{H:AE}{a:A6}{o:Ev}:upd H a o a=↥o:=by unfold upd;rw[if_pos rfl]
def DK{H:AE}{a b:A6}{o:Ev}(h:b≠a):upd H a o b=H b:=by unfold upd;rw[if_neg h]
def aaR{H:AE}{a b:A6}{o u:Ev}(h:H a=↥o)(h':H b=↥u)(d:o≠u):a≠b:=by intro e;subst e;rw[h]at h';exact d (Ga h')
def Ku{H:AE}{a b:A6}{o:Ev}(h:H a=↥o)(h':H b=none):a≠b:=by intro e;subst e;rw[h]at h';cases h'
def OO(H:AE)(k:Ex)(a:A6):Prop:=H a=↥(.tup (k.map D0))
section
variable(P:CD)(w:Bq)(K:Ao)
def EJ(H:AE)(h:BG)(a:A6):Ev->Prop
 |.lst xs=>⇑xs<=CU/\∃(its:↑A8)(n:Nat),Vals xs its/\h.get? a=some { cls:=.type "list",data:=.seq its.toArray n }
 |.tup xs=>⇑xs<=CU/\∃its:↑A8,Vals xs its/\IsTup h a its.toArray
 |.BM AD=>⇑AD<=CU/\(a==LM)=false/\∃vs,Fn AD vs/\h.DictOf (HA P w) a vs
 |.ED AD=>⇑AD<=CU/\(a==LM)=false/\∃xs:↑(Ex×A6×A8),
     Paired (λ(p:Ex×V)(q:Ex×A6×A8)=>p.1=q.1/\OO H p.1 q.2.1/\RelV p.2 q.2.2) AD xs/\
     ∃o es B9,h.get? a=↥o/\o.ExactDict/\o.data=.dict es B9/\es.toList=xs.map (entryOfKey (tupleKind (HA P w)))/\(xs.map (·.1)).Nodup
 |.set S n=>h.SetOf (intKind P w) a S n
 |.ins C Bt BA=>H Bt=↥(.own a)/\ ⇑BA<=1000/\Bt≠a/\h.get? a=↥(PN C Bt)/\
     ∃ES,h.Ns1 Bt ES/\(∀f,I4 (BA.lookup f) (ES f))/\gB ES (BA.map (·.1))
 |.own _=>∃o,h.get? a=↥o
 |.S1 BA=>∃ES,h.Ns1 a ES/\∀f,I4 (BA.lookup f) (ES f)
 |.Zt lo AA=>∃t u v,h.get? a=some { cls:=.type "range",data:=.fields #[.int lo t,.int AA u,.int 1 v] }
 |.Dg o u=>h.get? a=↥o/\EJ H h a u
 |.OU ps=>h.get? a=some { cls:=.none,data:=.fields ps }
 |.met f x=>h.get? a=↥(fX (.ref f) (.ref x))
 |.ext φ=>φ h/\(∃o,h.get? a=↥o)/\∀h1 h2:BG,φ h1->(∀o,h1.get? a=↥o->h2.get? a=↥o)->φ h2
def Ew(H:AE)(h:BG):Prop:=∀a o,H a=↥o->EJ P w H h a o
end
section
variable{P:CD}{w:Bq}{K:Ao}{H AC:AE}{h h':BG}{a:A6}{o:Ev}
theorem EJ.lt(x:EJ P w H h a o):a<h.objs.size:=by
 cases o with
 |lst xs=>obtain⟨_,_,_,_,e⟩:=x;exact EN e
 |tup xs=>obtain⟨_,_,_,p⟩:=x;exact p.lt
 |BM AD=>obtain⟨_,_,_,_,o,_,_,e,_⟩:=x;exact EN e
 |ED AD=>obtain⟨_,_,_,_,o,_,_,e,_⟩:=x;exact EN e
 |set S n=>obtain⟨o,_,_,_,e,_⟩:=x;exact EN e
 |ins C Bt BA=>obtain⟨_,_,_,e,_⟩:=x;exact EN e
 |own y=>obtain⟨_,e⟩:=x;exact EN e
 |S1 BA=>obtain⟨_,⟨_,_,_,e,_⟩,_⟩:=x;exact EN e
 |Zt lo AA=>obtain⟨_,_,_,e⟩:=x;exact EN e
 |Dg BQ u=>obtain⟨e,_⟩:=x;exact EN e
 |OU ps=>exact EN (show h.get? a=↥_ from x)
 |met f y=>exact EN (show h.get? a=↥_ from x)
 |ext φ=>obtain⟨_,⟨_,e⟩,_⟩:=x;exact EN e
theorem Paired.dO{α β:Type}{F G:α->β->Prop}:∀{l₁:↑α}{l₂:↑β},Paired F l₁ l₂->(∀a b,F a b->G a b)->Paired G l₁ l₂
 |_,_,.nil,_=>.nil
 |_,_,.cons r t,f=>.cons (f _ _ r) (Paired.dO t f)
def EJ.Ng(x:EJ P w H h a o)(k:∀b u,(b=a\/H b=↥(.own a))->h.get? b=↥u->h'.get? b=↥u)(ho:∀b,H b=↥(.own a)->AC b=↥(.own a))(BY:∀b xs,H b=↥(.tup xs)->AC b=↥(.tup xs)):EJ P w AC h' a o:=by
 induction o with
 |lst xs=>obtain⟨z,its,n,r,e⟩:=x;exact⟨z,its,n,r,k _ _ (.inl rfl) e⟩
 |tup xs=>obtain⟨z,its,r,BQ,e,c⟩:=x;exact⟨z,its,r,BQ,k _ _ (.inl rfl) e,c⟩
 |BM AD=>obtain⟨z,y,vs,r,BQ,es,B9,e,c⟩:=x;exact⟨z,y,vs,r,BQ,es,B9,k _ _ (.inl rfl) e,c⟩
 |ED AD=>obtain⟨z,y,xs,r,BQ,es,B9,e,c⟩:=x;exact⟨z,y,xs,Paired.dO r λp q z=>⟨z.1,BY _ _ z.2.1,z.2.2⟩,BQ,es,B9,k _ _ (.inl rfl) e,c⟩
 |set S n=>obtain⟨BQ,es,B9,t,e,c⟩:=x;exact⟨BQ,es,B9,t,k _ _ (.inl rfl) e,c⟩
 |ins C Bt BA=>obtain⟨d,z,ne,e,ES,⟨EB,es,B9,AG,c⟩,r⟩:=x;exact⟨ho _ d,z,ne,k _ _ (.inl rfl) e,ES,⟨EB,es,B9,k _ _ (.inr d) AG,c⟩,r⟩
 |own y=>obtain⟨BQ,e⟩:=x;exact⟨BQ,k _ _ (.inl rfl) e⟩
 |S1 BA=>obtain⟨ES,⟨EB,es,B9,e,c⟩,r⟩:=x;exact⟨ES,⟨EB,es,B9,k _ _ (.inl rfl) e,c⟩,r⟩
 |Zt lo AA=>obtain⟨t,u,v,e⟩:=x;exact⟨t,u,v,k _ _ (.inl rfl) e⟩
 |Dg BQ u CC=>obtain⟨e,q⟩:=x;exact⟨k _ _ (.inl rfl) e,CC q⟩
 |OU ps=>have e:h.get? a=some { cls:=.none,data:=.fields ps }:=x;show h'.get? a=some { cls:=.none,data:=.fields ps };exact k a _ (.inl rfl) e
 |met f y=>have e:h.get? a=↥(fX (.ref f) (.ref y)):=x;show h'.get? a=↥(fX (.ref f) (.ref y));exact k a _ (.inl rfl) e
 |ext φ=>obtain⟨p,⟨o,e⟩,st⟩:=x;exact⟨st _ _ p λo q=>k _ _ (.inl rfl) q,⟨o,k _ _ (.inl rfl) e⟩,st⟩
theorem Ew.lt(x:Ew P w H h)(e:H a=↥o):a<h.objs.size:=(x a o e).lt
def Ew.fresh(x:Ew P w H h)(e:h.objs.size<=a):H a=none:=by
 cases q:H a with
 |none=>rfl
 |some u=>exact absurd (GH (x.lt q) e) (MG _)
def Ew.kept(x:Ew P w H h)(k:∀b u,h.get? b=↥u->h'.get? b=↥u):Ew P w H h':=λa o e=>
 (x a o e).Ng (λb u _ q=>k b u q) (λ_ q=>q) λ_ _ q=>q
def Ew.laid(x:Ew P w H h)(k:∀b u,h.get? b=↥u->h'.get? b=↥u)(AX:h.objs.size<=a)(new:EJ P w (upd H a o) h' a o):Ew P w (upd H a o) h':=λb u e=>by
 have Ae:=x.fresh AX;by_cases A4:b=a
 .subst A4;rw[Ec]at e;cases e;exact new
 .rw[DK A4]at e;exact(x b u e).Ng (λc v _ q=>k c v q) (λc q=>by rw[DK (Ku q Ae)];exact q) λc xs q=>by rw[DK (Ku q Ae)];exact q
end
def KR(H:AE)(a:A6)(u:Ev):Prop:=H a=↥u\/∃o,H a=↥(.Dg o u)
def KR.of{H:AE}{a:A6}{u:Ev}(h:H a=↥u):KR H a u:=.inl h
def KR.ok{P:CD}{w:Bq}{H:AE}{h:BG}{a:A6}{u:Ev}(r:KR H a u)(x:Ew P w H h):EJ P w H h a u:=by
 rcases r with r|⟨o,r⟩
 .exact x a u r
 .obtain⟨_,q⟩:=x a _ r;exact q
def V3:Option Ev->Prop
 |some (.lst _)=>True
 |some (.BM _)=>True
 |some (.ED _)=>True
 |some (.set _ _)=>True
 |some (.ins _ _ _)=>True
 |some (.ext _)=>True
 |_=>False
section
variable{P:CD}{w:Bq}{K:Ao}{H:AE}{h h':BG}{x e:A6}{o':Ev}
def Ew.write(ok:Ew P w H h)(Ii:V3 (H x))(he:e=x\/H e=↥(.own x))(k:∀b u,b≠e->h.get? b=↥u->h'.get? b=↥u)(T8:∃u,h'.get? e=↥u)(new:EJ P w (upd H x o') h' x o'):Ew P w (upd H x o') h':=λb u q=>by
 have lA:∀c y,H c=↥(.own y)->c≠x:=λc y r z=>by subst z;rw[r]at Ii;exact Ii
 have ac7:∀c xs,H c=↥(.tup xs)->c≠x:=λc xs r z=>by subst z;rw[r]at Ii;exact Ii
 by_cases A4:b=x
 .subst A4;rw[Ec]at q;cases q;exact new
 .rw[DK A4]at q;by_cases Qt:b=e
  .have DZ:H b=↥(.own x):=by
     rcases he with z|z
     .exact absurd (Qt.trans z) A4
     .rw[Qt];exact z
   rw[q]at DZ;cases DZ;obtain⟨v,CL⟩:=T8;exact⟨v,by rw[Qt];exact CL⟩
  .refine(ok b u q).Ng (λc v AK r=>k c v ?_ r) (λc r=>by rw[DK (lA c b r)];exact r) λc xs r=>by rw[DK (ac7 c xs r)];exact r
   rcases AK with rfl|AK
   .exact Qt
   .rintro rfl;rcases he with z|z
    .exact lA c b AK z
    .rw[AK]at z;cases z;exact A4 rfl
end
structure Fs(BA ex:↑A6)(H AC:AE)(h h':BG):Prop where
 keep:∀b o,h.get? b=↥o->H b=none->b∉BA->b∉ex->h'.get? b=↥o
 slot:∀b o,h.get? b=↥o->H b=none->b∈BA->b∉ex->∃CP,h'.get? b=some { o with slots:=CP }
 free:∀b o,h.get? b=↥o->H b=none->b∉ex->AC b=none
 there:∀b o,h.get? b=↥o->b∉ex->∃o',h'.get? b=↥o'
 JK:∀b xs,H b=↥(.tup xs)->AC b=↥(.tup xs)
 I7:∀b o u,H b=↥(.Dg o u)->AC b=↥(.Dg o u)
 JJ:∀b ps,H b=↥(.OU ps)->∃more,AC b=↥(.OU (ps++more))
section
variable{BA Np ex aj8:↑A6}{H H1 AH:AE}{h h1 h2 h':BG}{a x e:A6}{o:Ev}
def Fs.any(u:Fs BA ex H H1 h h1){b:A6}{BQ:Obj}(q:h.get? b=↥BQ)(n:H b=none)(AM:b∉ex):∃CP,h1.get? b=some { BQ with slots:=CP }:=by
 by_cases A4:b∈BA
 .exact u.slot b BQ q n A4 AM
 .exact⟨BQ.slots,u.keep b BQ q n A4 AM⟩
def Fs.trans(a:Fs BA ex H H1 h h1)(b:Fs BA ex H1 AH h1 h2):Fs BA ex H AH h h2 where
 keep:=λc BQ q n AK AM=>b.keep c BQ (a.keep c BQ q n AK AM) (a.free c BQ q n AM) AK AM
 slot:=λc BQ q n AK AM=>by obtain⟨CP,A9⟩:=a.slot c BQ q n AK AM;obtain⟨eK,AG⟩:=b.slot c _ A9 (a.free c BQ q n AM) AK AM;exact⟨eK,AG⟩
 free:=λc BQ q n AM=>by obtain⟨o',A9⟩:=a.there c BQ q AM;exact b.free c o' A9 (a.free c BQ q n AM) AM
 there:=λc BQ q AM=>by obtain⟨o',A9⟩:=a.there c BQ q AM;exact b.there c o' A9 AM
 JK:=λc xs q=>b.JK c xs (a.JK c xs q)
 I7:=λc BQ xs q=>b.I7 c BQ xs (a.I7 c BQ xs q)
 JJ:=λc ps q=>by obtain⟨Hp,A9⟩:=a.JJ c ps q;obtain⟨H8,AG⟩:=b.JJ c _ A9;exact⟨Hp++H8,by rw[AG,fb]⟩
def Fs.kept(k:∀b u,h.get? b=↥u->h'.get? b=↥u):Fs BA ex H H h h':=
 ⟨λb BQ q _ _ _=>k b BQ q,λb BQ q _ _ _=>⟨BQ.slots,k b BQ q⟩,λ_ _ _ n _=>n,λb BQ q _=>⟨BQ,k b BQ q⟩,λ_ _ q=>q,λ_ _ _ q=>q,λ_ ps q=>⟨#[],by rw[q];simp⟩⟩
def Fs.refl:Fs BA ex H H h h:=Fs.kept λ_ _ q=>q
def Fs.laid(k:∀b u,h.get? b=↥u->h'.get? b=↥u)(AX:h.objs.size<=a)(Ae:H a=none):Fs BA ex H (upd H a o) h h' where
 keep:=λb u q _ _ _=>k b u q
 slot:=λb u q _ _ _=>⟨u.slots,k b u q⟩
 free:=λb u q n _=>by rw[DK (FG (GH (EN q) AX))];exact n
 there:=λb u q _=>⟨u,k b u q⟩
 JK:=λb xs q=>by rw[DK (Ku q Ae)];exact q
 I7:=λb u xs q=>by rw[DK (Ku q Ae)];exact q
 JJ:=λb ps q=>⟨#[],by rw[DK (Ku q Ae),q];simp⟩
def Fs.write(Ii:V3 (H x))(he:e=x\/H e=↥(.own x))(k:∀b u,b≠e->h.get? b=↥u->h'.get? b=↥u)(T8:∃u,h'.get? e=↥u):Fs BA ex H (upd H x o) h h':=by
 have AM:∀b,H b=none->b≠x:=λb n z=>by subst z;rw[n]at Ii;exact Ii
 have A4:∀b,H b=none->b≠e:=λb n z=>by
  subst z;rcases he with r|r
  .exact AM b n r
  .rw[n]at r;cases r
 have hm:∀b u,H b=↥u->¬V3 ↥u->b≠x:=λb u q nm z=>by subst z;rw[q]at Ii;exact nm Ii
 refine⟨λb u q n _ _=>k b u (A4 b n) q,λb u q n _ _=>⟨u.slots,k b u (A4 b n) q⟩,λb u q n _=>by rw[DK (AM b n)];exact n,λb u q _=>?_,
  λb xs q=>by rw[DK (hm b _ q λz=>z)];exact q,λb u xs q=>by rw[DK (hm b _ q λz=>z)];exact q,λb ps q=>⟨#[],by rw[DK (hm b _ q λz=>z),q];simp⟩⟩
 by_cases Qt:b=e
 .subst Qt;exact T8
 .exact⟨u,k b u Qt q⟩
end
noncomputable def aV(h:BG)(H:AE):↑A6:=(Cg h.objs.size).filter λa=>(H a).isSome
def PE(h:BG)(H:AE):BG:=XT h (aV h H)
def ww(h:BG)(H:AE):(PE h H).objs.size=h.objs.size:=PySem.W.hideAll_size _ _
def wv{h:BG}{H:AE}{b:A6}{o:Obj}(e:h.get? b=↥o)(n:H b=none):(PE h H).get? b=↥o:=
 re _ e λhm=>by have q:(H b).isSome=true:=(List.mem_filter.mp hm).2;rw[n]at q;simp at q
def abU{h:BG}{H:AE}{b:A6}{o:Obj}(e:(PE h H).get? b=↥o):h.get? b=↥o/\H b=none:=by
 have Bg:h.get? b=↥o:=rt (aV h H) e;refine⟨Bg,?_⟩;cases q:H b with
 |none=>rfl
 |some x=>have hm:b∈aV h H:=List.mem_filter.mpr ⟨List.mem_range.mpr (EN Bg),by simp[q]⟩;have z:(PE h H).get? b=none:=PySem.W.hideAll_none (aV h H) hm;rw[z]at e;cases e
noncomputable def sq(g h:BG)(L:A6):μ:=(Cg h.objs.size).filterMap λa=>if a=L\/(g.get? a).isSome=true then none else(h.get? a).map λo=>(a,o)
def rest(g h:BG)(L d:A6):μ:=(sq g h L).filter λp=>decide (p.1≠d)
structure Mod(K:Ao)(mg:Str->Option A8)(base:BG):Prop where
 TM:K.In base
 glob:base.Ns FQ mg
 blt:∃Gs,base.Ns builtinsNs Gs/\∀x:Str,x≠"__name__"->Gs x=O8 x
 nolimit:base.NoLimit
structure Aw where
 prog:CD
 w:Bq
 K:Ao
 mg:Str->Option A8
 base:BG
 A:D3
 N:↑Str
 G1:AR
 M8:AE
 env:Env
 outer:↑Env
 stack:↑Env
 ex:↑A6
 fn:Str->Bool
 calm:Bool
 pn:μ
 DA:A8->AR->Prop
def FC(l:↑Env):↑A6:=l.filterMap (·.frame)
abbrev Aw.BA(X:Aw):↑A6:=FC X.outer
def YM(sc:FH)(x:Str):Prop:=sc.names.lookup x=↥.local\/sc.names.lookup x=↥.cell\/sc.names.lookup x=↥.free
def Loc(sc:FH)(x:Str):Prop:=sc.names.lookup x=↥.local\/sc.names.lookup x=↥.cell
def Look(env:Env)(h:BG)(m:Str->Option A8)(x:Str)(u:A8):Prop:=
 (env.kindOf x=↥.local/\m x=↥u)\/((env.kindOf x=↥.cell\/env.kindOf x=↥.free)/\∃c,env.cells.lookup x=↥c/\h.IsCell c ↥u)
structure Aw.Ok(X:Aw):Prop where
 mod:Mod X.K X.mg X.base
 kind:X.env.scope.kind=.function
 glob:X.env.globals=FQ
 blt:X.env.builtins=builtinsNs
 above:X.G1.heap.objs.size<=X.env.locals
 inj:∀x y c,X.env.cells.lookup x=↥c->X.env.cells.lookup y=↥c->x=y
 has:∀x,(X.env.kindOf x=↥.cell\/X.env.kindOf x=↥.free)->∃c,X.env.cells.lookup x=↥c
 Vp:∀x c,X.fn x=true->X.env.cells.lookup x=↥c->X.G1.heap.objs.size<=c
 hd:X.calm=true->X.A.handled=none
 frames:X.A.frames=↥X.stack
 ZR:X.stack=X.outer\/(X.stack=X.env::X.outer/\X.env.frame=↥X.env.locals)
 iR:∀b∈X.ex,b≠X.env.locals/\∀x c,X.env.cells.lookup x=↥c->c≠b
 bs:∀b o,X.base.get? b=↥o->X.G1.heap.get? b=↥o/\X.M8 b=none
 Pl:X.base.objs.size<=X.G1.heap.objs.size
 Wp:∀b o,X.base.get? b=↥o->b∉X.ex
 Ya:∀b∈X.ex,b∉X.BA
 Kc:X.G1.heap.FunFrames X.base X.outer
 RM:∀b∈X.BA,X.M8 b=none
structure Inv(X:Aw)(A3:μ)(σ :↑(Option V))(H:AE)(s:AR):Prop where
 ok:X.Ok
 os:s.os=X.G1.os
 bare:N0 s.gens
 base:Fs X.BA X.ex X.M8 H X.G1.heap s.heap
 loc:∃m,s.heap.Ns X.env.locals m/\∀(i:Nat)(x:Str)(v:V),X.N[i]?=↥x-> σ[i]?=↥↥v->YM X.env.scope x->∃u,RelV v u/\Look X.env s.heap m x u
 cell:∀x c,X.env.cells.lookup x=↥c->∃v,s.heap.IsCell c v
 free:H X.env.locals=none
 Ll:∀x c,X.env.cells.lookup x=↥c->H c=none
 pin:∀p∈X.pn++A3,s.heap.get? p.1=↥p.2/\H p.1=none/\p.1≠X.env.locals/\p.1∉X.BA/\∀v,p.2.data≠.cell v
 BB:Ew X.prog X.w H s.heap
 len:⇑σ =⇑X.N
section
variable{X:Aw}{A3:μ}{σ :↑(Option V)}{H AC:AE}{s:AR}{h':BG}
def Aw.Ok.abz(ok:X.Ok){b:A6}{o:Obj}(e:X.base.get? b=↥o):b∉X.BA:=λA4=>by have:=(ok.Kc.mem A4).1;rw[e]at this;cases this
theorem Inv.bs(A0:θ):∀b o,X.base.get? b=↥o->s.heap.get? b=↥o/\H b=none:=λb o e=>
 ⟨A0.base.keep b o (A0.ok.bs b o e).1 (A0.ok.bs b o e).2 (A0.ok.abz e) (A0.ok.Wp b o e),A0.base.free b o (A0.ok.bs b o e).1 (A0.ok.bs b o e).2 (A0.ok.Wp b o e)⟩
def Inv.Bv(A0:θ):∀b o,X.base.get? b=↥o->s.heap.get? b=↥o:=λb o e=>(A0.bs b o e).1
theorem Inv.mod(A0:θ):Mod X.K X.mg X.base:=A0.ok.mod
def Inv.Fc(A0:θ):X.K.In s.heap:=A0.ok.mod.TM.keeps A0.Bv
theorem Inv.lt(A0:θ):X.env.locals<s.heap.objs.size:=let⟨_,Ae,_⟩:=A0.loc;Ae.lt
def Inv.QP(A0:θ):X.G1.heap.objs.size<=s.heap.objs.size:=Gm A0.ok.above (Qh A0.lt)
def Inv.ac1(A0:θ){a:A6}(h:s.heap.objs.size<=a):a∉X.BA:=λA4=>by obtain⟨_,o,ho,_⟩:=A0.ok.Kc.mem A4;exact absurd (GH (EN ho) (Gm A0.QP h)) (MG _)
def Inv.R9(A0:θ):∀x c,X.env.cells.lookup x=↥c->c≠X.env.locals:=λx c e z=>by obtain⟨v,o,ho,hd⟩:=A0.cell x c e;obtain⟨m,⟨o',es,B9,I8,c9,_⟩,_⟩:=A0.loc;rw[z,I8]at ho;cases ho;rw[c9]at hd;cases hd
theorem Inv.Kc(A0:θ):s.heap.FunFrames X.base X.outer:=by
 have all:∀(l:↑Env),(∀b∈FC l,b∈X.BA)->X.G1.heap.FunFrames X.base l->s.heap.FunFrames X.base l:=by
  intro l;induction l with
  |nil=>intro _ _;trivial
  |cons env r CC=>intro AS AI;obtain⟨AQ,⟨L,o,hf,Ae,ho,hd⟩,BZ⟩:=AI;have GE:L∈X.BA:=AS L (by unfold FC;rw[SS,hf];exact I0);obtain⟨CP,e⟩:=A0.base.slot L o ho (A0.ok.RM L GE) GE λz=>A0.ok.Ya L z GE;exact⟨AQ,⟨L,_,hf,Ae,e,hd⟩,CC (λb A4=>AS b (by unfold FC;rw[SS,hf];exact Gw _ A4)) BZ⟩
 exact all X.outer (λ_ A4=>A4) A0.ok.Kc
theorem Inv.stack(A0:θ):s.heap.FunFrames X.base X.stack:=by
 rcases A0.ok.ZR with e|⟨e,hf⟩
 .rw[e];exact A0.Kc
 .rw[e];obtain⟨m,Ae,_⟩:=A0.loc;refine .cons (by rw[A0.ok.kind];decide) hf Ae ?_ A0.Kc;exact Heap.get?_none_of_le (Gm A0.ok.Pl A0.ok.above)
def Inv.ZS(A0:θ):∀b∈FC X.stack,b∈X.env.locals::X.BA:=λb A4=>by
 rcases A0.ok.ZR with e|⟨e,hf⟩
 .rw[e]at A4;exact Gw _ A4
 .rw[e]at A4;unfold FC at A4;rw[SS,hf]at A4;exact A4
def Inv.eO(A0:θ):∀b∈FC X.stack,H b=none:=λb A4=>by
 rcases List.mem_cons.mp (A0.ZS b A4)with e|A4
 .rw[e];exact A0.free
 .obtain⟨_,o,ho,_⟩:=A0.ok.Kc.mem A4;exact A0.base.free b o ho (A0.ok.RM b A4) λz=>A0.ok.Ya b z A4
def Inv.step{g':Array GenState}{t':Nat}{d':Drawn}{ch:↑A6}(A0:θ)(Nu:∀b∈ch,(b∈X.ex\/X.G1.heap.objs.size<=b)/\b≠X.env.locals/\(∀x c,X.env.cells.lookup x=↥c->c≠b)/\∀p∈X.pn++A3,p.1≠b)(keep:∀b o,b≠X.env.locals->b∉X.BA->b∉ch->s.heap.get? b=↥o->H b=none->h'.get? b=↥o)(slot:∀b o,b≠X.env.locals->b∈X.BA->b∉ch->s.heap.get? b=↥o->H b=none->∃CP,h'.get? b=some { o with slots:=CP })(free:∀b o,b∉ch->s.heap.get? b=↥o->H b=none->AC b=none)(there:∀b o,b∉ch->s.heap.get? b=↥o->∃o',h'.get? b=↥o')(JK:∀b xs,H b=↥(.tup xs)->AC b=↥(.tup xs))(I7:∀b o u,H b=↥(.Dg o u)->AC b=↥(.Dg o u))(JJ:∀b ps,H b=↥(.OU ps)->∃more,AC b=↥(.OU (ps++more)))(ns:∀m,s.heap.Ns X.env.locals m->h'.Ns X.env.locals m)(BB:Ew X.prog X.w AC h')(Ar:N0 g') :
  Inv X A3 σ AC { s with heap:=h',gens:=g',drawn:=d',toks:=t' }:=by
 have lv:∀b o,X.G1.heap.get? b=↥o->b≠X.env.locals:=λb o e=>FG (GH (EN e) A0.ok.above);have aG:∀b o,X.G1.heap.get? b=↥o->b∉X.ex->b∉ch:=λb o e AM A4=>by
  rcases(Nu b A4).1 with z|z
  .exact AM z
  .exact absurd (GH (EN e) z) (MG _)
 have cellK:∀x c,X.env.cells.lookup x=↥c->∀v,s.heap.IsCell c v->h'.IsCell c v:=λx c e v⟨o,ho,hd⟩=>by
  have Wl:c∉ch:=λz=>(Nu c z).2.2.1 x c e rfl;by_cases AK:c∈X.BA
  .obtain⟨CP,q⟩:=slot c o (A0.R9 x c e) AK Wl ho (A0.Ll x c e);exact⟨_,q,hd⟩
  .exact⟨o,keep c o (A0.R9 x c e) AK Wl ho (A0.Ll x c e),hd⟩
 refine⟨A0.ok,A0.os,Ar,⟨λb o e n A4 AM=>?_,λb o e n A4 AM=>?_,λb o e n AM=>?_,λb o e AM=>?_,λb xs e=>JK b xs (A0.base.JK b xs e),λb o xs e=>I7 b o xs (A0.base.I7 b o xs e),λb ps e=>?_⟩,?_,λx c e=>?_,?_,λx c e=>?_,λp AX=>?_,BB,A0.len⟩
 .exact keep b o (lv b o e) A4 (aG b o e AM) (A0.base.keep b o e n A4 AM) (A0.base.free b o e n AM)
 .obtain⟨CP,A9⟩:=A0.base.slot b o e n A4 AM;obtain⟨eK,AG⟩:=slot b _ (lv b o e) A4 (aG b o e AM) A9 (A0.base.free b o e n AM);exact⟨eK,AG⟩
 .obtain⟨o',A9⟩:=A0.base.there b o e AM;exact free b o' (aG b o e AM) A9 (A0.base.free b o e n AM)
 .obtain⟨o',A9⟩:=A0.base.there b o e AM;exact there b o' (aG b o e AM) A9
 .obtain⟨Hp,A9⟩:=A0.base.JJ b ps e;obtain⟨H8,AG⟩:=JJ b _ A9;exact⟨Hp++H8,by rw[AG,fb]⟩
 .obtain⟨m,Ae,AI⟩:=A0.loc;refine⟨m,ns m Ae,λi x v A9 AG DS=>?_⟩;obtain⟨u,r,l⟩:=AI i x v A9 AG DS;refine⟨u,r,?_⟩;rcases l with l|⟨k,c,e,z⟩
  .exact .inl l
  .exact .inr ⟨k,c,e,cellK x c e _ z⟩
 .obtain⟨v,z⟩:=A0.cell x c e;exact⟨v,cellK x c e v z⟩
 .obtain⟨m,⟨o,_,_,ho,_⟩,_⟩:=A0.loc;exact free _ o (λz=>(Nu _ z).2.1 rfl) ho A0.free
 .obtain⟨v,o,ho,hd⟩:=A0.cell x c e;exact free c o (λz=>(Nu c z).2.2.1 x c e rfl) ho (A0.Ll x c e)
 .obtain⟨e,n,ne,NV,d⟩:=A0.pin p AX;have Wl:p.1∉ch:=λz=>(Nu p.1 z).2.2.2 p AX rfl;exact⟨keep p.1 p.2 ne NV Wl e n,free p.1 p.2 Wl e n,ne,NV,d⟩
def Inv.un{t':Nat}(A0:θ)(u:Fs X.BA [] H AC s.heap h')(BB:Ew X.prog X.w AC h'):Inv X A3 σ AC { s with heap:=h',toks:=t' }:=by
 obtain⟨m,⟨o,es,B9,ho,r⟩,_⟩:=id A0.loc;obtain⟨CP,GE⟩:=u.any ho A0.free γ;exact A0.step (g':=s.gens) (d':=s.drawn) (ch:=[]) (λ_ z=>nomatch z) (λb o _ A4 _ e n=>u.keep b o e n A4 γ) (λb o _ A4 _ e n=>u.slot b o e n A4 γ) (λb o _ e n=>u.free b o e n γ) (λb o _ e=>u.there b o e γ) u.JK u.I7 u.JJ (λE7 hm=>by obtain⟨o',es',Lk,I8,Bm⟩:=hm;rw[ho]at I8;cases I8;exact⟨_,es',Lk,GE,Bm⟩) BB A0.bare
def Inv.call{g':Array GenState}{t':Nat}{d':Drawn}{ch:↑A6}(A0:θ)(u:Fs (FC X.stack) ch H AC s.heap h')(BB:Ew X.prog X.w AC h')(Ar:N0 g')(Nu:∀b∈ch,(b∈X.ex\/X.G1.heap.objs.size<=b)/\b≠X.env.locals/\(∀x c,X.env.cells.lookup x=↥c->c≠b)/\∀p∈X.pn++A3,p.1≠b) :
  Inv X A3 σ AC { s with heap:=h',gens:=g',drawn:=d',toks:=t' }:=by
 obtain⟨m,⟨o,es,B9,ho,r⟩,_⟩:=id A0.loc;obtain⟨CP,GE⟩:=u.any ho A0.free λz=>(Nu _ z).2.1 rfl;exact A0.step (ch:=ch) Nu (λb o GE A4 AK e n=>u.keep b o e n (λz=>(List.mem_cons.mp (A0.ZS b z)).elim GE A4) AK) (λb o _ _ AK e n=>u.any e n AK) (λb o AK e n=>u.free b o e n AK) (λb o AK e=>u.there b o e AK) u.JK u.I7 u.JJ (λE7 hm=>by obtain⟨o',es',Lk,I8,Bm⟩:=hm;rw[ho]at I8;cases I8;exact⟨_,es',Lk,GE,Bm⟩) BB Ar
def Inv.turned{t':Nat}{it:A6}(A0:θ)(k:∀b o,b≠it->s.heap.get? b=↥o->h'.get? b=↥o)(Ae:H it=none)(GE:it≠X.env.locals)(h1:it∈X.ex\/X.G1.heap.objs.size<=it)(h2:∀x c,X.env.cells.lookup x=↥c->c≠it)(BF:∀p∈X.pn++A3,p.1≠it):Inv X A3 σ H { s with heap:=h',toks:=t' }:=by
 have Pe:∀b u,H b=↥u->b≠it:=λb u e z=>by rw[z,Ae]at e;cases e
 refine A0.step (g':=s.gens) (d':=s.drawn) (ch:=[it]) (λb A4=>?_) (λb o _ _ AK e _=>k b o (λz=>AK (by simp[z])) e) (λb o _ _ AK e _=>⟨o.slots,k b o (λz=>AK (by simp[z])) e⟩) (λ_ _ _ _ n=>n)
  (λb o AK e=>⟨o,k b o (λz=>AK (by simp[z])) e⟩) (λ_ _ e=>e) (λ_ _ _ e=>e) (λb ps e=>⟨#[],by rw[e];simp⟩) (λm hm=>?_) (λb u e=>?_) A0.bare
 .have e:b=it:=by simpa using A4
  subst e;exact⟨h1,GE,h2,BF⟩
 .obtain⟨o,es,B9,ho,r⟩:=hm;exact⟨o,es,B9,k _ o (K6 GE) ho,r⟩
 .refine(A0.BB b u e).Ng (λc v AK q=>k c v ?_ q) (λ_ q=>q) λ_ _ q=>q;rcases AK with z|z
  .rw[z];exact Pe b u e
  .exact Pe c _ z
def Inv.tok(A0:θ)(t:Nat):Inv X A3 σ H { s with toks:=t }:=A0.un (h':=s.heap) (t':=t) Fs.refl A0.BB
theorem Inv.kept{t':Nat}(A0:θ)(k:∀b u,s.heap.get? b=↥u->h'.get? b=↥u):Inv X A3 σ H { s with heap:=h',toks:=t' }:=A0.un (Fs.kept k) (A0.BB.kept k)
theorem Inv.laid{a:A6}{o:Ev}{t':Nat}(A0:θ)(k:∀b u,s.heap.get? b=↥u->h'.get? b=↥u)(AX:s.heap.objs.size<=a)(new:EJ X.prog X.w (upd H a o) h' a o) :
  Inv X A3 σ (upd H a o) { s with heap:=h',toks:=t' }:=A0.un (Fs.laid k AX (A0.BB.fresh AX)) (A0.BB.laid k AX new)
theorem Inv.write{x e:A6}{o:Ev}{t':Nat}(A0:θ)(Ii:V3 (H x))(he:e=x\/H e=↥(.own x))(k:∀b u,b≠e->s.heap.get? b=↥u->h'.get? b=↥u)(T8:∃u,h'.get? e=↥u)(new:EJ X.prog X.w (upd H x o) h' x o):Inv X A3 σ (upd H x o) { s with heap:=h',toks:=t' }:=A0.un (Fs.write Ii he k T8) (A0.BB.write Ii he k T8 new)
def Inv.mc{ml:μ}(A0:θ)(h:∀p∈ml,s.heap.get? p.1=↥p.2/\H p.1=none/\p.1≠X.env.locals/\p.1∉X.BA/\∀v,p.2.data≠.cell v):Inv X ml σ H s:=
 ⟨A0.ok,A0.os,A0.bare,A0.base,A0.loc,A0.cell,A0.free,A0.Ll,λp AX=>(List.mem_append.mp AX).elim (λz=>A0.pin p (Gx _ z)) (h p),A0.BB,A0.len⟩
def l7{N:↑Str}(hN:N.Nodup){i j:Nat}{x:Str}(a:N[i]?=↥x)(b:N[j]?=↥x):i=j:=by obtain⟨h1,A9⟩:=List.getElem?_eq_some_iff.mp a;obtain⟨h2,AG⟩:=List.getElem?_eq_some_iff.mp b;exact(XQ hN).mp (A9.trans AG.symm)
def pX{M:Model}{A:D3}{E:A8->AR->Prop}{i:Nat}{x:Str}{v:V}{u:A8}{Q:Unit->AR->Prop}(A0:θ)(hN:X.N.Nodup)(AA:X.N[i]?=↥x)(AM:Loc X.env.scope x)(r:RelV v u)(h:∀s',Inv X A3 (σ.set i ↥v) H s'->(∃a,Kp a s.heap s'.heap/\(a=X.env.locals\/X.env.cells.lookup x=↥a))->Q () s')(hf:X.fn x=true\/X.env.scope.names.lookup x=↥.local:=by first|exact .inl rfl|exact .inr rfl|assumption):Av M A (storeName X.env x u) Q E s:=by
 obtain⟨m,Ae,AI⟩:=id A0.loc;have wj:(X.env.scope.kind==.class||(X.env.scope.kind==.module&&X.env.locals !=X.env.globals))=false:=by rw[A0.ok.kind];rfl
 have AAσ :i< ⇑σ :=by rw[A0.len];exact(List.getElem?_eq_some_iff.mp AA).1
 have R9:=A0.R9;have tracked:∀{a:A6}{h':BG},(∃o,s.heap.get? a=↥o/\H a=none)->Kp a s.heap h'->Ew X.prog X.w H h':=λ{a h'} AF AS b BQ e=>by
  obtain⟨_,_,Yi⟩:=AF;refine(A0.BB b BQ e).Ng (λc Cf AK q=>(AS.2 c ?_).trans q) (λ_ q=>q) λ_ _ q=>q;rintro rfl;rcases AK with rfl|AK
  .rw[Yi]at e;cases e
  .rw[Yi]at AK;cases AK
 rcases AM with AQ|AQ
 .refine wpAny_storeName_local AQ Ae (λh' cI AS=>?_) wj;obtain⟨acC,_,_,x7,_⟩:=id Ae;refine h _ ⟨A0.ok,A0.os,A0.bare,⟨λb o e n A4 AM=>?_,λb o e n A4 AM=>?_,A0.base.free,λb o e AM=>?_,A0.base.JK,A0.base.I7,A0.base.JJ⟩,⟨_,cI,λj y IF A9 AG DS=>?_⟩,λy c e=>?_,A0.free,A0.Ll,λp AX=>?_,tracked ⟨acC,x7,A0.free⟩ AS,(A0.len:)⟩ ⟨_,AS,.inl rfl⟩
  .exact(AS.2 b (FG (GH (EN e) A0.ok.above))).trans (A0.base.keep b o e n A4 AM)
  .obtain⟨CP,A9⟩:=A0.base.slot b o e n A4 AM;exact⟨CP,(AS.2 b (FG (GH (EN e) A0.ok.above))).trans A9⟩
  .obtain⟨o',A9⟩:=A0.base.there b o e AM;exact⟨o',(AS.2 b (FG (GH (EN e) A0.ok.above))).trans A9⟩
  .by_cases An:j=i
   .subst An;rw[AA]at A9;cases A9;rw[LJ AAσ]at AG;cases AG;exact⟨u,r,.inl ⟨AQ,γ⟩⟩
   .rw[PL (K6 An)]at AG;obtain⟨J5,Bm,q⟩:=AI j y IF A9 AG DS;refine⟨J5,Bm,?_⟩;rcases q with⟨k,e⟩|⟨k,c,e,z⟩
    .refine .inl ⟨k,?_⟩;have:y≠x:=λe=>An (l7 hN A9 (e▸AA));simp[this,e]
    .exact .inr ⟨k,c,e,z.sameBut AS (R9 y c e)⟩
  .obtain⟨Cf,z⟩:=A0.cell y c e;exact⟨Cf,z.sameBut AS (R9 y c e)⟩
  .obtain⟨e,n,ne,NV,d⟩:=A0.pin p AX;exact⟨(AS.2 p.1 ne).trans e,n,ne,NV,d⟩
 .have cC:X.fn x=true:=by
    rcases hf with z|z
    .exact z
    .rw[z]at AQ;cases AQ
  obtain⟨c,AK⟩:=A0.ok.has x (.inl AQ);obtain⟨Cf,z⟩:=A0.cell x c AK;refine wpAny_storeName_cell A0.ok.kind AQ AK z (λh' Mq AS=>?_);obtain⟨GN,jN,y1⟩:=id z;refine h { s with heap:=h' } ⟨A0.ok,A0.os,A0.bare,⟨λb o e n A4 AM=>?_,λb o e n A4 AM=>?_,A0.base.free,λb o e AM=>?_,A0.base.JK,A0.base.I7,A0.base.JJ⟩,⟨m,Ae.sameBut AS (K6 (R9 x c AK)),λj y IF A9 AG DS=>?_⟩,λy G8 e=>?_,A0.free,A0.Ll,λp AX=>?_,tracked ⟨GN,jN,A0.Ll x c AK⟩ AS,(A0.len:)⟩ ⟨c,AS,.inr AK⟩
  .exact(AS.2 b (FG (GH (EN e) (A0.ok.Vp x c cC AK)))).trans (A0.base.keep b o e n A4 AM)
  .obtain⟨CP,A9⟩:=A0.base.slot b o e n A4 AM;exact⟨CP,(AS.2 b (FG (GH (EN e) (A0.ok.Vp x c cC AK)))).trans A9⟩
  .obtain⟨o',A9⟩:=A0.base.there b o e AM;exact⟨o',(AS.2 b (FG (GH (EN e) (A0.ok.Vp x c cC AK)))).trans A9⟩
  .by_cases An:j=i
   .subst An;rw[AA]at A9;cases A9;rw[LJ AAσ]at AG;cases AG;exact⟨u,r,.inr ⟨.inl AQ,c,AK,Mq⟩⟩
   .rw[PL (K6 An)]at AG;obtain⟨J5,Bm,q⟩:=AI j y IF A9 AG DS;refine⟨J5,Bm,?_⟩;rcases q with q|⟨k,G8,e,HI⟩
    .exact .inl q
    .refine .inr ⟨k,G8,e,HI.sameBut AS ?_⟩;rintro rfl;exact An (l7 hN A9 (A0.ok.inj _ _ _ e AK▸AA))
  .by_cases j7:G8=c
   .subst j7;exact⟨_,Mq⟩
   .obtain⟨G3,FE⟩:=A0.cell y G8 e;exact⟨G3,FE.sameBut AS j7⟩
  .obtain⟨e,n,ne,NV,d⟩:=A0.pin p AX;refine⟨(AS.2 p.1 ?_).trans e,n,ne,NV,d⟩;intro q;rw[q,jN]at e;have DZ:GN=p.2:=Ga e;exact d Cf (by rw[<-DZ];exact y1)
def pW{M:Model}{A:D3}{E:A8->AR->Prop}{i:Nat}{x:Str}{v:V}{u:A8}{Q:Unit->AR->Prop}(A0:θ)(hN:X.N.Nodup)(AA:X.N[i]?=↥x)(AM:Loc X.env.scope x)(r:RelV v u)(h:∀s',Inv X A3 (σ.set i ↥v) H s'->Q () s')(hf:X.fn x=true\/X.env.scope.names.lookup x=↥.local:=by first|exact .inl rfl|exact .inr rfl|assumption):Av M A (storeName X.env x u) Q E s:=
 pX A0 hN AA AM r (λs' H4 _=>h s' H4) hf
def Inv.uR{s':AR}{ch:↑A6}(A0:θ)(ho:s'.os=s.os)(u:Fs (FC X.stack) ch H AC s.heap s'.heap)(BB:Ew X.prog X.w AC s'.heap)(Ar:N0 s'.gens)(Nu:∀b∈ch,(b∈X.ex\/X.G1.heap.objs.size<=b)/\b≠X.env.locals/\(∀x c,X.env.cells.lookup x=↥c->c≠b)/\∀p∈X.pn++A3,p.1≠b):Inv X A3 σ AC s':=by obtain⟨h',g',d',t',o'⟩:=s';have e:o'=s.os:=ho;subst e;exact A0.call (g':=g') (t':=t') (d':=d') u BB Ar Nu
end
abbrev Fo:=A8->Option A6->AE->Prop
abbrev St:=↑(Option V)
abbrev CV:=V->AE->Prop
abbrev TE:=St->AE->CV->Prop
abbrev TT:=St->AE->(Bool->AE->Prop)->Prop
abbrev FZ:=St->AE->(↑V->AE->Prop)->Prop
structure Ends where
 AP:St->AE->Prop
 Dp:CV
 Bv:St->AE->Prop:=λ_ _=>False
 D7:St->AE->Prop:=λ_ _=>False
abbrev FS:=Ends->St->AE->Prop
def H3(X:Aw)(A3:μ)(σ :St)(Q:CV)(u:A8)(s':AR):Prop:=∃v AC,Inv X A3 σ AC s'/\RelV v u/\Q v AC
def YL(X:Aw)(A3:μ)(σ :St)(Q:Bool->AE->Prop)(b:Bool)(s':AR):Prop:=∃AC,Inv X A3 σ AC s'/\Q b AC
def sN(X:Aw)(A3:μ)(σ :St)(Q:↑V->AE->Prop)(us:↑A8)(s':AR):Prop:=∃vs AC,Inv X A3 σ AC s'/\Vals vs us/\Q vs AC
def QG(X:Aw)(A3:μ)(D:Ends)(f:Flow)(s':AR):Prop:=
 match f with
 |.next=>∃ σ' AC,Inv X A3 σ' AC s'/\D.AP σ' AC
 |.brk=>∃ σ' AC,Inv X A3 σ' AC s'/\D.Bv σ' AC
 |.cont=>∃ σ' AC,Inv X A3 σ' AC s'/\D.D7 σ' AC
 |.ret u=>∃v σ' AC,Inv X A3 σ' AC s'/\RelV v u/\D.Dp v AC
def Aj(X:Aw)(e:Au)(t:TE):Prop:=
 ∀(A3:μ)(s:AR)(σ :St)(H:AE)(Q:CV),θ->t σ H Q->Av ξ X.A (Bd e X.env) (H3 X A3 σ Q) X.DA s
def E_(X:Aw)(e:Au)(t:TT):Prop:=
 ∀(A3:μ)(s:AR)(σ :St)(H:AE)(Q:Bool->AE->Prop),θ->t σ H Q->Av ξ X.A (isTrue e X.env (Bd e X.env)) (YL X A3 σ Q) X.DA s
def Jl(X:Aw)(e:Au)(t:TT):Prop:=
 ∀(whole:Sem A8)(A3:μ)(s:AR)(σ :St)(H:AE)(Q:Bool->AE->Prop),θ->t σ H Q->Av ξ X.A (isTrue e X.env whole) (YL X A3 σ Q) X.DA s
def Jl.pt{X:Aw}{e:Au}{t:TT}(h:Jl X e t):E_ X e t:=h _
def H5(X:Aw)(es:↑Au)(t:FZ):Prop:=
 ∀(pos:Pos)(A3:μ)(s:AR)(σ :St)(H:AE)(Q:↑V->AE->Prop),θ->t σ H Q->Av ξ X.A (spliced (Fh pos (CM es X.env))) (sN X A3 σ Q) X.DA s
def Dn(X:Aw)(st:BO)(t:FS):Prop:=
 ∀(A3:μ)(s:AR)(σ :St)(H:AE)(D:Ends),θ->t D σ H->Av ξ X.A (exec st X.env) (QG X A3 D) X.DA s
def HK(X:Aw)(st:↑BO)(t:FS):Prop:=
 ∀(A3:μ)(s:AR)(σ :St)(H:AE)(D:Ends),θ->t D σ H->Av ξ X.A (execs st X.env) (QG X A3 D) X.DA s
def Ba{α:Type}{t:Sem α}{Q HL:α->AR->Prop}{M:Model}{A:D3}{E:A8->AR->Prop}{s:AR}(h:Av M A t Q E s)(GV:∀a s,Q a s->HL a s):Av M A t HL E s:=Im h GV λ_ _ x=>x
section
variable{X:Aw}
def bin{a b:Au}{C0 tb:TE}(AF:Aj X a C0)(A4:Aj X b tb){A3:μ}{s:AR}{σ :St}{H:AE}{R:V->V->AE->Prop}(A0:θ)(h:C0 σ H λx H1=>tb σ H1 λy AH=>R x y AH){α:Type}{Q:α->AR->Prop}{f:A8->A8->Sem α}(hf:∀v u s2 x y AH,Inv X A3 σ AH s2->RelV x v->RelV y u->R x y AH->Av ξ X.A (f v u) Q X.DA s2) :
  Av ξ X.A (Bd a X.env) (λv Cy=>Av ξ X.A (Bd b X.env) (λu JI=>Av ξ X.A (f v u) Q X.DA JI) X.DA Cy) X.DA s:=by
 refine Ba (AF A3 s σ H _ A0 h) λv s1⟨x,H1,Ai,As,Aq⟩=>?_;refine Ba (A4 A3 s1 σ H1 _ Ai Aq) λu s2⟨y,AH,Bz,BK,BV⟩=>?_;exact hf v u s2 x y AH Bz As BK BV
def r7(i:Nat):TE:=λσ H Q=>∃v,σ[i]?=↥↥v/\Q v H
def OT(v:V):TE:=λ_ H Q=>Q v H
def ach{i:Nat}{x:Str}{pos:Pos}(hN:X.N[i]?=↥x)(CL:YM X.env.scope x)(hd:(x==("__debug__" :Str))=false:=by decide)(L7:(x==("__classdict__" :Str))=false:=by decide):Aj X (.Name x pos) (r7 i):=by
 intro A3 s σ H Q A0 h;obtain⟨v,e,h⟩:=h;obtain⟨m,Ae,AI⟩:=A0.loc;obtain⟨u,r,l⟩:=AI i x v hN e CL;have fin:H3 X A3 σ Q u s:=⟨v,H,A0,r,h⟩;rcases l with⟨AQ,hm⟩|⟨AQ,c,AK,j8⟩
 .exact wpAny_Name (wpAny_loadName_local A0.ok.kind AQ Ae hm fin) hd
 .rcases AQ with AQ|AQ
  .exact wpAny_Name (wpAny_loadName_cell A0.ok.kind AQ AK j8 fin) hd
  .exact wpAny_Name (wpAny_loadName_free A0.ok.kind AQ AK j8 fin L7) hd
def adM{i j pos}:Aj X (.Constant (.int i) j pos) (OT (.int i)):=λ_ _ _ H _ A0 h=>wpAny_Constant_int ⟨.int i,H,A0.tok _,⟨_,rfl⟩,h⟩
def adB{b j pos}:Aj X (.Constant (.bool b) j pos) (OT (.AL b)):=λ_ _ _ H _ A0 h=>Constant_bool ⟨.AL b,H,A0,rfl,h⟩
def ac_{j pos}:Aj X (.Constant .none j pos) (OT .non):=λ_ _ _ H _ A0 h=>Constant_none ⟨.non,H,A0,rfl,h⟩
def dD{x j pos}:Aj X (.Constant (.str x) j pos) (OT (.str x)):=λ_ _ _ H _ A0 h=>Calls.Constant_str ⟨.str x,H,A0.tok _,⟨_,rfl⟩,h⟩
def En(X:Aw)(x:Str):Prop:=X.env.kindOf x=↥.globalImplicit
def a4{E:A8->AR->Prop}{A3:μ}{s:AR}{σ :St}{H:AE}{x:Str}{u:A8}{pos:Pos}{Q:A8->AR->Prop}(A0:θ)(Ar:En X x)(hm:X.mg x=↥u)(h:Q u s)(hd:(x==("__debug__" :Str))=false:=by decide):Av ξ X.A (Bd (.Name x pos) X.env) Q E s:=
 rT A0.ok.kind Ar (Calls.loadGlobal_global (by rw[A0.ok.glob];exact A0.mod.glob.keeps A0.Bv) hm h) hd
def Oe{E:A8->AR->Prop}{A3:μ}{s:AR}{σ :St}{H:AE}{x:Str}{u:A8}{pos:Pos}{Q:A8->AR->Prop}(A0:θ)(Ar:En X x)(hm:X.mg x=none)(CL:O8 x=↥u)(h:Q u s)(Ae:x≠"__name__":=by decide)(hd:(x==("__debug__" :Str))=false:=by decide):Av ξ X.A (Bd (.Name x pos) X.env) Q E s:=by obtain⟨Gs,h1,h2⟩:=A0.mod.blt;exact rT A0.ok.kind Ar (Calls.loadGlobal_builtin (by rw[A0.ok.glob];exact A0.mod.glob.keeps A0.Bv) hm (by rw[A0.ok.blt];exact h1.keeps A0.Bv) ((h2 x Ae).trans CL) h) hd
def adK{x:Str}{v:V}{u:A8}{pos:Pos}(Ar:En X x)(hm:X.mg x=↥u)(r:RelV v u)(hd:(x==("__debug__" :Str))=false:=by decide):Aj X (.Name x pos) (OT v):=
 λ_ _ _ H _ A0 h=>a4 A0 Ar hm ⟨v,H,A0,r,h⟩ hd
def adC{x:Str}{v:V}{u:A8}{pos:Pos}(Ar:En X x)(hm:X.mg x=none)(CL:O8 x=↥u)(r:RelV v u)(Ae:x≠"__name__":=by decide)(hd:(x==("__debug__" :Str))=false:=by decide):Aj X (.Name x pos) (OT v):=
 λ_ _ _ H _ A0 h=>Oe A0 Ar hm CL ⟨v,H,A0,r,h⟩ Ae hd
variable{a b:Au}{C0 tb:TE}{pos:Pos}
def tO(X:Aw)(op:CmpOp)(a b:Au)(t:TE):Prop:=
 ∀(A3:μ)(s:AR)(σ :St)(H:AE)(Q:CV),θ->t σ H Q->
  Av ξ X.A (Bd a X.env) (λv Cy=>Av ξ X.A (Bd b X.env) (λu JI=>Av ξ X.A (G0 op v u) (H3 X A3 σ Q) X.DA JI) X.DA Cy) X.DA s
def aby(b:Au){op:CmpOp}(h:op≠.In)(h2:op≠.NotIn):MH op b=false:=by
 have A9:(op==CmpOp.In)=false:=by cases op<;>first|rfl|exact absurd rfl h
 have AG:(op==CmpOp.NotIn)=false:=by cases op<;>first|rfl|exact absurd rfl h2
 cases b<;>simp[MH,A9,AG]
noncomputable def eS(t:TE):TT:=λσ H Q=>t σ H λx H1=>∃c,x=.AL c/\Q c H1
def ajk{op:CmpOp}{t:TE}(h:tO X op a b t)(h1:MH op b=false:=by first|exact aby _ ε ε|rfl):E_ X (.Compare a [op] [b] pos) (eS t):=by intro A3 s σ H Q A0 hw;refine wpAny_isTrue_Compare1 (Ba (h A3 s σ H _ A0 hw) λv s1 h1=>Ba h1 λu s2 h2=>Ba h2 λc s3⟨x,H1,Ai,As,Aq⟩=>?_) h1;obtain⟨d,rfl,q⟩:=Aq;cases As;exact MD ⟨H1,Ai,q⟩
def aeG{e:Au}{t:TE}(h:Aj X e t)(he:∀whole,isTrue e X.env whole=(do let v <-whole;OA e.pos;K5 [v] (truthy v)):=by intro _;rfl):E_ X e (eS t):=by intro A3 s σ H Q A0 hw;refine isTrue_plain (Ba (h A3 s σ H _ A0 hw) λv s1⟨x,H1,Ai,As,Aq⟩=>?_) (he _);obtain⟨d,rfl,q⟩:=Aq;cases As;exact MD ⟨H1,Ai,q⟩
variable{G2 aP:TT}{rest:↑Au}
noncomputable def pf(t u:TT):TT:=λσ H Q=>t σ H λc H1=>if c=true then u σ H1 Q else Q false H1
noncomputable def pQ(t u:TT):TT:=λσ H Q=>t σ H λc H1=>if c=true then Q true H1 else u σ H1 Q
noncomputable def pO(t:TT):TT:=λσ H Q=>t σ H λc H1=>Q (!c) H1
def aeM(AF:E_ X a G2):Jl X (.BoolOp .And [a] pos) G2:=by
 intro Ry A3 s σ H Q A0 h;refine isTrue_and (Ba (AF A3 s σ H Q A0 h) λc s1 e=>?_);cases c with
 |true=>exact isTrue_and_nil e
 |false=>exact e
def aeO(AF:E_ X a G2):Jl X (.BoolOp .Or [a] pos) G2:=by
 intro Ry A3 s σ H Q A0 h;refine isTrue_or (Ba (AF A3 s σ H Q A0 h) λc s1 e=>?_);cases c with
 |false=>exact isTrue_or_nil e
 |true=>exact e
def aeL(AF:E_ X a G2)(A4:Jl X (.BoolOp .And (b::rest) pos) aP):Jl X (.BoolOp .And (a::b::rest) pos) (pf G2 aP):=by
 intro Ry A3 s σ H Q A0 h;refine isTrue_and (Ba (AF A3 s σ H _ A0 h) λc s1⟨H1,Ai,Aq⟩=>?_);cases c with
 |true=>exact A4 Ry A3 s1 σ H1 Q Ai Aq
 |false=>exact⟨H1,Ai,Aq⟩
def aeN(AF:E_ X a G2)(A4:Jl X (.BoolOp .Or (b::rest) pos) aP):Jl X (.BoolOp .Or (a::b::rest) pos) (pQ G2 aP):=by
 intro Ry A3 s σ H Q A0 h;refine isTrue_or (Ba (AF A3 s σ H _ A0 h) λc s1⟨H1,Ai,Aq⟩=>?_);cases c with
 |true=>exact⟨H1,Ai,Aq⟩
 |false=>exact A4 Ry A3 s1 σ H1 Q Ai Aq
def aeF(AF:E_ X a G2):E_ X (.UnaryOp .Not a pos) (pO G2):=by intro A3 s σ H Q A0 h;exact isTrue_not (AF A3 s σ H (λc H1=>Q (!c) H1) A0 h)
noncomputable def pg(C0 tb:TE):TE:=λσ H Q=>C0 σ H λx H1=>∃c,x=.AL c/\if c=true then tb σ H1 Q else Q (.AL false) H1
noncomputable def pz(C0 tb:TE):TE:=λσ H Q=>C0 σ H λx H1=>∃c,x=.AL c/\if c=true then Q (.AL true) H1 else tb σ H1 Q
noncomputable def pP(C0:TE):TE:=λσ H Q=>C0 σ H λx H1=>∃c,x=.AL c/\Q (.AL (!c)) H1
def acb{op}{t:TE}(h:Aj X a t):Aj X (.BoolOp op [a] pos) t:=λA3 s σ H Q A0 hw=>BoolOp_one (h A3 s σ H Q A0 hw)
def adA(AF:Aj X a C0)(A4:Aj X (.BoolOp .And (b::rest) pos) tb):Aj X (.BoolOp .And (a::b::rest) pos) (pg C0 tb):=by
 intro A3 s σ H Q A0 h;refine BoolOp_and (Ba (AF A3 s σ H _ A0 h) λv s1⟨x,H1,Ai,As,Aq⟩=>?_);obtain⟨c,rfl,Aq⟩:=Aq;cases As;refine MD ?_;cases c with
 |true=>exact A4 A3 s1 σ H1 Q Ai Aq
 |false=>exact⟨.AL false,H1,Ai,rfl,Aq⟩
def acd(AF:Aj X a C0)(A4:Aj X (.BoolOp .Or (b::rest) pos) tb):Aj X (.BoolOp .Or (a::b::rest) pos) (pz C0 tb):=by
 intro A3 s σ H Q A0 h;refine BoolOp_or (Ba (AF A3 s σ H _ A0 h) λv s1⟨x,H1,Ai,As,Aq⟩=>?_);obtain⟨c,rfl,Aq⟩:=Aq;cases As;refine MD ?_;cases c with
 |false=>exact A4 A3 s1 σ H1 Q Ai Aq
 |true=>exact⟨.AL true,H1,Ai,rfl,Aq⟩
def aca(AF:Aj X a C0):Aj X (.UnaryOp .Not a pos) (pP C0):=by intro A3 s σ H Q A0 h;refine UnaryOp_ (Ba (AF A3 s σ H _ A0 h) λv s1⟨x,H1,Ai,As,Aq⟩=>?_);obtain⟨c,rfl,Aq⟩:=Aq;cases As;exact not_of (MD ⟨.AL (!c),H1,Ai,rfl,Aq⟩)
noncomputable def pI(t:TT)(C0 tb:TE):TE:=λσ H Q=>t σ H λc H1=>if c=true then C0 σ H1 Q else tb σ H1 Q
def adL{c:Au}(AK:E_ X c G2)(AF:Aj X a C0)(A4:Aj X b tb):Aj X (.IfExp c a b pos) (pI G2 C0 tb):=by
 intro A3 s σ H Q A0 h;refine wpAny_IfExp (Ba (AK A3 s σ H _ A0 h) λd s1⟨H1,Ai,Aq⟩=>?_);cases d with
 |true=>exact AF A3 s1 σ H1 Q Ai Aq
 |false=>exact A4 A3 s1 σ H1 Q Ai Aq
end
def ET(K:Ao)(H:AE)(a:A6)(xs:↑V):Prop:=
 KR H a (.lst xs)\/
  ∃(o:Obj)(its:Array A8)(n:Nat),K.lookup a=↥o/\o.cls=.type "list"/\o.dict=none/\o.data=.seq its n/\its.size<=CU/\Vals xs its.toList
def FA(K:Ao)(H:AE)(a:A6)(xs:↑V):Prop:=
 KR H a (.tup xs)\/
  ∃(o:Obj)(its:Array A8)(n:Nat),K.lookup a=↥o/\o.cls=.type "tuple"/\o.data=.seq its n/\its.size<=CU/\Vals xs its.toList
noncomputable def sf:A8->Option V
 |.none=>↥.non
 |.bool b=>↥(.AL b)
 |.int i _=>↥(.int i)
 |.str x _=>↥(.str x)
 |.bytes b _=>↥(.Pm b)
 |.float b _=>↥(.RJ b)
 |.ref a=>↥(.ref a)
 |.type n=>↥(.ty n)
 |_=>none
def RelV.abs{x:V}{u:A8}(r:RelV x u):sf u=↥x:=by
 cases x with
 |non=>cases r;rfl
 |AL _=>cases r;rfl
 |int _=>obtain⟨t,rfl⟩:=r;rfl
 |str _=>obtain⟨t,rfl⟩:=r;rfl
 |Pm _=>obtain⟨t,rfl⟩:=r;rfl
 |RJ _=>obtain⟨t,rfl⟩:=r;rfl
 |ref _=>cases r;rfl
 |ty _=>cases r;rfl
def RelV.inj{x y:V}{u:A8}(r:RelV x u)(q:RelV y u):x=y:=Ga (r.abs.symm.trans q.abs)
theorem Vals.inj:∀{xs ys:↑V}{us:↑A8},Vals xs us->Vals ys us->xs=ys
 |_,_,_,.nil,.nil=>rfl
 |_,_,_,.cons r t,.cons Bm t'=>by rw[r.inj Bm,Vals.inj t t']
section
variable{X:Aw}{A3:μ}{σ :St}{H:AE}{s:AR}{a:A6}{xs ys:↑V}
def ET.of{K:Ao}(h:H a=↥(.lst xs)):ET K H a xs:=.inl (.inl h)
def FA.of{K:Ao}(h:H a=↥(.tup xs)):FA K H a xs:=.inl (.inl h)
def Inv.list(A0:θ)(h:ET X.K H a xs):∃its:↑A8,Vals xs its/\PlainL s.heap a its.toArray/\ ⇑xs<=CU:=by
 rcases h with h|⟨o,its,n,AQ,AK,hd,AS,hz,r⟩
 .obtain⟨z,its,n,r,e⟩:=h.ok A0.BB;exact⟨its,r,⟨_,n,e,rfl,rfl,rfl⟩,z⟩
 .refine⟨its.toList,r,⟨o,n,A0.Fc a o AQ,AK,hd,(AS:)⟩,?_⟩;have e:=⇑r;erw[SU]at e;lia
def Inv.tuple(A0:θ)(h:FA X.K H a xs):∃its:↑A8,Vals xs its/\IsTup s.heap a its.toArray/\ ⇑xs<=CU:=by
 rcases h with h|⟨o,its,n,AQ,AK,AS,hz,r⟩
 .obtain⟨z,its,r,p⟩:=h.ok A0.BB;exact⟨its,r,p,z⟩
 .refine⟨its.toList,r,⟨o,A0.Fc a o AQ,AK,n,(AS:)⟩,?_⟩;have e:=⇑r;erw[SU]at e;lia
def Inv.e4(A0:θ)(h:ET X.K H a xs)(h':ET X.K H a ys):xs=ys:=by
 obtain⟨its,r,⟨o,n,e,_,_,d⟩,_⟩:=A0.list h;obtain⟨its',Bm,⟨o',Wi,Bg,_,_,d'⟩,_⟩:=A0.list h';rw[e]at Bg;cases Bg;rw[d]at d';injection d' with d1 _;have:its=its':=(congrArg Array.toList d1:)
 subst this;exact r.inj Bm
def Inv.eb(A0:θ)(h:FA X.K H a xs)(h':FA X.K H a ys):xs=ys:=by
 obtain⟨its,r,⟨o,e,_,n,d⟩,_⟩:=A0.tuple h;obtain⟨its',Bm,⟨o',Bg,_,Wi,d'⟩,_⟩:=A0.tuple h';rw[e]at Bg;cases Bg;rw[d]at d';injection d' with d1 _;have:its=its':=(congrArg Array.toList d1:)
 subst this;exact r.inj Bm
end
abbrev Aw.LG(X:Aw)(E:A8->AR->Prop):Aw:={ X with DA:=E }
abbrev Aw.HU(X:Aw):Aw:=X.LG λ_ _=>False
theorem Aw.Ok.LG{X:Aw}(ok:X.Ok)(E:A8->AR->Prop):(X.LG E).Ok:=
 ⟨ok.mod,ok.kind,ok.glob,ok.blt,ok.above,ok.inj,ok.has,ok.Vp,ok.hd,ok.frames,ok.ZR,ok.iR,ok.bs,ok.Pl,ok.Wp,ok.Ya,ok.Kc,ok.RM⟩
def Aw.Ok.Mb{X:Aw}{E:A8->AR->Prop}(ok:(X.LG E).Ok):X.Ok:=
 ⟨ok.mod,ok.kind,ok.glob,ok.blt,ok.above,ok.inj,ok.has,ok.Vp,ok.hd,ok.frames,ok.ZR,ok.iR,ok.bs,ok.Pl,ok.Wp,ok.Ya,ok.Kc,ok.RM⟩
section
variable{X:Aw}{A3:μ}{σ :St}{H:AE}{s:AR}{E:A8->AR->Prop}
theorem Inv.LG(A0:θ)(E:A8->AR->Prop):Inv (X.LG E) A3 σ H s:=⟨A0.ok.LG E,A0.os,A0.bare,A0.base,A0.loc,A0.cell,A0.free,A0.Ll,A0.pin,A0.BB,A0.len⟩
theorem Inv.Mb(A0:Inv (X.LG E) A3 σ H s):θ:=⟨A0.ok.Mb,A0.os,A0.bare,A0.base,A0.loc,A0.cell,A0.free,A0.Ll,A0.pin,A0.BB,A0.len⟩
theorem QG.Mb{D:Ends}{f:Flow}{s':AR}(h:QG (X.LG E) A3 D f s'):QG X A3 D f s':=by
 cases f with
 |next=>obtain⟨σ',AC,A0,q⟩:=h;exact⟨σ',AC,A0.Mb,q⟩
 |brk=>obtain⟨σ',AC,A0,q⟩:=h;exact⟨σ',AC,A0.Mb,q⟩
 |cont=>obtain⟨σ',AC,A0,q⟩:=h;exact⟨σ',AC,A0.Mb,q⟩
 |ret u=>obtain⟨v,σ',AC,A0,r,q⟩:=h;exact⟨v,σ',AC,A0.Mb,r,q⟩
theorem Aj.HU{e:Au}{t:TE}(h:Aj X.HU e t):Aj X e t:=λA3 s σ H Q A0 hw=>
 Im (h A3 s σ H Q (A0.LG _) hw) (λ_ _⟨v,AC,H4,r,q⟩=>⟨v,AC,H4.Mb,r,q⟩) λ_ _ z=>IQ z
theorem E_.HU{e:Au}{t:TT}(h:E_ X.HU e t):E_ X e t:=λA3 s σ H Q A0 hw=>
 Im (h A3 s σ H Q (A0.LG _) hw) (λ_ _⟨AC,H4,q⟩=>⟨AC,H4.Mb,q⟩) λ_ _ z=>IQ z
theorem HK.HU{st:↑BO}{t:FS}(h:HK X.HU st t):HK X st t:=λA3 s σ H D A0 hw=>
 Im (h A3 s σ H D (A0.LG _) hw) (λ_ _ q=>q.Mb) λ_ _ z=>IQ z
end
section
variable{X:Aw}{st:BO}{rest:↑BO}{t u:FS}{e:Au}{E8:TE}{pos:Pos}
def aS:FS:=λD σ H=>D.AP σ H
noncomputable def r2(t u:FS):FS:=λD σ H=>t { D with AP:=u D } σ H
def aeC:HK X [] aS:=λ_ _ σ H _ A0 h=>XI ⟨σ,H,A0,h⟩
def aeA(h1:Dn X st t)(h2:HK X rest u):HK X (st::rest) (r2 t u):=by
 intro A3 s σ H D A0 h;refine wpAny_execs_cons (Ba (h1 A3 s σ H { D with AP:=u D } A0 h) λf s1 q=>?_);cases f with
 |next=>obtain⟨σ',AC,H4,q⟩:=q;exact h2 A3 s1 σ' AC D H4 q
 |ret v=>exact q
 |brk=>exact q
 |cont=>exact q
def aeD(h1:Dn X st t):HK X [st] t:=by
 intro A3 s σ H D A0 h;refine wpAny_execs_cons (Ba (h1 A3 s σ H D A0 h) λf s1 q=>?_);cases f with
 |next=>exact XI q
 |ret v=>exact q
 |brk=>exact q
 |cont=>exact q
def ae4:Dn X (.Pass pos) aS:=λ_ _ σ H _ A0 h=>wpAny_Pass ⟨σ,H,A0,h⟩
def Inv.quiet{A3:μ}{σ :St}{H:AE}{s:AR}(A0:θ):interactive X.env=false:=by simp[interactive,A0.ok.kind]
def acw{x j pos pos'}:Dn X (.Expr (.Constant (.str x) j pos) pos') aS:=λ_ s σ H _ A0 h=>wpAny_Expr (Calls.Constant_str (show QG X _ _ .next { s with toks:=s.toks+1 }from⟨σ,H,A0.tok _,h⟩)) A0.quiet
noncomputable def pw(E8:TE):FS:=λD σ H=>E8 σ H λ_ H1=>D.AP σ H1
def ae0(he:Aj X e E8)(AS:PS e none pos.line X.env=pure false:=by rfl):Dn X (.Expr e pos) (pw E8):=by intro A3 s σ H D A0 h;exact wpAny_Expr_any (Ba (he A3 s σ H _ A0 h) λv s1⟨x,H1,Ai,As,Aq⟩=>⟨σ,H1,Ai,Aq⟩) A0.quiet AS
def r0(E8:TE):FS:=λD σ H=>E8 σ H D.Dp
def ae6(he:Aj X e E8):Dn X (.Return ↥e pos) (r0 E8):=by intro A3 s σ H D A0 h;exact wpAny_Return_some (Ba (he A3 s σ H _ A0 h) λv s1⟨x,H1,Ai,As,Aq⟩=>⟨x,σ,H1,Ai,As,Aq⟩)
def r1:FS:=λD _ H=>D.Dp .non H
def ae7:Dn X (.Return none pos) r1:=λ_ _ σ H _ A0 h=>wpAny_Return_none ⟨.non,σ,H,A0,rfl,h⟩
noncomputable def pJ(c:TT)(t u:FS):FS:=λD σ H=>c σ H λb H1=>if b=true then t D σ H1 else u D σ H1
def ae2{c:Au}{a b:↑BO}{Gv:TT}(AK:E_ X c Gv)(AF:HK X a t)(A4:HK X b u):Dn X (.If c a b pos) (pJ Gv t u):=by
 intro A3 s σ H D A0 h;refine wpAny_If (Ba (AK A3 s σ H _ A0 h) λd s1⟨H1,Ai,Aq⟩=>?_);cases d with
 |true=>exact AF A3 s1 σ H1 D Ai Aq
 |false=>exact A4 A3 s1 σ H1 D Ai Aq
def pM:FS:=λ_ _ _=>False
def ae3:Dn X st pM:=λ_ _ _ _ _ _ h=>h.elim
def aeB{QO:↑BO}:HK X QO pM:=λ_ _ _ _ _ _ h=>h.elim
end
abbrev Jm:=V->St->AE->(St->AE->Prop)->Prop
abbrev OM:=↑V->St->AE->(St->AE->Prop)->Prop
def H6(X:Aw)(target:Au)(t:Jm):Prop:=
 ∀(A3:μ)(s:AR)(σ :St)(H:AE)(v:V)(u:A8)(Q:St->AE->Prop),θ->RelV v u->t v σ H Q->
  Av ξ X.A (Ks target X.env u) (λ_ s'=>∃ σ' AC,Inv X A3 σ' AC s'/\Q σ' AC) X.DA s
def L2(X:Aw)(ea:↑Au)(t:OM):Prop:=
 ∀(A3:μ)(s:AR)(σ :St)(H:AE)(vs:↑V)(us:↑A8)(Q:St->AE->Prop),θ->Vals vs us->t vs σ H Q->
  Av ξ X.A (assignInOrder ((LN ea X.env).map (·.2)) us) (λ_ s'=>∃ σ' AC,Inv X A3 σ' AC s'/\Q σ' AC) X.DA s
abbrev gv:=V->V->V->AE->(AE->Prop)->Prop
def hD(X:Aw)(t:gv):Prop:=
 ∀(A3:μ)(s:AR)(σ :St)(H:AE)(o i v:V)(Cq HT u:A8)(Q:AE->Prop),θ->RelV o Cq->RelV i HT->RelV v u->t o i v H Q->
  Av ξ X.A (setItem Cq HT u) (λ_ s'=>∃AC,Inv X A3 σ AC s'/\Q AC) X.DA s
section
variable{X:Aw}{pos:Pos}
def Yd(i:Nat):Jm:=λv σ H Q=>Q (σ.set i ↥v) H
def WA{i:Nat}{x:Str}(hN:X.N.Nodup)(AA:X.N[i]?=↥x)(AM:Loc X.env.scope x)(hf:X.fn x=true\/X.env.scope.names.lookup x=↥.local:=by first|exact .inl rfl|exact .inr rfl|assumption):H6 X (.Name x pos) (Yd i):=by intro A3 s σ H v u Q A0 r h;exact wpAny_assign_Name (pW A0 hN AA AM r (λs' H4=>⟨_,H,H4,h⟩) hf)
def je:OM:=λvs σ H Q=>vs=[]/\Q σ H
noncomputable def jd(t:Jm)(u:OM):OM:=λvs σ H Q=>∃v r,vs=v::r/\t v σ H λσ' AC=>u r σ' AC Q
def m_:L2 X [] je:=by intro A3 s σ H vs us Q A0 r h;obtain⟨e,h⟩:=h;subst e;cases r;exact assignInOrder_nil ⟨σ,H,A0,h⟩
def dE{e:Au}{es:↑Au}{t:Jm}{u:OM}(h1:H6 X e t)(h2:L2 X es u)(AS:(LN (e::es) X.env).map (·.2)=Ks e X.env::(LN es X.env).map (·.2):=by rfl):L2 X (e::es) (jd t u):=by
 intro A3 s σ H vs us Q A0 r h;obtain⟨v,eB,A9,h⟩:=h;subst A9;cases r with
 |cons r KL=>rw[AS];refine assignInOrder_cons (Ba (h1 A3 s σ H _ _ _ A0 r h) λ_ s1⟨σ1,H1,Ai,Aq⟩=>?_);exact h2 A3 s1 σ1 H1 _ _ Q Ai KL Aq
noncomputable def jg(K:Ao)(n:Nat)(t:OM):Jm:=λv σ H Q=>∃a xs,v=.ref a/\FA K H a xs/\ ⇑xs=n/\t xs σ H Q
def lT{es:↑Au}{k:Nat}{t:OM}{n:Nat}(AK:X.calm=true)(h:L2 X es t)(Ae:⇑(LN es X.env)=n:=by rfl)(Hn:(LN es X.env).findIdx? (·.1)=none:=by rfl):H6 X (.Tuple es k pos) (jg X.K n t):=by intro A3 s σ H v u Q A0 r hw;obtain⟨a,xs,A9,Ac,AI,hw⟩:=hw;subst A9;cases r;obtain⟨its,C1,BY,hz⟩:=A0.tuple Ac;refine assign_Tuple_tuple (A0.ok.hd AK) BY (by simp[Ae,<-AI,⇑C1]) Hn λh' AM=>?_;have Ai:Inv X A3 σ H { s with heap:=h' }:=A0.kept (t':=s.toks) λb o e=>AM b o (FG (EN e)) e;exact h A3 _ σ H xs _ Q Ai (C1:) hw
noncomputable def jf(to Tu:TE)(t:gv):Jm:=λv σ H Q=>to σ H λo H1=>Tu σ H1 λi AH=>t o i v AH λBP=>Q σ BP
def acj {o i:Au} {to Tu:TE} {t:gv} (ho:Aj X o to) (AA:Aj X i Tu) (AS:hD X t)(AF:∀v,Ks (.Subscript o i pos) X.env v=(do
    let Cq <-K5 [v] (Bd o X.env)
    let HT <-K5 [v,Cq] (Bd i X.env)
    OA pos
    K5 [v,Cq,HT] (setItem Cq HT v)
    release [v,Cq,HT] []):=by intro _;rfl):H6 X (.Subscript o i pos) (jf to Tu t):=by
 intro A3 s σ H v u Q A0 r h;rw[AF];refine Ah (O1 (Ba (ho A3 s σ H _ A0 h) λCq s1⟨x,H1,Ai,As,Aq⟩=>?_));refine Ah (O1 (Ba (AA A3 s1 σ H1 _ Ai Aq) λHT s2⟨y,AH,Bz,BK,BV⟩=>?_));refine Ah (wpAny_standAt (Ah (O1 (Ba (AS A3 s2 σ AH x y v Cq HT u _ Bz As BK r BV) λ_ s3⟨BP,Da,Do⟩=>?_))));exact wpAny_release ⟨σ,BP,Da,Do⟩
noncomputable def eR(E8:TE)(g:Jm):FS:=λD σ H=>E8 σ H λx H1=>g x σ H1 D.AP
def mu{C4 e:Au}{E8:TE}{g:Jm}(he:Aj X e E8)(Ar:H6 X C4 g)(AS:swapsWithSole [C4] e pos.line X.env=pure false:=by rfl)(hw:swappedStores [C4] e X.env=pure none:=by rfl)(h1:(LN [C4] X.env).map (·.2)=[Ks C4 X.env]:=by rfl):Dn X (.Assign [C4] e pos) (eR E8 g):=by intro A3 s σ H D A0 h;refine wpAny_Assign_stores (Ba (he A3 s σ H _ A0 h) λv s1⟨x,H1,Ai,As,Aq⟩=>?_) AS hw;rw[h1];exact Ba (Ar A3 s1 σ H1 x v _ Ai As Aq) λ_ s2 q=>q
def ae8{i:Nat}{x:Str}{e:Au}{E8:TE}{pos':Pos}(hN:X.N.Nodup)(AA:X.N[i]?=↥x)(AM:Loc X.env.scope x)(he:Aj X e E8)(AS:PS e ↥(.Name x pos') pos.line X.env=pure false:=by rfl)(hf:X.fn x=true\/X.env.scope.names.lookup x=↥.local:=by first|exact .inl rfl|exact .inr rfl|assumption) :
  Dn X (.Assign [.Name x pos'] e pos) (eR E8 (Yd i)):=by
 intro A3 s σ H D A0 h;refine wpAny_Assign_Name (Ba (he A3 s σ H _ A0 h) λv s1⟨y,H1,Ai,As,Aq⟩=>?_) AS;exact pW Ai hN AA AM As (λs2 Bz=>⟨_,H1,Bz,Aq⟩) hf
end
section
variable{X:Aw}{pos:Pos}
noncomputable def r8(c:TT)(tb:FS):FS:=λD σ H=>∃W:Nat->St->AE->Prop,(∃m,W m σ H)/\∀m σ H,W m σ H->
 c σ H λb H1=>if b=true then ∃N:St->AE->Prop,(∀ σ' AC,N σ' AC->∃E7,E7<m/\W E7 σ' AC)/\tb { D with AP:=N,D7:=N,Bv:=D.AP } σ H1 else D.AP σ H1
def ae9{c:Au}{body:↑BO}{Gv:TT}{tb:FS}(AX:PassesOwn ξ X.A X.env X.DA)(AK:E_ X c Gv)(A4:HK X body tb):Dn X (.While c body [] pos) (r8 Gv tb):=by
 intro A3 s σ H D A0 h;obtain⟨W,⟨m0,Jg⟩,turn⟩:=h;refine wpAny_While (codeAny_whileLoop (λn s'=>∃ σ' AC,Inv X A3 σ' AC s'/\W n σ' AC) ?_ m0 ⟨σ,H,A0,Jg⟩);rintro n s1 ⟨σ1,H1,Ai,FW⟩;refine QX AX (Ba (AK A3 s1 σ1 H1 _ Ai (turn n σ1 H1 FW)) λb s2⟨AH,Bz,BV⟩=>?_);cases b with
 |true=>
  obtain⟨N,hN,BV⟩:=BV;rw[if_pos rfl];refine QX AX (Ba (A4 A3 s2 σ1 AH _ Bz BV) λf s3 Do=>?_);cases f with
  |next=>obtain⟨σ3,BP,Da,Rj⟩:=Do;obtain⟨E7,hm,Md⟩:=hN σ3 BP Rj;exact⟨E7,hm,σ3,BP,Da,Md⟩
  |cont=>obtain⟨σ3,BP,Da,Rj⟩:=Do;obtain⟨E7,hm,Md⟩:=hN σ3 BP Rj;exact⟨E7,hm,σ3,BP,Da,Md⟩
  |brk=>exact Do
  |ret v=>exact Do
 |false=>rw[if_neg Km];exact XI ⟨σ1,AH,Bz,BV⟩
end
structure It where
 go:Nat->AE->Prop
 W4:Nat->AE->V->AE->Prop
 stop:Nat->AE->Prop
def KP(X:Aw)(A3:μ)(H:AE)(b:A6):Prop:=
 H b=none/\b≠X.env.locals/\b∉X.BA/\(b∈X.ex\/X.G1.heap.objs.size<=b)/\(∀x c,X.env.cells.lookup x=↥c->c≠b)/\∀p∈X.pn++A3,p.1≠b
def Inv.No{X:Aw}{A3:μ}{σ :St}{H AC:AE}{s:AR}{b:A6}(A0:θ)(A4:s.heap.objs.size<=b)(Ae:AC b=none):KP X A3 AC b:=by
 refine⟨Ae,Qi (GH A0.lt A4),A0.ac1 A4,.inr (Gm A0.QP A4),λx c e z=>?_,λp AX z=>?_⟩
 .obtain⟨v,q⟩:=A0.cell x c e;exact absurd (GH q.lt (by rw[z];exact A4)) (MG _)
 .exact absurd (GH (EN (A0.pin p AX).1) (by rw[z];exact A4)) (MG _)
structure Turn(P:CD)(w:Bq)(K:Ao)(C4:Au)(Bl:It)(BR:↑A6)(it:A6)(Hc:Nat->BG->Prop):Prop where
 mem:it∈BR
 obj:∀i h,Hc i h->∀b∈BR,∃o,h.get? b=↥o/\∀v,o.data≠.cell v
 keep:∀i h h',Hc i h->(∀b∈BR,∀o,h.get? b=↥o->h'.get? b=↥o)->Hc i h'
 item:∀(X:Aw),X.prog=P->X.w=w->X.K=K->X.calm=true->∀(i:Nat)(A3:μ)(s:AR)(σ :St)(H:AE)(E:A8->AR->Prop),θ->(∀b∈BR,KP X A3 H b)->Hc i s.heap->Bl.go i H->
  Av (B7 P w) X.A (OB (.ref it)) (λr s1=>∃u,r=↥u/\
   Av (B7 P w) X.A (XJ C4 (.ref it) u) (λ_ s2=>∃x AC,Inv X A3 σ AC s2/\RelV x u/\Bl.W4 i H x AC/\Hc (i+1) s2.heap/\∀b∈BR,AC b=none) E s1) E s
 done:∀(X:Aw),X.prog=P->X.w=w->X.K=K->X.calm=true->∀(i:Nat)(A3:μ)(s:AR)(σ :St)(H:AE)(E:A8->AR->Prop),θ->(∀b∈BR,KP X A3 H b)->Hc i s.heap->Bl.stop i H->
  Av (B7 P w) X.A (OB (.ref it)) (λr s1=>r=none/\Inv X A3 σ H s1) E s
 self:∀(A:D3)(i:Nat)(s:AR)(Q:A8->AR->Prop)(E:A8->AR->Prop),Hc i s.heap->Q (.ref it) s->Av (B7 P w) A (pyIter (.ref it)) Q E s
abbrev TI:=St->AE->(It->AE->Prop)->Prop
def hB(X:Aw)(A3:μ)(σ :St)(C4:Au)(R:It->AE->Prop)(YW:A8)(s2:AR):Prop:=
 ∃(it:A6)(BR:↑A6)(Hc:Nat->BG->Prop)(Bl:It)(AC:AE),YW=.ref it/\Inv X A3 σ AC s2/\Turn X.prog X.w X.K C4 Bl BR it Hc/\Hc 0 s2.heap/\(∀b∈BR,KP X A3 AC b)/\R Bl AC
def Hi(X:Aw)(C4 iter:Au)(HH:TI):Prop:=
 ∀(A3:μ)(s:AR)(σ :St)(H:AE)(R:It->AE->Prop),θ->HH σ H R->
  Av ξ X.A (Bd iter X.env) (λv s1=>Av ξ X.A (pyIter v) (hB X A3 σ C4 R) X.DA s1) X.DA s
def T3{M:Model}{A:D3}{E:A8->AR->Prop}{s:AR}{C4:Au}{it:A6}{u:A8}{o:Obj}{n:String}{vs:Array A8}{Q:Unit->AR->Prop}(ho:s.heap.get? it=↥o)(AK:o.cls=.type n)(hd:o.data=.fields vs)(Ae:["enumerate","zip","dict_itemiterator","dict_reverseitemiterator","odict_iterator","itertools.zip_longest","itertools.pairwise"].contains n=false)(GV:Q () s):Av M A (XJ C4 (.ref it) u) Q E s:=by
 unfold XJ
 cases C4<;>first
  |exact Bk GV
  |(cases u<;>first
      |exact Bk GV
      |(refine Ah (wpAny_load ho ?_)
        rw[AK,hd];show Av M A (if(["enumerate","zip","dict_itemiterator","dict_reverseitemiterator","odict_iterator","itertools.zip_longest","itertools.pairwise"].contains n&&vs[0]?==↥(N1 _))=true then _ else _) Q E s;rw[if_neg (by intro h;rw[Ae,g0]at h;cases h)];exact Bk GV))
noncomputable def gh(K:Ao)(a:A6):It:=
 ⟨λi H=>∃xs x,ET K H a xs/\xs[i]?=↥x,λi H x AC=>AC=H/\∀xs,ET K H a xs->xs[i]?=↥x,λi H=>∃xs,ET K H a xs/\ ⇑xs<=i⟩
noncomputable def gj(K:Ao)(a:A6):It:=
 ⟨λi H=>∃xs x,FA K H a xs/\xs[i]?=↥x,λi H x AC=>AC=H/\∀xs,FA K H a xs->xs[i]?=↥x,λi H=>∃xs,FA K H a xs/\ ⇑xs<=i⟩
noncomputable def V0(lo:Int)(n:Nat):It:=⟨λi _=>i<n,λi H x AC=>AC=H/\x=.int (lo+i),λi _=>n<=i⟩
def aeU{P:CD}{w:Bq}{K:Ao}{C4:Au}(a it:A6):Turn P w K C4 (gh K a) [it] it (λi h=>h.IsListIter it a i) where
 mem:=γ
 obj:=λi h st b A4=>by
  have e:b=it:=(A4:)
  subst e;obtain⟨o,e,c,d⟩:=st;exact⟨o,e,λv z=>by rw[d]at z;cases z⟩
 keep:=λi h h' st k=>st.at λo e=>k it γ o e
 item:=by nofun;obtain⟨xs,x,Ac,AM⟩:=Ar;obtain⟨its,C1,p,hz⟩:=A0.list Ac;obtain⟨u,BS,Eg⟩:=C1.get AM;obtain⟨f0,f1,f2,FK,f4,GC⟩:=hf it γ;refine wpAny_pyNext_list_item st p.isList (x:=u) (BS:) λh' Gz HD=>?_;have Ai:Inv X A3 σ H { s with heap:=h' }:=A0.turned (t':=s.toks) (λb o A4 e=>(HD.2 b A4).trans e) f0 f1 FK f4 GC;obtain⟨o,e,c,d⟩:=id Gz;exact⟨u,rfl,T3 (s:={ s with heap:=h' }) e c d ε ⟨x,H,Ai,Eg,⟨rfl,λys Af=>by rw[A0.e4 Af Ac];exact AM⟩,Gz,λb A4=>(hf b A4).1⟩⟩
 done:=by nofun;obtain⟨xs,Ac,AM⟩:=Ar;obtain⟨its,C1,p,hz⟩:=A0.list Ac;obtain⟨f0,f1,f2,FK,f4,GC⟩:=hf it γ;have AI:=⇑C1;exact wpAny_pyNext_list_end (A0.ok.hd AK) st p.isList (by simp;lia) λh' B4=>⟨rfl,A0.turned (t':=s.toks) (λb o A4 e=>B4 b o A4 e) f0 f1 FK f4 GC⟩
 self:=λ_ _ _ _ _ st h=>wpAny_pyIter_listiter st h
def aeX{P:CD}{w:Bq}{K:Ao}{C4:Au}(a it:A6):Turn P w K C4 (gj K a) [it] it (λi h=>h.IsTupleIter it a i) where
 mem:=γ
 obj:=λi h st b A4=>by
  have e:b=it:=(A4:)
  subst e;obtain⟨o,e,c,d⟩:=st;exact⟨o,e,λv z=>by rw[d]at z;cases z⟩
 keep:=λi h h' st k=>st.at λo e=>k it γ o e
 item:=by nofun;obtain⟨xs,x,Ac,AM⟩:=Ar;obtain⟨its,C1,p,hz⟩:=A0.tuple Ac;obtain⟨u,BS,Eg⟩:=C1.get AM;obtain⟨f0,f1,f2,FK,f4,GC⟩:=hf it γ;refine wpAny_pyNext_tuple_item st (show s.heap.IsTuple a its.toArray from p) (x:=u) (BS:) λh' Gz HD=>?_;have Ai:Inv X A3 σ H { s with heap:=h' }:=A0.turned (t':=s.toks) (λb o A4 e=>(HD.2 b A4).trans e) f0 f1 FK f4 GC;obtain⟨o,e,c,d⟩:=id Gz;exact⟨u,rfl,T3 (s:={ s with heap:=h' }) e c d ε ⟨x,H,Ai,Eg,⟨rfl,λys Af=>by rw[A0.eb Af Ac];exact AM⟩,Gz,λb A4=>(hf b A4).1⟩⟩
 done:=by nofun;obtain⟨xs,Ac,AM⟩:=Ar;obtain⟨its,C1,p,hz⟩:=A0.tuple Ac;obtain⟨f0,f1,f2,FK,f4,GC⟩:=hf it γ;have AI:=⇑C1;exact wpAny_pyNext_tuple_end (A0.ok.hd AK) st (show s.heap.IsTuple a its.toArray from p) (by simp;lia) λh' B4=>⟨rfl,A0.turned (t':=s.toks) (λb o A4 e=>B4 b o A4 e) f0 f1 FK f4 GC⟩
 self:=λ_ _ _ _ _ st h=>wpAny_pyIter_tupleiter st h
def aeV{P:CD}{w:Bq}{K:Ao}{C4:Au}(it:A6)(lo:Int)(n:Nat):Turn P w K C4 (V0 lo n) [it] it (λi h=>IsRangeIter h it (lo+(i:Nat)*1) ((n:Int)-(i:Nat)) 1) where
 mem:=γ
 obj:=λi h st b A4=>by
  have e:b=it:=(A4:)
  subst e;exact⟨_,st,λv z=>by have HI:Data.fields _=Up v:=z;cases HI⟩
 keep:=λi h h' st k=>k it γ _ st
 item:=by nofun;obtain⟨f0,f1,f2,FK,f4,GC⟩:=hf it γ;have W:=Walks.range (prog:=X.prog) (w:=X.w) (A0.ok.hd AK) it lo 1 n;refine W.item i s _ _ Ar st λv h' DJ CL Gz GM=>?_;obtain⟨t,rfl⟩:=CL;have Ai:Inv X A3 σ H { s with heap:=h',toks:=DJ }:=A0.turned (λb o A4 e=>GM b o (A4:) e) f0 f1 FK f4 GC;refine⟨_,rfl,T3 (s:={ s with heap:=h',toks:=DJ }) (n:="range_iterator") Gz rfl rfl ε ⟨.int (lo+i),H,Ai,⟨t,?_⟩,⟨rfl,rfl⟩,Gz,λb A4=>(hf b A4).1⟩⟩;rw[Int.mul_one]
 done:=by nofun;obtain⟨f0,f1,f2,FK,f4,GC⟩:=hf it γ;exact wpAny_pyNext_range_end (A0.ok.hd AK) st (by have:n<=i:=Ar;lia) λh' B4=>⟨rfl,A0.turned (t':=s.toks) (λb o A4 e=>B4 b o A4 e) f0 f1 FK f4 GC⟩
 self:=λ_ _ _ _ _ st h=>wpAny_pyIter_rangeiter st h
section
variable{X:Aw}{C4:Au}
def mT{A3:μ}{σ :St}{H:AE}{s:AR}{R:It->AE->Prop}{E:A8->AR->Prop}{lo AA:Int}{t u v:Tok}{DJ:Nat}(A0:θ)(h1: -(2^62)<=lo)(h2:lo<2^62)(BF: -(2^62)<=AA)(Cp:AA<2^62)(q:R (V0 lo (AA-lo).toNat) H):Av ξ X.A (pyIter (.ref s.heap.objs.size)) (hB X A3 σ C4 R) E { s with heap:=s.heap.push { cls:=.type "range",data:=.fields #[.int lo t,.int AA u,.int 1 v] },toks:=DJ }:=by
 refine wpAny_pyIter_range (IsRange.new ..) (small_one h1 h2 BF Cp) ?_;have Ai:Inv X A3 σ H { s with heap:=s.heap.push { cls:=.type "range",data:=.fields #[.int lo t,.int AA u,.int 1 v] },toks:=DJ }:=A0.kept λb o e=>Dm _ e
 refine⟨(s.heap.push { cls:=.type "range",data:=.fields #[.int lo t,.int AA u,.int 1 v] }).objs.size,[(s.heap.push { cls:=.type "range",data:=.fields #[.int lo t,.int AA u,.int 1 v] }).objs.size],_,_,H,rfl,
  Ai.kept (t':=DJ) λb o e=>Dm _ e,aeV _ lo (AA-lo).toNat,?_,λb A4=>?_,q⟩
 .have A9:lo+((0:Nat):Int)*1=lo:=γ
  have AG:(((AA-lo).toNat:Nat):Int)-((0:Nat):Int)=ru lo AA 1:=by rw[rangeSize_one];split<;>lia
  show IsRangeIter _ _ (lo+((0:Nat):Int)*1) ((((AA-lo).toNat:Nat):Int)-((0:Nat):Int)) 1;rw[A9,AG];exact GG _ rfl
 .have e:b=(s.heap.push { cls:=.type "range",data:=.fields #[.int lo t,.int AA u,.int 1 v] }).objs.size:=by simpa using A4
  subst e;exact Ai.No (CB _) (Ai.BB.fresh (CB _))
def xm(C0:FZ):TI:=λσ H R=>C0 σ H λvs H1=>∃j:Int,vs=[.int j]/\-(2^62)<=j/\j<2^62/\R (V0 0 j.toNat) H1
def xn(C0:FZ):TI:=λσ H R=>C0 σ H λvs H1=>∃i j:Int,vs=[.int i,.int j]/\(-(2^62)<=i/\i<2^62/\-(2^62)<=j/\j<2^62)/\R (V0 i (j-i).toNat) H1
def acn{a:Au}{C0:FZ}{p pos:Pos}(Ar:En X "range")(hm:X.mg "range"=none)(AF:H5 X [a] C0)(AS:CM [a] X.env=[(false,Bd a X.env)]:=by rfl):Hi X C4 (.Call (.Name "range" p) [a] [] pos) (xm C0):=by
 intro A3 s σ H R A0 h;refine Call_ (Oe A0 Ar hm boot_range (QW (Ba (AF pos A3 s σ H _ A0 h) λus s1⟨vs,H1,Ai,As,Aq⟩=>?_) AS rfl));obtain⟨j,e,Aq,BV,q⟩:=Aq;subst e;cases As with
 |cons r KL=>cases KL;obtain⟨t,rfl⟩:=r;exact call_range_1 (mT Ai δ δ Aq BV (q:))
def aco{a b:Au}{C0:FZ}{p pos:Pos}(Ar:En X "range")(hm:X.mg "range"=none)(AF:H5 X [a,b] C0)(AS:CM [a,b] X.env=[(false,Bd a X.env),(false,Bd b X.env)]:=by rfl)(Iz:CM [b] X.env=[(false,Bd b X.env)]:=by rfl) :
  Hi X C4 (.Call (.Name "range" p) [a,b] [] pos) (xn C0):=by
 intro A3 s σ H R A0 h;refine Call_ (Oe A0 Ar hm boot_range (QW (Ba (AF pos A3 s σ H _ A0 h) λus s1⟨vs,H1,Ai,As,Aq⟩=>?_) (by rw[AS,Iz]) (by rw[Iz];rfl)));obtain⟨i,j,e,⟨Aq,BV,Do,Jb⟩,q⟩:=Aq;subst e;cases As with
 |cons r KL=>
  cases KL with
  |cons Bm KL=>cases KL;obtain⟨t,rfl⟩:=r;obtain⟨t',rfl⟩:=Bm;exact call_range_2 (mT Ai Aq BV Do Jb q)
noncomputable def aR(HH:TI)(g:Jm)(tb:FS):FS:=λD σ H=>HH σ H λBl H1=>∃W:Nat->Nat->St->AE->Prop,(∃m,W 0 m σ H1)/\∀i m σ H,W i m σ H->
 (Bl.stop i H/\D.AP σ H)\/(Bl.go i H/\∃N:St->AE->Prop,(∀ σ' AC,N σ' AC->∃E7,E7<m/\W (i+1) E7 σ' AC)/\∀x AC,Bl.W4 i H x AC->g x σ AC λσ2 AH=>tb { D with AP:=N,D7:=N,Bv:=D.AP } σ2 AH)
noncomputable def WB(BR:↑A6)(h:BG):μ:=BR.filterMap λb=>(h.get? b).map λo=>(b,o)
def aD{BR:↑A6}{h:BG}{b:A6}{o:Obj}(A4:b∈BR)(e:h.get? b=↥o):(b,o)∈WB BR h:=List.mem_filterMap.mpr ⟨b,A4,by rw[e];rfl⟩
def abV{BR:↑A6}{h:BG}{p:A6×Obj}(AX:p∈WB BR h):p.1∈BR/\h.get? p.1=↥p.2:=by
 obtain⟨b,A4,e⟩:=List.mem_filterMap.mp AX;cases q:h.get? b with
 |none=>rw[q]at e;cases e
 |some o=>rw[q]at e;have Bg:(b,o)=p:=Ga e;subst Bg;exact⟨A4,q⟩
def Inv.pinned{A3:μ}{σ :St}{H:AE}{s:AR}{BR:↑A6}(A0:θ)(hf:∀b∈BR,KP X A3 H b)(ho:∀b∈BR,∃o,s.heap.get? b=↥o/\∀v,o.data≠.cell v):Inv X (A3++WB BR s.heap) σ H s:=
 A0.mc λp AX=>(List.mem_append.mp AX).elim (λz=>A0.pin p (Hz _ z)) λz=>by obtain⟨A4,e⟩:=abV z;obtain⟨f0,f1,f2,_⟩:=hf p.1 A4;obtain⟨o,Bg,d⟩:=ho p.1 A4;rw[e]at Bg;cases Bg;exact⟨e,f0,f1,f2,d⟩
def Inv.aX{A3 pl:μ}{σ :St}{H:AE}{s:AR}(A0:Inv X (A3++pl) σ H s):θ:=A0.mc λp AX=>A0.pin p (Hz _ (Gx _ AX))
def mw{iter:Au}{body:↑BO}{HH:TI}{g:Jm}{tb:FS}{pos:Pos}(AX:PassesOwn ξ X.A X.env X.DA)(AK:X.calm=true)(AA:Hi X C4 iter HH)(Ar:H6 X C4 g)(A4:HK X body tb)(AS:∀x,Mv iter X.env x=pure x:=by intro _;rfl):Dn X (.For C4 iter body [] pos) (aR HH g tb):=by
 intro A3 s σ H D A0 h;refine wpAny_For (Ba (AA A3 s σ H _ A0 h) λv s1 h1=>Ba h1 λYW s2 h2=>?_) AS;obtain⟨it,BR,Hc,Bl,AH,e,Bz,T,LW,f2,W,⟨m0,Jg⟩,turn⟩:=h2;subst e;have stat:∀{AC:AE},(∀b∈BR,AC b=none)->∀b∈BR,KP X A3 AC b:=λAe b A4=>⟨Ae b A4,(f2 b A4).2⟩;refine codeAny_forLoop_any (λn s'=>∃i σ' AC,Inv X A3 σ' AC s'/\Hc i s'.heap/\(∀b∈BR,AC b=none)/\W i n σ' AC) ?_ m0 ⟨0,σ,AH,Bz,LW,λb A4=>(f2 b A4).1,Jg⟩;rintro n s3 ⟨i,σ3,BP,Da,pU,ja,Md⟩;rcases turn i n σ3 BP Md with⟨stop,qn⟩|⟨go,N,hN,DO⟩
 .refine QX AX (Ba (T.done X rfl rfl rfl AK i A3 s3 σ3 BP X.DA Da (stat ja) pU stop) λr s4⟨BZ,M9⟩=>?_);subst BZ;exact XI ⟨σ3,BP,M9,qn⟩
 .refine QX AX (Ba (T.item X rfl rfl rfl AK i A3 s3 σ3 BP X.DA Da (stat ja) pU go) λr s4⟨u,BZ,Cp⟩=>?_);subst BZ;refine QX AX (Ba Cp λ_ s5⟨x,Ch,Sr,Rq,U3,Tr,Yb⟩=>?_);have tF:=Sr.pinned (stat Yb) (T.obj _ _ Tr);refine QX AX (Ba (Ar _ s5 σ3 Ch x u _ tF Rq (DO x Ch U3)) λ_ CQ⟨σ6,DC,Uz,QK⟩=>?_);refine QX AX (Ba (A4 _ CQ σ6 DC _ Uz QK) λf D9 Kx=>?_);have again:∀{σ7:St}{Bo:AE},Inv X (A3++WB BR s5.heap) σ7 Bo D9->N σ7 Bo->∃m,m<n/\∃i σ' AC,Inv X A3 σ' AC D9/\Hc i D9.heap/\(∀b∈BR,AC b=none)/\W i m σ' AC:=λ{σ7 Bo} L1 Wj=>by
   obtain⟨E7,hm,eD⟩:=hN σ7 Bo Wj;refine⟨E7,hm,i+1,σ7,Bo,L1.aX,T.keep _ _ _ Tr λb A4 o e=>(L1.pin (b,o) (Hz _ (Hz _ (aD A4 e)))).1,λb A4=>?_,eD⟩;obtain⟨o,e,d⟩:=T.obj _ _ Tr b A4;exact(L1.pin (b,o) (Hz _ (Hz _ (aD A4 e)))).2.1
  cases f with
  |next=>obtain⟨σ7,Bo,L1,Wj⟩:=Kx;exact again L1 Wj
  |cont=>obtain⟨σ7,Bo,L1,Wj⟩:=Kx;exact again L1 Wj
  |brk=>obtain⟨σ7,Bo,L1,Kx⟩:=Kx;exact⟨σ7,Bo,L1.aX,Kx⟩
  |ret v=>obtain⟨W0,σ7,Bo,L1,Rr,Kx⟩:=Kx;exact⟨W0,σ7,Bo,L1.aX,Rr,Kx⟩
end
abbrev D6:=V->V->AE->CV->Prop
def Dy(X:Aw)(f:A8->A8->Sem A8)(r:D6):Prop:=
 ∀(A3:μ)(s:AR)(σ :St)(H:AE)(x y:V)(v u:A8)(Q:CV),θ->RelV x v->RelV y u->r x y H Q->
  Av ξ X.A (f v u) (H3 X A3 σ Q) X.DA s
def gR(X:Aw)(f:A8->Sem A8)(r:V->AE->CV->Prop):Prop:=
 ∀(A3:μ)(s:AR)(σ :St)(H:AE)(x:V)(v:A8)(Q:CV),θ->RelV x v->r x H Q->
  Av ξ X.A (f v) (H3 X A3 σ Q) X.DA s
def Jj(X:Aw)(f:A8)(r:↑V->AE->CV->Prop):Prop:=
 ∀(A3:μ)(s:AR)(σ :St)(H:AE)(xs:↑V)(us:↑A8)(Q:CV),θ->Vals xs us->r xs H Q->
  Av ξ X.A (call f us) (H3 X A3 σ Q) X.DA s
def sa(X:Aw)(r:V->AE->(Bool->AE->Prop)->Prop):Prop:=
 ∀(A3:μ)(s:AR)(σ :St)(H:AE)(x:V)(v:A8)(Q:Bool->AE->Prop),θ->RelV x v->r x H Q->
  Av ξ X.A (truthy v) (YL X A3 σ Q) X.DA s
noncomputable def Tt(r:D6)(C0 tb:TE):TE:=λσ H Q=>C0 σ H λx H1=>tb σ H1 λy AH=>r x y AH Q
noncomputable def r6(r:V->AE->CV->Prop)(C0:TE):TE:=λσ H Q=>C0 σ H λx H1=>r x H1 Q
noncomputable def IU(C:Int->Int->Prop)(g:Int->Int->V):D6:=λx y H Q=>∃i j,x=.int i/\y=.int j/\C i j/\Q (g i j) H
noncomputable def LC(g:Int->Int->V):D6:=λx y H Q=>∃i j,x=.int i/\y=.int j/\Q (g i j) H
def mS(g:Int->V):V->AE->CV->Prop:=λx H Q=>∃i,x=.int i/\Q (g i) H
section
variable{X:Aw}{a b c:Au}{C0 tb Gv:TE}{pos:Pos}
def bo(AF:Aj X a C0)(A4:Aj X b tb){A3:μ}{s:AR}{σ :St}{H:AE}{R:V->V->AE->Prop}(A0:θ)(h:C0 σ H λx H1=>tb σ H1 λy AH=>R x y AH){Q:A8->AR->Prop}{f:A8->A8->Sem A8}(hf:∀v u s2 x y AH,Inv X A3 σ AH s2->RelV x v->RelV y u->R x y AH->Av ξ X.A (f v u) Q X.DA s2) :
  Av ξ X.A (Bd a X.env) (λv Cy=>Av ξ X.A (Bd b X.env) (λu JI=>Av ξ X.A (f v u) Q X.DA JI) X.DA Cy) X.DA s:=by
 refine Ba (AF A3 s σ H _ A0 h) λv s1⟨x,H1,Ai,As,Aq⟩=>?_;refine Ba (A4 A3 s1 σ H1 _ Ai Aq) λu s2⟨y,AH,Bz,BK,BV⟩=>?_;exact hf v u s2 x y AH Bz As BK BV
def QJ{op:Operator}{r:D6}(ho:Dy X (Ja op) r)(AF:Aj X a C0)(A4:Aj X b tb):Aj X (.BinOp a op b pos) (Tt r C0 tb):=by intro A3 s σ H Q A0 h;exact wpAny_BinOp (bo AF A4 A0 h λv u s2 x y AH Bz Ax Bn q=>ho A3 s2 σ AH x y v u Q Bz Ax Bn q)
def acg{op:UnaryOp}{r:V->AE->CV->Prop}(ho:gR X (unaryOp op) r)(AF:Aj X a C0):Aj X (.UnaryOp op a pos) (r6 r C0):=by intro A3 s σ H Q A0 h;exact UnaryOp_ (Ba (AF A3 s σ H _ A0 h) λv s1⟨x,H1,Ai,As,Aq⟩=>ho A3 s1 σ H1 x v Q Ai As Aq)
def Wr{f:A8->A8->Sem A8}{C:Int->Int->Prop}{g:Int->Int->Int}(rule:∀(i j:Int)(t u:Tok)(s:AR)(Q:A8->AR->Prop)(E:A8->AR->Prop),C i j->Q (.int (g i j) s.toks) { s with toks:=s.toks+1 }->Av ξ X.A (f (.int i t) (.int j u)) Q E s) :
  Dy X f (IU C λi j=>.int (g i j)):=by
 intro A3 s σ H x y v u Q A0 Ax Bn h;obtain⟨i,j,rfl,rfl,AK,q⟩:=h;obtain⟨t,rfl⟩:=Ax;obtain⟨t',rfl⟩:=Bn;exact rule i j t t' s _ _ AK ⟨.int (g i j),H,A0.tok _,⟨_,rfl⟩,q⟩
def d6{f:A8->A8->Sem A8}{g:Int->Int->Int}(rule:∀(i j:Int)(t u:Tok)(s:AR)(Q:A8->AR->Prop)(E:A8->AR->Prop),Q (.int (g i j) s.toks) { s with toks:=s.toks+1 }->Av ξ X.A (f (.int i t) (.int j u)) Q E s) :
  Dy X f (LC λi j=>.int (g i j)):=by
 intro A3 s σ H x y v u Q A0 Ax Bn h;obtain⟨i,j,rfl,rfl,q⟩:=h;obtain⟨t,rfl⟩:=Ax;obtain⟨t',rfl⟩:=Bn;exact rule i j t t' s _ _ ⟨.int (g i j),H,A0.tok _,⟨_,rfl⟩,q⟩
def Zd{f:A8->A8->Sem A8}{g:Int->Int->Bool}(rule:∀(i j:Int)(t u:Tok)(s:AR)(Q:A8->AR->Prop)(E:A8->AR->Prop),Q (.bool (g i j)) s->Av ξ X.A (f (.int i t) (.int j u)) Q E s) :
  Dy X f (LC λi j=>.AL (g i j)):=by
 intro A3 s σ H x y v u Q A0 Ax Bn h;obtain⟨i,j,rfl,rfl,q⟩:=h;obtain⟨t,rfl⟩:=Ax;obtain⟨t',rfl⟩:=Bn;exact rule i j t t' s _ _ ⟨.AL (g i j),H,A0,rfl,q⟩
def So(i j:Int):Prop:=0<j/\j<1073741824
def NF(i j:Int):Prop:=0<=j/\j<=1000000/\i.natAbs<2^64
def NE(i j:Int):Prop:=(-(2^64)<i/\i<2^64)\/(-(2^64)<j/\j<2^64)
def NE.ok{i j:Int}(h:NE i j):IntMulOk i j:=by
 rcases h with⟨h1,h2⟩|⟨h1,h2⟩
 .exact .of_left (intBits_le_64 h1 h2)
 .exact .of_right (intBits_le_64 h1 h2)
def ag0(k:Nat):(0:Int)<=2^k:=by rw[two_pow_cast];exact Int.natCast_nonneg _
def abL:Dy X (Ja .Add) (LC λi j=>.int (i+j)):=d6 λ_ _ _ _ _ _ _ q=>add_int q
def acz:Dy X (Ja .Sub) (LC λi j=>.int (i-j)):=d6 λ_ _ _ _ _ _ _ q=>sub_int q
def abT:Dy X (Ja .Mult) (IU NE λi j=>.int (i*j)):=Wr λ_ _ _ _ _ _ _ AK q=>mul_int q AK.ok
def abR:Dy X (Ja .FloorDiv) (IU So λi j=>.int (i/j)):=Wr λi j _ _ _ _ _ AK q=>by have h1:(0:Int)<j:=AK.1;have h2:j<1073741824:=AK.2;exact floordiv_int δ (by rw[rU i δ];exact q) (.inl (PyProof.noPylong_small δ))
def abS:Dy X (Ja .Mod) (IU (λ_ j=>0<j) λi j=>.int (i%j)):=Wr λi j _ _ _ _ _ AK q=>by have h1:(0:Int)<j:=AK;exact mod_int' δ (by rw[Int.fmod_eq_emod_of_nonneg i δ];exact q)
def abt:Dy X (Ja .Pow) (IU NF λi j=>.int (i^j.toNat)):=Wr λ_ _ _ _ _ _ _ AK q=>pow_int_small AK.1 AK.2.1 AK.2.2 q
def acy:Dy X (Ja .RShift) (IU (λ_ j=>0<=j) λi j=>.int (i/2^j.toNat)):=Wr λi j _ _ _ _ _ AK q=>
 rshift_int AK (by rw[rU i (ag0 _)];exact q)
def abO:Dy X (Ja .BitAnd) (LC λi j=>.int (Builtin.bitAnd i j)):=d6 λ_ _ _ _ _ _ _ q=>and_int q
def agA{f:A8->Sem A8}{g:Int->Int}(rule:∀(i:Int)(t:Tok)(s:AR)(Q:A8->AR->Prop)(E:A8->AR->Prop),Q (.int (g i) s.toks) { s with toks:=s.toks+1 }->Av ξ X.A (f (.int i t)) Q E s) :
  gR X f (mS λi=>.int (g i)):=by
 intro A3 s σ H x v Q A0 Ax h;obtain⟨i,rfl,q⟩:=h;obtain⟨t,rfl⟩:=Ax;exact rule i t s _ _ ⟨.int (g i),H,A0.tok _,⟨_,rfl⟩,q⟩
def agB:gR X (unaryOp .USub) (mS λi=>.int (-i)):=agA λ_ _ _ _ _ q=>neg_int q
end
section
variable{X:Aw}{a b c:Au}{C0 tb Gv:TE}{pos:Pos}
def jV{A3:μ}{σ :St}{H:AE}{s:AR}{Q:CV}{k k':Bool}(A0:θ)(q:Q (.AL k) H)(e:k=k'):H3 X A3 σ Q (.bool k') s:=by subst e;exact⟨.AL k,H,A0,rfl,q⟩
def Zh:Dy X (G0 .Lt) (LC λi j=>.AL (decide (i<j))):=Zd λ_ _ _ _ _ _ _ q=>lt_int q
def Q6:Dy X (G0 .LtE) (LC λi j=>.AL (decide (i<=j))):=Zd λ_ _ _ _ _ _ _ q=>le_int q
def lN:Dy X (G0 .Gt) (LC λi j=>.AL (decide (j<i))):=Zd λ_ _ _ _ _ _ _ q=>gt_int q
def lM:Dy X (G0 .GtE) (LC λi j=>.AL (decide (j<=i))):=Zd λ_ _ _ _ _ _ _ q=>ge_int q
def lO:Dy X (G0 .Is) (λx y H Q=>y=.non/\Q (.AL (decide (x=.non))) H):=by
 intro A3 s σ H x y v u Q A0 Ax Bn h;obtain⟨rfl,q⟩:=h;cases Bn;refine is_none_gen (jV A0 q ?_)
 cases x<;>first
  |(cases Ax;rfl)
  |(obtain⟨t,rfl⟩:=Ax;rfl)
def lQ:Dy X (G0 .IsNot) (λx y H Q=>y=.non/\Q (.AL (!decide (x=.non))) H):=by
 intro A3 s σ H x y v u Q A0 Ax Bn h;obtain⟨rfl,q⟩:=h;cases Bn;refine isnot_none_gen (jV A0 q ?_)
 cases x<;>first
  |(cases Ax;rfl)
  |(obtain⟨t,rfl⟩:=Ax;rfl)
def Dy.or{f:A8->A8->Sem A8}{r Bm:D6}(h:Dy X f r)(h':Dy X f Bm):Dy X f (λx y H Q=>r x y H Q\/Bm x y H Q):=by
 intro A3 s σ H x y v u Q A0 Ax Bn q;rcases q with q|q
 .exact h A3 s σ H x y v u Q A0 Ax Bn q
 .exact h' A3 s σ H x y v u Q A0 Ax Bn q
def Hr(b:Au){op:CmpOp}(h:op≠.In:=by decide)(h2:op≠.NotIn:=by decide):MH op b=false:=by
 have A9:(op==CmpOp.In)=false:=by cases op<;>first|rfl|exact absurd rfl h
 have AG:(op==CmpOp.NotIn)=false:=by cases op<;>first|rfl|exact absurd rfl h2
 cases b<;>simp[MH,A9,AG]
def Lz{op:CmpOp}{r:D6}(ho:Dy X (G0 op) r)(AF:Aj X a C0)(A4:Aj X b tb)(hm:MH op b=false):Aj X (.Compare a [op] [b] pos) (Tt r C0 tb):=by intro A3 s σ H Q A0 h;exact wpAny_Compare1 (bo AF A4 A0 h λv u s2 x y AH Bz Ax Bn q=>ho A3 s2 σ AH x y v u Q Bz Ax Bn q) hm
noncomputable def r4(t:TE):TT:=λσ H Q=>t σ H λx AC=>∃k,x=.AL k/\Q k AC
def M0{op:CmpOp}{r:D6}(ho:Dy X (G0 op) r)(AF:Aj X a C0)(A4:Aj X b tb)(hm:MH op b=false):E_ X (.Compare a [op] [b] pos) (r4 (Tt r C0 tb)):=by
 intro A3 s σ H Q A0 h;refine wpAny_isTrue_Compare1 (Ba (AF A3 s σ H _ A0 h) λv s1⟨x,H1,Ai,As,Aq⟩=>Ba (A4 A3 s1 σ H1 _ Ai Aq) λu s2⟨y,AH,Bz,BK,BV⟩=>
  Ba (ho A3 s2 σ AH x y v u _ Bz As BK BV) λc s3⟨z,BP,Da,Ff,k,e,Do⟩=>?_) hm
 subst e;cases Ff;exact MD ⟨BP,Da,Do⟩
noncomputable def eT(r Bm:D6)(C0 tb Gv:TE):TE:=λσ H Q=>C0 σ H λx H1=>tb σ H1 λy AH=>r x y AH λz BP=>∃k,z=.AL k/\
 (if k=true then Gv σ BP λCf DX=>Bm y Cf DX Q else Q (.AL false) BP)
def adE{op Jz:CmpOp}{r Bm:D6}(ho:Dy X (G0 op) r)(I8:Dy X (G0 Jz) Bm)(AF:Aj X a C0)(A4:Aj X b tb)(AK:Aj X c Gv)(hm:lastMarks [op,Jz] [b,c]=false:=by with_unfolding_all rfl):Aj X (.Compare a [op,Jz] [b,c] pos) (eT r Bm C0 tb Gv):=by
 intro A3 s σ H Q A0 h;refine Compare_chain (Ba (AF A3 s σ H _ A0 h) λv s1⟨x,H1,Ai,As,Aq⟩=>chain_link (Ba (A4 A3 s1 σ H1 _ Ai Aq) λu s2⟨y,AH,Bz,BK,BV⟩=>
  Ba (ho A3 s2 σ AH x y v u _ Bz As BK BV) λd s3⟨z,BP,Da,Ff,k,e,Do⟩=>?_)) hm
 subst e;cases Ff;refine MD ?_;cases k with
 |false=>exact ite_ff ⟨.AL false,BP,Da,rfl,Do⟩
 |true=>exact ite_tt (chain_last (Ba (AK A3 s3 σ BP _ Da Do) λCf s4⟨HI,DX,M9,Na,Jb⟩=>I8 A3 s4 σ DX y HI u Cf Q M9 BK Na Jb))
def aeE{op Jz:CmpOp}{r Bm:D6}(ho:Dy X (G0 op) r)(I8:Dy X (G0 Jz) Bm)(AF:Aj X a C0)(A4:Aj X b tb)(AK:Aj X c Gv)(hm:lastMarks [op,Jz] [b,c]=false:=by with_unfolding_all rfl):E_ X (.Compare a [op,Jz] [b,c] pos) (r4 (eT r Bm C0 tb Gv)):=by
 intro A3 s σ H Q A0 h;refine isTrue_chain (Ba (AF A3 s σ H _ A0 h) λv s1⟨x,H1,Ai,As,Aq⟩=>test_link (Ba (A4 A3 s1 σ H1 _ Ai Aq) λu s2⟨y,AH,Bz,BK,BV⟩=>
  Ba (ho A3 s2 σ AH x y v u _ Bz As BK BV) λd s3⟨z,BP,Da,Ff,k,e,Do⟩=>?_)) hm
 subst e;cases Ff;refine MD ?_;cases k with
 |false=>obtain⟨k',Bg,DZ⟩:=Do;cases Bg;exact ite_ff ⟨BP,Da,DZ⟩
 |true=>refine ite_tt (test_last (Ba (AK A3 s3 σ BP _ Da Do) λCf s4⟨HI,DX,M9,Na,Jb⟩=>Ba (I8 A3 s4 σ DX y HI u Cf _ M9 BK Na Jb) λd' s5⟨FE,Ch,Sr,Rq,k2,AG,UP⟩=>?_));subst AG;cases Rq;exact MD ⟨Ch,Sr,UP⟩
def sb(K:Ao)(x:V)(H:AE)(k:Bool):Prop:=
 match x with
 |.non=>k=false
 |.AL b=>k=b
 |.int i=>k=(i !=0)
 |.str y=>⇑y<=CU/\k=((⇑y:Int) !=0)
 |.Pm y=>y.size<=CU/\k=((y.size:Int) !=0)
 |.ref p=>(∃xs,ET K H p xs/\k=!xs.isEmpty)\/(∃xs,FA K H p xs/\k=!xs.isEmpty)\/∃AD,H p=↥(.BM AD)/\k=!AD.isEmpty
 |_=>False
def yf{Bp:Type}{AD:↑(Bp×V)}{vs:↑(Bp×A8)}(r:Fn AD vs):(!vs.isEmpty)=!AD.isEmpty:=by cases r<;>rfl
def ka{xs:↑V}{its:↑A8}(r:Vals xs its):(!its.toArray.isEmpty)=!xs.isEmpty:=by cases r<;>simp
def TQ:(CU:Nat)<2^63:=by rw[Qd];decide
def ajq:sa X (λx H Q=>∃k,sb X.K x H k/\Q k H):=by
 intro A3 s σ H x v Q A0 Ax h;obtain⟨k,e,q⟩:=h;have AI:=TQ;have AS:CU=16777216:=Qd;cases x with
 |non=>cases Ax;have Bg:k=false:=e;subst Bg;exact truthy_none ⟨H,A0,q⟩
 |AL b=>cases Ax;have Bg:k=b:=e;subst Bg;exact MD ⟨H,A0,q⟩
 |int i=>obtain⟨t,rfl⟩:=Ax;have Bg:k=(i !=0):=e;subst Bg;exact PySem.P.truthy_int ⟨H,A0,q⟩
 |str y=>obtain⟨t,rfl⟩:=Ax;obtain⟨Af,Bg⟩:⇑y<=CU/\k=((⇑y:Int) !=0):=e;subst Bg;exact PySem.P.truthy_str δ ⟨H,A0.tok _,q⟩
 |Pm y=>obtain⟨t,rfl⟩:=Ax;obtain⟨Af,Bg⟩:y.size<=CU/\k=((y.size:Int) !=0):=e;subst Bg;exact PySem.W.truthy_bytes δ ⟨H,A0.tok _,q⟩
 |ref p=>
  cases Ax;have Bg:(∃xs,ET X.K H p xs/\k=!xs.isEmpty)\/(∃xs,FA X.K H p xs/\k=!xs.isEmpty)\/∃AD,H p=↥(.BM AD)/\k=!AD.isEmpty:=e;rcases Bg with⟨xs,AM,Bg⟩|⟨xs,AM,Bg⟩|⟨AD,AM,Bg⟩
  .subst Bg;obtain⟨its,r,pl,hz⟩:=A0.list AM;have hlen:=⇑r;exact wpAny_truthy_list pl.isList (by erw[Df];lia) ⟨H,A0.tok _,by rw[ka r];exact q⟩
  .subst Bg;obtain⟨its,r,pl,hz⟩:=A0.tuple AM;have hlen:=⇑r;exact truthy_tuple pl (by erw[Df];lia) ⟨H,A0.tok _,by rw[ka r];exact q⟩
  .subst Bg;obtain⟨hz,Mp,vs,r,m⟩:⇑AD<=CU/\(p==LM)=false/\∃vs,Fn AD vs/\s.heap.DictOf (HA X.prog X.w) p vs:=A0.BB p _ AM;have hlen:⇑AD=⇑vs:=Paired.length r;exact wpAny_truthy_dict Mp m δ ⟨H,A0.tok _,by rw[yf r];exact q⟩
 |_=>exact(show False from e).elim
def abN:Dy X (Ja .Add) (λx y H Q=>∃i j,x=.str i/\y=.str j/\ ⇑i+⇑j<=CU/\Q (.str (i++j)) H):=by intro A3 s σ H x y v u Q A0 Ax Bn h;obtain⟨i,j,rfl,rfl,hz,q⟩:=h;obtain⟨t,rfl⟩:=Ax;obtain⟨t',rfl⟩:=Bn;exact add_str (λt' DJ=>⟨.str (i++j),H,A0.tok _,⟨_,rfl⟩,q⟩) hz
def vals1{x:V}{us:↑A8}(r:Vals [x] us):∃u,us=[u]/\RelV x u:=by
 cases r with
 |cons As BK=>cases BK;exact⟨_,rfl,As⟩
def vals2{x y:V}{us:↑A8}(r:Vals [x,y] us):∃u Cf,us=[u,Cf]/\RelV x u/\RelV y Cf:=by
 cases r with
 |cons As BK=>
  cases BK with
  |cons Ff Na=>cases Na;exact⟨_,_,rfl,As,Ff⟩
def tc:Jj X (.type "int") (λxs H Q=>(∃i,xs=[.int i]/\Q (.int i) H)\/∃k,xs=[.AL k]/\Q (.int (if k then 1 else 0)) H):=by
 intro A3 s σ H xs us Q A0 r h;rcases h with⟨i,rfl,q⟩|⟨k,rfl,q⟩
 .obtain⟨u,rfl,t,rfl⟩:=vals1 r;exact call_int_int ⟨.int i,H,A0,⟨_,rfl⟩,q⟩
 .obtain⟨u,rfl,As⟩:=vals1 r;cases As;exact call_int_bool ⟨.int (if k then 1 else 0),H,A0.tok _,⟨_,rfl⟩,q⟩
def tj:Jj X (.type "str") (λxs H Q=>∃i,xs=[.int i]/\i.natAbs.log2<1920/\Q (.str (toString i)) H):=by intro A3 s σ H xs us Q A0 r h;obtain⟨i,rfl,hz,q⟩:=h;obtain⟨u,rfl,t,rfl⟩:=vals1 r;exact PySem.P.str_of_int hz ⟨.str _,H,A0.tok _,⟨_,rfl⟩,q⟩
def hr(K:Ao)(x:V)(H:AE)(n:Nat):Prop:=
 match x with
 |.str y=>⇑y<=CU/\n=⇑y
 |.Pm y=>y.size<=CU/\n=y.size
 |.ref p=>(∃xs,ET K H p xs/\n=⇑xs)\/∃xs,FA K H p xs/\n=⇑xs
 |_=>False
def te:Jj X (.builtin "len") (λxs H Q=>∃x n,xs=[x]/\hr X.K x H n/\Q (.int n) H):=by
 intro A3 s σ H xs us Q A0 r h;obtain⟨x,n,rfl,e,q⟩:=h;obtain⟨u,rfl,Ax⟩:=vals1 r;have AI:=TQ;have AS:CU=16777216:=Qd;cases x with
 |str y=>obtain⟨t,rfl⟩:=Ax;obtain⟨Af,Bg⟩:⇑y<=CU/\n=⇑y:=e;subst Bg;exact len_str δ ⟨.int _,H,A0.tok _,⟨_,rfl⟩,q⟩
 |Pm y=>obtain⟨t,rfl⟩:=Ax;obtain⟨Af,Bg⟩:y.size<=CU/\n=y.size:=e;subst Bg;exact PySem.W.len_bytes δ ⟨.int _,H,A0.tok _,⟨_,rfl⟩,q⟩
 |ref p=>
  cases Ax;have Bg:(∃xs,ET X.K H p xs/\n=⇑xs)\/∃xs,FA X.K H p xs/\n=⇑xs:=e;rcases Bg with⟨xs,AM,Bg⟩|⟨xs,AM,Bg⟩
  .subst Bg;obtain⟨its,Bm,pl,hz⟩:=A0.list AM;have hlen:=⇑Bm;exact Calls.call_len_list pl.isList (by erw[Df];lia) ⟨.int ⇑xs,H,A0.tok _,⟨_,by erw[Df];rw[hlen]⟩,q⟩
  .subst Bg;obtain⟨its,Bm,pl,hz⟩:=A0.tuple AM;have hlen:=⇑Bm;exact len_tuple pl (by erw[Df];lia) ⟨.int ⇑xs,H,A0.tok _,⟨_,by erw[Df];rw[hlen]⟩,q⟩
 |_=>exact(show False from e).elim
end
structure R_(h:BG)(x Bt C:A6)(ES:Str->Option A8):Prop where
 obj:h.get? x=↥(PN C Bt)
 ns:h.Ns1 Bt ES
 ne:Bt≠x
def aay{h:BG}{Bt:A6}{ES:Str->Option A8}(n:h.Ns1 Bt ES):∃EB,h.get? Bt=↥EB/\∀name,XN name EB=↥(ES name):=by
 obtain⟨o,es,B9,ho,hd,AQ,_,hm⟩:=n;refine⟨o,ho,λname=>?_⟩;have e:=hm name;unfold nsFind findBy at e;rw[<-Array.find?_toList]at e;unfold XN;rw[hd];dsimp only
 split
 .rename_i y q;rw[q]at e;exact congrArg some e
 .rename_i q;rw[q]at e;have a:es.toList.any (·.refKey)=false:=by
   rw[List.any_eq_false];intro y Af;obtain⟨z,t,x2⟩:=AQ y (Array.mem_toList_iff.mp Af);simp[DictEntry.refKey,x2]
  have Gi:¬es.toList.any (·.refKey)=true:=by rw[a];exact Km
  rw[if_neg Gi];exact congrArg some e
def R_.look{h:BG}{x Bt C:A6}{ES:Str->Option A8}(A0:R_ h x Bt C ES):∃EB,PySem.W.InstAt h x (PN C Bt) C ↥EB/\∀name,XN name EB=↥(ES name):=
 let⟨EB,ho,AI⟩:=aay A0.ns
 ⟨EB,⟨A0.obj,rfl,rfl,ho⟩,AI⟩
section
variable{prog:CD}{w:Bq}{A:D3}{E:A8->AR->Prop}{s:AR}{K:Ao}{x Bt C f:A6}{ES:Str->Option A8}{name:Str}{v:A8}
def get_map{expr:Bool}{Q:A8->AR->Prop}(X:K.In s.heap)(A0:R_ s.heap x Bt C ES)(Ar:Se K C name=true)(hh:Ud K C=true)(AF:JY K (.ref C) name=↥none)(CL:ES name=↥v)(Ys:PySem.W.handedIn v=true)(h:Q v { s with toks:=s.toks+1 }) :
  Av Θ A (getAttr (.ref x) name expr) Q E s:=by
 obtain⟨EB,Bl,AI⟩:=A0.look;exact PySem.W.get_value X Bl (fa Ar).1 (PySem.W.findObj_own hh AF rfl (by rw[AI,CL])) Ys h
def xB{pl:Sem Bool}{Q:A8×↑A8->AR->Prop}(X:K.In s.heap)(A0:R_ s.heap x Bt C ES)(Ar:Se K C name=true)(hf:JY K (.ref C) name=↥↥(.ref f))(BY:Ug K (.ref f)=true)(CL:ES name=none)(h:Q (.ref f,[.ref x]) s) :
  Av Θ A (Ql (.ref x) name pl) Q E s:=by
 obtain⟨EB,Bl,AI⟩:=A0.look;exact PySem.W.method_fn X Bl (fa Ar).1 (fa Ar).2 hf (beq_iff_eq.mp BY) (by show(XN name EB).map (·.isSome)=↥false;rw[AI,CL];rfl) h
def af7{ns:↑Str}{Q:Unit->AR->Prop}(X:K.In s.heap)(A0:R_ s.heap x Bt C ES)(AS:JY K (.ref C) "__setattr__"=↥↥(.builtin "object.__setattr__"))(AX:X4 K C=true)(BY:ft K C name=↥none)(hh:Ud K C=true)(hw:gB ES ns)(hsz:⇑ns<=CU)(h:∀h',R_ h' x Bt C (λy=>if y=name then↥v else ES y)->Kp Bt s.heap h'->Q () { s with heap:=h',toks:=s.toks+2 }) :
  Av Θ A (setAttr (.ref x) name v) Q E s:=by
 obtain⟨EB,Bl,AI⟩:=A0.look;refine PySem.W.set_plain X Bl AS (PySem.W.osa_open (s:={ s with toks:=s.toks+1 }) (r:=none) X Bl AX BY λb=>?_);obtain⟨cd,AK,c9⟩:=PySem.W.any_some hh;have AM:s.heap.get? x=↥⟨.ref C,↥Bt,.plain,#[]⟩:=A0.obj;refine Ah (Bk (Ah (Ah (wpAny_loadPart AM (Ah (PySem.W.Looks.here (s:={ s with toks:=s.toks+1 }) (PySem.W.looks_clsIn X AK) ?_))))));rw[c9];refine Bk (a:=↥Bt) (Ah (Bk (Ah ?_)));refine wpAny_nsSet1 (s:={ s with toks:=s.toks+1 }) A0.ns λh' TB Iz=>?_;obtain⟨aja,aj7,aj5,wi,GK,xU⟩:=TB.count (PySem.Within.cons name v hw);refine Ah (wpAny_lookBehind wi (by rw[GK];exact pastItsLine_dict (Gm xU (by rw[FF];lia))) ?_);exact Bk (h _ ⟨(Iz.2 _ (K6 A0.ne)).trans A0.obj,TB,A0.ne⟩ Iz)
def abE {R:Result->AR->Prop} {vs:↑A8} {kw:↑(Str×A8)} (X:K.In s.heap) (hm:fu K C=true)(AA:JY K (.ref C) "__init__"=↥↥(.ref f)) (hf:PySem.W.typeIn K (.ref f)=↥(.type "function"))(h:MI Θ (A.under (.builtin "type.__call__" ⟨.ref C::vs,kw⟩)) (.call (.ref f) ⟨.ref (s.heap.objs.size+1)::vs,kw⟩) (PySem.W.InitBack (s.heap.objs.size+1) R)
    { s with heap:=(s.heap.push O3).push (PN C s.heap.objs.size) }) :
  MI Θ A (.call (.ref C) ⟨vs,kw⟩) R s:=by
 obtain⟨hh,g,d,t,os⟩:=s;exact PySem.W.make_core (PySem.W.makes_of X hm) (PySem.W.looks_findIn X AA) (λself=>PySem.W.bind_fn X self hf) (.inl rfl) h
end
noncomputable def HY(f:Str)(v:V):↑(Str×V)->↑(Str×V)
 |[]=>[(f,v)]
 |(g,x)::r=>if g=f then(g,v)::r else(g,x)::HY f v r
theorem kS(f g:Str)(v:V):∀BA:↑(Str×V),(HY f v BA).lookup g=if g=f then↥v else BA.lookup g
 |[]=>by
  show Qe g [(f,v)]=_;by_cases h:g=f
  .have A4:(g==f)=true:=beq_iff_eq.mpr h;erw[Qe,A4,if_pos h]
  .have A4:(g==f)=false:=beq_eq_false_iff_ne.mpr h;erw[Qe,A4,if_neg h]
 |(k,x)::r=>by
  have CC:=kS f g v r;rw[show HY f v ((k,x)::r)=(if k=f then(k,v)::r else(k,x)::HY f v r)from rfl];by_cases AQ:k=f
  .rw[if_pos AQ];by_cases h:g=k
   .have A4:(g==k)=true:=beq_iff_eq.mpr h;erw[Qe,A4,if_pos (h.trans AQ)]
   .have A4:(g==k)=false:=beq_eq_false_iff_ne.mpr h;erw[Qe,A4,if_neg (λe:g=f=>h (e.trans AQ.symm))]
  .rw[if_neg AQ];by_cases h:g=k
   .have A4:(g==k)=true:=beq_iff_eq.mpr h;erw[Qe,A4,if_neg (λe:g=f=>AQ (h.symm.trans e))]
   .have A4:(g==k)=false:=beq_eq_false_iff_ne.mpr h;erw[Qe,A4];exact CC
theorem dp(f:Str)(v:V):∀BA:↑(Str×V),f∈(HY f v BA).map (·.1)/\∀g,g∈BA.map (·.1)->g∈(HY f v BA).map (·.1)
 |[]=>⟨by simp[HY],λg h=>by simp at h⟩
 |(k,x)::r=>by
  obtain⟨Cs,Ft⟩:=dp f v r;rw[show HY f v ((k,x)::r)=(if k=f then(k,v)::r else(k,x)::HY f v r)from rfl];by_cases AQ:k=f
  .rw[if_pos AQ];subst AQ;exact⟨γ,λg h=>(h:)⟩
  .rw[if_neg AQ];refine⟨?_,λg h=>?_⟩
   .rw[EM];exact Gw _ Cs
   .rw[EM]at h |-;rcases List.mem_cons.mp h with e|e
    .exact List.mem_cons.mpr (.inl e)
    .exact Gw _ (Ft g e)
theorem kP(f:Str)(v:V):∀BA:↑(Str×V),⇑(HY f v BA)<=⇑BA+1
 |[]=>by simp[HY]
 |(k,x)::r=>by
  have CC:=kP f v r;rw[show HY f v ((k,x)::r)=(if k=f then(k,v)::r else(k,x)::HY f v r)from rfl];by_cases AQ:k=f
  .rw[if_pos AQ,FF,FF];lia
  .rw[if_neg AQ,FF,FF];lia
def I4.some_of{v:V}{o:Option A8}(r:I4 ↥v o):∃u,o=↥u/\RelV v u:=by
 cases o with
 |none=>exact(show False from r).elim
 |some u=>exact⟨u,rfl,r⟩
def I4.none_of{o:Option A8}(r:I4 none o):o=none:=by
 cases o with
 |none=>rfl
 |some u=>exact(show False from r).elim
def xQ{v:V}{u:A8}(r:RelV v u):PySem.W.handedIn u=true:=by
 cases v with
 |non=>cases(show u=K2 from r);rfl
 |AL b=>cases(show u=Qm b from r);rfl
 |int i=>obtain⟨t,e⟩:=(show ∃t,u=Sk i t from r);cases e;rfl
 |str x=>obtain⟨t,e⟩:=(show ∃t,u=Sl x t from r);cases e;rfl
 |Pm b=>obtain⟨t,e⟩:=(show ∃t,u=Value.bytes b t from r);cases e;rfl
 |RJ b=>obtain⟨t,e⟩:=(show ∃t,u=gJ b t from r);cases e;rfl
 |ref a=>cases(show u=DB a from r);rfl
 |ty n=>cases(show u=O5 n from r);rfl
section
variable{P:CD}{w:Bq}{K:Ao}{H AC:AE}{h h':BG}{a C Bt:A6}{BA Np:↑(Str×V)}
def YU(BB:Ew P w H h)(e:H a=↥(.ins C Bt BA)):∃ES,R_ h a Bt C ES/\(∀f,I4 (BA.lookup f) (ES f))/\gB ES (BA.map (·.1))/\ ⇑BA<=1000/\H Bt=↥(.own a):=by obtain⟨d,z,ne,BQ,ES,n,r,q⟩:=(show EJ P w H h a (.ins C Bt BA)from BB a _ e);exact⟨ES,⟨BQ,n,ne⟩,r,q,z,d⟩
end
structure K8(K:Ao)(C:A6):Prop where
 aci:Se K C Str.empty=true
 hd:Ud K C=true
 po:X4 K C=true
 OS:JY K (.ref C) "__setattr__"=↥↥(.builtin "object.__setattr__")
def K8.get{K:Ao}{C:A6}(c:K8 K C)(f:Str):Se K C f=true:=c.aci
def RZ(K:Ao)(C:A6)(f:Str):Prop:=JY K (.ref C) f=↥none
def RZ.aeu{K:Ao}{C:A6}{f:Str}(n:RZ K C f):ft K C f=↥none:=by unfold ft;rw[show JY K (.ref C) f=↥none from n];rfl
structure Meth(K:Ao)(C:A6)(m:Str)(f:A6):Prop where
 at_:JY K (.ref C) m=↥↥(.ref f)
 fn:Ug K (.ref f)=true
 DH:K1 K (.ref f)=true
section
variable{X:Aw}{A3:μ}{σ :St}{H:AE}{s:AR}{a C Bt:A6}{BA:↑(Str×V)}{f:Str}{v:V}{A:D3}{E:A8->AR->Prop}
def xC{b:Bool}{Q:A8->AR->Prop}(A0:θ)(e:H a=↥(.ins C Bt BA))(c:K8 X.K C)(n:RZ X.K C f)(l:BA.lookup f=↥v)(h:∀u s',Inv X A3 σ H s'->RelV v u->Q u s'):Av ξ A (getAttr (.ref a) f b) Q E s:=by obtain⟨ES,O,r,_,_,_⟩:=YU A0.BB e;obtain⟨u,BS,Eg⟩:=I4.some_of (v:=v) (o:=ES f) (by rw[<-l];exact r f);exact get_map A0.Fc O (c.get f) c.hd n BS (xQ Eg) (h u _ (A0.tok _) Eg)
def cx{m:Str}{g:A6}{pl:Sem Bool}{Q:A8×↑A8->AR->Prop}(A0:θ)(e:H a=↥(.ins C Bt BA))(c:K8 X.K C)(k:Meth X.K C m g)(l:BA.lookup m=none)(h:Q (.ref g,[.ref a]) s):Av ξ A (Ql (.ref a) m pl) Q E s:=by obtain⟨ES,O,r,_,_,_⟩:=YU A0.BB e;have Ae:ES m=none:=I4.none_of (by rw[<-l];exact r m);exact xB A0.Fc O (c.get m) k.at_ k.fn Ae h
def af9{y:V}{u:A8}{Q:Unit->AR->Prop}(A0:θ)(e:H a=↥(.ins C Bt BA))(c:K8 X.K C)(n:RZ X.K C f)(AI:⇑BA<1000)(Bn:RelV y u)(h:∀s',Inv X A3 σ (upd H a (.ins C Bt (HY f y BA))) s'->Q () s'):Av ξ A (setAttr (.ref a) f u) Q E s:=by
 obtain⟨ES,O,r,HH,_,ho⟩:=YU A0.BB e;have hz:⇑(BA.map (·.1))<=CU:=by rw[Cd,Qd];lia
 refine af7 A0.Fc O c.OS c.po n.aeu c.hd HH hz λh' gn HD=>h _ ?_;have hd:∃o,h'.get? Bt=↥o:=let⟨o,_,_,Bg,_⟩:=gn.ns;⟨o,Bg⟩
 refine A0.write (x:=a) (e:=Bt) (by rw[e];exact Io) (.inr ho) (λb q A4 z=>(HD.2 b A4).trans z) hd ?_;refine⟨by rw[DK O.ne];exact ho,?_,O.ne,gn.obj,_,gn.ns,λg=>?_,λg Ar=>?_⟩
 .have:=kP f y BA;lia
 .show I4 ((HY f y BA).lookup g) (if g=f then↥u else ES g);rw[kS];by_cases q:g=f
  .rw[if_pos q,if_pos q];exact Bn
  .rw[if_neg q,if_neg q];exact r g
 .by_cases q:g=f
  .rw[q];exact(dp f y BA).1
  .refine(dp f y BA).2 g (HH g λz=>Ar ?_);show(if g=f then↥u else ES g)=none;rw[if_neg q];exact z
def Inv.made(A0:θ):Inv X A3 σ (upd (upd H s.heap.objs.size (.own (s.heap.objs.size+1))) (s.heap.objs.size+1) (.ins C s.heap.objs.size []))
  { s with heap:=(s.heap.push O3).push (PN C s.heap.objs.size) }:=by
 have A9:(s.heap.push O3).get? s.heap.objs.size=↥O3:=GG s.heap rfl;have AG:((s.heap.push O3).push (PN C s.heap.objs.size)).get? (s.heap.objs.size+1)=↥(PN C s.heap.objs.size):=by
  have:=GG (s.heap.push O3) (o:=PN C s.heap.objs.size) rfl
  rwa [LI]at this
 have DS:(s.heap.push O3).Ns s.heap.objs.size (λ_=>none):=⟨O3,#[],_,A9,rfl,(λe he=>absurd he γ),λ_=>rfl⟩;have Ai:=A0.laid (a:=s.heap.objs.size) (o:=.own (s.heap.objs.size+1)) (h':=s.heap.push O3) (t':=s.toks) (λb u q=>Dm _ q) (CB _) ⟨_,A9⟩;refine Ai.laid (a:=s.heap.objs.size+1) (o:=.ins C s.heap.objs.size []) (t':=s.toks) (λb u q=>Dm _ q) (gC (LI _ _)) ?_;have ne:s.heap.objs.size≠s.heap.objs.size+1:=FG (PQ _);refine⟨by rw[DK ne,Ec],IM _,ne,AG,λ_=>none,(Heap.Ns1.of_empty DS).at λo q=>Dm _ q,λ_=>Io,λy Af=>absurd rfl Af⟩
def t4{prog:CD}{w:Bq}{env:Env}{e:Au}{f:Str}{pos:Pos}{s:AR}{Q:A8->AR->Prop}(A4:Ko e f env (Bd e env)=Bd e env)(h:Av Θ A (Bd e env) (λo Cy=>Av Θ A (getAttr o f true) Q E Cy) E s):Av Θ A (Bd (.Attribute e f pos) env) Q E s:=
 Attribute_any_ h (by rw[arm_eval_Attribute,A4])
end
noncomputable def px(K:Ao)(C0:TE)(f:Str):TE:=λσ H Q=>C0 σ H λx H1=>∃a C Bt BA v,x=.ref a/\H1 a=↥(.ins C Bt BA)/\K8 K C/\RZ K C f/\BA.lookup f=↥v/\Q v H1
def m8(K:Ao)(C0 OW:TE)(f:Str):FS:=λD σ H=>OW σ H λy H1=>C0 σ H1 λx AH=>∃a C Bt BA,x=.ref a/\AH a=↥(.ins C Bt BA)/\K8 K C/\RZ K C f/\ ⇑BA<1000/\
 D.AP σ (upd AH a (.ins C Bt (HY f y BA)))
section
variable{X:Aw}{o e value:Au}{f:Str}{pos pos' WO:Pos}{C0 OW:TE}
def adJ(he:Aj X e C0)(A4:Ko e f X.env (Bd e X.env)=Bd e X.env):Aj X (.Attribute e f pos) (px X.K C0 f):=by intro A3 s σ H Q A0 h;refine t4 A4 (Ba (he A3 s σ H _ A0 h) λu s1⟨x,H1,Ai,Ax,a,C,Bt,BA,v,ex,BX,c,n,l,q⟩=>?_);subst ex;obtain rfl:u=DB a:=Ax;exact xC Ai BX c n l λJ5 s2 Bz Eg=>⟨v,H1,Bz,Eg,q⟩
def ae1(AF:Aj X o C0)(CL:Aj X value OW)(AS:PS value ↥(.Attribute o f pos') pos.line X.env=pure false):Dn X (.Assign [.Attribute o f pos'] value pos) (m8 X.K C0 OW f):=by intro A3 s σ H D A0 h;refine plainObj_wpAny_Assign_Attribute (Ba (CL A3 s σ H _ A0 h) λu s1⟨y,H1,Ai,Bn,q⟩=>Ba (AF A3 s1 σ H1 _ Ai q) λCq s2⟨x,AH,Bz,Ax,a,C,Bt,BA,ex,BX,c,n,l,BV⟩=>?_) AS;subst ex;obtain rfl:Cq=DB a:=Ax;exact af9 Bz BX c n l Bn λs3 Da=>⟨σ,_,Da,BV⟩
def aip {pl:Sem Bool} {m:Str} {apos:Pos} {args:↑Au} {A3:μ} {s:AR} {σ :St} {H:AE} {Q:A8->AR->Prop} {E8:TE} (he:Aj X e E8) (A0:θ)(h:E8 σ H λx H1=>∃a C Bt BA g,x=.ref a/\H1 a=↥(.ins C Bt BA)/\K8 X.K C/\Meth X.K C m g/\BA.lookup m=none/\
    ∀s1,Inv X A3 σ H1 s1->Av ξ X.A (Sm pos (.ref g) [.ref a] (Fh pos (CM args X.env)) (LQ pos (LO [] X.env))) Q X.DA s1)
  (BY:Bd (.Call (.Attribute e m apos) args [] pos) X.env=(do
    let Cq <-Bd e X.env
    OA apos.atName
    let(f,first) <-K5 [Cq] (Ql Cq m pl)
    Sm pos f first (Fh pos (CM args X.env)) (LQ pos (LO [] X.env)))) :
  Av ξ X.A (Bd (.Call (.Attribute e m apos) args [] pos) X.env) Q X.DA s:=by
 refine fi (pl:=pl) (Ba (he A3 s σ H _ A0 h) λu s1⟨x,H1,Ai,Ax,a,C,Bt,BA,g,ex,BX,c,k,l,q⟩=>?_) BY;subst ex;obtain rfl:u=DB a:=Ax;exact cx Ai BX c k l (q s1 Ai)
end
section
variable{X:Aw}{A3:μ}{σ :St}{H:AE}{s:AR}{A:D3}{E:A8->AR->Prop}{Q:A8->AR->Prop}{c:A8}{b:Bool}
inductive Lb(K:Ao)(H:AE):V->A8->Prop where
 |non:Lb K H .non (.type "NoneType")
 |AL (x:Bool):Lb K H (.AL x) (.type "bool")
 |int (i:Int):Lb K H (.int i) (.type "int")
 |str (x:Str):Lb K H (.str x) (.type "str")
 |RJ (x:UInt64):Lb K H (.RJ x) (.type "float")
 |lst {a:A6} {xs:↑V} (e:H a=↥(.lst xs)):Lb K H (.ref a) (.type "list")
 |Dg {a:A6} {o:Obj} {xs:↑V} (e:H a=↥(.Dg o (.lst xs))):Lb K H (.ref a) (.type "list")
 |tup {a:A6} {xs:↑V} (e:H a=↥(.tup xs)):Lb K H (.ref a) (.type "tuple")
 |BM {a:A6} {AD:↑(Key×V)} (e:H a=↥(.BM AD)):Lb K H (.ref a) (.type "dict")
 |ED {a:A6} {AD:↑(Ex×V)} (e:H a=↥(.ED AD)):Lb K H (.ref a) (.type "dict")
 |ins {a C Bt:A6} {BA:↑(Str×V)} (e:H a=↥(.ins C Bt BA)) (cl:K8 K C) (AF:JY K (.ref C) "__class__"=↥↥(.builtin "object.__class__"))
    (Ae:PySem.W.specialIn K (.builtin "object.__class__") "__get__"=↥↥(.builtin "getset_descriptor.__get__")) (Yr:PySem.W.takesIn K (.builtin "object.__class__")=↥true)
    (hm:PySem.W.mroIn K C (.type "object")=↥true):Lb K H (.ref a) (.ref C)
def cW{x:V}{u t:A8}(A0:θ)(Ax:RelV x u)(ty:Lb X.K H x t)(e:XO X.K t c=↥b)(h:∀DJ,Q (.bool b) { s with toks:=DJ }) :
  Av ξ A (call (.builtin "isinstance") [u,c]) Q E s:=by
 cases ty with
 |non=>cases(show u=K2 from Ax);exact JA sI A0.Fc Io e (λz=>nomatch z) h
 |AL y=>cases(show u=Qm y from Ax);exact JA sJ A0.Fc Io e (λz=>nomatch z) h
 |int i=>obtain⟨t,q⟩:=(show ∃t,u=Sk i t from Ax);cases q;exact JA PySem.W.kitx_int A0.Fc Io e (λz=>nomatch z) h
 |str y=>obtain⟨t,q⟩:=(show ∃t,u=Sl y t from Ax);cases q;exact JA PySem.W.kitx_str A0.Fc Io e (λz=>nomatch z) h
 |RJ y=>obtain⟨t,q⟩:=(show ∃t,u=gJ y t from Ax);cases q;exact JA PySem.W.kitx_float A0.Fc Io e (λz=>nomatch z) h
 | @lst a xs BX=>cases(show u=DB a from Ax);obtain⟨_,_,n,_,h1⟩:=(show EJ X.prog X.w H s.heap a (.lst xs)from A0.BB a _ BX);exact JA sK A0.Fc ⟨_,h1,rfl⟩ e (λz=>nomatch z) h
 | @Dg a BQ xs BX=>cases(show u=DB a from Ax);obtain⟨_,_,_,n,_,h1⟩:=(show EJ X.prog X.w H s.heap a (.Dg BQ (.lst xs))from A0.BB a _ BX);exact JA sK A0.Fc ⟨_,h1,rfl⟩ e (λz=>nomatch z) h
 | @tup a xs BX=>cases(show u=DB a from Ax);obtain⟨_,_,_,p⟩:=(show EJ X.prog X.w H s.heap a (.tup xs)from A0.BB a _ BX);obtain⟨o,h1,h2,_⟩:=p;exact JA sE A0.Fc ⟨o,h1,h2⟩ e (λz=>nomatch z) h
 | @BM a AD BX=>cases(show u=DB a from Ax);obtain⟨_,_,vs,_,p⟩:=(show EJ X.prog X.w H s.heap a (.BM AD)from A0.BB a _ BX);obtain⟨o,es,B9,h1,h2,_⟩:=p;exact JA sL A0.Fc ⟨o,h1,h2.1⟩ e (λz=>nomatch z) h
 | @ED a AD BX=>cases(show u=DB a from Ax);obtain⟨_,_,xs,_,o,es,B9,h1,h2,_⟩:=(show EJ X.prog X.w H s.heap a (.ED AD)from A0.BB a _ BX);exact JA sL A0.Fc ⟨o,h1,h2.1⟩ e (λz=>nomatch z) h
 | @ins a C Bt BA BX cl AF Ae Yr hm=>cases(show u=DB a from Ax);obtain⟨ES,O,_⟩:=YU A0.BB BX;obtain⟨EB,Bl,_⟩:=O.look;exact JA (PySem.W.kitx_own (cl.get _) cl.hd AF Ae Yr hm) A0.Fc Bl e (λz=>nomatch z) h
end
structure DE(k:Nat)(A:D3):Prop where
 hd:A.handled=none
 Fa:A.depth+3*k+5<recursionLimit
 un:A.units+16*k+200<Dr
def DE.mono{j k:Nat}{A:D3}(r:DE k A)(h:j<=k):DE j A:=⟨r.hd,by have:=r.Fa;lia,by have:=r.un;lia⟩
theorem DE.deeper{k:Nat}{A:D3}(r:DE (k+1) A)(env:Env):DE k (A.deeper env):=
 ⟨r.hd,by have:=r.Fa;show A.depth+1+3*k+5<_;lia,by have:=r.un;show A.units+3+16*k+200<_;lia⟩
def abD{A:D3}{C:A6}{us:↑A8}{kw:↑(Str×A8)}:(A.under (.builtin "type.__call__" ⟨.ref C::us,kw⟩)).depth=A.depth+1:=by
 first|rfl|simp[gD,Code.weight,Code.isCreation,Code.isGuard,Code.isCaller,Code.frames,gE,guardIds]
def abF{A:D3}{C:A6}{us:↑A8}{kw:↑(Str×A8)}:(A.under (.builtin "type.__call__" ⟨.ref C::us,kw⟩)).units=A.units+1:=by
 first|rfl|simp[gD,Code.cUnits,Code.frames,gE]
def DE.make{k:Nat}{A:D3}(r:DE (k+1) A)(C:A6)(us:↑A8)(kw:↑(Str×A8)):DE k (A.under (.builtin "type.__call__" ⟨.ref C::us,kw⟩)):=
 ⟨r.hd,by have:=r.Fa;rw[abD];lia,by have:=r.un;rw[abF];lia⟩
theorem DE.depth{k:Nat}{A:D3}(r:DE k A):A.depth<recursionLimit:=by have:=r.Fa;lia
theorem DE.units{k:Nat}{A:D3}(r:DE k A):A.units+64<Dr:=by have:=r.un;lia
def aT:FZ:=λ_ H Q=>Q [] H
noncomputable def aQ(C0:TE)(aeQ:FZ):FZ:=λσ H Q=>C0 σ H λx H1=>aeQ σ H1 λxs AH=>Q (x::xs) AH
section
variable{X:Aw}{e:Au}{es:↑Au}{E8:TE}{t:FZ}{pos:Pos}
def Ow:H5 X [] aT:=λ_ _ _ _ H Q A0 h=>Ue ⟨[],H,A0,.nil,h⟩
def MU(AF:Aj X e E8)(BZ:H5 X es t)(AS:CM (e::es) X.env=(false,Bd e X.env)::CM es X.env:=by rfl):H5 X (e::es) (aQ E8 t):=by intro pos A3 s σ H Q A0 h;rw[AS];show Av _ _ (spliced ((false,Bd e X.env)::Fh pos (CM es X.env))) _ _ s;refine U_ (Ba (AF A3 s σ H _ A0 h) λu s1⟨x,H1,Ai,As,Aq⟩=>?_);exact Ba (BZ pos A3 s1 σ H1 _ Ai Aq) λus s2⟨xs,AH,Bz,BK,BV⟩=>⟨x::xs,AH,Bz,.cons As BK,BV⟩
def r5(t:FZ):TE:=λσ H Q=>t σ H λxs H1=>⇑xs<=CU/\∀p,H1 p=none->Q (.ref p) (upd H1 p (.tup xs))
def pK(t:FZ):TE:=λσ H Q=>t σ H λxs H1=>⇑xs<=CU/\∀p,H1 p=none->Q (.ref p) (upd H1 p (.lst xs))
def acf{Cc}(h:H5 X es t):Aj X (.Tuple es Cc pos) (r5 t):=by intro A3 s σ H Q A0 Ac;refine wpAny_Tuple_spliced (Ba (h pos A3 s σ H _ A0 Ac) λus s1⟨xs,H1,Ai,r,z,q⟩=>⟨by rw[<- ⇑r];exact z,?_⟩);have hf:H1 s1.heap.objs.size=none:=Ai.BB.fresh (CB _);refine⟨.ref s1.heap.objs.size,upd H1 s1.heap.objs.size (.tup xs),Ai.laid (t':=s1.toks) (λb u e=>Dm _ e) (CB _) ?_,rfl,q _ hf⟩;exact⟨z,us,r,⟨_,GG _ rfl,rfl,_,rfl⟩⟩
def acW(h:H5 X es t):Aj X (.List es pos) (pK t):=by intro A3 s σ H Q A0 Ac;refine wpAny_List_spliced (Ba (h pos A3 s σ H _ A0 Ac) λus s1⟨xs,H1,Ai,r,z,q⟩=>⟨by rw[<- ⇑r];exact z,?_⟩);have hf:H1 s1.heap.objs.size=none:=Ai.BB.fresh (CB _);refine⟨.ref s1.heap.objs.size,upd H1 s1.heap.objs.size (.lst xs),Ai.laid (t':=s1.toks) (λb u e=>Dm _ e) (CB _) ?_,rfl,q _ hf⟩;exact⟨z,us,0,r,GG _ rfl⟩
end
abbrev Co:=↑V->AE->CV->Fo->Prop
abbrev Kz:=↑Env->AE->AR->Fo->A8->AR->Prop
structure RU(P:CD)(w:Bq)(K:Ao)(mg:Str->Option A8)(base:BG)(A:D3)(outer:↑Env)(s:AR)(H:AE):Prop where
 frames:A.frames=↥outer
 mod:Mod K mg base
 bs:∀b o,base.get? b=↥o->s.heap.get? b=↥o/\H b=none
 Pl:base.objs.size<=s.heap.objs.size
 Kc:s.heap.FunFrames base outer
 RM:∀b∈FC outer,H b=none
 BB:Ew P w H s.heap
 bare:N0 s.gens
def g_(outer:↑Env)(P:CD)(w:Bq)(K:Ao)(H:AE)(s:AR)(Q:CV)(u:A8)(s':AR):Prop:=
 ∃v AC,s'.os=s.os/\N0 s'.gens/\Fs (FC outer) [] H AC s.heap s'.heap/\Ew P w AC s'.heap/\RelV v u/\Q v AC
def t8(CX:Kz)(outer:↑Env)(P:CD)(w:Bq)(K:Ao)(H:AE)(s:AR)(Q:CV)(E:Fo)(r:Result)(s':AR):Prop:=
 match r with
 |.ok (.ret u)=>g_ outer P w K H s Q u s'
 |.ok _=>False
 |.error e=>CX outer H s E e s'
structure Ir(P:CD)(w:Bq)(K:Ao)(mg:Str->Option A8)(base:BG)(CX:Kz)(k:Nat)(f:A6)(fd:Hh)(ps:↑Str)(sp:Co):Prop where
 len:∀vs H Q E,sp vs H Q E->⇑vs=⇑ps
 run:∀(A:D3)(outer:↑Env)(s:AR)(H:AE)(args:Args)(us:↑A8)(vs:↑V)(Q:CV)(E:Fo),DE k A->RU P w K mg base A outer s H->BindsTo s fd args (ps.zip us)->Vals vs us->sp vs H Q E->
  MI (B7 P w) A (.call (.ref f) args) (t8 CX outer P w K H s Q E) s
def Ir.imp{P:CD}{w:Bq}{K:Ao}{mg:Str->Option A8}{base:BG}{CX:Kz}{k:Nat}{f:A6}{fd:Hh}{ps:↑Str}{sp qO:Co}(F:Ir P w K mg base CX k f fd ps sp)(h:∀vs H Q E,qO vs H Q E->sp vs H Q E):Ir P w K mg base CX k f fd ps qO:=
 ⟨λvs H Q E q=>F.len vs H Q E (h _ _ _ _ q),λA outer s H args us vs Q E BZ he A4 CL AS=>F.run A outer s H args us vs Q E BZ he A4 CL (h _ _ _ _ AS)⟩
def RU.make{P:CD}{w:Bq}{K:Ao}{mg:Str->Option A8}{base:BG}{A:D3}{outer:↑Env}{s:AR}{H:AE}(e:RU P w K mg base A outer s H)(C:A6)(us:↑A8)(kw:↑(Str×A8)) :
  RU P w K mg base (A.under (.builtin "type.__call__" ⟨.ref C::us,kw⟩)) outer s H:=⟨by first|exact e.frames|(simpa[gD,Code.envs,gE,pushEnvs]using e.frames),e.mod,e.bs,e.Pl,e.Kc,e.RM,e.BB,e.bare⟩
section
variable{X:Aw}{A3:μ}{σ :St}{H:AE}{s s':AR}
def Inv.iL(A0:θ):RU X.prog X.w X.K X.mg X.base X.A X.stack s H:=
 ⟨A0.ok.frames,A0.ok.mod,A0.bs,Gm A0.ok.Pl A0.QP,A0.stack,A0.eO,A0.BB,A0.bare⟩
def Inv.after{Q:CV}{u:A8}(A0:θ)(h:g_ X.stack X.prog X.w X.K H s Q u s'):H3 X A3 σ Q u s':=by obtain⟨v,AC,os,bare,un,BB,r,q⟩:=h;obtain⟨hh,g,d,t,d7⟩:=s';obtain rfl:d7=s.os:=os;exact⟨v,AC,A0.call (h':=hh) (g':=g) (d':=d) (t':=t) (ch:=[]) un BB bare (λb z=>absurd z γ),r,q⟩
end
noncomputable def pi(sp:Co)(HQ:↑V)(E:Fo)(t:FZ):TE:=λσ H Q=>t σ H λvs H1=>sp (vs++HQ) H1 Q E
noncomputable def eW(C:A6)(m:Str)(sp:Co)(HQ:↑V)(E:Fo)(C0:TE)(t:FZ):TE:=λσ H Q=>C0 σ H λx H1=>∃a Bt BA,x=.ref a/\H1 a=↥(.ins C Bt BA)/\BA.lookup m=none/\
 t σ H1 λvs AH=>sp (x::(vs++HQ)) AH Q E
def pL(C:A6)(sp:Co)(HQ:↑V)(E:Fo)(t:FZ):TE:=λσ H Q=>t σ H λvs H1=>∀x Bt,H1 x=none->H1 Bt=none->Bt≠x->
 sp (.ref x::(vs++HQ)) (upd (upd H1 Bt (.own x)) x (.ins C Bt [])) (λv AH=>v=.non/\Q (.ref x) AH) E
def Binds(K:Ao)(fd:Hh)(ps:↑Str)(ds:↑A8):Prop:=
 ∀(s:AR)(us:↑A8),K.In s.heap->⇑(us++ds)=⇑ps->BindsTo s fd ⟨us,[]⟩ (ps.zip (us++ds))
def Binds.all{K:Ao}{fd:Hh}{ps:↑Str}(h:∀us:↑A8,⇑us=⇑ps->bindArgs fd ⟨us,[]⟩=pure (ps.zip us)):Binds K fd ps []:=λs us _ AI=>by rw[O4]at AI |-;exact .of_eq (h us AI)
def Passes(CX:Kz)(X:Aw)(E:Fo):Prop:=∀(A3:μ)(σ :St)(H:AE)(s:AR)(e:A8)(s':AR),θ->CX X.stack H s E e s'->X.DA e s'
section
variable{X:Aw}{CX:Kz}{k:Nat}{f C:A6}{fd:Hh}{ps:↑Str}{sp:Co}{HQ:↑V}{ds:↑A8}{E:Fo}{x m:Str}{p pos apos:Pos}{e o:Au}{es:↑Au}{C0:TE}{t:FZ}
def f9{A3:μ}{σ :St}{H:AE}{s:AR}{Q:CV}{us:↑A8}{vs:↑V}(F:Ir X.prog X.w X.K X.mg X.base CX k f fd ps sp)(BZ:DE k X.A)(A4:Binds X.K fd ps ds)(hd:Vals HQ ds)(AM:Passes CX X E)(A0:θ)(r:Vals vs us)(h:sp (vs++HQ) H Q E):Av ξ X.A (call (.ref f) us) (H3 X A3 σ Q) X.DA s:=by
 have BK:Vals (vs++HQ) (us++ds):=r.append hd;have AI:⇑(us++ds)=⇑ps:=by rw[<- ⇑BK];exact F.len _ _ _ _ h
 refine wpAny_call (Sg (F.run X.A X.stack s H ⟨us,[]⟩ (us++ds) (vs++HQ) Q E BZ A0.iL (A4 s us A0.Fc AI) BK h) λr s' Ac=>?_);cases r with
 |error e=>exact AM A3 σ H s e s' A0 Ac
 |ok CH=>
  cases CH with
  |ret u=>exact A0.after Ac
  |next=>exact IQ Ac
  |brk=>exact IQ Ac
  |cont=>exact IQ Ac
def adD(F:Ir X.prog X.w X.K X.mg X.base CX k f fd ps sp)(BZ:DE k X.A)(Ar:En X x)(hm:X.mg x=↥(.ref f))(AQ:K1 X.K (.ref f)=true)(A4:Binds X.K fd ps ds)(hd:Vals HQ ds)(AM:Passes CX X E)(AF:H5 X (e::es) t)(Mr:(x==("__debug__" :Str))=false:=by decide)(he:CM (e::es) X.env=(false,Bd e X.env)::CM es X.env:=by rfl)(Gp:(Fh pos (CM es X.env)).any (·.1)=false:=by rfl) :
  Aj X (.Call (.Name x p) (e::es) [] pos) (pi sp HQ E t):=by
 intro A3 s σ H Q A0 h;refine Ua (a4 A0 Ar hm ?_ Mr);refine fc (h₀:=X.base) A0.ok.mod.TM AQ (Ba (AF pos A3 s σ H _ A0 h) λus s1⟨vs,H1,Ai,r,q⟩=>⟨Ai.Fc,?_⟩) he Gp;exact f9 F BZ A4 hd AM Ai r q
def acY {pl:Sem Bool} (he:Aj X o C0) (c:K8 X.K C) (hm:Meth X.K C m f) (F:Ir X.prog X.w X.K X.mg X.base CX k f fd ps sp) (BZ:DE k X.A) (A4:Binds X.K fd ps ds) (hd:Vals HQ ds) (AM:Passes CX X E) (AF:H5 X (e::es) t)(Hn:CM (e::es) X.env=(false,Bd e X.env)::CM es X.env:=by rfl) (Gp:(Fh pos (CM es X.env)).any (·.1)=false:=by rfl)(BY:Bd (.Call (.Attribute o m apos) (e::es) [] pos) X.env=(do
    let Cq <-Bd o X.env
    OA apos.atName
    let(f,first) <-K5 [Cq] (Ql Cq m pl)
    Sm pos f first (Fh pos (CM (e::es) X.env)) (LQ pos (LO [] X.env))):=by rfl) :
  Aj X (.Call (.Attribute o m apos) (e::es) [] pos) (eW C m sp HQ E C0 t):=by
 intro A3 s σ H Q A0 h;refine fi (pl:=pl) (Ba (he A3 s σ H _ A0 h) λu s1⟨x,H1,Ai,Ax,a,Bt,BA,ex,BX,l,q⟩=>?_) BY;subst ex;obtain rfl:u=DB a:=Ax;refine cx Ai BX c hm l ?_;refine fc (first:=[.ref a]) (h₀:=X.base) A0.ok.mod.TM hm.DH (Ba (AF pos A3 s1 σ H1 _ Ai q) λus s2⟨vs,AH,Bz,r,BV⟩=>⟨Bz.Fc,?_⟩) Hn Gp;exact f9 (us:=.ref a::us) (vs:=.ref a::vs) F BZ A4 hd AM Bz (.cons rfl r) BV
def acZ {pl:Sem Bool} (he:Aj X o C0) (c:K8 X.K C) (hm:Meth X.K C m f) (F:Ir X.prog X.w X.K X.mg X.base CX k f fd ps sp) (BZ:DE k X.A) (A4:Binds X.K fd ps ds) (hd:Vals HQ ds) (AM:Passes CX X E)(BY:Bd (.Call (.Attribute o m apos) [] [] pos) X.env=(do
    let Cq <-Bd o X.env
    OA apos.atName
    let(f,first) <-K5 [Cq] (Ql Cq m pl)
    Sm pos f first (Fh pos (CM [] X.env)) (LQ pos (LO [] X.env))):=by rfl) :
  Aj X (.Call (.Attribute o m apos) [] [] pos) (eW C m sp HQ E C0 aT):=by
 intro A3 s σ H Q A0 h;refine fi (pl:=pl) (Ba (he A3 s σ H _ A0 h) λu s1⟨x,H1,Ai,Ax,a,Bt,BA,ex,BX,l,q⟩=>?_) BY;subst ex;obtain rfl:u=DB a:=Ax;refine cx Ai BX c hm l ?_;exact PySem.W.callWith_K0 (first:=[.ref a]) Ai.Fc hm.DH (f9 (us:=[.ref a]) (vs:=[.ref a]) F BZ A4 hd AM Ai (.cons rfl .nil) q)
structure YI(K:Ao)(C f:A6):Prop where
 makes:fu K C=true
 init:JY K (.ref C) "__init__"=↥↥(.ref f)
 fn:Ug K (.ref f)=true
 DH:K1 K (.ref C)=true
def ady{A3:μ}{σ :St}{H:AE}{s:AR}{Q:CV}{us:↑A8}{vs:↑V}(M:YI X.K C f)(F:Ir X.prog X.w X.K X.mg X.base CX k f fd ps sp)(BZ:DE (k+1) X.A)(A4:Binds X.K fd ps ds)(hd:Vals HQ ds)(AM:Passes CX X E)(A0:θ)(r:Vals vs us)(h:∀x Bt,H x=none->H Bt=none->Bt≠x->sp (.ref x::(vs++HQ)) (upd (upd H Bt (.own x)) x (.ins C Bt [])) (λv AH=>v=.non/\Q (.ref x) AH) E) :
  Av ξ X.A (call (.ref C) us) (H3 X A3 σ Q) X.DA s:=by
 have Ac:=h (s.heap.objs.size+1) s.heap.objs.size (A0.BB.fresh (Uo _)) (A0.BB.fresh (CB _)) (FG (PQ _));have Bz:=Inv.made (C:=C) A0;have BK:Vals (V.ref (s.heap.objs.size+1)::(vs++HQ)) (DB (s.heap.objs.size+1)::(us++ds)):=.cons rfl (r.append hd);have AI:⇑(DB (s.heap.objs.size+1)::us++ds)=⇑ps:=by have e:=⇑BK;rw[F.len _ _ _ _ Ac]at e;exact e.symm
 refine wpAny_call (abE (f:=f) A0.Fc M.makes M.init (beq_iff_eq.mp M.fn) (Sg (F.run _ X.stack _ _ ⟨DB (s.heap.objs.size+1)::us,[]⟩ (DB (s.heap.objs.size+1)::(us++ds)) _ _ E (BZ.make C us [])
  (Bz.iL.make C us []) (A4 _ (DB (s.heap.objs.size+1)::us) Bz.Fc AI) BK Ac) λr s' VT=>?_))
 cases r with
 |error e=>exact AM A3 σ _ _ e s' Bz VT
 |ok CH=>
  cases CH with
  |ret u=>obtain⟨v,AC,Da,C1,ev,Do⟩:=Bz.after VT;subst ev;exact⟨C1,⟨V.ref (s.heap.objs.size+1),AC,Da,rfl,Do⟩⟩
  |next=>exact IQ VT
  |brk=>exact IQ VT
  |cont=>exact IQ VT
def acX(M:YI X.K C f)(F:Ir X.prog X.w X.K X.mg X.base CX k f fd ps sp)(BZ:DE (k+1) X.A)(Ar:En X x)(hm:X.mg x=↥(.ref C))(A4:Binds X.K fd ps ds)(hd:Vals HQ ds)(AM:Passes CX X E)(AF:H5 X (e::es) t)(Mr:(x==("__debug__" :Str))=false:=by decide)(he:CM (e::es) X.env=(false,Bd e X.env)::CM es X.env:=by rfl)(Gp:(Fh pos (CM es X.env)).any (·.1)=false:=by rfl) :
  Aj X (.Call (.Name x p) (e::es) [] pos) (pL C sp HQ E t):=by
 intro A3 s σ H Q A0 h;refine Ua (a4 A0 Ar hm ?_ Mr);refine fc (h₀:=X.base) A0.ok.mod.TM M.DH (Ba (AF pos A3 s σ H _ A0 h) λus s1⟨vs,H1,Ai,r,q⟩=>⟨Ai.Fc,?_⟩) he Gp;exact ady M F BZ A4 hd AM Ai r q
end
section
variable{X:Aw}{CX:Kz}{k:Nat}{f C:A6}{fd:Hh}{ps AZ:↑Str}{sp:Co}{E:Fo}{x m:Str}{p pos apos aic:Pos}{e o:Au}{es:↑Au}{aie:↑Kr}{E8 C0:TE}{t DJ:FZ}{nm:Option Str}
variable{g:↑A8->↑A8->↑A8}{ajA:↑V->↑V->↑V}
end
structure C6(N P:↑Str)(sc:FH):Prop where
 kind:sc.kind=.function
 co:sc.isCoroutine=false
 gen:sc.isGenerator=false
 Bj:N.Nodup
 pre:N.take ⇑P=P
 par:∀x∈P,sc.names.lookup x=↥.local\/sc.names.lookup x=↥.cell
 ac0:∀y∈sc.names,y.2≠.free
theorem h_{K7:Str->Option Kq}{x:Str}:∀{binds:↑(Str×A8)}{m:Str->Option A8},(∀v,(x,v)∉binds)->bindL K7 binds m x=m x
 |[],_,_=>rfl
 |(n,v)::r,m,h=>by
  unfold bindL;rw[h_ λw hw=>h w (Gw _ hw)]
  split
  .have:x≠n:=by rintro rfl;exact h v I0
   simp[this]
  .rfl
theorem h8{K7:Str->Option Kq}{x:Str}:∀{binds:↑(Str×A8)}{m:Str->Option A8},(∀v,(x,v)∉binds)->bindC K7 binds m x=m x
 |[],_,_=>rfl
 |(n,v)::r,m,h=>by
  unfold bindC;rw[h8 λw hw=>h w (Gw _ hw)]
  split
  .rfl
  .have:x≠n:=by rintro rfl;exact h v I0
   simp[this]
theorem h9{K7:Str->Option Kq}{x:Str}{v:A8}:∀{P:↑Str}{vs:↑A8}{i:Nat}{m:Str->Option A8},P.Nodup->P[i]?=↥x->vs[i]?=↥v->K7 x=↥.local->
  bindL K7 (P.zip vs) m x=↥v
 |[],_,_,_,_,h,_,_=>by simp at h
 |_::_,[],_,_,_,_,h,_=>by simp at h
 |p::P,w::vs,0,m,Bj,h1,h2,AQ=>by simp at h1 h2;subst h1;subst h2;show bindL K7 ((p,w)::P.zip vs) m p=_;unfold bindL;rw[h_ λv CL=>(List.nodup_cons.mp Bj).1 (fv CL).1,if_pos AQ];simp
 |p::P,w::vs,i+1,m,Bj,h1,h2,AQ=>by show bindL K7 ((p,w)::P.zip vs) m x=_;unfold bindL;exact h9 (i:=i) (List.nodup_cons.mp Bj).2 (h1:) (h2:) AQ
theorem h7{K7:Str->Option Kq}{x:Str}{v:A8}:∀{P:↑Str}{vs:↑A8}{i:Nat}{m:Str->Option A8},P.Nodup->P[i]?=↥x->vs[i]?=↥v->K7 x≠↥.local->
  bindC K7 (P.zip vs) m x=↥v
 |[],_,_,_,_,h,_,_=>by simp at h
 |_::_,[],_,_,_,_,h,_=>by simp at h
 |p::P,w::vs,0,m,Bj,h1,h2,AQ=>by simp at h1 h2;subst h1;subst h2;show bindC K7 ((p,w)::P.zip vs) m p=_;unfold bindC;rw[h8 λv CL=>(List.nodup_cons.mp Bj).1 (fv CL).1,if_neg AQ];simp
 |p::P,w::vs,i+1,m,Bj,h1,h2,AQ=>by show bindC K7 ((p,w)::P.zip vs) m x=_;unfold bindC;exact h7 (i:=i) (List.nodup_cons.mp Bj).2 (h1:) (h2:) AQ
noncomputable def start(N:↑Str)(vs:↑V):St:=vs.map some++Gy (⇑N- ⇑vs) none
noncomputable def KZ(CX:Kz)(P:CD)(w:Bq)(K:Ao)(mg:Str->Option A8)(base:BG)(N:↑Str)(qual:Str)(scope:FH)(f:A6)(cd:A8)(A:D3)(outer:↑Env)(s:AR)(H:AE)(E:Fo):Aw where
 prog:=P
 w:=w
 K:=K
 mg:=mg
 base:=base
 A:=A.deeper (OC qual scope s.heap.objs.size f cd)
 N:=N
 G1:=s
 M8:=H
 env:=OC qual scope s.heap.objs.size f cd
 outer:=outer
 stack:=OC qual scope s.heap.objs.size f cd::outer
 ex:=[]
 calm:=true
 fn:=λ_=>true
 pn:=[]
 DA:=λe s'=>Av (B7 P w) (A.deeper (OC qual scope s.heap.objs.size f cd)) (leaving (OC qual scope s.heap.objs.size f cd) e) (λ_ Jc=>CX outer H s E e Jc) (λBg Jc=>CX outer H s E Bg Jc) s'
def bu{sc:FH}{n:Nat}{x:Str}(h:sc.names.lookup x=↥.cell):∃c,(I2 n sc.names []).lookup x=↥c:=by have q:=s7 sc.names n [] (.inl h);exact Option.isSome_iff_exists.mp q
def y_{CX:Kz}{P:CD}{w:Bq}{K:Ao}{mg:Str->Option A8}{base:BG}{N ps:↑Str}{qual:Str}{scope:FH}{f:A6}{cd:A8}{A:D3}{outer:↑Env}{s s1:AR}{H:AE}{E:Fo}{us:↑A8}{vs:↑V}(S:C6 N ps scope)(hd:A.handled=none)(DF:RU P w K mg base A outer s H)(AI:⇑vs=⇑ps)(r:Vals vs us)(x:InCallC s s.heap.objs.size (bindL (OC qual scope s.heap.objs.size f cd).kindOf (ps.zip us) λ_=>none) (I2 (s.heap.objs.size+1) scope.names []) (bindC (OC qual scope s.heap.objs.size f cd).kindOf (ps.zip us) λ_=>none) s1) :
  Inv (KZ CX P w K mg base N qual scope f cd A outer s H E) [] (start N vs) H s1:=by
 have Gp:⇑ps<=⇑N:=by have:=congrArg List.length S.pre;rw[LK]at this;lia
 obtain⟨h1,DJ,rfl,AQ⟩:=x.done;have Wo:∀b:A6,b∉(KZ CX P w K mg base N qual scope f cd A outer s H E).ex:=λb z=>absurd (show b∈([]:↑A6)from z) γ
 refine⟨⟨DF.mod,S.kind,rfl,rfl,CB _,λy z c h1 h2=>?_,λy Af=>?_,λy c _ h=>?_,λ_=>hd,Around.frames_deeper DF.frames,.inr ⟨rfl,rfl⟩,λb z=>absurd z (Wo b),DF.bs,DF.Pl,λb _ _=>Wo b,λb z=>absurd z (Wo b),DF.Kc,DF.RM⟩,
  rfl,DF.bare,Fs.kept AQ,⟨_,x.toInCall.ns,λi y v h1 h2 BF=>?_⟩,λy c h=>⟨_,x.cell y c h⟩,DF.BB.fresh (CB _),λy c h=>?_,λp AX=>absurd (show p∈([]:μ)from AX) γ,DF.BB.kept AQ,?_⟩
 .exact name_of_addr x.apart (Mw h1) (Mw h2)
 .have Af:scope.names.lookup y=↥.cell\/scope.names.lookup y=↥.free:=Af;rcases Af with Af|Af
  .exact bu Af
  .exact absurd rfl (S.ac0 _ (Mw Af))
 .exact Qh (x.above y c (Mw h))
 .have AA:i< ⇑vs:=by
    unfold start at h2;by_cases AA:i< ⇑vs
    .exact AA
    .rw[IN (AA:)]at h2;rw[XB]at h2
     split at h2<;>cases h2
  have AF:vs[i]?=↥v:=by
   unfold start at h2;rw[Fz (AA:),Dl]at h2;cases e:vs[i]? with
   |none=>rw[e]at h2;cases h2
   |some a=>rw[e]at h2;cases h2;rfl
  obtain⟨u,BS,C1⟩:=r.get AF;have AX:ps[i]?=↥y:=by rw[<-S.pre,List.getElem?_take_of_lt δ];exact h1
  have lu:ps.Nodup:=by rw[<-S.pre];exact S.Bj.sublist (List.take_sublist _ _)
  refine⟨u,C1,?_⟩;rcases S.par y (Ik AX)with k|k
  .exact .inl ⟨k,h9 lu AX BS k⟩
  .obtain⟨c,e⟩:=bu (n:=s.heap.objs.size+1) k;refine .inr ⟨.inl k,c,e,?_⟩;have q:=x.cell y c e;rw[h7 lu AX BS (by show scope.names.lookup y≠_;rw[k];decide)]at q;exact q
 .exact DF.BB.fresh (Qh (x.above y c (Mw h)))
 .unfold start;show _=⇑N;rw[EL,Cd,US];lia
def jX {CX:Kz} {P:CD} {w:Bq} {K:Ao} {mg:Str->Option A8} {base:BG} {k:Nat} {f:A6} {name qual:Str} {params:Arguments} {body:↑BO} {scope:FH} {ZB D0 doc pm FT D7 GN:A8} {an EB:Option A6}{Ou:Array (Option A8)} {N ps:↑Str} {sp:Co} (lk:K.lookup f=↥⟨GN,EB,.func (K3 name qual params body scope ZB D0 doc pm an FT D7),Ou⟩) (L7:Mz K FT qual=true) (S:C6 N ps scope)(len:∀vs H Q E,sp vs H Q E->⇑vs=⇑ps)(c7:∀(A:D3)(outer:↑Env)(s:AR)(H:AE)(vs:↑V)(Q:CV)(E:Fo),DE k (A.deeper (OC qual scope s.heap.objs.size f FT))->sp vs H Q E->
    ∃t,HK (KZ CX P w K mg base N qual scope f FT A outer s H E) body t/\t { AP:=λ_ AC=>Q .non AC,Dp:=Q } (start N vs) H) :
  Ir P w K mg base CX (k+1) f (K3 name qual params body scope ZB D0 doc pm an FT D7) ps sp:=by
 refine⟨len,λA outer s H args us vs Q E BZ DF A4 r Lq=>?_⟩;have AI:=len _ _ _ _ Lq;have IY:K.In s.heap:=DF.mod.TM.keeps λb o e=>(DF.bs b o e).1;have lim:s.heap.NoLimit:=DF.mod.nolimit.keeps λb o e=>(DF.bs b o e).1;have x3:∀y∈ps.zip us,scope.names.lookup y.1=↥.local\/(scope.names.lookup y.1=↥.cell/\((I2 (s.heap.objs.size+1) scope.names []).lookup y.1).isSome=true):=λ⟨n,v⟩ Af=>by
  rcases S.par n (fv Af).1 with q|q
  .exact .inl q
  .exact .inr ⟨q,s7 _ _ _ (.inl q)⟩
 refine codeAny_call_function BZ.depth (IY _ _ lk) rfl S.co S.gen rfl (PySem.W.codeRec_of IY L7) (A4 _ _ _ _ ?_);refine wpAny_newFunctionEnv_cells S.kind x3 λenv he s1 x=>?_;subst he;refine⟨lim.keeps x.toInCall.keep,codeAny_func ?_⟩;obtain⟨t,BY,Ac⟩:=c7 A outer s H vs Q E (BZ.deeper _) Lq;have A0:Inv (KZ CX P w K mg base N qual scope f FT A outer s H E) [] (start N vs) H s1:=y_ S BZ.hd DF AI r x;refine Im (BY [] s1 (start N vs) H _ A0 Ac) (λCH s' AS=>?_) λe s' AS=>AS;have fin:∀{σ' :St}{AC:AE}{v:V}{u:A8},Inv (KZ CX P w K mg base N qual scope f FT A outer s H E) [] σ' AC s'->RelV v u->Q v AC->g_ outer P w K H s Q u s':=
  λ{σ' AC v u} Bl C1 q=>⟨v,AC,Bl.os,Bl.bare,Bl.base,Bl.BB,C1,q⟩
 cases CH with
 |ret u=>obtain⟨v,σ',AC,Bl,C1,q⟩:=AS;exact fin Bl C1 q
 |next=>obtain⟨σ',AC,Bl,q⟩:=AS;exact fin (v:=V.non) (u:=K2) Bl rfl q
 |brk=>obtain⟨_,_,_,q⟩:=AS;exact IQ q
 |cont=>obtain⟨_,_,_,q⟩:=AS;exact IQ q
section
variable{X:Aw}{x:Str}{p pos:Pos}{e:Au}{es:↑Au}{t:FZ}{id T:String}{r:↑V->AE->CV->Prop}
noncomputable def WK(r:↑V->AE->CV->Prop)(t:FZ):TE:=λσ H Q=>t σ H λvs H1=>r vs H1 Q
def Zm(AK:Jj X (.builtin id) r)(Ar:En X x)(hm:X.mg x=none)(CL:O8 x=↥(.builtin id))(AF:H5 X (e::es) t)(Ae:x≠"__name__":=by decide)(Mr:(x==("__debug__" :Str))=false:=by decide)(he:CM (e::es) X.env=(false,Bd e X.env)::CM es X.env:=by rfl)(Gp:(Fh pos (CM es X.env)).any (·.1)=false:=by rfl):Aj X (.Call (.Name x p) (e::es) [] pos) (WK r t):=by intro A3 s σ H Q A0 h;refine Ua (Oe A0 Ar hm CL ?_ Ae Mr);exact PyProof.Rows.callWith_builtin1 (Ba (AF pos A3 s σ H _ A0 h) λus s1⟨vs,H1,Ai,As,Aq⟩=>AK A3 s1 σ H1 vs us Q Ai As Aq) he Gp
def W8(AK:Jj X (.type T) r)(Ar:En X x)(hm:X.mg x=none)(CL:O8 x=↥(.type T))(AF:H5 X (e::es) t)(Ae:x≠"__name__":=by decide)(Mr:(x==("__debug__" :Str))=false:=by decide)(he:CM (e::es) X.env=(false,Bd e X.env)::CM es X.env:=by rfl)(Gp:(Fh pos (CM es X.env)).any (·.1)=false:=by rfl):Aj X (.Call (.Name x p) (e::es) [] pos) (WK r t):=by intro A3 s σ H Q A0 h;refine Ua (Oe A0 Ar hm CL ?_ Ae Mr);exact QW (Ba (AF pos A3 s σ H _ A0 h) λus s1⟨vs,H1,Ai,As,Aq⟩=>AK A3 s1 σ H1 vs us Q Ai As Aq) he Gp
end
end BN
namespace Ei
open PyProof.Rows
section
open PySem.SeqAt
open PySem.AutoSeq1 (wpAny_loadPart')
open PySem.MeetsSeq PySem.MeetsSeq2 PySem.MeetsSeq3
end
section
variable{prog:CD}{w:Bq}{A:D3}{E:A8->AR->Prop}{s:AR}
def tn{t b:A6}{vs ws:↑A8}{Q:A8->AR->Prop}(BY:IsTup s.heap t vs.toArray)(A4:IsTup s.heap b ws.toArray)(CL:vs≠[])(h1:ws=[]->Q (.ref t) s)(h2:ws≠[]->Q (.ref s.heap.objs.size) { s with heap:=s.heap.push { cls:=.type "tuple",data:=.seq (vs++ws).toArray } })(hsz:⇑vs+⇑ws<=CU):Av Θ A (Ja .Add (.ref t) (.ref b)) Q E s:=by
 obtain⟨⟨cls,dd,data,CP⟩,ho,AK,n,hd⟩:=id BY;obtain⟨⟨aiy,ZD,data2,To⟩,Ym,Yg,FN,hd2⟩:=id A4;simp only at AK hd Yg hd2;subst AK hd Yg hd2;have e:vs.toArray++ws.toArray=(vs++ws).toArray:=γ
 by_cases hw:ws=[]
 .exact concat_meets ⟨_,ho,rfl⟩ ⟨_,Ym,rfl⟩ noFill_tuple_add seq_tuple_add s8 rv (rR _ _)
    (tuple_addW1 t b vs.toArray ws.toArray n FN dd ZD CP To (CL:) (by simp[hw])) ⟨ho,Ym,h1 hw⟩
 .refine concat_meets ⟨_,ho,rfl⟩ ⟨_,Ym,rfl⟩ noFill_tuple_add seq_tuple_add s8 rv (rR _ _)
    (tuple_addW2 t b vs.toArray ws.toArray n FN dd ZD CP To (CL:) (hw:) (by rw[Df,Df];exact hsz)) ⟨ho,Ym,?_⟩
  rw[e];exact h2 hw
noncomputable def Cu(n d:Nat):Option Int->Nat
 |none=>d
 |some v=>if v<0 then(v+(n:Int)).toNat else min v.toNat n
def fB(n d:Nat):Cu n d none=d:=rfl
def WG(n d k:Nat):Cu n d ↥(k:Int)=min k n:=by show(if(k:Int)<0 then((k:Int)+(n:Int)).toNat else min (k:Int).toNat n)=min k n;rw[if_neg δ,SR]
def af3(n d:Nat)(hd:d<=n)(o:Option Int):Cu n d o<=n:=by
 cases o with
 |none=>exact hd
 |some v=>
  show(if v<0 then(v+(n:Int)).toNat else min v.toNat n)<=n;by_cases CL:v<0
  .rw[if_pos CL];lia
  .rw[if_neg CL];exact Nat.min_le_right _ _
def iZ(v:Int)(n d:Nat):(if v<0 then max (v+(n:Int)) 0 else min v (n:Int))=((Cu n d ↥v:Nat):Int):=by
 show(if v<0 then max (v+(n:Int)) 0 else min v (n:Int))=(((if v<0 then(v+(n:Int)).toNat else min v.toNat n):Nat):Int);by_cases CL:v<0
 .erw[if_pos CL];lia
 .erw[if_neg CL];lia
def si(lo AA:Option Int)(n:Nat):fR lo AA 1 (n:Int)=(((Cu n 0 lo:Nat):Int),((Cu n n AA:Nat):Int)):=by
 have h1:¬((1:Int)<0):=δ
 unfold fR;erw[h1,if_false];refine Prod.ext ?_ ?_
 .cases lo with
  |none=>rfl
  |some v=>exact iZ v n 0
 .cases AA with
  |none=>rfl
  |some v=>exact iZ v n n
def acs(i j:Nat):X2 (i:Int) (j:Int) 1=j-i:=by
 unfold X2;have h1:(1:Int)>0:=δ
 erw[h1,if_true,Int.ediv_one]
 split<;>lia
def qN{v:A8}{o:Option Int}{Q:Option Int->AR->Prop}(p:IsPart v o)(h:Q o s):Av Θ A (Builtin.Slice.slicePartIndex v) Q E s:=by
 cases p with
 |none=>exact slicePart_none h
 |int i t=>exact slicePart_int h
def afI{CP:A6}{E3 IH:A8}{lo AA:Option Int}{n:Nat}{Q:Int×Int×Nat->AR->Prop}(AS:s.heap.IsSliceOf CP E3 IH .none)(pl:IsPart E3 lo)(pu:IsPart IH AA)(h:Q (((Cu n 0 lo:Nat):Int),1,Cu n n AA-Cu n 0 lo) s):Av Θ A (rV (.ref CP) (pure (n:Int))) Q E s:=by obtain⟨os,Qy,j9,Yh⟩:=id AS;unfold rV Builtin.Slice.sliceFields;refine Ah (Ah (MF Qy Yh (x:=E3) rfl (Ah (MF Qy Yh (x:=IH) rfl (Ah (MF Qy Yh (x:=.none) rfl (Bk ?_)))))));refine Ah (slicePart_none ?_);show Av _ _ (if((1:Int)==0)=true then _ else _) _ _ s;rw[if_neg ε];refine Ah (qN pl (Ah (qN pu (Ah (Bk ?_)))));show Av _ _ (match fR lo AA 1 (n:Int)with|(lo,AA)=>pure (lo,(1:Int),X2 lo AA 1)) _ _ s;rw[si lo AA n];show Av _ _ (pure (((Cu n 0 lo:Nat):Int),(1:Int),X2 ((Cu n 0 lo:Nat):Int) ((Cu n n AA:Nat):Int) 1)) _ _ s;rw[acs];exact Bk h
def acr(xs:Array A8)(i k:Nat):((Cg k).filterMap λ(m:Nat)=>xs[((i:Int)+(m:Int)*1).toNat]?).toArray=((xs.toList.drop i).take k).toArray:=by
 have e:(λ(m:Nat)=>xs[((i:Int)+(m:Int)*1).toNat]?)=λm=>xs[i+m]?:=by
  funext m
  have:((i:Int)+(m:Int)*1).toNat=i+m:=δ
  rw[this]
 rw[e];have:=pick_run xs i k;rw[List.filterMap_map]at this;have AG:((λx=>xs[x]?)∘λx=>i+x)=λm=>xs[i+m]?:=rfl;rw[AG]at this;rw[this]
def xA{t CP:A6}{items:Array A8}{E3 IH:A8}{lo AA:Option Int}{Q:A8->AR->Prop}(BY:IsTup s.heap t items)(AS:s.heap.IsSliceOf CP E3 IH .none)(pl:IsPart E3 lo)(pu:IsPart IH AA)(hw:¬(Cu items.size 0 lo=0/\Cu items.size items.size AA=items.size))(h:Q (.ref s.heap.objs.size) { s with heap:=s.heap.push { cls:=.type "tuple",data:=.seq ((items.toList.drop (Cu items.size 0 lo)).take (Cu items.size items.size AA-Cu items.size 0 lo)).toArray } })(hsz:items.size<=CU):Av Θ A (PT (.ref t) (.ref CP)) Q E s:=by
 have Yq:sizeOk (.seq ((items.toList.drop (Cu items.size 0 lo)).take (Cu items.size items.size AA-Cu items.size 0 lo)).toArray):=by show((items.toList.drop (Cu items.size 0 lo)).take (Cu items.size items.size AA-Cu items.size 0 lo)).toArray.size<=CU;rw[Df,LK,QY,SU];lia
 have An:Cu items.size items.size AA<=items.size:=af3 _ _ (CB _) AA;obtain⟨os,Qy,j9,Yh⟩:=id AS;have xN:s.TypeIs (.ref CP) "slice":=⟨os,Qy,j9⟩;unfold PT
 try with_reducible refine O1 ?_
 first|refine Ah (Bk ?_)|skip
 refine Ah (wpAny_sequenceKey BY.typeIs ε ?_)
 refine Ah (SX (name:=Sh "__getitem__") BY.typeIs rL
  (QZ rL BY.typeIs entry_tuple_getitem ?_ (args_tuple_getitem _ _)))
 show Av _ _ (Builtin.Tuple.tupleItemsOf (.ref t)>>=_) _ _ s;refine Ah (tupleItemsOf_ BY ?_);refine Ah (wpAny_typeOf xN ?_);rw[if_pos ε];refine Ah (afI AS pl pu ?_);have wh:¬((((Cu items.size 0 lo:Nat):Int)==0&&(1:Int)==1&&(Cu items.size items.size AA-Cu items.size 0 lo)==items.size)=true):=by intro q;rw[I1,I1]at q;have Aq:((Cu items.size 0 lo:Nat):Int)=0:=eq_of_beq q.1.1;have BV:Cu items.size items.size AA-Cu items.size 0 lo=items.size:=eq_of_beq q.2;exact hw ⟨δ,δ⟩
 show Av _ _ (if(((Cu items.size 0 lo:Nat):Int)==0&&(1:Int)==1&&(Cu items.size items.size AA-Cu items.size 0 lo)==items.size)=true then _ else _) _ _ s;rw[if_neg wh,acr]
 first
  |exact Ah (m:=Wx _) (ME (Bk ⟨_,rfl,Bk h⟩) Yq)
  |exact Ah (m:=Wx _) (ME (Ah (Bk (Bk ⟨_,rfl,Bk h⟩))) Yq)
  |exact Ah (Ah (m:=Wx _) (ME (Bk (Bk ⟨_,rfl,Bk h⟩)) Yq))
  |exact Ah (Ah (m:=Wx _) (ME (Bk ⟨_,rfl,Bk h⟩) Yq))
end
end Ei
namespace BN
open PyProof.Rows
abbrev TW:=St->AE->(Option Int->AE->Prop)->Prop
def Ur(X:Aw)(e:Option Au)(t:TW):Prop:=
 ∀(A3:μ)(s:AR)(σ :St)(H:AE)(Q:Option Int->AE->Prop),θ->t σ H Q->
  Av ξ X.A (evalPart e X.env) (λu s'=>∃o AC,Inv X A3 σ AC s'/\IsPart u o/\Q o AC) X.DA s
def pN:TW:=λ_ H Q=>Q none H
noncomputable def qy(t:TE):TW:=λσ H Q=>t σ H λx H1=>∃i,x=.int i/\Q ↥i H1
section
variable{X:Aw}{e:Au}{E8:TE}{lo AA:Option Au}{Hw aU:TW}{pos Cm:Pos}
def acO:Ur X none pN:=by intro A3 s σ H Q A0 h;rw[evalPart_none];exact Bk ⟨none,H,A0,.none,h⟩
def acP(h:Aj X e E8):Ur X ↥e (qy E8):=by intro A3 s σ H Q A0 hw;rw[evalPart_some];refine Ba (h A3 s σ H _ A0 hw) λu s1⟨x,H1,Ai,As,Aq⟩=>?_;obtain⟨i,rfl,q⟩:=Aq;obtain⟨t,rfl⟩:=As;exact⟨↥i,H1,Ai,.int i t,q⟩
def R1(X:Aw)(r:V->Option Int->Option Int->AE->CV->Prop):Prop:=
 ∀(A3:μ)(s:AR)(σ :St)(H:AE)(x:V)(v E3 IH:A8)(lo AA:Option Int)(CP:A6)(Q:CV),θ->RelV x v->s.heap.IsSliceOf CP E3 IH .none->IsPart E3 lo->IsPart IH AA->r x lo AA H Q->
  ∃T id,typeLookup (.type T) "__getitem__"=pure ↥(.builtin id)/\s.TypeIs v T/\Av ξ X.A (PT v (.ref CP)) (H3 X A3 σ Q) X.DA s
def R1.or{r Bm:V->Option Int->Option Int->AE->CV->Prop}(h:R1 X r)(h':R1 X Bm):R1 X (λx lo AA H Q=>r x lo AA H Q\/Bm x lo AA H Q):=by
 intro A3 s σ H x v E3 IH lo AA CP Q A0 Ax AS pl pu q;rcases q with q|q
 .exact h A3 s σ H x v E3 IH lo AA CP Q A0 Ax AS pl pu q
 .exact h' A3 s σ H x v E3 IH lo AA CP Q A0 Ax AS pl pu q
noncomputable def r3(r:V->Option Int->Option Int->AE->CV->Prop)(E8:TE)(Hw aU:TW):TE:=λσ H Q=>E8 σ H λx H1=>Hw σ H1 λl AH=>aU σ AH λu BP=>r x l u BP Q
def ace{r:V->Option Int->Option Int->AE->CV->Prop}(BZ:R1 X r)(he:Aj X e E8)(AI:Ur X lo Hw)(BS:Ur X AA aU):Aj X (.Subscript e (.Slice lo AA none Cm) pos) (r3 r E8 Hw aU):=by intro A3 s σ H Q A0 h;refine Subscript_ (Ba (he A3 s σ H _ A0 h) λv s1⟨x,H1,Ai,As,Aq⟩=>?_);refine wpAny_Slice (Ba (AI A3 s1 σ H1 _ Ai Aq) λE3 s2⟨l,AH,Bz,pl,BV⟩=>Ba (BS A3 s2 σ AH _ Bz BV) λIH s3⟨u,BP,Da,pu,Do⟩=>?_);rw[evalPart_none];refine Bk ?_;have M9:Inv X A3 σ BP { s3 with heap:=s3.heap.push { cls:=.type "slice",data:=.fields #[E3,IH,.none] } }:=Da.kept (t':=s3.toks) λb BQ q=>Dm _ q;obtain⟨T,id,D4,BY,Ar⟩:=BZ A3 { s3 with heap:=s3.heap.push { cls:=.type "slice",data:=.fields #[E3,IH,.none] } } σ BP x v E3 IH l u s3.heap.objs.size Q M9 As (Heap.IsSliceOf.new ..) pl pu Do;show Av ξ X.A (subscriptTail e (.Slice lo AA none Cm) v (.ref s3.heap.objs.size)) (H3 X A3 σ Q) X.DA { s3 with heap:=s3.heap.push { cls:=.type "slice",data:=.fields #[E3,IH,.none] } };exact tail_any (ops:=[.ref s3.heap.objs.size,v]) BY D4 Ar (by with_unfolding_all rfl)
noncomputable def Pn(xs:↑V)(lo AA:Option Int):↑V:=(xs.drop (Ei.Cu ⇑xs 0 lo)).take (Ei.Cu ⇑xs ⇑xs AA-Ei.Cu ⇑xs 0 lo)
def il(xs:↑V)(lo AA:Option Int):⇑(Pn xs lo AA)<=⇑xs:=by unfold Pn;rw[LK,QY];lia
def mR(K:Ao):V->Option Int->Option Int->AE->CV->Prop:=λx lo AA H Q=>∃a xs,x=.ref a/\FA K H a xs/\
 ¬(Ei.Cu ⇑xs 0 lo=0/\Ei.Cu ⇑xs ⇑xs AA=⇑xs)/\∀p,H p=none->Q (.ref p) (upd H p (.tup (Pn xs lo AA)))
def afH:R1 X (mR X.K):=by
 intro A3 s σ H x v E3 IH lo AA CP Q A0 Ax AS pl pu h;obtain⟨a,xs,rfl,AM,hw,q⟩:=h;cases Ax;obtain⟨its,r,BY,hz⟩:=A0.tuple AM;have hlen:its.toArray.size=⇑xs:=by rw[Df];exact r.length.symm
 refine⟨"tuple",_,PyProof.Rows.slot_tuple_getitem.lookup,BY.typeIs,?_⟩;refine Ei.xA BY AS pl pu (by rw[hlen];exact hw) ?_ (by rw[hlen];exact hz);rw[hlen];refine⟨.ref s.heap.objs.size,_,A0.laid (t':=s.toks) (o:=.tup (Pn xs lo AA)) (λb BQ q=>Dm _ q) (CB _) ?_,rfl,q _ (A0.BB.fresh (CB _))⟩;exact⟨Gm (il xs lo AA) hz,_,(r.drop (Ei.Cu ⇑xs 0 lo)).take (Ei.Cu ⇑xs ⇑xs AA-Ei.Cu ⇑xs 0 lo),IsTup.new _ _⟩
def mA(K:Ao):D6:=λx y H Q=>∃a b xs ys,x=.ref a/\y=.ref b/\FA K H a xs/\FA K H b ys/\xs≠[]/\ ⇑xs+⇑ys<=CU/\
 (ys=[]->Q (.ref a) H)/\(ys≠[]->∀p,H p=none->Q (.ref p) (upd H p (.tup (xs++ys))))
def Vals.dW{xs:↑V}{us:↑A8}(r:Vals xs us):us=[]↔xs=[]:=by
 cases r with
 |nil=>simp
 |cons _ _=>simp
def abQ:Dy X (Ja .Add) (mA X.K):=by intro A3 s σ H x y v u Q A0 Ax Bn h;obtain⟨a,b,xs,ys,rfl,rfl,AF,A4,AM,hz,Aq,BV⟩:=h;cases Ax;cases Bn;obtain⟨its,As,Dk,_⟩:=A0.tuple AF;obtain⟨Gq,BK,Cm,_⟩:=A0.tuple A4;refine Ei.tn Dk Cm (λz=>AM (As.dW.mp z)) (λz=>⟨.ref a,H,A0,rfl,Aq (BK.dW.mp z)⟩) (λz=>?_) (by rw[<- ⇑As,<- ⇑BK];exact hz);refine⟨.ref s.heap.objs.size,_,A0.laid (t':=s.toks) (o:=.tup (xs++ys)) (λb BQ q=>Dm _ q) (CB _) ?_,rfl,BV (λw=>z (BK.dW.mpr w)) _ (A0.BB.fresh (CB _))⟩;exact⟨by rw[EL];exact hz,_,As.append BK,IsTup.new _ _⟩
end
noncomputable def Oa(n:Nat)(i:Int):Option Nat:=if 0<=i then(if i<n then↥i.toNat else none)else if-(n:Int)<=i then↥(i+n).toNat else none
def KV{α:Type}(xs:↑α)(i:Int):Option α:=(Oa ⇑xs i).bind λj=>xs[j]?
def kg{n:Nat}{i:Int}{j:Nat}(h:Oa n i=↥j):Sj i n=↥j/\j<n/\-(n:Int)<=i/\i<n:=by
 unfold Oa at h;by_cases h0:0<=i
 .rw[if_pos h0]at h;by_cases h1:i<n
  .rw[if_pos h1]at h;have e:i.toNat=j:=Ga h;exact⟨by rw[seqIndex_of h0 h1,e],δ,δ,h1⟩
  .rw[if_neg h1]at h;cases h
 .rw[if_neg h0]at h;by_cases h1: -(n:Int)<=i
  .rw[if_pos h1]at h;have e:(i+n).toNat=j:=Ga h;exact⟨by rw[seqIndex_neg δ h1,e],δ,h1,δ⟩
  .rw[if_neg h1]at h;cases h
def gU{α:Type}{xs:↑α}{i:Int}{v:α}(h:KV xs i=↥v):∃j,Sj i ⇑xs=↥j/\xs[j]?=↥v/\j< ⇑xs/\-(⇑xs:Int)<=i/\i< ⇑xs:=by
 unfold KV at h;cases e:Oa ⇑xs i with
 |none=>rw[e]at h;cases h
 |some j=>rw[e]at h;obtain⟨h1,h2,BF,Cp⟩:=kg e;exact⟨j,h1,h,h2,BF,Cp⟩
def gs(b:Au):Prop:=∀o i,XU b false o i=operate [o,i] (PT o i)
def N3(X:Aw)(r:D6):Prop:=
 ∀(value slice:Au)(A3:μ)(s:AR)(σ :St)(H:AE)(x y:V)(v u:A8)(Q:CV),θ->RelV x v->RelV y u->r x y H Q->
  XU slice false v u=operate [v,u] (PT v u)->Av ξ X.A (subscriptTail value slice v u) (H3 X A3 σ Q) X.DA s
def N7(X:Aw)(id:String)(r:V->↑V->AE->CV->Prop):Prop:=
 ∀(A3:μ)(s:AR)(σ :St)(H:AE)(x:V)(xs:↑V)(v:A8)(us:↑A8)(Q:CV),θ->RelV x v->Vals xs us->r x xs H Q->
  Av ξ X.A (call (.builtin id) (v::us)) (H3 X A3 σ Q) X.DA s
section
variable{X:Aw}{a b:Au}{C0 tb:TE}{pos:Pos}
def N3.or{r Bm:D6}(h:N3 X r)(h':N3 X Bm):N3 X (λx y H Q=>r x y H Q\/Bm x y H Q):=by
 intro value slice A3 s σ H x y v u Q A0 Ax Bn q AS;rcases q with q|q
 .exact h value slice A3 s σ H x y v u Q A0 Ax Bn q AS
 .exact h' value slice A3 s σ H x y v u Q A0 Ax Bn q AS
def N7.or{id:String}{r Bm:V->↑V->AE->CV->Prop}(h:N7 X id r)(h':N7 X id Bm):N7 X id (λx xs H Q=>r x xs H Q\/Bm x xs H Q):=by
 intro A3 s σ H x xs v us Q A0 Ax rs q;rcases q with q|q
 .exact h A3 s σ H x xs v us Q A0 Ax rs q
 .exact h' A3 s σ H x xs v us Q A0 Ax rs q
def acU{r:D6}(BZ:N3 X r)(AF:Aj X a C0)(A4:Aj X b tb)(AS:gs b):Aj X (.Subscript a b pos) (Tt r C0 tb):=by intro A3 s σ H Q A0 h;exact Subscript_ (bo AF A4 A0 h λv u s2 x y AH Bz Ax Bn q=>BZ a b A3 s2 σ AH x y v u Q Bz Ax Bn q (AS _ _))
def mH(K:Ao):D6:=λx y H Q=>∃p xs i v,x=.ref p/\y=.int i/\ET K H p xs/\KV xs i=↥v/\Q v H
def mJ(K:Ao):D6:=λx y H Q=>∃p xs i v,x=.ref p/\y=.int i/\FA K H p xs/\KV xs i=↥v/\Q v H
def mI:D6:=λx y H Q=>∃z i c,x=.str z/\y=.int i/\ ⇑z<=CU/\KV z.cps.toList i=↥c/\Q (.str ⟨#[c]⟩) H
def yq:N3 X (mH X.K):=by
 intro value slice A3 s σ H x y v u Q A0 Ax Bn h AS;obtain⟨p,xs,i,z,rfl,rfl,Ac,he,q⟩:=h;cases Ax;obtain⟨t,rfl⟩:=Bn;obtain⟨its,r,pl,hz⟩:=A0.list Ac;obtain⟨j,h1,h2,BF,Cp,Es⟩:=gU he;obtain⟨w,Ck,Ge⟩:=r.get h2;have AI:=⇑r;have Ae:=TQ;have fin:H3 X A3 σ Q w s:=⟨z,H,A0,Ge,q⟩;by_cases h0:0<=i
 .have An:i.toNat=j:=by
    rw[seqIndex_of h0 Es]at h1;exact Ga h1
  exact item_listR pl.isList h0 δ (by rw[An];simpa using Ck) fin AS
 .have An:(i+(its.toArray.size:Int)).toNat=j:=by
    rw[seqIndex_neg δ Cp]at h1;rw[Df,<-AI];exact Ga h1
  exact subscriptTail_builtinR (x:=w) pl.isList.typeIs slot_list_getitem.lookup
   (wpAny_getItem_list_neg (Q:=λr s'=>r=w/\H3 X A3 σ Q r s') pl.isList δ (by rw[Df]<;>lia) δ (by rw[An];simpa using Ck) ⟨rfl,fin⟩) AS
def S8:N3 X (mJ X.K):=by
 intro value slice A3 s σ H x y v u Q A0 Ax Bn h AS;obtain⟨p,xs,i,z,rfl,rfl,Ac,he,q⟩:=h;cases Ax;obtain⟨t,rfl⟩:=Bn;obtain⟨its,r,pl,hz⟩:=A0.tuple Ac;obtain⟨j,h1,h2,BF,Cp,Es⟩:=gU he;obtain⟨w,Ck,Ge⟩:=r.get h2;have AI:=⇑r;have Ae:=TQ;have fin:H3 X A3 σ Q w s:=⟨z,H,A0,Ge,q⟩
 exact subscriptTail_builtinR (x:=w) pl.typeIs slot_tuple_getitem.lookup
  (getItem_tuple (j:=j) (Q:=λr s'=>r=w/\H3 X A3 σ Q r s') pl δ δ (by rw[Df,<-AI];exact h1) (Ck:) ⟨rfl,fin⟩) AS
def yt:N3 X mI:=by
 intro value slice A3 s σ H x y v u Q A0 Ax Bn h AS;obtain⟨z,i,c,rfl,rfl,hz,he,q⟩:=h;obtain⟨t,rfl⟩:=Ax;obtain⟨t',rfl⟩:=Bn;obtain⟨j,h1,h2,BF,Cp,Es⟩:=gU he;have AI:⇑z.cps.toList=⇑z:=by simp[Str.length]
 rw[AI]at h1 Cp Es;have Ae:=TQ;exact tail_any (typeIs_str s z t) slot_str_getitem.lookup (getItem_str (c:=c) (by have A9:decide (i< -(2^63:Int))=false:=decide_eq_false δ;have AG:decide (i≥2^63)=false:=decide_eq_false δ;rw[A9,AG,Bool.or_false]) (by rw[h1];simpa using h2) ⟨.str ⟨#[c]⟩,H,A0.tok _,⟨_,rfl⟩,q⟩) AS
def eu(K:Ao):D6:=λx y H Q=>mH K x y H Q\/mJ K x y H Q\/mI x y H Q
def yr:N3 X (eu X.K):=yq.or (S8.or yt)
def abG(its:↑A8)(n j:Nat)(u:A8):Um (·.setIfInBounds j u) { cls:=.type "list",data:=.seq its.toArray n }={ cls:=.type "list",data:=.seq (its.set j u).toArray n }:=by simp[Um]
theorem Inv.lst{A3:μ}{σ :St}{H:AE}{s:AR}{p:A6}{xs:↑V}(A0:θ)(h:H p=↥(.lst xs)) :
  ∃(its:↑A8)(n:Nat),Vals xs its/\s.heap.get? p=some { cls:=.type "list",data:=.seq its.toArray n }/\ ⇑xs<=CU:=by
 obtain⟨z,its,n,r,e⟩:=A0.BB p _ h;exact⟨its,n,r,e,z⟩
def Inv.ab5{A3:μ}{σ :St}{H:AE}{s:AR}{p:A6}{xs ys:↑V}{its its':↑A8}{n Wi:Nat}{f:Obj->Obj}(A0:θ)(h:H p=↥(.lst xs))(ho:s.heap.get? p=some { cls:=.type "list",data:=.seq its.toArray n })(hf:f { cls:=.type "list",data:=.seq its.toArray n }={ cls:=.type "list",data:=.seq its'.toArray Wi })(r:Vals ys its')(hz:⇑ys<=CU)(t:Nat) :
  Inv X A3 σ (upd H p (.lst ys)) { s with heap:=s.heap.update p f,toks:=t }:=by
 have e:(s.heap.update p f).get? p=some { cls:=.type "list",data:=.seq its'.toArray Wi }:=by rw[XE f ho (by rw[hf]<;>rfl),hf]
 refine A0.write (x:=p) (e:=p) (by rw[h];trivial) (.inl rfl) (λb u A4 q=>(s9 _ _ (K6 A4)).trans q) ⟨_,e⟩ ?_;exact⟨hz,its',Wi,r,e⟩
def mP:V->V->V->AE->(AE->Prop)->Prop:=λo i v H Q=>∃p xs k j,o=.ref p/\i=.int k/\H p=↥(.lst xs)/\Oa ⇑xs k=↥j/\Q (upd H p (.lst (xs.set j v)))
def set_list:hD X mP:=by
 intro A3 s σ H o i v Cq HT u Q A0 Fw adP C1 h;obtain⟨p,xs,k,j,rfl,rfl,AX,An,q⟩:=h;cases Fw;obtain⟨t,rfl⟩:=adP;obtain⟨its,n,r,ho,hz⟩:=A0.lst AX;obtain⟨h1,h2,BF,Cp⟩:=kg An;have AI:=⇑r;have Ae:=TQ;have H4:Inv X A3 σ (upd H p (.lst (xs.set j v))) { s with heap:=s.heap.update p (Um (·.setIfInBounds j u)) }:=
  A0.ab5 AX ho (abG its n j u) (r.set C1 j) (by rw[List.length_set];exact hz) s.toks
 by_cases h0:0<=k
 .have AQ:k.toNat=j:=by
    rw[seqIndex_of h0 Cp]at h1;exact Ga h1
  exact PySem.W.ki_setAt ho h0 δ (by rw[Df,<-AI];exact Cp) (by rw[AQ];exact⟨_,H4,q⟩)
 .have AQ:(k+(its.toArray.size:Int)).toNat=j:=by
    rw[seqIndex_neg δ BF]at h1;rw[Df,<-AI];exact Ga h1
  exact PySem.W.ki_setBack ho δ (by rw[Df,<-AI];exact BF) δ (by rw[AQ];exact⟨_,H4,q⟩)
def afK(lo AA:Option Int)(n:Nat):(Qf lo AA none n).1=((Ei.Cu n 0 lo:Nat):Int)/\(Qf lo AA none n).2.1=((Ei.Cu n n AA:Nat):Int)/\(Qf lo AA none n).2.2=1:=by
 refine⟨?_,?_,rfl⟩
 .cases lo with
  |none=>simp[Qf,Ei.Cu]
  |some i=>
   erw[Qf,Ei.Cu,Option.getD_none,show(1:Int)>0 by decide,if_true];by_cases h:i<0
   .erw[h,if_true]<;>lia
   .erw[h,if_false]<;>lia
 .cases AA with
  |none=>simp[Qf,Ei.Cu]
  |some i=>
   erw[Qf,Ei.Cu,Option.getD_none,show(1:Int)>0 by decide,if_true];by_cases h:i<0
   .erw[h,if_true]<;>lia
   .erw[h,if_false]<;>lia
def afJ(its:↑A8)(lo AA:Option Int):slicePick its.toArray lo AA none=((its.drop (Ei.Cu ⇑its 0 lo)).take (Ei.Cu ⇑its ⇑its AA-Ei.Cu ⇑its 0 lo)).toArray:=by obtain⟨h1,h2,BF⟩:=afK lo AA its.toArray.size;unfold slicePick;rw[h1,h2,BF];erw[sliceRange_one,pick_run,Df]<;>rfl
def mQ(K:Ao):V->Option Int->Option Int->AE->CV->Prop:=λx lo AA H Q=>∃a xs,x=.ref a/\ET K H a xs/\∀p,H p=none->Q (.ref p) (upd H p (.lst (Pn xs lo AA)))
def afG:R1 X (mQ X.K):=by intro A3 s σ H x v E3 IH lo AA CP Q A0 Ax AS pl pu h;obtain⟨a,xs,rfl,AM,q⟩:=h;cases Ax;obtain⟨its,r,BY,hz⟩:=A0.list AM;have hlen:=⇑r;refine⟨"list",_,slot_list_getitem.lookup,BY.isList.typeIs,?_⟩;refine wpAny_getItem_list_slice BY.isList AS pl pu .none γ ?_ (by rw[Df]<;>lia);rw[afJ,<-hlen];refine⟨.ref s.heap.objs.size,_,A0.laid (t':=s.toks) (o:=.lst (Pn xs lo AA)) (λb BQ q=>Dm _ q) (CB _) ?_,rfl,q _ (A0.BB.fresh (CB _))⟩;exact⟨Gm (il xs lo AA) hz,_,0,(r.drop (Ei.Cu ⇑xs 0 lo)).take (Ei.Cu ⇑xs ⇑xs AA-Ei.Cu ⇑xs 0 lo),GG _ rfl⟩
def Jj.or{f:A8}{r Bm:↑V->AE->CV->Prop}(h:Jj X f r)(h':Jj X f Bm):Jj X f (λxs H Q=>r xs H Q\/Bm xs H Q):=by
 intro A3 s σ H xs us Q A0 rs q;rcases q with q|q
 .exact h A3 s σ H xs us Q A0 rs q
 .exact h' A3 s σ H xs us Q A0 rs q
def tg:Jj X (.type "list") (λxs H Q=>∃p ys,xs=[.ref p]/\(ET X.K H p ys\/FA X.K H p ys)/\∀l,H l=none->Q (.ref l) (upd H l (.lst ys))):=by
 intro A3 s σ H xs us Q A0 r h;obtain⟨p,ys,rfl,Ac,q⟩:=h;obtain⟨u,rfl,Ax⟩:=vals1 r;cases Ax
 have fin:∀(its:↑A8),Vals ys its->⇑ys<=CU->∀(h':BG)(G8:Nat),(∀b o',s.heap.get? b=↥o'->h'.get? b=↥o')->
   h'.get? s.heap.objs.size=some { cls:=.type "list",dict:=none,data:=.seq its.toArray G8,slots:= #[] }->H3 X A3 σ Q (.ref s.heap.objs.size) { s with heap:=h' }:=λits Bm hz h' G8 DH e=>
  ⟨.ref s.heap.objs.size,_,A0.laid (t':=s.toks) DH (CB _) (show EJ X.prog X.w _ h' _ (.lst ys)from⟨hz,its,G8,Bm,e⟩),rfl,q _ (A0.BB.fresh (CB _))⟩
 rcases Ac with Ac|Ac
 .obtain⟨its,Bm,pl,hz⟩:=A0.list Ac;have hlen:=⇑Bm;obtain⟨o,ho,AK,n,hd⟩:=pl.isList;exact call_list_seq p (.inl rfl) ho AK hd (λh' G8 DH e=>fin its Bm hz h' G8 DH e) (by erw[Df]<;>lia)
 .obtain⟨its,Bm,pl,hz⟩:=A0.tuple Ac;have hlen:=⇑Bm;obtain⟨o,ho,AK,n,hd⟩:=pl;exact call_list_seq p (.inr rfl) ho AK hd (λh' G8 DH e=>fin its Bm hz h' G8 DH e) (by erw[Df]<;>lia)
def tk:Jj X (.type "tuple") (λxs H Q=>∃p ys,xs=[.ref p]/\((ET X.K H p ys/\∀l,H l=none->Q (.ref l) (upd H l (.tup ys)))\/(FA X.K H p ys/\Q (.ref p) H))):=by
 intro A3 s σ H xs us Q A0 r h;obtain⟨p,ys,rfl,h⟩:=h;obtain⟨u,rfl,Ax⟩:=vals1 r;cases Ax;rcases h with⟨Ac,q⟩|⟨Ac,q⟩
 .obtain⟨its,Bm,pl,hz⟩:=A0.list Ac;have hlen:=⇑Bm;refine call_tuple_list pl.isList (λh' DH=>?_) (by erw[Df]<;>lia);have Ai:Inv X A3 σ H { s with heap:=h' }:=A0.kept (t':=s.toks) DH;have Bz:Inv X A3 σ (upd H h'.objs.size (.tup ys)) { s with heap:=h'.push { cls:=.type "tuple",data:=.seq its.toArray } }:=
   Ai.laid (t':=s.toks) (λb o e=>Dm _ e) (CB _) (show EJ X.prog X.w _ _ _ (.tup ys)from⟨hz,its,Bm,IsTup.new _ _⟩)
  exact⟨.ref h'.objs.size,_,Bz,rfl,q _ (Ai.BB.fresh (CB _))⟩
 .obtain⟨its,Bm,pl,hz⟩:=A0.tuple Ac;exact call_tuple_same pl ⟨.ref p,H,A0,rfl,q⟩
def ed(K:Ao)(T:String)(x:V)(H:AE):Prop:=match x with
 |.str _=>T="str"
 |.int _=>T="int"
 |.ref p=>(T="list"/\∃xs,ET K H p xs)\/(T="tuple"/\∃o,K.lookup p=↥o/\o.cls=.type "tuple"/\o.dict=none)\/
     (T="dict"/\((∃AD,H p=↥(.BM AD))\/∃AD,H p=↥(.ED AD)))\/(T="set"/\∃S n,H p=↥(.set S n))
 |_=>False
def rD{A3:μ}{σ :St}{H:AE}{s:AR}{T:String}{x:V}{v:A8}(A0:θ)(r:RelV x v)(ty:ed X.K T x H) :
  s.TypeIs v T/\∀a,v=.ref a->∃BQ,s.heap.get? a=↥BQ/\BQ.dict=none:=by
 cases x with
 |str z=>obtain⟨t,rfl⟩:=r;cases(show T="str" from ty);exact⟨typeIs_str s z t,λ_ e=>nomatch e⟩
 |int i=>obtain⟨t,rfl⟩:=r;cases(show T="int" from ty);exact⟨typeIs_int s i t,λ_ e=>nomatch e⟩
 |ref p=>
  cases r;rcases ty with⟨rfl,xs,Ac⟩|⟨rfl,o,AQ,AK,hd⟩|⟨rfl,AQ⟩|⟨rfl,S,n,AQ⟩
  .obtain⟨its,_,pl,_⟩:=A0.list Ac;refine⟨pl.isList.typeIs,λa e=>?_⟩;cases e;obtain⟨o,n,e,c,hd,_⟩:=pl;exact⟨o,e,hd⟩
  .refine⟨⟨o,A0.Fc p o AQ,AK⟩,λa e=>?_⟩;cases e;exact⟨o,A0.Fc _ o AQ,hd⟩
  .have z:∃o,s.heap.get? p=↥o/\o.ExactDict:=by
     rcases AQ with⟨AD,AQ⟩|⟨AD,AQ⟩
     .obtain⟨_,_,_,_,o,_,_,e,ex,_⟩:=A0.BB p _ AQ;exact⟨o,e,ex⟩
     .obtain⟨_,_,_,_,o,_,_,e,ex,_⟩:=A0.BB p _ AQ;exact⟨o,e,ex⟩
   obtain⟨o,e,ex⟩:=z;refine⟨⟨o,e,ex.1⟩,λa AG=>?_⟩;cases AG;exact⟨o,e,ex.2.1⟩
  .obtain⟨o,_,_,_,e,ex,_⟩:=A0.BB p _ AQ;refine⟨⟨o,e,ex.1⟩,λa AG=>?_⟩;cases AG;exact⟨o,e,ex.2.1⟩
 |_=>exact IQ ty
noncomputable def ph(K:Ao)(T:String)(r:V->↑V->AE->CV->Prop)(to:TE):TE:=λσ H Q=>to σ H λx H1=>ed K T x H1/\r x [] H1 Q
noncomputable def WJ(K:Ao)(T:String)(r:V->↑V->AE->CV->Prop)(to:TE)(t:FZ):TE:=λσ H Q=>to σ H λx H1=>ed K T x H1/\t σ H1 λxs AH=>r x xs AH Q
variable{o e:Au}{es:↑Au}{to:TE}{t:FZ}{name:Str}{apos Cv:Pos}{T id:String}{r:V->↑V->AE->CV->Prop}
def l4(QI:PlainAttrs T)(slot:Slot T name id)(cP:typeOf (.builtin id)=pure (.type "method_descriptor"))(hm:N7 X id r)(ho:Aj X o to)(d4:Ko o name X.env (Bd o X.env)=Bd o X.env:=by rfl)(cE:(apos.endLine==Cv.line)=true:=by rfl):Aj X (.Call (.Attribute o name apos) [] [] Cv) (ph X.K T r to):=by intro A3 s σ H Q A0 h;refine wpAny_Call_method0_late d4 cE (Ba (ho A3 s σ H _ A0 h) λv s1⟨x,H1,Ai,As,ty,Aq⟩=>?_);obtain⟨h1,h2⟩:=rD Ai As ty;exact⟨T,id,QI,slot,cP,h1,h2,UR rfl (rf (hm A3 s1 σ H1 x [] v [] Q Ai As .nil Aq))⟩
def UO (QI:PlainAttrs T) (slot:Slot T name id) (cP:typeOf (.builtin id)=pure (.type "method_descriptor")) (hm:N7 X id r) (ho:Aj X o to) (AF:H5 X (e::es) t)(d4:Ko o name X.env (Bd o X.env)=Bd o X.env:=by rfl)(wp:((Fh Cv (CM (e::es) X.env)).all (λx=>!x.1)&&(LQ Cv (LO [] X.env)).all (λx=>x.1.isSome)
    &&decide (⇑(e::es)+⇑([]:↑Kr)+(if([]:↑Kr).isEmpty then 0 else 1)<30))=true:=by rfl)
  (cE:(apos.endLine==Cv.line)=true:=by rfl) (AS:CM (e::es) X.env=(false,Bd e X.env)::CM es X.env:=by rfl) (y7:(Fh Cv (CM es X.env)).any (·.1)=false:=by rfl) :
  Aj X (.Call (.Attribute o name apos) (e::es) [] Cv) (WJ X.K T r to t):=by
 intro A3 s σ H Q A0 h;refine wpAny_Call_method_late d4 wp cE rfl (Ba (ho A3 s σ H _ A0 h) λv s1⟨x,H1,Ai,As,ty,Aq⟩=>?_);obtain⟨h1,h2⟩:=rD Ai As ty;refine⟨T,id,QI,slot,cP,h1,h2,?_⟩;have Ln:=AF Cv A3 s1 σ H1 _ Ai Aq;rw[AS]at Ln |-;refine UR (by show(false||(Fh Cv (CM es X.env)).any (·.1))=false;rw[y7]<;>rfl) (X8 ?_);exact Ba Ln λus s2⟨vs,AH,Bz,BK,BV⟩=>hm A3 s2 σ AH x vs v us Q Bz As BK BV
end
def Ss(X:Aw)(id:String)(r:V->↑V->AE->CV->Prop):Prop:=
 ∀(A3:μ)(s:AR)(σ :St)(H:AE)(x:V)(xs:↑V)(v:A8)(us:↑A8)(Q:CV),θ->RelV x v->Vals xs us->r x xs H Q->
  Av ξ X.A (call (.builtin id) (v::us)) (H3 X A3 σ Q) X.DA s
def Vals.one:∀{x:V}{us:↑A8},Vals [x] us->∃u,us=[u]/\RelV x u
 |_,_,.cons r .nil=>⟨_,rfl,r⟩
def Vals.two:∀{x y:V}{us:↑A8},Vals [x,y] us->∃u v,us=[u,v]/\RelV x u/\RelV y v
 |_,_,_,.cons r (.cons q .nil)=>⟨_,_,rfl,r,q⟩
def Vals.zero:∀{us:↑A8},Vals [] us->us=[]
 |_,.nil=>rfl
theorem Vals.dropLast{xs:↑V}{us:↑A8}(h:Vals xs us):Vals xs.dropLast us.dropLast:=by
 induction h with
 |nil=>exact .nil
 |cons r t CC=>
  cases t with
  |nil=>exact .nil
  |cons q t'=>exact .cons r CC
theorem Vals.eraseIdx:∀{xs:↑V}{us:↑A8}(i:Nat),Vals xs us->Vals (xs.eraseIdx i) (us.eraseIdx i)
 |_,_,_,.nil=>.nil
 |_,_,0,.cons _ t=>t
 |_,_,i+1,.cons r t=>.cons r (Vals.eraseIdx i t)
theorem Vals.rep{xs:↑V}{us:↑A8}(h:Vals xs us):∀k:Nat,Vals (Gy k xs).flatten (Gy k us).flatten
 |0=>.nil
 |k+1=>by rw[Qb,Qb,PP,PP];exact Vals.append h (Vals.rep h k)
def ui{α:Type}(l:↑α):l.eraseIdx (⇑l-1)=l.dropLast:=by
 induction l with
 |nil=>rfl
 |cons a r CC=>
  cases r with
  |nil=>rfl
  |cons b r=>
   have e:⇑(a::b::r)-1=(⇑(b::r)-1)+1:=by have h1:⇑(a::b::r)=⇑r+2:=rfl;have h2:⇑(b::r)=⇑r+1:=rfl;lia
   rw[e,rx,CC]
   all_goals rfl
theorem kO{α:Type}:∀(l:↑α)(i:Nat),⇑(l.eraseIdx i)<=⇑l
 |[],_=>CB _
 |_::_,0=>Uo _
 |_::r,i+1=>Nat.succ_le_succ (kO r i)
theorem foldl_rep(its:↑A8):∀(k:Nat)(acc:↑A8),
  List.foldl (λCc CK=>Cc++CK) acc.toArray (Gy k its.toArray)=(acc++(Gy k its).flatten).toArray
 |0,acc=>γ
 |k+1,acc=>by
  have e:acc.toArray++its.toArray=(acc++its).toArray:=γ
  have AG:(acc++its)++(Gy k its).flatten=acc++(Gy (k+1) its).flatten:=by rw[Qb,PP,EZ]
  rw[<-AG,<-foldl_rep its k (acc++its),<-e,Qb,List.foldl_cons]
section
variable{X:Aw}{A3:μ}{σ :St}{H:AE}{s:AR}{l b:A6}{xs ys zs:↑V}
def Inv.Sy{its its':↑A8}{n:Nat}{f:Array A8->Array A8}{t':Nat}(A0:θ)(GU:H l=↥(.lst xs))(e:s.heap.get? l=some { cls:=.type "list",data:=.seq its.toArray n })(hf:f its.toArray=its'.toArray)(CL:Vals ys its')(hz:⇑ys<=CU) :
  Inv X A3 σ (upd H l (.lst ys)) { s with heap:=s.heap.update l (Um f),toks:=t' }:=by
 have q:=PySem.IsL.update e f;rw[hf]at q;refine A0.write (x:=l) (e:=l) (by rw[GU];exact trivial) (.inl rfl) (λJP u A4 BS=>(s9 s.heap (Um f) (K6 A4)).trans BS) ⟨_,q⟩ ?_;exact⟨hz,its',_,CL,q⟩
def Inv.dF{its:↑A8}{t':Nat}(A0:θ)(CL:Vals ys its)(hz:⇑ys<=CU) :
  Inv X A3 σ (upd H s.heap.objs.size (.lst ys)) { s with heap:=s.heap.push { cls:=.type "list",data:=.seq its.toArray },toks:=t' }:=
 A0.laid (λ_ _ q=>Dm _ q) (CB _) ⟨hz,its,0,CL,GG _ rfl⟩
theorem Inv.fresh(A0:θ):H s.heap.objs.size=none:=A0.BB.fresh (CB _)
def Inv.NN(A0:θ)(GU:H l=↥(.lst xs)):⇑xs<=CU/\∃(its:↑A8)(n:Nat),Vals xs its/\ ⇑xs=⇑its/\s.heap.get? l=some { cls:=.type "list",data:=.seq its.toArray n }:=by obtain⟨z,its,n,r,e⟩:=A0.BB l _ GU;exact⟨z,its,n,r,⇑r,e⟩
def l9{n:Nat}(h:n<=CU):Wy n=false:=by unfold Wy;exact decide_eq_false δ
end
section
variable{X:Aw}
def n6:V->List V->AE->CV->Prop:=λx vs H Q=>∃l xs y,x=.ref l/\vs=[y]/\H l=some (.lst xs)/\ ⇑xs<CU/\Q .non (upd H l (.lst (xs++[y])))
theorem lg:Ss X "list.append" n6:=by intro A3 s σ H x vs v us Q A0 Ax C1 h;obtain⟨l,xs,y,rfl,rfl,GU,hz,q⟩:=h;cases Ax;obtain⟨u,rfl,Eg⟩:=C1.one;obtain⟨z,its,n,r,AI,e⟩:=A0.NN GU;refine O6 F.slot_list_append ⟨_,e,rfl⟩ F.entry_list_append (F.args_list_append_2 _ _) (PySem.list_append l its.toArray n u (by rw[Df];lia)) ⟨e,?_⟩;refine⟨.non,_,A0.Sy (its':=its++[u]) GU e γ (r.append (.cons Eg .nil)) ?_,rfl,q⟩;rw[EL,MB];lia
def mC:V->List V->AE->CV->Prop:=λx vs H Q=>∃l b xs zs,x=.ref l/\vs=[.ref b]/\H l=some (.lst xs)/\H b=some (.lst zs)/\ ⇑xs+⇑zs<=CU/\Q .non (upd H l (.lst (xs++zs)))
theorem aag:Ss X "list.extend" mC:=by
 intro A3 s σ H x vs v us Q A0 Ax C1 h;obtain⟨l,b,xs,zs,rfl,rfl,GU,Ke,hz,q⟩:=h;cases Ax;obtain⟨u,rfl,Eg⟩:=C1.one;cases Eg;obtain⟨z,its,n,r,AI,e⟩:=A0.NN GU;obtain⟨FE,Gq,FN,BK,VQ,AG⟩:=A0.NN Ke;have hsz:its.toArray.size+Gq.toArray.size<=CU:=by rw[Df,Df];lia
 have cF:¬(!its.toArray.isEmpty&&Wy (its.toArray.size+Gq.toArray.size))=true:=by rw[l9 hsz,S_];exact Km
 refine O6 F.slot_list_extend ⟨_,e,rfl⟩ F.entry_list_extend (F.args_list_extend_2 _ _)
  (AutoSeq1.list_extend_list_list_0 l its.toArray n b Gq.toArray FN cF (by rw[Df];lia) δ) ⟨e,AG,?_⟩
 refine⟨.non,_,A0.Sy (its':=its++Gq) GU e γ (r.append BK) ?_,rfl,q⟩;rw[EL];lia
def mL:V->↑V->AE->CV->Prop:=λx vs H Q=>∃l xs y,x=.ref l/\vs=[]/\H l=↥(.lst xs)/\xs[⇑xs-1]?=↥y/\Q y (upd H l (.lst xs.dropLast))
theorem lh:Ss X "list.pop" mL:=by
 intro A3 s σ H x vs v us Q A0 Ax C1 h;obtain⟨l,xs,y,rfl,rfl,GU,Af,q⟩:=h;cases Ax;have cQ:=C1.zero;subst cQ;obtain⟨z,its,n,r,AI,e⟩:=A0.NN GU;obtain⟨u,BS,Eg⟩:=r.get Af;have yH:its.toArray[its.toArray.size-1]?=↥u:=by show its.toArray[⇑its-1]?=↥u;rw[<-UT,<-AI];exact BS
 refine O6 F.slot_list_pop ⟨_,e,rfl⟩ F.entry_list_pop (F.args_list_pop_1 _) (MeetsSeq.list_pop_last l its.toArray n u yH (by rw[Df];lia)) ⟨e,?_⟩;refine⟨y,_,A0.Sy (its':=its.dropLast) GU e ?_ r.dropLast ?_,Eg,q⟩
 .show its.toArray.eraseIdxIfInBounds (its.toArray.size-1)=its.dropLast.toArray;rw[Df,rM,ui]
 .rw[List.length_dropLast];lia
def mM:V->↑V->AE->CV->Prop:=λx vs H Q=>∃l xs i k y,x=.ref l/\vs=[.int i]/\H l=↥(.lst xs)/\-(2^63)<=i/\i<2^63/\Sj i ⇑xs=↥k/\xs[k]?=↥y/\Q y (upd H l (.lst (xs.eraseIdx k)))
theorem lj:Ss X "list.pop" mM:=by
 intro A3 s σ H x vs v us Q A0 Ax C1 h;obtain⟨l,xs,i,k,y,rfl,rfl,GU,h1,h2,AQ,Af,q⟩:=h;cases Ax;obtain⟨u,rfl,Eg⟩:=C1.one;obtain⟨t,rfl⟩:=Eg;obtain⟨z,its,n,r,AI,e⟩:=A0.NN GU;obtain⟨w,hw,Ge⟩:=r.get Af
 refine O6 F.slot_list_pop ⟨_,e,rfl⟩ F.entry_list_pop (F.args_list_pop_2 _ _)
  (MeetsSeq.list_pop_at l its.toArray n i t k w (fitsIndex_both h1 h2) (by rw[Df,<-AI];exact AQ) (by rw[<-UT];exact hw) (by rw[Df];lia)) ⟨e,?_⟩
 refine⟨y,_,A0.Sy (its':=its.eraseIdx k) GU e ?_ (r.eraseIdx k) ?_,Ge,q⟩
 .show its.toArray.eraseIdxIfInBounds k=(its.eraseIdx k).toArray;rw[rM]
 .have:=kO xs k;lia
def mB:V->↑V->AE->CV->Prop:=λx vs H Q=>∃l xs,x=.ref l/\vs=[]/\H l=↥(.lst xs)/\Q .non (upd H l (.lst []))
theorem aaf:Ss X "list.clear" mB:=by intro A3 s σ H x vs v us Q A0 Ax C1 h;obtain⟨l,xs,rfl,rfl,GU,q⟩:=h;cases Ax;have cQ:=C1.zero;subst cQ;obtain⟨z,its,n,r,AI,e⟩:=A0.NN GU;refine O6 F.slot_list_clear ⟨_,e,rfl⟩ F.entry_list_clear (F.args_list_clear_1 _) (AutoSeq1.list_clear_list_0 l its.toArray n (by rw[Df];lia)) ⟨e,?_⟩;exact⟨.non,_,A0.Sy (its':=[]) (ys:=[]) GU e rfl .nil (IM _),rfl,q⟩
def m9:D6:=λx y H Q=>∃l b xs zs,x=.ref l/\y=.ref b/\H l=↥(.lst xs)/\H b=↥(.lst zs)/\ ⇑xs+⇑zs<=CU/\∀p,H p=none->Q (.ref p) (upd H p (.lst (xs++zs)))
def abP:Dy X (Ja .Add) m9:=by
 intro A3 s σ H x y v u Q A0 Ax Bn h;obtain⟨l,b,xs,zs,rfl,rfl,GU,Ke,hz,q⟩:=h;cases Ax;cases Bn;obtain⟨z,its,n,r,AI,e⟩:=A0.NN GU;obtain⟨FE,Gq,FN,BK,VQ,AG⟩:=A0.NN Ke;refine PySem.P.add_list e AG ?_ (by rw[Df,Df];lia);have BX:its.toArray++Gq.toArray=(its++Gq).toArray:=γ
 rw[BX];exact⟨.ref _,_,A0.dF (t':=s.toks) (r.append BK) (by rw[EL];lia),rfl,q _ A0.fresh⟩
def mO:D6:=λx y H Q=>∃l k xs,x=.ref l/\y=.int k/\H l=↥(.lst xs)/\-(2^63)<=k/\k<2^63/\ ⇑xs*k.toNat<=CU/\
 ∀p,H p=none->Q (.ref p) (upd H p (.lst (Gy k.toNat xs).flatten))
def len_rep{α:Type}(xs:↑α)(k:Nat):(Gy k xs).flatten.length=k*⇑xs:=by
 induction k with
 |zero=>simp
 |succ k CC=>rw[Qb,PP,EL,CC,Nat.succ_mul,Nat.add_comm]
theorem acx:Dy X (Ja .Mult) mO:=by
 intro A3 s σ H x y v u Q A0 Ax Bn h;obtain⟨l,k,xs,rfl,rfl,GU,h1,h2,hz,q⟩:=h;cases Ax;obtain⟨t,rfl⟩:=Bn;obtain⟨z,its,n,r,AI,e⟩:=A0.NN GU;have hlen:its.toArray.size*k.toNat<=CU:=by rw[Df,<-AI];exact hz
 have xV:¬its.toArray.size*k.toNat>(2^63-1)/8:=by
  have:(CU:Nat)<=(2^63-1)/8:=ε
  lia
 have wq:¬(!Builtin.List.listFitsIndex k)=true:=by rw[fitsIndex_both h1 h2];exact Km
 have cF:¬Wy (its.toArray.size*k.toNat)=true:=by rw[l9 hlen];exact Km
 have wg:List.foldl (λCc CK=>Cc++CK) #[] (Gy (if its.toArray.isEmpty=true then 0 else k.toNat) its.toArray)=(Gy k.toNat its).flatten.toArray:=by
  have f0:∀m:Nat,List.foldl (λCc CK=>Cc++CK) #[] (Gy m its.toArray)=(Gy m its).flatten.toArray:=λm=>by have:=foldl_rep its m [];rw[UV]at this;exact this
  rw[f0];cases its with
  |nil=>simp
  |cons a Bm=>rw[if_neg γ]
 refine wpAny_binaryOp_repeat_ref (T:="list") (U:="int") ε ⟨_,e,rfl⟩ (λs'=>typeIs_int s' k t) noFill_list_mul F.fills_int_mul F.slot_int_rmul repeat_list F.slot_int_index.lookup
  (O6 F.slot_int_rmul (typeIs_int s k t) F.entry_int_rmul (F.args_int_rmul_2 _ _) (int___rmul___int_list k t l its.toArray n)
    ⟨e,rfl,⟨_,e,rfl⟩,O6 F.slot_list_mul ⟨_,e,rfl⟩ F.entry_list_mul (F.args_list_mul_2 _ _) (AutoListH.list___mul___list_int_3 l its.toArray n k t wq xV cF) ⟨e,?_⟩⟩)
 rw[wg];exact⟨.ref _,_,A0.dF (t':=s.toks) (r.rep k.toNat) (by rw[len_rep,Nat.mul_comm];exact hz),rfl,q _ A0.fresh⟩
end
section
variable{prog:CD}{w:Bq}{A:D3}{E:A8->AR->Prop}{s:AR}
end
section
variable{X:Aw}
end
section
variable{Bp:Type}[DecidableEq Bp]
noncomputable def HG(AD:↑(Bp×V))(k:Bp):Option V:=(AD.find? λCa=>decide (Ca.1=k)).map (·.2)
noncomputable def putK(AD:↑(Bp×V))(k:Bp)(v:V):↑(Bp×V):=
 if(AD.any λCa=>decide (Ca.1=k))=true then AD.map (λCa=>if Ca.1=k then(Ca.1,v)else Ca)else AD++[(k,v)]
noncomputable def Mn(AD:↑(Bp×V))(k:Bp):↑(Bp×V):=AD.filter λCa=>decide (Ca.1≠k)
def agL{k:Bp}:HG ([]:↑(Bp×V)) k=none:=rfl
def WT{p:Bp×V}{r:↑(Bp×V)}{k:Bp}(e:p.1=k):HG (p::r) k=↥p.2:=by simp[HG,Qa,e]
def WS{p:Bp×V}{r:↑(Bp×V)}{k:Bp}(e:¬p.1=k):HG (p::r) k=HG r k:=by simp[HG,Qa,e]
theorem qc(k:Bp):∀AD:↑(Bp×V),(AD.any λCa=>decide (Ca.1=k))=(HG AD k).isSome
 |[]=>rfl
 |p::r=>by
  rw[gK];by_cases e:p.1=k
  .erw[WT e,decide_eq_true e,Bool.true_or,sF]
  .rw[WS e,decide_eq_false e,gL];exact qc k r
def kQ(AD:↑(Bp×V))(k:Bp)(v:V):⇑(putK AD k v)<=⇑AD+1:=by
 unfold putK
 split
 .rw[Cd];lia
 .rw[EL,FF,JB];lia
def I4.TH{o:Option V}{u:Option A8}(r:I4 o u):o.isSome=u.isSome:=by
 cases o with
 |none=>cases u with
  |none=>rfl
  |some _=>exact(show False from r).elim
 |some _=>cases u with
  |none=>exact(show False from r).elim
  |some _=>rfl
theorem I4.getD{o:Option V}{u:Option A8}{d:V}{d':A8}(r:I4 o u)(ew:RelV d d'):RelV (o.getD d) (u.getD d'):=by
 cases o with
 |none=>cases u with
  |none=>exact ew
  |some _=>exact(show False from r).elim
 |some _=>cases u with
  |none=>exact(show False from r).elim
  |some _=>exact r
def Fn.val{AD:↑(Bp×V)}{vs:↑(Bp×A8)}(r:Fn AD vs)(k:Bp):I4 (HG AD k) (PU vs k):=by
 unfold Fn at r;induction r with
 |nil=>exact Io
 | @cons p q ps IT h t CC=>
   obtain⟨h1,h2⟩:=h;by_cases e:p.1=k
   .have Bg:q.1=k:=h1.symm.trans e;have b:PU (q::IT) k=↥q.2:=by simp[PU,Qa,Bg]
    rw[WT e,b];exact h2
   .have Bg:¬q.1=k:=λz=>e (h1.trans z);have b:PU (q::IT) k=PU IT k:=by simp[PU,Qa,Bg]
    rw[WS e,b];exact CC
theorem Fn.any{AD:↑(Bp×V)}{vs:↑(Bp×A8)}(r:Fn AD vs)(k:Bp):(AD.any λCa=>decide (Ca.1=k))=vs.any λCa=>decide (Ca.1=k):=by
 unfold Fn at r;induction r with
 |nil=>rfl
 |cons h t CC=>rw[gK,gK,CC,h.1]
def Fn.ez{AD:↑(Bp×V)}{vs:↑(Bp×A8)}(r:Fn AD vs)(k:Bp){y:V}{u:A8}(Bn:RelV y u) :
  Fn (AD.map λCa=>if Ca.1=k then(Ca.1,y)else Ca) (vs.map λCa=>if Ca.1=k then(Ca.1,u)else Ca):=by
 unfold Fn at r |-;induction r with
 |nil=>exact .nil
 | @cons p q ps IT h t CC=>
   rw[EM,EM];refine .cons ?_ CC;obtain⟨h1,h2⟩:=h;by_cases e:p.1=k
   .rw[if_pos e,if_pos (h1.symm.trans e)];exact⟨h1,Bn⟩
   .rw[if_neg e,if_neg (λz=>e (h1.trans z))];exact⟨h1,h2⟩
def Fn.put{AD:↑(Bp×V)}{vs:↑(Bp×A8)}(r:Fn AD vs)(k:Bp){y:V}{u:A8}(Bn:RelV y u):Fn (putK AD k y) (stored vs k u):=by
 unfold putK stored;rw[r.any k];by_cases e:(vs.any λCa=>decide (Ca.1=k))=true
 .rw[if_pos e,if_pos e];exact r.ez k Bn
 .rw[if_neg e,if_neg e];exact Paired.snoc r ⟨rfl,Bn⟩
def Fn.drop{AD:↑(Bp×V)}{vs:↑(Bp×A8)}(r:Fn AD vs)(k:Bp):Fn (Mn AD k) (without vs k):=by
 unfold Fn at r |-;unfold Mn without;induction r with
 |nil=>exact .nil
 | @cons p q ps IT h t CC=>
   obtain⟨h1,h2⟩:=h;rw[Q_,Q_];by_cases e:p.1=k
   .have a:¬decide (p.1≠k)=true:=by simp[e]
    have b:¬decide (q.1≠k)=true:=by simp[h1.symm.trans e]
    rw[if_neg a,if_neg b];exact CC
   .have Bg:¬q.1=k:=λz=>e (h1.trans z);have a:decide (p.1≠k)=true:=by simp[e]
    have b:decide (q.1≠k)=true:=by simp[Bg]
    rw[if_pos a,if_pos b];exact .cons ⟨h1,h2⟩ CC
theorem Fn.length{AD:↑(Bp×V)}{vs:↑(Bp×A8)}(r:Fn AD vs):⇑AD=⇑vs:=Paired.length r
def iE(AD:↑(Bp×V))(k:Bp):⇑(Mn AD k)<=⇑AD:=XF _ _
end
def Q3{P:CD}{w:Bq}{k:Key}{u:A8}(r:RelV (D0 k) u):(HA P w).is k u=true:=by
 cases k with
 |inl i=>obtain⟨t,e⟩:=(show ∃t,u=Sk i t from r);subst e;exact abJ P w i t
 |inr x=>obtain⟨t,e⟩:=(show ∃t,u=Sl x t from r);subst e;exact aaY P w x t
theorem kd{P:CD}{w:Bq}:∀{AZ:↑Key}{us:↑A8},Vals (AZ.map D0) us->ItemsAre (HA P w) AZ us
 |[],_,r=>by rw[LP]at r;cases r;exact .nil
 |k::AZ,_,r=>by
  rw[EM]at r;cases r with
  |cons h t=>exact .cons (Q3 h) (kd t)
abbrev KT(H:AE):↑(Ex×V)->↑(Ex×A6×A8)->Prop:=Paired λp q=>p.1=q.1/\OO H p.1 q.2.1/\RelV p.2 q.2.2
def KT.val{H:AE}{AD:↑(Ex×V)}{xs:↑(Ex×A6×A8)}(r:KT H AD xs)(k:Ex):I4 (HG AD k) ((atKey xs k).map (·.2)):=by
 induction r with
 |nil=>exact Io
 | @cons p q ps IT h t CC=>
   obtain⟨h1,_,h2⟩:=h;by_cases e:p.1=k
   .have Bg:q.1=k:=h1.symm.trans e;have b:atKey (q::IT) k=↥q.2:=by simp[atKey,Qa,Bg]
    rw[WT e,b];exact h2
   .have Bg:¬q.1=k:=λz=>e (h1.trans z);have b:atKey (q::IT) k=atKey IT k:=by simp[atKey,Qa,Bg]
    rw[WS e,b];exact CC
def KT.ez{H:AE}{AD:↑(Ex×V)}{xs:↑(Ex×A6×A8)}(r:KT H AD xs)(k:Ex){y:V}{u:A8}(Bn:RelV y u) :
  KT H (AD.map λCa=>if Ca.1=k then(Ca.1,y)else Ca) (xs.map (putAt k u)):=by
 induction r with
 |nil=>exact .nil
 | @cons p q ps IT h t CC=>
   rw[EM,EM];refine .cons ?_ CC;obtain⟨h1,h2,BF⟩:=h;unfold putAt;by_cases e:p.1=k
   .rw[if_pos e,if_pos (h1.symm.trans e)];exact⟨h1,h2,Bn⟩
   .rw[if_neg e,if_neg (λz=>e (h1.trans z))];exact⟨h1,h2,BF⟩
def KT.put{H:AE}{AD:↑(Ex×V)}{xs:↑(Ex×A6×A8)}(r:KT H AD xs)(k:Ex){b:A6}{y:V}{u:A8}(A4:OO H k b)(Bn:RelV y u) :
  KT H (putK AD k y) (storedH xs k b u):=by
 have e:(AD.any λCa=>decide (Ca.1=k))=(atKey xs k).isSome:=by rw[qc,(r.val k).TH,fY]
 unfold putK storedH;rw[e];by_cases q:(atKey xs k).isSome=true
 .rw[if_pos q,if_pos q];exact r.ez k Bn
 .rw[if_neg q,if_neg q];exact Paired.snoc r ⟨rfl,A4,Bn⟩
def KT.keeps{H AC:AE}{AD:↑(Ex×V)}{xs:↑(Ex×A6×A8)}(r:KT H AD xs)(BY:∀b ys,H b=↥(.tup ys)->AC b=↥(.tup ys)):KT AC AD xs:=
 Paired.dO r λ_ _ z=>⟨z.1,BY _ _ z.2.1,z.2.2⟩
section
variable{P:CD}{w:Bq}{K:Ao}{H:AE}{h:BG}{a:A6}
def mV{u:Ev}(ok:Ew P w H h)(e:KR H a u):EJ P w H h a u:=e.ok ok
def P5{AD:↑(Key×V)}(ok:Ew P w H h)(e:KR H a (.BM AD)):⇑AD<=CU/\(a==LM)=false/\∃vs,Fn AD vs/\h.DictOf (HA P w) a vs:=
 show EJ P w H h a (.BM AD)from mV ok e
def RD{AD:↑(Key×V)}(ok:Ew P w H h)(e:H a=↥(.BM AD)):⇑AD<=CU/\(a==LM)=false/\∃vs,Fn AD vs/\h.DictOf (HA P w) a vs:=P5 ok (.inl e)
def SA{AZ:↑Key}(ok:Ew P w H h)(e:H a=↥(.tup (AZ.map D0))):(tupleKind (HA P w)).is h AZ a:=by obtain⟨_,its,r,o,h1,h2,n,BF⟩:=(show EJ P w H h a (.tup (AZ.map D0))from ok a _ e);exact⟨o,its.toArray,n,h1,h2,BF,(kd r:)⟩
def RF{AD:↑(Ex×V)}(ok:Ew P w H h)(e:KR H a (.ED AD)):⇑AD<=CU/\(a==LM)=false/\
  ∃xs,KT H AD xs/\h.DictOfH (tupleKind (HA P w)) a xs:=by
 obtain⟨z,y,xs,r,o,es,B9,h1,h2,BF,Cp,Es⟩:=(show EJ P w H h a (.ED AD)from mV ok e);refine⟨z,y,xs,r,o,es,B9,h1,h2,BF,Cp,λx AM=>?_,Es⟩;have all:∀{l:↑(Ex×V)}{m:↑(Ex×A6×A8)},KT H l m->∀x∈m,O7 (HA P w) h x.1 x.2.1:=by
  intro l m q;induction q with
  |nil=>intro x AM;exact nomatch AM
  | @cons p q ps IT Ac t CC=>
    intro x AM;rcases List.mem_cons.mp AM with e|AM
    .subst e;exact SA ok (by rw[<-Ac.1];exact Ac.2.1)
    .exact CC x AM
 exact all r x AM
end
def JM(H:AE)(a:A6)(y:V)(r:Option V):Prop:=
 (∃AD k,KR H a (.BM AD)/\y=D0 k/\r=HG AD k)\/∃AD k b,KR H a (.ED AD)/\y=.ref b/\OO H k b/\r=HG AD k
def Q9(H:AE)(a:A6)(y v:V)(AC:AE):Prop:=
 (∃AD k,H a=↥(.BM AD)/\y=D0 k/\ ⇑AD<CU/\AC=upd H a (.BM (putK AD k v)))\/
 ∃AD k b,H a=↥(.ED AD)/\y=.ref b/\OO H k b/\ ⇑AD<CU/\AC=upd H a (.ED (putK AD k v))
theorem JM.k{H:AE}{a:A6}{AD:↑(Key×V)}{k:Key}(e:H a=↥(.BM AD)):JM H a (D0 k) (HG AD k):=.inl ⟨AD,k,.inl e,rfl,rfl⟩
def JM.t{H:AE}{a b:A6}{AD:↑(Ex×V)}{k:Ex}(e:H a=↥(.ED AD))(B4:OO H k b):JM H a (.ref b) (HG AD k):=.inr ⟨AD,k,b,.inl e,rfl,B4,rfl⟩
theorem Q9.k{H:AE}{a:A6}{AD:↑(Key×V)}{k:Key}{v:V}(e:H a=↥(.BM AD))(AI:⇑AD<CU):Q9 H a (D0 k) v (upd H a (.BM (putK AD k v))):=.inl ⟨AD,k,e,rfl,AI,rfl⟩
def Q9.t{H:AE}{a b:A6}{AD:↑(Ex×V)}{k:Ex}{v:V}(e:H a=↥(.ED AD))(B4:OO H k b)(AI:⇑AD<CU) :
  Q9 H a (.ref b) v (upd H a (.ED (putK AD k v))):=.inr ⟨AD,k,b,e,rfl,B4,AI,rfl⟩
section
variable{X:Aw}{A3:μ}{σ :St}{H:AE}{s:AR}{a:A6}{y v:V}{u r:A8}{o:Option V}{A:D3}{E:A8->AR->Prop}
def Inv.big(A0:θ):LM<s.heap.objs.size:=by have h:FQ<s.heap.objs.size:=(A0.mod.glob.keeps A0.Bv).lt;exact gF ε h
def i5{Q:A8->AR->Prop}(BS:A.units+16<Dr)(A0:θ)(g:JM H a y ↥v)(Bn:RelV y u)(h:∀Cf s',Inv X A3 σ H s'->RelV v Cf->Q Cf s') :
  Av ξ A (PT (.ref a) u) Q E s:=by
 rcases g with⟨AD,k,e,Dv,l⟩|⟨AD,k,b,e,Dv,B4,l⟩
 .subst Dv;obtain⟨z,hd,vs,rel,dd⟩:=P5 A0.BB e;obtain⟨Cf,hw,Ge⟩:=I4.some_of (v:=v) (o:=PU vs k) (by rw[l];exact rel.val k);exact wpAny_getItem_of (Q3 Bn) dd.mapOf hw (h Cf _ (A0.tok _) Ge)
 .subst Dv;cases(show u=DB b from Bn);obtain⟨z,hd,xs,rel,dd⟩:=RF A0.BB e;obtain⟨Cf,hw,Ge⟩:=I4.some_of (v:=v) (o:=(atKey xs k).map (·.2)) (by rw[l];exact rel.val k);obtain⟨p,AX,TD⟩:=Option.map_eq_some_iff.mp hw;refine wpAny_getItem_heap (Ub (Qc (UY (by decide:1<=16) _) BS)) (SA A0.BB B4) dd AX ?_;rw[TD];exact h Cf _ (A0.tok _) Ge
def tX{Q:A8->AR->Prop}(BS:A.units+16<Dr)(A0:θ)(g:JM H a y o)(Bn:RelV y u)(h:∀s',Inv X A3 σ H s'->Q (.bool o.isSome) s') :
  Av ξ A (G0 .In u (.ref a)) Q E s:=by
 rcases g with⟨AD,k,e,Dv,l⟩|⟨AD,k,b,e,Dv,B4,l⟩
 .subst Dv;obtain⟨z,hd,vs,rel,dd⟩:=P5 A0.BB e;refine wpAny_in_of (Q3 Bn) hd dd.mapOf ?_;rw[<-(rel.val k).TH,<-l];exact h _ (A0.tok _)
 .subst Dv;cases(show u=DB b from Bn);obtain⟨z,hd,xs,rel,dd⟩:=RF A0.BB e;refine wpAny_in_heap (Ub (Qc (UY (by decide:1<=16) _) BS)) (SA A0.BB B4) hd dd ?_;have q:=(rel.val k).TH;rw[fY]at q;rw[<-q,<-l];exact h _ (A0.tok _)
def tY{Q:A8->AR->Prop}(BS:A.units+16<Dr)(A0:θ)(g:JM H a y o)(Bn:RelV y u)(h:∀s',Inv X A3 σ H s'->Q (.bool (!o.isSome)) s') :
  Av ξ A (G0 .NotIn u (.ref a)) Q E s:=by
 rcases g with⟨AD,k,e,Dv,l⟩|⟨AD,k,b,e,Dv,B4,l⟩
 .subst Dv;obtain⟨z,hd,vs,rel,dd⟩:=P5 A0.BB e;refine wpAny_notIn_of (Q3 Bn) hd dd.mapOf ?_;rw[<-(rel.val k).TH,<-l];exact h _ (A0.tok _)
 .subst Dv;cases(show u=DB b from Bn);obtain⟨z,hd,xs,rel,dd⟩:=RF A0.BB e;refine wpAny_notIn_heap (Ub (Qc (UY (by decide:1<=16) _) BS)) (SA A0.BB B4) hd dd ?_;have q:=(rel.val k).TH;rw[fY]at q;rw[<-q,<-l];exact h _ (A0.tok _)
def ZC{h':BG}{t':Nat}{BQ:Ev}(A0:θ)(Ii:V3 (H a))(AS:Kp a s.heap h')(he:∃q,h'.get? a=↥q)(new:EJ X.prog X.w (upd H a BQ) h' a BQ) :
  Inv X A3 σ (upd H a BQ) { s with heap:=h',toks:=t' }:=
 A0.write (x:=a) (e:=a) Ii (.inl rfl) (λb q A4 z=>(AS.2 b A4).trans z) he new
def bD{P:CD}{w:Bq}{AC:AE}{h':BG}{AD:↑(Key×V)}{vs:↑(Key×A8)}(z:⇑AD<=CU)(hd:(a==LM)=false)(rel:Fn AD vs)(dd:h'.DictOf (HA P w) a vs) :
  EJ P w AC h' a (.BM AD):=⟨z,hd,vs,rel,dd⟩
def t_{AC:AE}{Q:Unit->AR->Prop}(BS:A.units+16<Dr)(A0:θ)(g:Q9 H a y v AC)(Bn:RelV y u)(C1:RelV v r)(h:∀s',Inv X A3 σ AC s'->Q () s') :
  Av ξ A (setItem (.ref a) u r) Q E s:=by
 rcases g with⟨AD,k,e,Dv,l,B_⟩|⟨AD,k,b,e,Dv,B4,l,B_⟩
 .subst Dv B_;obtain⟨z,hd,vs,rel,dd⟩:=RD A0.BB e;have hz:⇑vs<=CU:=by rw[<- ⇑rel];exact z
  have AI:⇑(putK AD k v)<=CU:=by have:=kQ AD k v;lia
  refine wpAny_setItem_pairs (hsz:=hz) (Q3 Bn) dd λh' NI AS=>h _ ?_;have he:∃q,h'.get? a=↥q:=let⟨q,_,_,Ac,_⟩:=NI;⟨q,Ac⟩
  exact ZC A0 (by rw[e];exact Io) AS he (bD AI hd (rel.put k C1) NI)
 .subst Dv B_;cases(show u=DB b from Bn);obtain⟨z,hd,xs,rel,dd⟩:=RF A0.BB (.inl e);have hz:⇑xs<=CU:=by rw[<-Paired.length rel];exact z
  have AI:⇑(putK AD k v)<=CU:=by have:=kQ AD k v;lia
  refine wpAny_setItem_heap (hsz:=hz) (Ub (Qc (UY (by decide:1<=16) _) BS)) (SA A0.BB B4) dd λh' NI AS=>h _ ?_;obtain⟨q,es,B9,Ac,h2,BF,Cp,_,Es⟩:=NI;refine ZC A0 (by rw[e];exact Io) AS ⟨q,Ac⟩ ⟨AI,hd,_,(rel.put k B4 C1).keeps λc ys ec=>?_,q,es,B9,Ac,h2,BF,Cp,Es⟩;rw[DK (aaR ec e (λz=>nomatch z))];exact ec
end
section
variable{X:Aw}{A3:μ}{σ :St}{H:AE}{s:AR}{a:A6}{AD:↑(Key×V)}{k:Key}{u:A8}{A:D3}{E:A8->AR->Prop}
def aiz{Q:Unit->AR->Prop}(A0:θ)(e:H a=↥(.BM AD))(Bn:RelV (D0 k) u)(l:(HG AD k).isSome=true)(h:∀s',Inv X A3 σ (upd H a (.BM (Mn AD k))) s'->Q () s') :
  Av ξ A (delItem (.ref a) u) Q E s:=by
 obtain⟨z,hd,vs,rel,dd⟩:=RD A0.BB e
 refine wpAny_delItem_slot dd.typeIs ε rY
  (Uh rY dd.typeIs PySem.F.entry_dict_delitem (PySem.F.args_dict_delitem_2 _ _) (meets_dict_delitem_pairs (HA X.prog X.w) a (Q3 Bn)) ⟨vs,dd,by rw[<- ⇑rel];exact z,by rw[<-(rel.val k).TH];exact l,λh' NI AS=>h _ ?_⟩)
 have he:∃q,h'.get? a=↥q:=let⟨q,_,_,Ac,_⟩:=NI;⟨q,Ac⟩
 exact ZC A0 (by rw[e];exact Io) AS he (bD (Gm (iE AD k) z) hd (rel.drop k) NI)
def tZ{v:V}{more:↑A8}{Q:A8->AR->Prop}(A0:θ)(e:H a=↥(.BM AD))(Bn:RelV (D0 k) u)(l:HG AD k=↥v)(hm:more=[]\/∃x,more=[x])(h:∀Cf s',Inv X A3 σ (upd H a (.BM (Mn AD k))) s'->RelV v Cf->Q Cf s'):Av ξ A (call (.builtin "dict.pop") (.ref a::u::more)) Q E s:=by
 obtain⟨z,hd,vs,rel,dd⟩:=RD A0.BB e;obtain⟨Cf,hw,Ge⟩:=I4.some_of (v:=v) (o:=PU vs k) (by rw[<-l];exact rel.val k);have AX:(keyPart u).isSome=true:=by
  cases k with
  |inl i=>obtain⟨t,q⟩:=(show ∃t,u=Sk i t from Bn);subst q;rfl
  |inr x=>obtain⟨t,q⟩:=(show ∃t,u=Sl x t from Bn);subst q;rfl
 have AF:argsOk "dict.pop" ⟨.ref a::u::more,[]⟩:=by
  rcases hm with q|⟨x,q⟩
  .subst q;exact PySem.F.args_dict_pop_2 _ _
  .subst q;exact PySem.F.args_dict_pop_3 _ _ _
 refine Uh rg dd.typeIs PySem.F.entry_dict_pop AF (meets_dict_pop_there (HA X.prog X.w) a (Q3 Bn) more hm AX)
  ⟨vs,Cf,dd,by rw[<- ⇑rel];exact z,hw,λh' NI AS=>h Cf _ ?_ Ge⟩
 have he:∃q,h'.get? a=↥q:=let⟨q,_,_,Ac,_⟩:=NI;⟨q,Ac⟩
 exact ZC A0 (by rw[e];exact Io) AS he (bD (Gm (iE AD k) z) hd (rel.drop k) NI)
end
def gm(i:Au):Prop:=∀Cq HT,XU i false Cq HT=operate [Cq,HT] (PT Cq HT)
def ael{prog:CD}{w:Bq}{A:D3}{E:A8->AR->Prop}{s:AR}{env:Env}{value slice:Au}{pos:Pos}{T id:String}{Q:A8->AR->Prop}(AI:typeLookup (.type T) "__getitem__"=pure ↥(.builtin id))(AS:gm slice)(h:Av Θ A (Bd value env) (λo Cy=>Av Θ A (Bd slice env) (λi JI=>JI.TypeIs o T/\Av Θ A (PT o i) Q E JI) E Cy) E s) :
  Av Θ A (Bd (.Subscript value slice pos) env) Q E s:=by
 refine Subscript_ (Im h (λo Cy Nw=>Im Nw (λi JI OZ=>?_) λ_ _ x=>x) λ_ _ x=>x);obtain⟨D4,OZ⟩:=OZ;unfold subscriptTail;refine Ah ?_;rw[getitemInPython_of_ne D4.not_modules];refine Ah (wpAny_specialOf D4 AI ?_);have fin:Av Θ A (XU slice false o i) (λr QQ=>Av Θ A (letTemporaryGo value o r>>=λ_=>pure r) Q E QQ) E JI:=by rw[AS o i];exact wpAny_operating (Im OZ (λr QQ O_=>Ah (wpAny_letTemporaryGo (Bk O_))) λ_ _ x=>x)
 first
  |exact Bk (Ah fin)
  |exact Ah (Bk (Ah fin))
  |exact Ah fin
def i8{X:Aw}{A3:μ}{σ :St}{H:AE}{s:AR}{a:A6}{y:V}{o:Option V}(A0:θ)(g:JM H a y o):s.TypeIs (.ref a) "dict":=by
 rcases g with⟨AD,k,e,_,_⟩|⟨AD,k,b,e,_,_,_⟩
 .obtain⟨_,_,vs,_,dd⟩:=P5 A0.BB e;exact dd.typeIs
 .obtain⟨_,_,xs,_,dd⟩:=RF A0.BB e;exact dd.typeIs
noncomputable def pj(Hu ty:TE):TE:=λσ H Q=>Hu σ H λx H1=>ty σ H1 λy AH=>∃a v,x=.ref a/\JM AH a y ↥v/\Q v AH
noncomputable def m7(Hu ty OW:TE):FS:=λD σ H=>OW σ H λv H1=>Hu σ H1 λx AH=>ty σ AH λy BP=>∃a DX,x=.ref a/\Q9 BP a y v DX/\D.AP σ DX
section
variable{X:Aw}{o i e value:Au}{pos pos' WO:Pos}{Hu ty OW:TE}
def adF(BS:X.A.units+16<Dr)(ho:Aj X o Hu)(AA:Aj X i ty)(AS:gm i):Aj X (.Subscript o i pos) (pj Hu ty):=by intro A3 s σ H Q A0 h;refine ael PySem.F.slot_dict_getitem.lookup AS (Ba (ho A3 s σ H _ A0 h) λu s1⟨x,H1,Ai,Ax,Aq⟩=>Ba (AA A3 s1 σ H1 _ Ai Aq) λHT s2⟨y,AH,Bz,Bn,a,v,ex,g,BV⟩=>?_);subst ex;obtain rfl:u=DB a:=Ax;exact⟨i8 Bz g,i5 BS Bz g Bn λCf s3 Da Ge=>⟨v,AH,Da,Ge,BV⟩⟩
def adz(BS:X.A.units+16<Dr)(ho:Aj X o Hu)(AA:Aj X i ty)(CL:Aj X value OW)(AS:PS value ↥(.Subscript o i pos') pos.line X.env=pure false) :
  Dn X (.Assign [.Subscript o i pos'] value pos) (m7 Hu ty OW):=by
 intro A3 s σ H D A0 h;refine wpAny_Assign_Subscript (Ba (CL A3 s σ H _ A0 h) λr s1⟨v,H1,Ai,C1,Aq⟩=>Ba (ho A3 s1 σ H1 _ Ai Aq) λu s2⟨x,AH,Bz,Ax,BV⟩=>Ba (AA A3 s2 σ AH _ Bz BV) λHT s3⟨y,BP,Da,Bn,a,DX,ex,g,Do⟩=>?_) AS;subst ex;obtain rfl:u=DB a:=Ax;exact t_ BS Da g Bn C1 λs4 M9=>⟨σ,DX,M9,Do⟩
end
def vB{P:CD}{w:Bq}{H:AE}(h:BG)(A4:LM<h.objs.size):EJ P w H (h.push { cls:=.type "dict",data:=.dict #[] }) h.objs.size (.BM []):=
 ⟨IM _,beq_eq_false_iff_ne.mpr (K6 (FG A4)),[],.nil,Heap.DictOf.new h⟩
def vL{P:CD}{w:Bq}{H:AE}(h:BG)(A4:LM<h.objs.size):EJ P w H (h.push { cls:=.type "dict",data:=.dict #[] }) h.objs.size (.ED []):=
 ⟨IM _,beq_eq_false_iff_ne.mpr (K6 (FG A4)),[],.nil,_,#[],0,GG _ rfl,⟨rfl,rfl,rfl⟩,rfl,rfl,Qk⟩
def eU:TE:=λ_ H Q=>∀p,H p=none->Q (.ref p) (upd H p (.BM []))
def pq:TE:=λ_ H Q=>∀p,H p=none->Q (.ref p) (upd H p (.ED []))
section
variable{X:Aw}{pos:Pos}
def W9:Aj X (.Dict [] [] pos) eU:=λA3 s σ H Q A0 h=>
 wpAny_Dict_empty ⟨.ref s.heap.objs.size,_,A0.laid (a:=s.heap.objs.size) (o:=.BM []) (t':=s.toks) (λ_ _ q=>Dm _ q) (CB _) (vB s.heap A0.big),rfl,h _ (A0.BB.fresh (CB _))⟩
def adH:Aj X (.Dict [] [] pos) pq:=λA3 s σ H Q A0 h=>
 wpAny_Dict_empty ⟨.ref s.heap.objs.size,_,A0.laid (a:=s.heap.objs.size) (o:=.ED []) (t':=s.toks) (λ_ _ q=>Dm _ q) (CB _) (vL s.heap A0.big),rfl,h _ (A0.BB.fresh (CB _))⟩
end
structure N5(X:Aw)(o:Au)(m:Str)(apos:Pos)(e:Au)(Cv:Pos):Prop where
 base:Ko o m X.env (Bd o X.env)=Bd o X.env
 few:((Fh Cv (CM [e] X.env)).all (λx=>!x.1)&&(LQ Cv (LO [] X.env)).all (λx=>x.1.isSome)
  &&decide (⇑([e]:↑Au)+⇑([]:↑Kr)+(if([]:↑Kr).isEmpty then 0 else 1)<30))=true
 line:(apos.endLine==Cv.line)=true
 trees:Fh Cv (CM [e] X.env)=[(false,Bd e X.env)]
structure M2(X:Aw)(o:Au)(m:Str)(apos:Pos)(e f:Au)(Cv:Pos):Prop where
 base:Ko o m X.env (Bd o X.env)=Bd o X.env
 few:((Fh Cv (CM [e,f] X.env)).all (λx=>!x.1)&&(LQ Cv (LO [] X.env)).all (λx=>x.1.isSome)
  &&decide (⇑([e,f]:↑Au)+⇑([]:↑Kr)+(if([]:↑Kr).isEmpty then 0 else 1)<30))=true
 line:(apos.endLine==Cv.line)=true
 trees:Fh Cv (CM [e,f] X.env)=[(false,Bd e X.env),(false,Bd f X.env)]
def YH(H:AE)(a:A6):Prop:=(∃AD,KR H a (.BM AD))\/∃AD,KR H a (.ED AD)
def c5{X:Aw}{A3:μ}{σ :St}{H:AE}{s:AR}{a:A6}(A0:θ)(d:YH H a) :
  s.TypeIs (.ref a) "dict"/\(∀b,DB a=.ref b->∃BQ,s.heap.get? b=↥BQ/\BQ.dict=none)/\(a==LM)=false:=by
 rcases d with⟨AD,e⟩|⟨AD,e⟩
 .obtain⟨_,hd,vs,_,dd⟩:=P5 A0.BB e;refine⟨dd.typeIs,λb q=>?_,hd⟩;cases q;obtain⟨BQ,_,_,h1,h2,_⟩:=dd;exact⟨BQ,h1,h2.2.1⟩
 .obtain⟨_,hd,xs,_,dd⟩:=RF A0.BB e;refine⟨dd.typeIs,λb q=>?_,hd⟩;cases q;obtain⟨BQ,_,_,h1,h2,_⟩:=dd;exact⟨BQ,h1,h2.2.1⟩
section
variable{X:Aw}{A3:μ}{σ :St}{H:AE}{s:AR}{a:A6}{y d:V}{u r:A8}{o:Option V}{A:D3}{E:A8->AR->Prop}
def tW{Q:A8->AR->Prop}(BS:A.units+16<Dr)(A0:θ)(g:JM H a y o)(Bn:RelV y u)(h:∀Cf s',Inv X A3 σ H s'->RelV (o.getD .non) Cf->Q Cf s') :
  Av ξ A (call (.builtin "dict.get") [.ref a,u]) Q E s:=by
 rcases g with⟨AD,k,e,Dv,l⟩|⟨AD,k,b,e,Dv,B4,l⟩
 .subst Dv;obtain⟨z,hd,vs,rel,dd⟩:=P5 A0.BB e;refine Uh fj dd.typeIs sA (ry _ _) (meets_dict_get (HA X.prog X.w) a (Q3 Bn) hd) ⟨_,dd.mapOf,h _ _ (A0.tok _) ?_⟩;rw[l];exact(rel.val k).getD rfl
 .subst Dv;cases(show u=DB b from Bn);obtain⟨z,hd,xs,rel,dd⟩:=RF A0.BB e;refine Uh fj dd.typeIs sA (ry _ _) (meetsH_dict_get (tupleKind (HA X.prog X.w)) a b hd) ⟨Ub (Qc (UY (by decide:1<=16) _) BS),k,xs,SA A0.BB B4,dd,h _ _ (A0.tok _) ?_⟩;rw[l];exact(rel.val k).getD rfl
end
noncomputable def pk(Hu ty:TE):TE:=λσ H Q=>Hu σ H λx H1=>∃a,x=.ref a/\YH H1 a/\ty σ H1 λy AH=>∃o,JM AH a y o/\Q (o.getD .non) AH
def pv(Hu ty:TE):TE:=λσ H Q=>Hu σ H λx H1=>∃a,x=.ref a/\YH H1 a/\ty σ H1 λy AH=>∃AD k v,AH a=↥(.BM AD)/\y=D0 k/\HG AD k=↥v/\Q v (upd AH a (.BM (Mn AD k)))
section
variable{X:Aw}{o e f:Au}{apos Cv:Pos}{Hu ty ajr:TE}
def adG(BS:X.A.units+16<Dr)(ho:Aj X o Hu)(he:Aj X e ty)(m:N5 X o "get" apos e Cv):Aj X (.Call (.Attribute o "get" apos) [e] [] Cv) (pk Hu ty):=by intro A3 s σ H Q A0 h;refine fZ m.base m.few m.line fU fj PySem.F.type_dict_get (Ba (ho A3 s σ H _ A0 h) λu s1⟨x,H1,Ai,Ax,a,ex,d,Aq⟩=>?_);subst ex;obtain rfl:u=DB a:=Ax;obtain⟨t1,Cn,_⟩:=c5 Ai d;refine⟨t1,Cn,?_⟩;rw[m.trees];refine UR rfl (X8 (U_ (Ba (he A3 s1 σ H1 _ Ai Aq) λHT s2⟨y,AH,Bz,Bn,Cq,g,BV⟩=>Ue ?_)));exact tW BS Bz g Bn λCf s3 Da Ge=>⟨_,AH,Da,Ge,BV⟩
def adI(ho:Aj X o Hu)(he:Aj X e ty)(m:N5 X o "pop" apos e Cv):Aj X (.Call (.Attribute o "pop" apos) [e] [] Cv) (pv Hu ty):=by intro A3 s σ H Q A0 h;refine fZ m.base m.few m.line fU rg PySem.F.type_dict_pop (Ba (ho A3 s σ H _ A0 h) λu s1⟨x,H1,Ai,Ax,a,ex,d,Aq⟩=>?_);subst ex;obtain rfl:u=DB a:=Ax;obtain⟨t1,Cn,_⟩:=c5 Ai d;refine⟨t1,Cn,?_⟩;rw[m.trees];refine UR rfl (X8 (U_ (Ba (he A3 s1 σ H1 _ Ai Aq) λHT s2⟨y,AH,Bz,Bn,AD,k,v,BX,Dv,l,BV⟩=>Ue ?_)));subst Dv;exact tZ Bz BX Bn l (.inl rfl) λCf s3 Da Ge=>⟨v,_,Da,Ge,BV⟩
end
section
variable{X:Aw}{A3:μ}{σ :St}{H:AE}{s:AR}{a:A6}{AD:↑(Key×V)}{A:D3}{E:A8->AR->Prop}
end
section
variable{X:Aw}{A3:μ}{σ :St}{H:AE}{s:AR}{a:A6}{y:V}{u:A8}{A:D3}{E:A8->AR->Prop}
end
end BN
namespace ha
open PySem PySem.W PySem.Calls PyProof.Rows
def yY{P:Params}{h:BG}:∀(ns:↑Int)(vs:↑A8),WellAll P h vs (ns.map WData.int)->IntsAre vs ns:=by
 intro ns;induction ns with
 |nil=>intro vs w;rw[LP]at w;cases w;exact .nil
 |cons n ns CC=>
  intro vs w;rw[EM]at w;cases w with
  |cons a b=>cases a;exact .cons _ _ (CC _ b)
def af5{l:OpenLaw}{n:Nat}(Ae:l.most=↥n){P:Params}{h:BG}{args:↑WData}{vals:↑A8}(Yn:l.row.toRowW.claim.pre args=true)(cR:WellAll P h vals args) :
  ∃a vs ns,vals=[DB a]/\args=[WData.list (ns.map WData.int)]/\h.get? a=some { cls:=.type "list",data:=.seq vs.toArray }/\IntsAre vs ns/\ ⇑ns<=n:=by
 have yB:WShape.hasAll [] args [.list .int]=true:=(pre_splitW Yn).1;have AK:l.pre.holds [] { args:=args }=true:=(pre_splitW Yn).2;obtain⟨d,r,rfl,h1,h2⟩:=hasAllW_cons yB;obtain rfl:=hasAllW_nil h2;obtain⟨xs,rfl,BF⟩:=hasW_list h1;obtain⟨ns,rfl⟩:=items_int BF;have hlen:⇑ns<=n:=by
  unfold OpenLaw.pre at AK;have Cp:(WTm.not (.lt (.lit (.int (n:Int))) (.len (.arg 0)))).holds [] { args:=[.list (ns.map .int)] }=true:=by have Cp:=(holds_andW AK).1;rw[Ae]at Cp;exact Cp
  have Es:=condW_of Cp (w_not (w_lt w_lit (w_len_list (w_arg rfl))));rw[Cd]at Es;refine Nat.le_of_not_lt λq=>?_;have DZ:(n:Int)<((⇑ns:Nat):Int):=δ
  first
   |(rw[decide_eq_true DZ]at Es;exact absurd Es ε)
   |(simp at Es;lia)
 cases cR with
 |cons FW G3=>
  cases G3;cases FW with
  |list ho d2=>exact⟨_,_,ns,rfl,rfl,ho,yY ns _ d2,hlen⟩
def acR(l:OpenLaw)(args:↑WData):l.row.toRowW.claim.post args (.bool true) args=true:=
 postW_of (r:=l.row.toRowW) (X:=(true==true))
  (show WShape.has [] (.bool true) .bool=true by first|rfl|decide|simp[WShape.has,WShape.arms,WShape.armsAll])
  (show(WTm.eq .res (.lit (.bool true))).value [] { args:=args,res:=↥(.bool true),after:=args }=↥(.bool (true==true))from w_eq_bool (w_res rfl) w_lit) rfl
def t2 {l:OpenLaw} {n:Nat} {q:CD} {loose:↑Str} {L3:(Str->Option A8)->BG->Prop} {Mi:Bq->BG->Prop} {d:DefRec}(Ae:l.most=↥n) (Qv:d.params.defaults=[])(call:∀(w:Bq)(G1 Cy:AR)(mg Gs:Str->Option A8)(Jo:A6)(o:Obj)(pm cd doc:A8)(a:A6)(vs:↑A8)(ns:↑Int),
    Ground q loose [] L3 w G1 mg Gs Cy.heap->Mi w Cy.heap->
    Cy.heap.get? Jo=↥o->o.data=.func (docDef d.name d.params d.body d.scope pm cd doc)->Cy.heap.CodeRec cd d.name->mg d.name=↥(.ref Jo)->
    Cy.heap.get? a=some { cls:=.type "list",data:=.seq vs.toArray }->IntsAre vs ns->⇑ns<=n->Cy.gens= #[]->
    MI (B7 l.prog w) PV (.call (.ref Jo) ⟨[.ref a],[]⟩) (λr s'=>r=.ok (.ret (.bool true))/\OldK Cy.heap s'.heap/\s'.os=Cy.os/\N0 s'.gens) Cy) :
  WalkO q loose L3 Mi l.row.toRowW d [] (λf vs=>Xa f vs):=by
 intro w G1 Cy mg Gs G Y Jo o pm cd doc ZB D0 ho hd L7 jk cH Ar args vals as Yn aiR aiX cR aiS;obtain rfl:ZB=.none:=Dflts.none jk Qv;obtain rfl:D0=.none:=Dflts.noKw jk;obtain⟨a,vs,ns,rfl,rfl,cJ,hints,hlen⟩:=af5 Ae Yn cR;refine enter_call (Sg (call w G1 Cy mg Gs Jo o pm cd doc a vs ns G Y ho (fd_plain hd) L7 cH cJ hints hlen Ar) λr s' Ac=>?_);obtain⟨rfl,h2,BF,Cp⟩:=Ac;exact⟨.inl ⟨.bool true,.bool true,[],rfl,λ_=>rfl,.bool true,acR l _,λ_=>⟨sM,λ_ hm=>(nomatch hm)⟩⟩,h2,BF,Cp⟩
section
variable{prog:CD}{w:Bq}{A:D3}{E:A8->AR->Prop}{s:AR}{K:Frag}
end
end ha
namespace BN
open PyProof.Rows
theorem qe:∀{vs:↑A8}{ns:↑Int},IntsAre vs ns->Vals (ns.map V.int) vs
 |_,_,.nil=>.nil
 |_,_,.cons n t h=>.cons ⟨t,rfl⟩ (qe h)
def gp(H:AE):Prop:=∀b,H b=none\/∃o xs,H b=↥(.Dg o (.lst xs))
def zQ{P:CD}{w:Bq}{K:Ao}{mg Gs:Str->Option A8}{CX:Kz}{k:Nat}{Jo a:A6}{fd:Hh}{x:Str}{sp:Co}{Cy:AR}{vs:↑A8}{ns:↑Int}(IY:K.In Cy.heap)(jL:Cy.heap.Ns FQ mg)(A4:Cy.heap.Ns builtinsNs Gs)(xS:∀x:Str,x≠"__name__"->Gs x=O8 x)(x6:Cy.heap.NoLimit)(Ar:Cy.gens= #[])(AF:Cy.heap.get? a=some { cls:=.type "list",data:=.seq vs.toArray })(AA:IntsAre vs ns)(AI:⇑ns<=CU)(BZ:DE k PV)(F:∀base:BG,K.In base->base.Ns FQ mg->Ir P w K mg base CX k Jo fd [x] sp)(xT:∀(s:AR)(u:A8),BindsTo s fd ⟨[u],[]⟩ [(x,u)])(Lq:∀H:AE,gp H->ET K H a (ns.map V.int)->sp [.ref a] H (λv _=>v=.AL true) λ_ _ _=>False)(cy:∀H e s',CX [] H Cy (λ_ _ _=>False) e s'->False) :
  MI (B7 P w) PV (.call (.ref Jo) ⟨[.ref a],[]⟩) (λr s'=>r=.ok (.ret (.bool true))/\OldK Cy.heap s'.heap/\s'.os=Cy.os/\N0 s'.gens) Cy:=by
 have C1:=qe AA;have zW:=⇑AA
 have core:∀H:AE,gp H->ET K H a (ns.map V.int)->Ew P w H Cy.heap->(∀b,H b≠none->b=a)->(H a≠none->K.lookup a=none)->
   MI (B7 P w) PV (.call (.ref Jo) ⟨[.ref a],[]⟩) (λr s'=>r=.ok (.ret (.bool true))/\OldK Cy.heap s'.heap/\s'.os=Cy.os/\N0 s'.gens) Cy:=by
  intro H T4 Mp BB Ln A_;have h4:∀{b:A6}{o:Obj},Cy.heap.get? b=↥o->H b=none->(PE Cy.heap H).get? b=↥o:=λe n=>wv e n;have Wo:∀{b:A6}{o:Obj}{es:Array O9}{B9:Nat},Cy.heap.get? b=↥o->o.data=.dict es B9->H b=none:=λ{b o es B9} e d=>by
   cases q:H b with
   |none=>rfl
   |some u=>have Bg:b=a:=Ln b (by rw[q];simp);subst Bg;rw[AF]at e;cases e;have d':Data.seq vs.toArray _=Data.dict es B9:=d;cases d'
  have aH:∀{b:A6}{m:Str->Option A8},Cy.heap.Ns b m->(PE Cy.heap H).Ns b m:=λ{b m}⟨o,es,B9,e,d,r⟩=>⟨o,es,B9,h4 e (Wo e d),d,r⟩;have jl:K.In (PE Cy.heap H):=λb o e=>h4 (IY b o e) (by
   cases q:H b with
   |none=>rfl
   |some u=>have Bg:b=a:=Ln b (by rw[q];simp);subst Bg;rw[A_ (by rw[q];simp)]at e;cases e)
  have Qq:Mod K mg (PE Cy.heap H):=⟨jl,aH jL,⟨Gs,aH A4,xS⟩,let⟨Wh,h1,h2⟩:=x6;⟨Wh,aH h1,h2⟩⟩;have DF:RU P w K mg (PE Cy.heap H) PV [] Cy H:=⟨rfl,Qq,λb o e=>abU e,gC (ww _ _),trivial,λb A4=>absurd (show b∈([]:↑A6)from A4) γ,BB,.of_eq Ar⟩;refine Sg ((F _ jl (aH jL)).run PV [] Cy H ⟨[.ref a],[]⟩ [.ref a] [.ref a] _ _ BZ DF (xT Cy (.ref a)) (.cons rfl .nil) (Lq H T4 Mp)) λr s' h=>?_;cases r with
  |error e=>exact(cy H e s' h).elim
  |ok CH=>
   cases CH with
   |next=>exact IQ h
   |brk=>exact IQ h
   |cont=>exact IQ h
   |ret u=>
    obtain⟨v,AC,os,bare,un,y2,Bm,q⟩:=h;have DZ:v=.AL true:=q;subst DZ;obtain rfl:u=Qm true:=Bm;refine⟨rfl,OldK.of_keep λb o e=>?_,os,bare⟩;cases q:H b with
    |none=>exact un.keep b o e q (by intro z;exact absurd (show b∈([]:↑A6)from z) γ) γ
    |some u=>
     rcases T4 b with z|⟨BQ,xs,z⟩
     .rw[q]at z;cases z
     .have FE:=un.I7 b BQ _ z;obtain⟨A9,_⟩:=BB b _ z;obtain⟨AG,_⟩:=y2 b _ FE;rw[e]at A9;cases A9;exact AG
 cases AQ:K.lookup a with
 |some o=>have e:=IY a o AQ;rw[AF]at e;cases e;refine core (λ_=>none) (λ_=>.inl rfl) (.inr ⟨_,vs.toArray,_,AQ,rfl,rfl,rfl,by rw[Df,zW];exact AI,(C1:)⟩) (λb u z=>by have HI:(none:Option Ev)=↥u:=z;cases HI) (λb z=>absurd rfl z) λz=>absurd rfl z
 |none=>
  refine core (λb=>if b=a then↥(.Dg { cls:=.type "list",data:=.seq vs.toArray } (.lst (ns.map V.int)))else none) (λb=>?_) (.inl (.inr ⟨{ cls:=.type "list",data:=.seq vs.toArray },if_pos rfl⟩)) (λb u z=>?_) (λb z=>?_) λ_=>AQ
  .by_cases A4:b=a
   .exact .inr ⟨_,_,if_pos A4⟩
   .exact .inl (if_neg A4)
  .by_cases A4:b=a
   .have HI:=(if_pos A4).symm.trans z;cases HI;subst A4;exact⟨AF,by rw[Cd];exact AI,vs,_,C1,AF⟩
   .have HI:=(if_neg A4).symm.trans z;cases HI
  .by_cases A4:b=a
   .exact A4
   .exact absurd (if_neg A4) z
def afg {l:fw} {n k:Nat} {q:CD} {loose:↑Str} {L3:(Str->Option A8)->BG->Prop} {Mi:Bq->BG->Prop} {d:DefRec} {K:Params->Ao} {CX:Bq->Kz} {sp:Bq->Co} {x:Str}(Ae:l.most=↥n) (TB:n<=CU) (Qv:d.params.defaults=[]) (BZ:DE k PV)(Qr:∀(w:Bq)(h:BG),Mi w h->(K w.params).In h)(F:∀(w:Bq)(mg:Str->Option A8)(Jo:A6)(h:BG),(K w.params).In h->h.Ns FQ mg->mg d.name=↥(.ref Jo)->
    ∃fd:Hh,(∀(s:AR)(u:A8),BindsTo s fd ⟨[u],[]⟩ [(x,u)])/\
     ∀base:BG,(K w.params).In base->base.Ns FQ mg->Ir l.prog w (K w.params) mg base (CX w) k Jo fd [x] (sp w))
  (Lq:∀(w:Bq)(H:AE)(a:A6)(ns:↑Int),⇑ns<=n->gp H->ET (K w.params) H a (ns.map V.int)->sp w [.ref a] H (λv _=>v=.AL true) λ_ _ _=>False)
  (cy:∀(w:Bq)(H:AE)(s:AR)(e:A8)(s':AR),CX w [] H s (λ_ _ _=>False) e s'->False) :
  gM q loose L3 Mi l.row.toRowW d [] (λf vs=>Xa f vs):=by
 refine ha.t2 Ae Qv λw G1 Cy mg Gs Jo o pm cd doc a vs ns G Y ho hd L7 cH cJ hints hlen Ar=>?_;have IY:=Qr w _ Y;obtain⟨fd,A4,PB⟩:=F w mg Jo _ IY G.T.g cH;exact zQ IY G.T.g G.T.b G.T.builtins G.T.nolimit Ar cJ hints (Gm hlen TB) BZ PB A4 (λH T4 Mp=>Lq w H a ns hlen T4 Mp) λH e s'=>cy w H Cy e s'
noncomputable def inClass(s:BO)(j:Nat):BO:=match s with
 |.ClassDef _ _ _ body _ _ _ _ _ _ _=>body.getD j (.Pass ⟨0,0,0,0⟩)
 |_=>.Pass ⟨0,0,0,0⟩
noncomputable def Lf(s:BO):Arguments:=match s with
 |.FunctionDef _ a _ _ _ _ _ _ _ _=>a
 |_=>{ posonlyargs:=[],args:=[],vararg:=none,kwonlyargs:=[],kw_defaults:=[],kwarg:=none,defaults:=[] }
noncomputable def K_(s:BO):↑BO:=match s with
 |.FunctionDef _ _ b _ _ _ _ _ _ _=>b
 |_=>[]
noncomputable def Bs(s:BO):FH:=match s with
 |.FunctionDef _ _ _ _ _ _ sc _ _ _=>sc
 |_=>{ kind:=.function,names:=[],isGenerator:=false,isCoroutine:=false }
abbrev hj:Kz:=λ_ _ _ _ _ _=>False
structure OF(K:Ao)(x qual:Str)(st:BO)(f:A6)(fd:Hh):Prop where
 ex:∃(GN:A8)(EB:Option A6)(D0 doc pm:A8)(an:Option A6)(FT D7:A8)(Ou:Array (Option A8)),
  fd=K3 x qual (Lf st) (K_ st) (Bs st) .none D0 doc pm an FT D7/\K.lookup f=↥⟨GN,EB,.func fd,Ou⟩/\Mz K FT qual=true
 DH:K1 K (.ref f)=true
section
variable{P:CD}{w:Bq}{K:Ao}{mg:Str->Option A8}{base:BG}
def OF.ok {x qual:Str} {st:BO} {f:A6} {fd:Hh} {N ps:↑Str} {k:Nat} {sp:Co} (F:OF K x qual st f fd) (S:C6 N ps (Bs st)) (len:∀vs H Q E,sp vs H Q E->⇑vs=⇑ps)(c7:∀(FT:A8)(A:D3)(outer:↑Env)(s:AR)(H:AE)(vs:↑V)(Q:CV)(E:Fo),DE k (A.deeper (OC qual (Bs st) s.heap.objs.size f FT))->sp vs H Q E->
    ∃t,HK (KZ hj P w K mg base N qual (Bs st) f FT A outer s H E).HU (K_ st) t/\t { AP:=λ_ AC=>Q .non AC,Dp:=Q } (start N vs) H):Ir P w K mg base hj (k+1) f fd ps sp:=by
 obtain⟨GN,EB,D0,doc,pm,an,FT,D7,Ou,rfl,lk,L7⟩:=F.ex;refine jX lk L7 S len λA outer s H vs Q E BZ Lq=>?_;obtain⟨t,h,q⟩:=c7 FT A outer s H vs Q E BZ Lq;exact⟨t,h.HU,q⟩
def OF.binds{x qual:Str}{st:BO}{f:A6}{fd:Hh}{ps:↑Str}(F:OF K x qual st f fd)(h:∀(D0 doc pm:A8)(an:Option A6)(FT D7:A8)(us:↑A8),⇑us=⇑ps->bindArgs (K3 x qual (Lf st) (K_ st) (Bs st) .none D0 doc pm an FT D7) ⟨us,[]⟩=pure (ps.zip us)):Binds K fd ps []:=by obtain⟨GN,EB,D0,doc,pm,an,FT,D7,Ou,rfl,lk,L7⟩:=F.ex;exact .all (h D0 doc pm an FT D7)
def RN{x qual:Str}{st:BO}{f:A6}{GN:A8}{EB an:Option A6}{Ou:Array (Option A8)}{D0 doc pm FT D7:A8}(l:K.lookup f=↥⟨GN,EB,.func (K3 x qual (Lf st) (K_ st) (Bs st) .none D0 doc pm an FT D7),Ou⟩)(c:Mz K FT qual=true)(k:K1 K (.ref f)=true):OF K x qual st f (K3 x qual (Lf st) (K_ st) (Bs st) .none D0 doc pm an FT D7):=⟨⟨GN,EB,D0,doc,pm,an,FT,D7,Ou,rfl,l,c⟩,k⟩
end
section
variable{X:Aw}
end
def N8(H AC:AE):Prop:=∀b o,H b=↥o->AC b=↥o
def N8.refl(H:AE):N8 H H:=λ_ _ h=>h
def N8.trans{H H1 AH:AE}(a:N8 H H1)(b:N8 H1 AH):N8 H AH:=λc o h=>b c o (a c o h)
def N8.free{H AC:AE}(e:N8 H AC){l:A6}(h:AC l=Option.none):H l=Option.none:=by
 cases q:H l with
 |none=>rfl
 |some o=>rw[e l o q]at h;cases h
def N8.seq{K:Ao}{H AC:AE}{a:A6}{xs:↑V}(e:N8 H AC)(h:ET K H a xs):ET K AC a xs:=by
 rcases h with(h|⟨o,h⟩)|h
 .exact .inl (.inl (e _ _ h))
 .exact .inl (.inr ⟨o,e _ _ h⟩)
 .exact .inr h
section
variable{X:Aw}
end
section
variable{Bp:Type}[DecidableEq Bp]
end
noncomputable def Hk(env:Env):↑(Str×Kq)->↑(Str×A6)->↑(Str×A6)
 |[],cs=>cs
 |(x,k)::r,cs=>Hk env r (if k==.free then(x,(env.cells.lookup x).getD 0)::cs else cs)
theorem ib{env:Env}:∀(names:↑(Str×Kq))(cs:↑(Str×A6)),(∀p∈names,p.2=.free->∃c,env.cells.lookup p.1=↥c)->
 (forIn (m:=Sem) names cs λ(x:Str×Kq) cs=>if(x.2==JZ)=true then do
   let a <-cellOf env x.1
   pure (PO ((x.1,a)::cs))else pure (PO cs))=pure (Hk env names cs)
 |[],cs,_=>rfl
 |(x,k)::r,cs,h=>by
  rw[List.forIn_cons];have CC:=ib (env:=env) r;by_cases AQ:k=.free
  .subst AQ;obtain⟨c,AK⟩:=h (x,.free) I0 rfl;have A9:cellOf env x=pure c:=by unfold cellOf;rw[AK]
   erw[beq_self_eq_true,if_true,Hk,A9,AK,Sf,pure_bind];exact CC _ λp AX=>h p (Gw _ AX)
  .have A4:(k==JZ)=false:=by simpa using AQ
   erw[A4,Kn,if_false,Hk,pure_bind];exact CC _ λp AX=>h p (Gw _ AX)
def ia{env:Env}{scope:FH}(h:∀p∈scope.names,p.2=.free->∃c,env.cells.lookup p.1=↥c):closureFor scope env=pure (Hk env scope.names []):=by
 have e:=ib (env:=env) scope.names [] h;unfold closureFor
 refine Eq.trans (b:=(forIn (m:=Sem) scope.names [] λ(x:Str×Kq) cs=>if(x.2==JZ)=true then do
   let a <-cellOf env x.1
   pure (PO ((x.1,a)::cs))else pure (PO cs))>>=pure) rfl ?_
 rw[e];rfl
theorem i_{env:Env}{x:Str}:∀(names:↑(Str×Kq))(cs:↑(Str×A6)),(∀p∈names,p.2=.free->∃c,env.cells.lookup p.1=↥c)->
  (Hk env names cs).lookup x=if(x,JZ)∈names then env.cells.lookup x else cs.lookup x
 |[],cs,_=>by simp[Hk]
 |(y,k)::r,cs,h=>by
  rw[Hk,i_ r _ λp AX=>h p (Gw _ AX)];by_cases hm:(x,JZ)∈r
  .rw[if_pos hm,if_pos (Gw _ hm)]
  .rw[if_neg hm];by_cases AQ:k=.free
   .subst AQ;obtain⟨c,AK⟩:=h (y,.free) I0 rfl;by_cases AM:x=y
    .subst AM;rw[if_pos I0];simp[XR,AK]
    .have nm:¬(x,JZ)∈(y,JZ)::r:=λz=>by
       rcases List.mem_cons.mp z with e|e
       .exact AM (by injection e)
       .exact hm e
     rw[if_neg nm];have A4:(x==y)=false:=(AM:)
     simp[XR,A4]
   .have A4:(k==JZ)=false:=by simpa using AQ
    have nm:¬(x,JZ)∈(y,k)::r:=λz=>by
     rcases List.mem_cons.mp z with e|e
     .exact AQ (by injection e with _ AG;exact AG.symm)
     .exact hm e
    rw[if_neg nm];simp[A4]
def tv {prog:CD} {w:Bq} {A:D3} {R:Result->AR->Prop} {s:AR} {elt target iter:Au} {ifs:↑Au} {scope:FH} {pos:Pos} {it acc:A8} {env:Env} (A0:Nat->AR->Prop)(turn:∀n s,A0 n s->Av Θ A (OB it) (λr Cy=>match r with
    |none=>R (.ok .next) Cy
    |some v=>Av (B7 prog w) A (XJ target it v) (λ_ pc=>Av (B7 prog w) A (Ks target env v) (λ_ JI=>
       Av Θ A (forIn ifs true λc r=>if r=true then do let ok <-isTrue c env (Bd c env);pure (PO ok)else pure (PO r)) (λok QQ=>
        if ok=true then Av Θ A (Bd elt env) (λx Zu=>
         Av Θ A (call (.builtin "list.append") [acc,x]) (λ_ pd=>∃m,m<n/\A0 m pd) (PW Θ A env λe s'=>R (.error e) s') Zu) (PW Θ A env λe s'=>R (.error e) s') QQ
        else ∃m,m<n/\A0 m QQ) (PW Θ A env λe s'=>R (.error e) s') JI) (PW Θ A env λe s'=>R (.error e) s') pc) (PW Θ A env λe s'=>R (.error e) s') Cy) (PW Θ A env λe s'=>R (.error e) s') s)
  (n:Nat) (h:A0 n s):MI Θ A (.compLoop (.ListComp elt [⟨target,iter,ifs,0⟩] scope pos) 0 it acc env) R s:=by
 refine codeAny_loop rfl A0 (λn s VK=>?_) n h;show Av _ A ((compTurn (.ListComp elt [⟨target,iter,ifs,0⟩] scope pos) 0 it acc env).onRaise (λx=>do noteFrame x env;theTreesLotGoes x)) _ _ s;refine wpAny_noted ?_;rw[compTurn_list];refine Ah (wpAny_standAt (Ah (Im (turn n s VK) (λr Cy Nw=>?_) λ_ _ h'=>h')));cases r with
 |none=>exact Bk Nw
 |some v=>
  refine Ah (Im Nw (λ_ pc yL=>?_) λ_ _ h'=>h');refine Ah (Im yL (λ_ JI OZ=>Ah (Im OZ (λok QQ O_=>?_) λ_ _ h'=>h')) λ_ _ h'=>h');cases ok with
  |false=>exact Bk ⟨rfl,O_⟩
  |true=>exact Ah (Ah (Im O_ (λx Zu VV=>Ah (Im VV (λ_ pd Jr=>Bk (Bk ⟨rfl,Jr⟩)) λ_ _ h'=>h')) λ_ _ h'=>h'))
abbrev GS(X:Aw)(scope:FH)(N:↑Str)(cl:↑(Str×A6))(C:A6)(s:AR)(H:AE)(BR:↑A6):Aw where
 prog:=X.prog
 w:=X.w
 K:=X.K
 mg:=X.mg
 base:=X.base
 A:=X.A
 N:=N
 G1:=s
 M8:=H
 env:=compEnvC scope cl C X.env
 outer:=X.stack
 stack:=X.stack
 ex:=BR
 calm:=X.calm
 fn:=λx=>scope.names.lookup x==↥.cell
 pn:=[]
 DA:=λ_ _=>False
noncomputable def NB(nl:Nat)(caps:↑Nat)(σ :St):St:=Gy nl none++caps.map λj=> σ.getD j none
noncomputable def YV:Option Kq->Bool
 |some .cell=>true
 |some .free=>true
 |_=>false
structure K9(sc:FH)(N9:↑Str)(scope:FH)(N:↑Str)(nl:Nat)(caps:↑Nat):Prop where
 kind:scope.kind=.function
 uniq:∀x∈scope.names,scope.names.lookup x.1=↥x.2
 free:∀x∈scope.names,x.2=.free->YV (sc.names.lookup x.1)=true
 len:⇑N=nl+⇑caps
 tm:∀k j,caps[k]?=↥j->∃x,N9[j]?=↥x/\N[nl+k]?=↥x/\scope.names.lookup x=↥.free/\YV (sc.names.lookup x)=true
def RB(sc:FH)(N9:↑Str)(scope:FH)(N:↑Str)(nl:Nat)(caps:↑Nat):Bool:=
 (scope.kind==.function)&&scope.names.all (λx=>scope.names.lookup x.1==↥x.2&&(x.2 !=.free||YV (sc.names.lookup x.1)))&&
 (⇑N==nl+⇑caps)&&(caps.zipIdx.all λki=>match N9[ki.1]? with
   |none=>false
   |some x=>N[nl+ki.2]?==↥x&&scope.names.lookup x==↥.free&&YV (sc.names.lookup x))
def K9.of{sc:FH}{N9:↑Str}{scope:FH}{N:↑Str}{nl:Nat}{caps:↑Nat}(h:RB sc N9 scope N nl caps=true):K9 sc N9 scope N nl caps:=by
 unfold RB at h;rw[I1,I1,I1]at h;obtain⟨⟨⟨h1,h2⟩,BF⟩,Cp⟩:=h;rw[UU]at h2 Cp;refine⟨eq_of_beq h1,λx AM=>?_,λx AM e=>?_,eq_of_beq BF,λk j e=>?_⟩
 .have:=h2 x AM;rw[I1]at this;exact eq_of_beq this.1
 .have:=h2 x AM;rw[I1]at this;have q:=this.2;rw[e]at q;simpa using q
 .have m:(j,k)∈caps.zipIdx:=by
    rw[List.mem_zipIdx_iff_getElem?];exact e
  have q:=Cp _ m;dsimp only at q
  split at q
  .cases q
  .rename_i x ex;rw[I1,I1]at q;exact⟨x,ex,eq_of_beq q.1.1,eq_of_beq q.1.2,q.2⟩
def K9.locs{sc:FH}{N9:↑Str}{scope:FH}{N:↑Str}{nl:Nat}{caps:↑Nat}(S:K9 sc N9 scope N nl caps):∀x∈scope.names,x.2=.local->scope.names.lookup x.1=↥.local:=λx AM e=>e▸S.uniq x AM
theorem b5:∀(ns:↑(Str×Kq))(n:Nat)(a b:↑(Str×A6)),I2 n ns (a++b)=I2 n ns a++b
 |[],_,_,_=>rfl
 |(x,k)::r,n,a,b=>by
  unfold I2
  split
  .exact b5 r (n+1) ((x,n)::a) b
  .exact b5 r n a b
theorem Z8{x:Str}{c:A6}:∀(ns:↑(Str×Kq))(n:Nat)(a:↑(Str×A6)),(x,c)∈I2 n ns a->(x,NameKind.cell)∈ns\/(x,c)∈a
 |[],_,_,h=>.inr h
 |(y,k)::r,n,a,h=>by
  unfold I2 at h
  split at h
  .rename_i AQ;rcases Z8 r _ _ h with z|z
   .exact .inl (Gw _ z)
   .rcases List.mem_cons.mp z with e|z
    .injection e with A9 AG;subst A9;rw[eq_of_beq AQ];exact .inl I0
    .exact .inr z
  .rcases Z8 r _ _ h with z|z
   .exact .inl (Gw _ z)
   .exact .inr z
def aaW{M:Model}{A:D3}{E:A8->AR->Prop}{s:AR}{scope:FH}{globals:A6}{cl:↑(Str×A6)}{qual:Str}{env:Env}{Q:Env->AR->Prop}(GV:Q { scope:=scope,locals:=s.heap.objs.size,globals:=globals,cells:=I2 (s.heap.objs.size+1) scope.names cl,qual:=qual,func:=none,code:=env.code,frame:=env.frame,builtins:=env.builtins } { s with heap:=pushCells (s.heap.push { cls:=.type "dict",data:=.dict #[] }) scope.names }) :
  Av M A (g5 scope globals cl [] qual none .none ↥env) Q E s:=by
 erw[g5,sF,if_true];refine Ah (wpAny_alloc ?_);refine Ah (wpAny_layCells _ (λname kind cells=>by cases x1:kind==NameKind.cell<;>simp[x1]) _ _ _ _ ?_);rw[show({ s with heap:=s.heap.push { cls:=.type "dict",data:=.dict #[] } }:AR).heap.objs.size=s.heap.objs.size+1 from LI ..];exact Ah (Bk (Bk GV))
def ey{scope:FH}{env:Env}{x:Str}{k:Kq}(h:(LR scope env).names.lookup x=↥k):(x,k)∈scope.names\/(k=.cell/\(x,JZ)∈scope.names):=by
 have m:=Mw h;obtain⟨⟨y,q⟩,Af,e⟩:=List.mem_map.mp m;dsimp only at e
 split at e
 .rename_i AK;injection e with A9 AG;subst A9;have hf:q=.free:=by
   rw[I1,I1]at AK;exact eq_of_beq AK.1.1
  subst hf;exact .inr ⟨AG.symm,Af⟩
 .injection e with A9 AG;subst A9;subst AG;exact .inl Af
def WL(HH:TI)(g:Jm)(Gv:TT)(E8:TE)(nl:Nat)(caps:↑Nat):TE:=λσ H Q=>
 HH σ H λBl H1=>∀acc,H1 acc=none->∃W:Nat->Nat->St->AE->Prop,(∃m,W 0 m (NB nl caps σ) (upd H1 acc (.lst [])))/\
  ∀i m σ' AC,W i m σ' AC->(Bl.stop i AC/\Q (.ref acc) AC)\/
   (Bl.go i AC/\∀x AH,Bl.W4 i AC x AH->g x σ' AH λσ2 BP=>Gv σ2 BP λb DX=>
      if b=true then E8 σ2 DX λy Ch=>∃ys,Ch acc=↥(.lst ys)/\ ⇑ys<CU/\∃E7,E7<m/\W (i+1) E7 σ2 (upd Ch acc (.lst (ys++[y])))
      else ∃E7,E7<m/\W (i+1) E7 σ2 DX)
section
variable{X:Aw}{elt target iter:Au}{ifs:↑Au}{scope:FH}{pos:Pos}{N:↑Str}{nl:Nat}{caps:↑Nat}{HH:TI}{g:Jm}{Gv:TT}{E8:TE}
def QE(X:Aw)(ifs:↑Au)(t:TT):Prop:=
 ∀(A3:μ)(s:AR)(σ :St)(H:AE)(Q:Bool->AE->Prop),θ->t σ H Q->
  Av ξ X.A (forIn ifs true λc r=>if r=true then do let ok <-isTrue c X.env (Bd c X.env);pure (PO ok)else pure (PO r)) (YL X A3 σ Q) X.DA s
def aes:TT:=λ_ H Q=>Q true H
def aeI:QE X [] aes:=λ_ _ _ H _ A0 h=>wpAny_tests_nil ⟨H,A0,h⟩
def aeJ{c:Au}{t:TT}(h:E_ X c t):QE X [c] t:=λA3 s σ H Q A0 hw=>wpAny_tests_one (h A3 s σ H Q A0 hw)
def yZ{A3:μ}{σ :St}{H:AE}{s s4:AR}{cl:↑(Str×A6)}{BR:↑A6}(S:K9 X.env.scope X.N scope N nl caps)(A0:θ)(k1:∀x c,cl.lookup x=↥c->X.env.cells.lookup x=↥c\/(scope.names.lookup x=↥.cell/\s.heap.objs.size<c/\s4.heap.IsCell c none))(k2:∀x,(x,JZ)∈scope.names->cl.lookup x=X.env.cells.lookup x)(k3:∀x,scope.names.lookup x=↥.cell->∃c,cl.lookup x=↥c/\s.heap.objs.size<c)(TL:∀x y c,cl.lookup x=↥c->cl.lookup y=↥c->x=y)(hf:∀b∈BR,KP X A3 H b)(Dc:∀b∈BR,b<s.heap.objs.size)(Qy:s4.os=s.os)(Ar:s4.gens=s.gens)(Ae:∃m,s4.heap.Ns s.heap.objs.size m)(AQ:∀b o,s.heap.get? b=↥o->s4.heap.get? b=↥o) :
  Inv (GS X scope N cl s.heap.objs.size s H BR) [] (NB nl caps σ) H s4:=by
 refine⟨⟨A0.ok.mod,?_,A0.ok.glob,A0.ok.blt,CB _,TL,λx AM=>?_,λx c z e=>?_,A0.ok.hd,A0.ok.frames,.inl rfl,λb A4=>⟨FG (Dc b A4),λx c e=>(k1 x c e).elim (λe=>(hf b A4).2.2.2.2.1 x c e) λe=>Qi (gF (Dc b A4) e.2.1)⟩,A0.bs,Gm A0.ok.Pl A0.QP,λb o e A4=>?_,λb A4 AS=>?_,A0.stack,A0.eO⟩,
  Qy,?_,Fs.kept AQ,?_,λx c e=>?_,A0.BB.fresh (CB _),λx c e=>(k1 x c e).elim (A0.Ll x c) λe=>A0.BB.fresh (Qh e.2.1),λp AX=>absurd (show p∈([]:μ)from AX) γ,A0.BB.kept AQ,?_⟩
 .show(LR scope X.env).kind=.function;exact S.kind
 .have AM:(LR scope X.env).names.lookup x=↥.cell\/(LR scope X.env).names.lookup x=↥.free:=AM;have hm:(x,JZ)∈scope.names\/scope.names.lookup x=↥.cell:=by
   rcases AM with h|h
   .rcases ey h with m|⟨_,m⟩
    .exact .inr (S.uniq _ m)
    .exact .inl m
   .rcases ey h with m|⟨e,_⟩
    .exact .inl m
    .cases e
  rcases hm with hm|hm
  rotate_left
  .obtain⟨c,e,_⟩:=k3 x hm;exact⟨c,e⟩
  have Ac:=S.free _ hm rfl;have AK:∃c,X.env.cells.lookup x=↥c:=by
   apply A0.ok.has x;show X.env.scope.names.lookup x=↥.cell\/X.env.scope.names.lookup x=↥.free;cases e:X.env.scope.names.lookup x with
   |none=>rw[e]at Ac;cases Ac
   |some k=>
    rw[e]at Ac
    cases k<;>first
     |exact .inl rfl
     |exact .inr rfl
     |cases Ac
  obtain⟨c,e⟩:=AK;exact⟨c,by show cl.lookup x=↥c;rw[k2 x hm];exact e⟩
 .obtain⟨G8,Bg,q⟩:=k3 x (eq_of_beq z);rw[show cl.lookup x=↥c from e]at Bg;cases Bg;exact Qh q
 .rcases(hf b A4).2.2.2.1 with z|z
  .exact A0.ok.Wp b o e z
  .exact absurd (GH (EN (A0.ok.bs b o e).1) z) (MG _)
 .rcases List.mem_cons.mp (A0.ZS b AS)with z|z
  .exact(hf b A4).2.1 z
  .exact(hf b A4).2.2.1 z
 .rw[Ar];exact A0.bare
 .obtain⟨m,Ae⟩:=Ae;refine⟨m,Ae,λi x v h1 h2 BF=>?_⟩;have hN:N[i]?=↥x:=h1;unfold NB at h2;by_cases AA:i<nl
  .rw[Fz (AA:),XB,if_pos AA]at h2;cases h2
  .rw[IN (AA:),US,Dl]at h2;cases e:caps[i-nl]? with
   |none=>rw[e]at h2;cases h2
   |some j=>
    rw[e]at h2;have h2: σ.getD j none=↥v:=Ga h2;obtain⟨y,A9,AG,P7,GA⟩:=S.tm _ _ e;have DS:(y,JZ)∈scope.names:=Mw P7;have Li:YM X.env.scope y:=by
     cases q:X.env.scope.names.lookup y with
     |none=>rw[q]at GA;cases GA
     |some k=>
      rw[q]at GA
      cases k<;>first
       |exact .inr (.inl q)
       |exact .inr (.inr q)
       |cases GA
    have Fb:nl+(i-nl)=i:=δ
    rw[Fb,hN]at AG;cases AG;have AS: σ[j]?=↥↥v:=by
     rw[Fg]at h2;cases q: σ[j]? with
     |none=>rw[q]at h2;cases h2
     |some o=>rw[q]at h2;exact congrArg some h2
    obtain⟨m0,_,AI⟩:=A0.loc;obtain⟨u,r,l⟩:=AI j x v A9 AS Li;refine⟨u,r,.inr ⟨?_,?_⟩⟩
    .show(LR scope X.env).names.lookup x=↥.cell\/(LR scope X.env).names.lookup x=↥.free;rcases BF with BF|BF|BF
     .have BF:(LR scope X.env).names.lookup x=↥.local:=BF;rcases ey BF with z|⟨z,_⟩
      .have FE:scope.names.lookup x=↥.local:=S.locs _ z rfl;rw[FE]at P7;cases P7
      .cases z
     .exact .inl BF
     .exact .inr BF
    .have Ac:X.env.scope.names.lookup x≠↥.local:=λz=>by rw[z]at GA;cases GA
     rcases l with⟨z,_⟩|⟨_,c,FP,FE⟩
     .exact absurd z Ac
     .refine⟨c,?_,FE.keeps AQ⟩;show cl.lookup x=↥c;rw[k2 x DS];exact FP
 .rcases k1 x c e with e|e
  .obtain⟨v,z⟩:=A0.cell x c e;exact⟨v,z.keeps AQ⟩
  .exact⟨_,e.2.2⟩
 .show⇑(NB nl caps σ)=⇑N;unfold NB;rw[EL,US,Cd,S.len]
def yb{A3:μ}{σ σ' :St}{H AC:AE}{s s':AR}{cl:↑(Str×A6)}{BR:↑A6}{h':BG}(A0:θ)(hf:∀b∈BR,KP X A3 H b)(Bl:Inv (GS X scope N cl s.heap.objs.size s H BR) [] σ' AC s')(AS:Kp s.heap.objs.size s'.heap h'):Inv X A3 σ AC { s' with heap:=h' }:=by
 have ne:∀b o,s.heap.get? b=↥o->b≠s.heap.objs.size:=λb o e=>FG (EN e);have u:Fs (FC X.stack) BR H AC s.heap s'.heap:=Bl.base;have fr:AC s.heap.objs.size=none:=Bl.free;refine A0.uR (ch:=BR) (s':={ s' with heap:=h' }) Bl.os ⟨λb o e n A4 AM=>(AS.2 b (ne b o e)).trans (u.keep b o e n A4 AM),λb o e n A4 AM=>?_,u.free,λb o e AM=>?_,u.JK,u.I7,u.JJ⟩ (λb o e=>?_) Bl.bare λb A4=>?_
 .obtain⟨CP,q⟩:=u.slot b o e n A4 AM;exact⟨CP,(AS.2 b (ne b o e)).trans q⟩
 .obtain⟨o',q⟩:=u.there b o e AM;exact⟨o',(AS.2 b (ne b o e)).trans q⟩
 .refine(Bl.BB b o e).Ng (λc v AK q=>(AS.2 c ?_).trans q) (λ_ q=>q) λ_ _ q=>q;rintro rfl;rcases AK with z|z
  .rw[<-z,fr]at e;cases e
  .rw[fr]at z;cases z
 .obtain⟨_,f1,_,FK,f4,GC⟩:=hf b A4;exact⟨FK,f1,f4,GC⟩
def ie {A3:μ} {σ :St} {s2:AR} {AH:AE} {it:A6} {BR:↑A6} {Hc:Nat->BG->Prop} {Bl:It} {E:A8->AR->Prop} {Q:AE->Prop} {W:Nat->Nat->St->AE->Prop} {m0:Nat}(S:K9 X.env.scope X.N scope N nl caps) (AK:X.calm=true) (Bz:Inv X A3 σ AH s2) (T:Turn X.prog X.w X.K target Bl BR it Hc) (LW:Hc 0 s2.heap) (f2:∀b∈BR,KP X A3 AH b)(Ar:∀cl C s H BR,H6 (GS X scope N cl C s H BR) target g) (BY:∀cl C s H BR,QE (GS X scope N cl C s H BR) ifs Gv) (he:∀cl C s H BR,Aj (GS X scope N cl C s H BR) elt E8)(Jg:W 0 m0 (NB nl caps σ) (upd AH s2.heap.objs.size (.lst [])))(turn:∀i m σ' AC,W i m σ' AC->(Bl.stop i AC/\Q AC)\/
    (Bl.go i AC/\∀x BP,Bl.W4 i AC x BP->g x σ' BP λσ2 DX=>Gv σ2 DX λb Ch=>
       if b=true then E8 σ2 Ch λy DC=>∃ys,DC s2.heap.objs.size=↥(.lst ys)/\ ⇑ys<CU/\∃E7,E7<m/\W (i+1) E7 σ2 (upd DC s2.heap.objs.size (.lst (ys++[y])))
       else ∃E7,E7<m/\W (i+1) E7 σ2 Ch))
  (Uw:A8->A6->Result->AR->Prop)
  (xK:∀(C:A6) s' AC,(∃m,s'.heap.Ns C m)->KP X A3 AC C->(∀h',Kp C s'.heap h'->Inv X A3 σ AC { s' with heap:=h' })->Q AC->Uw (.ref s2.heap.objs.size) C (.ok .next) s') :
  Av ξ X.A (newList []) (λacc QQ=>Av ξ X.A (g5 scope X.env.globals (Hk X.env scope.names []) [] X.env.qual none .none ↥X.env) (λiY Zu=>
   MI ξ X.A (.compStart (.ListComp elt [⟨target,iter,ifs,0⟩] scope pos) 0 (.ref it) acc { iY with scope:=LR scope X.env }) (Uw acc iY.locals) Zu) E QQ) E s2:=by
 have Yi:∀p∈scope.names,p.2=.free->∃c,X.env.cells.lookup p.1=↥c:=λp AX e=>by
  have q:=S.free p AX e;apply Bz.ok.has p.1;show X.env.scope.names.lookup p.1=↥.cell\/X.env.scope.names.lookup p.1=↥.free;cases AG:X.env.scope.names.lookup p.1 with
  |none=>rw[AG]at q;cases q
  |some k=>
   rw[AG]at q
   cases k<;>first
    |exact .inl rfl
    |exact .inr rfl
    |cases q
 have Qu:∀x,(Hk X.env scope.names []).lookup x=if(x,JZ)∈scope.names then X.env.cells.lookup x else none:=λx=>i_ scope.names [] Yi
 have ajC:AH s2.heap.objs.size=none:=Bz.BB.fresh (CB _);refine ME (aaW ?_);dsimp only;have Da:Inv X A3 σ (upd AH s2.heap.objs.size (.lst [])) { s2 with heap:=s2.heap.push { cls:=.type "list",dict:=none,data:=.seq ([]:↑A8).toArray } }:=Bz.dF (its:=[]) (ys:=[]) (t':=s2.toks) .nil (IM _);generalize cN:({ s2 with heap:=s2.heap.push { cls:=.type "list",dict:=none,data:=.seq ([]:↑A8).toArray } }:AR)=s3 at Da;have cD:s2.heap.push { cls:=.type "list",dict:=none,data:=.seq ([]:↑A8).toArray }=s3.heap:=by rw[<-cN]
 rw[cD];have lJ:∀b o,s2.heap.get? b=↥o->s3.heap.get? b=↥o:=λb o e=>by rw[<-cD];exact Dm _ e
 have afF:s3.heap.objs.size=s2.heap.objs.size+1:=by rw[<-cD,LI]
 have kc:=b5 scope.names (s3.heap.objs.size+1) [] (Hk X.env scope.names []);have ok:=cellsFrom_ok scope.names (s3.heap.push { cls:=.type "dict",data:=.dict #[] }) (s3.heap.objs.size+1) [] ⟨λ_ _ hm=>(nomatch hm),sM⟩ (by rw[LI];exact CB _);have jM:=(Heap.Ns.new s3.heap (.type "dict")).keeps (pushCells_keeps scope.names _);have Zw:∀b o,s3.heap.get? b=↥o->(pushCells (s3.heap.push { cls:=.type "dict",data:=.dict #[] }) scope.names).get? b=↥o:=λb o e=>pushCells_keeps _ _ b o (Dm _ e);rw[LI]at ok;rw[UV]at kc;rw[kc];generalize pushCells (s3.heap.push { cls:=.type "dict",data:=.dict #[] }) scope.names=Nw at jM Zw ok |-;have old:∀x c,X.env.cells.lookup x=↥c->c<s3.heap.objs.size:=λx c e=>by obtain⟨v,z⟩:=Da.cell x c e;exact z.lt
 have k0:∀x c,(I2 (s3.heap.objs.size+1) scope.names []++Hk X.env scope.names []).lookup x=↥c->((x,c)∈I2 (s3.heap.objs.size+1) scope.names []/\scope.names.lookup x=↥.cell/\s3.heap.objs.size<c/\Nw.IsCell c none)\/X.env.cells.lookup x=↥c:=λx c e=>by
  rw[fe]at e;cases A9:(I2 (s3.heap.objs.size+1) scope.names []).lookup x with
  |some G8=>
   rw[A9]at e;have e:G8=c:=Ga e;subst e;have m:=Mw A9;rcases Z8 _ _ _ m with z|z
   .exact .inl ⟨m,S.uniq _ z,(ok.empty _ _ m).2,(ok.empty _ _ m).1⟩
   .cases z
  |none=>
   rw[A9]at e;have e:(Hk X.env scope.names []).lookup x=↥c:=e;rw[Qu]at e
   split at e
   .exact .inr e
   .cases e
 have k2:∀x,(x,JZ)∈scope.names->(I2 (s3.heap.objs.size+1) scope.names []++Hk X.env scope.names []).lookup x=X.env.cells.lookup x:=λx AM=>by
  rw[fe];cases A9:(I2 (s3.heap.objs.size+1) scope.names []).lookup x with
  |some G8=>
   rcases Z8 _ _ _ (Mw A9)with z|z
   .have Aq:=S.uniq _ z;have BV:=S.uniq _ AM;dsimp only at Aq BV;rw[Aq]at BV;cases BV
   .cases z
  |none=>show(Hk X.env scope.names []).lookup x=_;rw[Qu,if_pos AM]
 have k3:∀x,scope.names.lookup x=↥.cell->∃c,(I2 (s3.heap.objs.size+1) scope.names []++Hk X.env scope.names []).lookup x=↥c/\s3.heap.objs.size<c:=λx AM=>by obtain⟨c,e⟩:=bu (n:=s3.heap.objs.size+1) AM;exact⟨c,by rw[fe,e];rfl,(ok.empty _ _ (Mw e)).2⟩
 have TL:∀x y c,(I2 (s3.heap.objs.size+1) scope.names []++Hk X.env scope.names []).lookup x=↥c->(I2 (s3.heap.objs.size+1) scope.names []++Hk X.env scope.names []).lookup y=↥c->x=y:=λx y c h1 h2=>by
  rcases k0 x c h1 with FP|FP<;>rcases k0 y c h2 with FE|FE
  .exact name_of_addr ok.apart FP.1 FE.1
  .exact absurd (old y c FE) (Nat.not_lt_of_gt FP.2.2.1)
  .exact absurd (old x c FP) (Nat.not_lt_of_gt FE.2.2.1)
  .exact Da.ok.inj x y c FP FE
 have k1:∀x c,(I2 (s3.heap.objs.size+1) scope.names []++Hk X.env scope.names []).lookup x=↥c->X.env.cells.lookup x=↥c\/(scope.names.lookup x=↥.cell/\s3.heap.objs.size<c/\Nw.IsCell c none):=λx c e=>(k0 x c e).elim (λz=>.inr z.2) .inl;generalize I2 (s3.heap.objs.size+1) scope.names []++Hk X.env scope.names []=cl at k0 k1 k2 k3 TL |-;have jK:∀b∈BR,b<s2.heap.objs.size:=λb A4=>by obtain⟨o,e,_⟩:=T.obj 0 _ LW b A4;exact EN e
 have FK:∀b∈BR,KP X A3 (upd AH s2.heap.objs.size (.lst [])) b:=λb A4=>by obtain⟨Gj,a1⟩:=f2 b A4;exact⟨by rw[DK (FG (jK b A4))];exact Gj,a1⟩
 have cG:∀b∈BR,b<s3.heap.objs.size:=λb A4=>by rw[afF];exact Sa (jK b A4)
 have loop:∀s4:AR,s4={ s3 with heap:=Nw }->
   MI ξ X.A (.compLoop (.ListComp elt [⟨target,iter,ifs,0⟩] scope pos) 0 (.ref it) (.ref s2.heap.objs.size) (compEnvC scope cl s3.heap.objs.size X.env))
    (Uw (.ref s2.heap.objs.size) s3.heap.objs.size) s4:=by
  intro s4 TG;have M9:Inv (GS X scope N cl s3.heap.objs.size s3 (upd AH s2.heap.objs.size (.lst [])) BR) [] (NB nl caps σ) (upd AH s2.heap.objs.size (.lst [])) s4:=
   yZ S Da (by rw[TG];exact k1) k2 k3 TL FK cG (by rw[TG]) (by rw[TG]) ⟨_,by rw[TG];exact jM⟩ (by rw[TG];exact Zw)
  have aeZ:Hc 0 s4.heap:=T.keep 0 _ _ LW λb A4 o e=>by rw[TG];exact Zw b o (lJ b o e)
  generalize Lo:GS X scope N cl s3.heap.objs.size s3 (upd AH s2.heap.objs.size (.lst [])) BR=B at M9;have stat:∀{AC:AE},(∀b∈BR,AC b=none)->∀b∈BR,KP B [] AC b:=λ{AC} Ae b A4=>by
   subst Lo;obtain⟨Gj,a1,a2,JO,R4,T_⟩:=FK b A4;refine⟨Ae b A4,FG (cG b A4),λz=>?_,.inl A4,λx c e=>?_,λp AX=>absurd (show p∈([]:μ)from AX) γ⟩
   .rcases List.mem_cons.mp (Da.ZS b z)with q|q
    .exact a1 q
    .exact a2 q
   .rcases k1 x c e with e|e
    .exact R4 x c e
    .exact Qi (gF (cG b A4) e.2.1)
  have wt:H6 B target g:=by subst Lo;exact Ar _ _ _ _ _
  have yF:QE B ifs Gv:=by subst Lo;exact BY _ _ _ _ _
  have wo:Aj B elt E8:=by subst Lo;exact he _ _ _ _ _
  have Lj:B.prog=X.prog:=by subst Lo;rfl
  have Ck:B.w=X.w:=by subst Lo;rfl
  have Nl:B.K=X.K:=by subst Lo;rfl
  have Ka:B.A=X.A:=by subst Lo;rfl
  have Vt:B.env=compEnvC scope cl s3.heap.objs.size X.env:=by subst Lo;rfl
  have iH:B.calm=true:=by subst Lo;exact AK
  have um:B.DA=λ_ _=>False:=by subst Lo;rfl
  rw[<-Lj,<-Ck,<-Ka,<-Vt];refine tv (λn s'=>∃i σ' AC,Inv B [] σ' AC s'/\Hc i s'.heap/\(∀b∈BR,AC b=none)/\W i n σ' AC) ?_ m0 ⟨0,_,_,M9,aeZ,λb A4=>(FK b A4).1,Jg⟩;rintro n s5 ⟨i,σ5,Ch,Sr,Tr,Yb,Tz⟩;have away:∀{α:Type}{t:Sem α}{hE:α->AR->Prop}{tA:A8->AR->Prop}{OS:AR},Av (B7 B.prog B.w) B.A t hE B.DA OS->Av (B7 B.prog B.w) B.A t hE tA OS:=λh=>Im h (λ_ _ q=>q) λe s' z=>by rw[um]at z;cases z
  rcases turn i n σ5 Ch Tz with⟨stop,q⟩|⟨go,DO⟩
  .have d:=T.done B Lj Ck Nl iH i [] s5 σ5 Ch (PW (B7 B.prog B.w) B.A B.env λe s'=>Uw (.ref s2.heap.objs.size) s3.heap.objs.size (.error e) s') Sr (stat Yb) Tr stop;rw[<-Lj,<-Ck]at d;refine Ba d λr CQ⟨BZ,Uz⟩=>?_;subst BZ;refine xK _ CQ Ch ?_ (Da.No (CB _) ?_) (λh' Nv=>?_) q
   .obtain⟨m,Ae,_⟩:=Uz.loc;rw[Vt]at Ae;exact⟨m,Ae⟩
   .have z:=Uz.free;rw[Vt]at z;exact z
   .subst Lo;exact yb Da FK Uz Nv
  .have d:=T.item B Lj Ck Nl iH i [] s5 σ5 Ch (PW (B7 B.prog B.w) B.A B.env λe s'=>Uw (.ref s2.heap.objs.size) s3.heap.objs.size (.error e) s') Sr (stat Yb) Tr go;rw[<-Lj,<-Ck]at d;refine Ba d λr CQ⟨u,BZ,Ez⟩=>?_;subst BZ;refine Ba Ez λ_ D9⟨x,Bo,L1,Rr,U4,eM,vf⟩=>?_;have tG:=L1.pinned (stat vf) (T.obj _ _ eM);refine away (Ba (wt _ D9 σ5 Bo x u _ tG Rr (DO x Bo U4)) λ_ D5⟨σ8,M6,tH,n2⟩=>?_);refine away (Ba (yF _ D5 σ8 M6 _ tH n2) λb JG⟨tB,hn,n3⟩=>?_);have again:∀{σa:St}{M7:AE}{OS:AR},Inv B ([]++WB BR D9.heap) σa M7 OS->(∃E7,E7<n/\W (i+1) E7 σa M7)->∃m,m<n/\∃i σ' AC,Inv B [] σ' AC OS/\Hc i OS.heap/\(∀b∈BR,AC b=none)/\W i m σ' AC:=λ{σa M7 OS} gc⟨E7,hm,afd⟩=>by
    refine⟨E7,hm,i+1,σa,M7,gc.aX,T.keep _ _ _ eM λb A4 o e=>(gc.pin (b,o) (Hz _ (Hz _ (aD A4 e)))).1,λb A4=>?_,afd⟩;obtain⟨o,e,d⟩:=T.obj _ _ eM b A4;exact(gc.pin (b,o) (Hz _ (Hz _ (aD A4 e)))).2.1
   cases b with
   |false=>exact again hn n3
   |true=>show Av _ _ (Bd elt B.env) _ _ JG;refine away (Ba (wo _ JG σ8 tB _ hn n3) λahi fA⟨y,hk,tD,Bn,ys,AF,hz,adX⟩=>?_);refine away (Ba (lg _ fA σ8 hk (.ref s2.heap.objs.size) [y] (.ref s2.heap.objs.size) [ahi] (λ_ hl=>hl=upd hk s2.heap.objs.size (.lst (ys++[y]))) tD rfl (.cons Bn .nil) ⟨_,ys,y,rfl,rfl,AF,hz,rfl⟩) λ_ ajl⟨z,hl,tE,_,vO⟩=>?_);subst vO;exact again tE adX
 exact codeAny_compStart_list (loop _ (by rw[<-cN])) (T.self X.A 0 _ _ _ (T.keep 0 _ _ LW λb A4 o e=>Zw b o (lJ b o e)) (loop _ (by rw[<-cN])))
def jE{A3:μ}{σ :St}{s:AR}{H:AE}(S:K9 X.env.scope X.N scope N nl caps)(A0:θ):∀p∈scope.names,p.2=.free->∃c,X.env.cells.lookup p.1=↥c:=λp AX e=>by
 have q:=S.free p AX e;apply A0.ok.has p.1;show X.env.scope.names.lookup p.1=↥.cell\/X.env.scope.names.lookup p.1=↥.free;cases AG:X.env.scope.names.lookup p.1 with
 |none=>rw[AG]at q;cases q
 |some k=>
  rw[AG]at q
  cases k<;>first
   |exact .inl rfl
   |exact .inr rfl
   |cases q
def dC(S:K9 X.env.scope X.N scope N nl caps)(AK:X.calm=true)(AA:Hi X target iter HH)(Ar:∀cl C s H BR,H6 (GS X scope N cl C s H BR) target g)(BY:∀cl C s H BR,QE (GS X scope N cl C s H BR) ifs Gv)(he:∀cl C s H BR,Aj (GS X scope N cl C s H BR) elt E8)(AS:∀x,Mv iter X.env x=pure x:=by intro _;rfl):Aj X (.ListComp elt [⟨target,iter,ifs,0⟩] scope pos) (WL HH g Gv E8 nl caps):=by intro A3 s σ H Q A0 h;rw[eval_ListComp];refine wpAny_comprehension_free (use:=none) rfl AS (ia (jE S A0)) S.kind S.locs ?_;refine Ba (AA A3 s σ H _ A0 h) λv s1 h1=>Ba h1 λYW s2 h2=>?_;obtain⟨it,BR,Hc,Bl,AH,e,Bz,T,LW,f2,k⟩:=h2;subst e;obtain⟨W,⟨m0,Jg⟩,turn⟩:=k s2.heap.objs.size (Bz.BB.fresh (CB _));refine ie (Q:=λAC=>Q (.ref s2.heap.objs.size) AC) S AK Bz T LW f2 Ar BY he Jg turn (λacc C=>compPost ξ X.A X.DA none (H3 X A3 σ Q) acc C) ?_;intro C s' AC Ae _ VK q;obtain⟨m,Ae⟩:=Ae;exact⟨m,Ae,λh' Nv=>⟨.ref s2.heap.objs.size,AC,VK h' Nv,rfl,q⟩⟩
def mv{i:Nat}{y:Str}{py pR:Pos}(S:K9 X.env.scope X.N scope N nl caps)(AK:X.calm=true)(hN:X.N.Nodup)(Af:X.N[i]?=↥y)(AI:X.env.kindOf y=↥.local)(AA:Hi X target iter HH)(Ar:∀cl C s H BR,H6 (GS X scope N cl C s H BR) target g)(BY:∀cl C s H BR,QE (GS X scope N cl C s H BR) ifs Gv)(he:∀cl C s H BR,Aj (GS X scope N cl C s H BR) elt E8)(VU:PS (.ListComp elt [⟨target,iter,ifs,0⟩] scope pos) ↥(.Name y py) pR.line X.env=pure true:=by rfl)(AS:∀x,Mv iter X.env x=pure x:=by intro _;rfl):Dn X (.Assign [.Name y py] (.ListComp elt [⟨target,iter,ifs,0⟩] scope pos) pR) (eR (WL HH g Gv E8 nl caps) (Yd i)):=by
 intro A3 s σ H De A0 h;rw[exec_Assign_Name_used _ _ _ _ VU];refine Ah (wpAny_standAt (Ah ?_));show Av _ X.A (do let _ <-comprehension (.ListComp elt [⟨target,iter,ifs,0⟩] scope pos) scope X.env _ (newList []) false (Bd iter X.env) ↥(Ks (.Name y py) X.env)) _ _ s;refine Ah (Im (wpAny_comprehension_free (use:=↥(Ks (.Name y py) X.env)) (Q:=λ_ s'=>QG X A3 De .next s') rfl AS (ia (jE S A0)) S.kind S.locs ?_) (λ_ s' Ac=>Bk (Bk Ac)) λ_ _ e=>e);refine Ba (AA A3 s σ H _ A0 h) λv s1 h1=>Ba h1 λYW s2 h2=>?_;obtain⟨it,BR,Hc,Bl,AH,e,Bz,T,LW,f2,k⟩:=h2;subst e;obtain⟨W,⟨m0,Jg⟩,turn⟩:=k s2.heap.objs.size (Bz.BB.fresh (CB _));refine ie (Q:=λAC=>De.AP (σ.set i ↥(.ref s2.heap.objs.size)) AC) S AK Bz T LW f2 Ar BY he Jg turn (λacc C=>compPost ξ X.A X.DA ↥(Ks (.Name y py) X.env) (λ_ s'=>QG X A3 De .next s') acc C) ?_;intro C s' AC Ae VJ VK q;obtain⟨m,Ae⟩:=Ae;show Av _ X.A (Ks (.Name y py) X.env (.ref s2.heap.objs.size)) _ _ s';have H4:Inv X A3 σ AC s':=VK s'.heap (Heap.SameBut.refl _ _);refine wpAny_assign_Name (pX (v:=.ref s2.heap.objs.size) H4 hN Af (.inl AI) (show RelV (V.ref _) _ from rfl) (λJc tC yA=>?_) (.inr AI));obtain⟨a,y9,AF⟩:=yA;obtain⟨uP,C7,Cz,GR,KX,bt⟩:=VJ;have aak:C≠a:=by
  rcases AF with z|z
  .rw[z];exact C7
  .exact λw=>KX y a z w.symm
 refine⟨m,Ae.sameBut y9 aak,λh' Nv=>?_⟩;exact⟨_,AC,tC.turned (t':=Jc.toks) (it:=C) (λb o A4 e=>(Nv.2 b A4).trans e) uP C7 GR KX bt,q⟩
end
structure YF(P:CD)(w:Bq)(outer:↑Env)(H AC:AE)(s:AR)(a:A6)(C Gj:A8)(B:BG)(s':AR):Prop where
 os:s'.os=s.os
 bare:N0 s'.gens
 un:Fs (FC outer) [] H AC s.heap s'.heap
 cp:Heap.FlyingW B outer a C Gj s'.heap
 old:∀b o,s.heap.get? b=↥o->H b=none->b∉FC outer->B.get? b=↥o
 eZ:∀b o,s.heap.get? b=↥o->b∉FC outer->∃o',B.get? b=↥o'
 BB:Ew P w AC B
 AF:AC a=none
noncomputable def JL(P:CD)(w:Bq):Kz:=λouter H s E e s'=>∃(a:A6)(C Gj:A8)(B:BG)(AC:AE),e=.ref a/\YF P w outer H AC s a C Gj B s'/\E C ↥a AC
section
variable{X:Aw}{A3:μ}{σ :St}{H AC:AE}{s s':AR}{a:A6}{C Gj:A8}{B:BG}
def Ew.part(x:Ew X.prog X.w H s.heap)(k:∀b u,(H b).isSome=true->s.heap.get? b=↥u->B.get? b=↥u):Ew X.prog X.w H B:=λb o e=>
 (x b o e).Ng (λc u AK q=>k c u (by rcases AK with rfl|AK<;>simp[*]) q) (λ_ q=>q) λ_ _ q=>q
def jc{env:Env}{outer:↑Env}{L:A6}(h:env.frame=↥L){b:A6}(A4:b∈FC (env::outer)):b=L\/b∈FC outer:=by unfold FC at A4;rw[SS,h]at A4;exact List.mem_cons.mp A4
def Inv.zU{M:Model}{A:D3}{E:A8->AR->Prop}{h':BG}{vs:↑A8}{Q:Unit->AR->Prop}(A0:θ)(Hn:X.stack=X.env::X.outer)(T9:X.env.frame=↥X.env.locals)(hex:X.ex=[])(Ln:A.frames=↥X.stack)(AM:Heap.MadeExcOf s.heap h' a C vs)(GV:∀Gj B Jc,YF X.prog X.w X.outer X.M8 H X.G1 a C Gj B Jc->Q () Jc):Av M A (leaving X.env (.ref a)) Q E { s with heap:=h' }:=by
 have wy:∀env∈X.stack,∀b,env.frame=↥b->b∈FC X.stack:=λenv he b A4=>List.mem_filterMap.mpr ⟨env,he,A4⟩;have Ke:∀b o,s.heap.get? b=↥o->b∉FC X.stack->(XT s.heap (FC X.stack)).get? b=↥o:=λb o q n=>re _ q n;have PG:∀b o,X.G1.heap.get? b=↥o->b∉FC X.outer->b∉FC X.stack:=λb o q n z=>by
  rw[Hn]at z;rcases jc T9 z with r|r
  .subst r;exact absurd (GH (EN q) A0.ok.above) (MG _)
  .exact n r
 have Iy:∀b,b∉X.ex:=λb z=>by rw[hex]at z;cases z
 refine PySem.wpAny_leaves_madeW (base:=XT s.heap (FC X.stack)) (h:=s.heap) (by rw[Ln,Hn]) T9 (λb o q=>rt _ q) (by have:=PySem.W.funFrames_hide (as:=FC X.stack) A0.stack wy;rw[Hn]at this |-;exact this) AM λjj t Cc CK Dq U0=>?_;refine GV (.ref t) (XT s.heap (FC X.stack)) _ ⟨A0.os,A0.bare,⟨?_,?_,?_,?_,A0.base.JK,A0.base.I7,A0.base.JJ⟩,Cc,?_,?_,?_,?_⟩
 .exact λb o q n A4 _=>Cc.1 b o (Ke b o (A0.base.keep b o q n A4 (Iy b)) (PG b o q A4))
 .intro b o q n A4 _;obtain⟨CP,Aq⟩:=A0.base.slot b o q n A4 (Iy b);obtain⟨_,o',DZ,NV⟩:=A0.ok.Kc.mem A4;rw[q]at DZ;cases DZ;obtain⟨To,BV⟩:=U0 b _ (AM.keeps b _ Aq) NV;exact⟨To,BV⟩
 .exact λb o q n _=>A0.base.free b o q n (Iy b)
 .intro b o q _;by_cases A4:b∈FC X.outer
  .obtain⟨_,o',DZ,_⟩:=Cc.2.2.1.mem A4;exact⟨o',DZ⟩
  .obtain⟨o',DZ⟩:=A0.base.there b o q (Iy b);exact⟨o',Cc.1 b o' (Ke b o' DZ (PG b o q A4))⟩
 .exact λb o q n A4=>Ke b o (A0.base.keep b o q n A4 (Iy b)) (PG b o q A4)
 .intro b o q A4;obtain⟨o',DZ⟩:=A0.base.there b o q (Iy b);exact⟨o',Ke b o' DZ (PG b o q A4)⟩
 .exact Ew.part (X:=X) (s:=s) A0.BB λb u AS q=>Ke b u q λz=>by rw[A0.eO b z]at AS;cases AS
 .cases q:H a with
  |none=>rfl
  |some o=>
   have k:∀o:Ev,EJ X.prog X.w H s.heap a o->∃u,s.heap.get? a=↥u:=λo x=>by
    induction o with
    |lst xs=>obtain⟨_,_,_,_,e⟩:=x;exact⟨_,e⟩
    |tup xs=>obtain⟨_,_,_,_,e,_⟩:=x;exact⟨_,e⟩
    |BM AD=>obtain⟨_,_,_,_,o,_,_,e,_⟩:=x;exact⟨_,e⟩
    |ED AD=>obtain⟨_,_,_,_,o,_,_,e,_⟩:=x;exact⟨_,e⟩
    |set S n=>obtain⟨o,_,_,_,e,_⟩:=x;exact⟨_,e⟩
    |ins C Bt BA=>obtain⟨_,_,_,e,_⟩:=x;exact⟨_,e⟩
    |own y=>obtain⟨_,e⟩:=x;exact⟨_,e⟩
    |S1 BA=>obtain⟨_,⟨_,_,_,e,_⟩,_⟩:=x;exact⟨_,e⟩
    |Zt lo AA=>obtain⟨_,_,_,e⟩:=x;exact⟨_,e⟩
    |Dg BQ u=>obtain⟨e,_⟩:=x;exact⟨_,e⟩
    |OU ps=>exact⟨_,(show s.heap.get? a=↥_ from x)⟩
    |met f y=>exact⟨_,(show s.heap.get? a=↥_ from x)⟩
    |ext φ=>obtain⟨_,⟨_,e⟩,_⟩:=x;exact⟨_,e⟩
   obtain⟨u,e⟩:=k o (A0.BB a o q);rw[AM.new]at e;cases e
def Inv.zV{M:Model}{A:D3}{E:A8->AR->Prop}{Q:Unit->AR->Prop}(A0:θ)(Hn:X.stack=X.env::X.outer)(T9:X.env.frame=↥X.env.locals)(hex:X.ex=[])(Ln:A.frames=↥X.stack)(f:YF X.prog X.w X.stack H AC s a C Gj B s')(GV:∀Jc,YF X.prog X.w X.outer X.M8 AC X.G1 a C Gj B Jc->Q () Jc):Av M A (leaving X.env (.ref a)) Q E s':=by
 have PG:∀b o,X.G1.heap.get? b=↥o->b∉FC X.outer->b∉FC X.stack:=λb o q n z=>by
  rw[Hn]at z;rcases jc T9 z with r|r
  .subst r;exact absurd (GH (EN q) A0.ok.above) (MG _)
  .exact n r
 have y4:∀b,b∈FC X.outer->b∈FC X.stack:=λb z=>by rw[Hn];unfold FC;rw[SS,T9];exact Gw _ z
 have Iy:∀b,b∉X.ex:=λb z=>by rw[hex]at z;cases z
 have no:∀b:A6,b∉([]:↑A6):=λb z=>by cases z
 obtain⟨os,bare,un,cp,old,eZ,BB,AF⟩:=f;rw[Hn]at cp;refine PySem.wpAny_leaves_onW (by rw[Ln,Hn]) T9 cp λjj Cc CK=>?_;refine GV _ ⟨os.trans A0.os,bare,⟨?_,?_,?_,?_,λb xs q=>un.JK b xs (A0.base.JK b xs q),λb o u q=>un.I7 b o u (A0.base.I7 b o u q),?_⟩,Cc,?_,?_,BB,AF⟩
 .exact λb o q n A4 _=>Cc.1 b o (old b o (A0.base.keep b o q n A4 (Iy b)) (A0.base.free b o q n (Iy b)) (PG b o q A4))
 .intro b o q n A4 _;obtain⟨CP,Aq⟩:=A0.base.slot b o q n A4 (Iy b);obtain⟨_,o',DZ,NV⟩:=A0.ok.Kc.mem A4;rw[q]at DZ;cases DZ;obtain⟨ajm,BV⟩:=un.slot b _ Aq (A0.base.free b o q n (Iy b)) (y4 b A4) (no b);obtain⟨To,Do⟩:=CK b _ BV NV;exact⟨To,Do⟩
 .intro b o q n _;obtain⟨o',DZ⟩:=A0.base.there b o q (Iy b);exact un.free b o' DZ (A0.base.free b o q n (Iy b)) (no b)
 .intro b o q _;by_cases A4:b∈FC X.outer
  .obtain⟨_,o',DZ,_⟩:=Cc.2.2.1.mem A4;exact⟨o',DZ⟩
  .obtain⟨o',DZ⟩:=A0.base.there b o q (Iy b);obtain⟨FU,BV⟩:=eZ b o' DZ (PG b o q A4);exact⟨FU,Cc.1 b FU BV⟩
 .intro b ps q;obtain⟨Hp,A9⟩:=A0.base.JJ b ps q;obtain⟨H8,AG⟩:=un.JJ b _ A9;exact⟨Hp++H8,by rw[AG,fb]⟩
 .exact λb o q n A4=>old b o (A0.base.keep b o q n A4 (Iy b)) (A0.base.free b o q n (Iy b)) (PG b o q A4)
 .intro b o q A4;obtain⟨o',DZ⟩:=A0.base.there b o q (Iy b);exact eZ b o' DZ (PG b o q A4)
end
def ul{K:Ao}{h:BG}{C:A6}{Vm:↑A8}{newId:String}(X:K.In h)(q:Uk K C Vm newId=true) :
  ∃bm N nm q bs hdct sn sub ab col dd k0 k1 k2 k3 k5 mN,h.get? C=↥(excClassObj nm q C N bs bm hdct sn sub ab col dd k0 k1 k2 k3 k5 newId)/\h.Ns N mN/\mN "__init__"=none/\OwnTail h Vm bm:=by
 unfold Uk at q
 split at q
 .rename_i dd cd CP ho
  split at q
  .rename_i RQ bm k0 k1 k2 k3 n k5 hm AS;erw[I1,beq_iff_eq,Bool.not_eq_true']at q;obtain⟨⟨⟨⟨⟨rfl,rfl⟩,jB⟩,BY⟩,BB⟩,Yl⟩:=q;obtain⟨nm,bs,mro,ns,qn,hd,sn,sub,ab,col,del⟩:=cd;dsimp only at hm jB BB Yl;subst hm jB;have yC:CP= #[k0,k1,k2,k3,↥(.builtin n),k5]:=by
    obtain⟨l⟩:=CP;simp only at AS;rw[AS]
   subst yC;exact⟨bm,ns,nm,qn,bs,hd,sn,sub,ab,col,dd,k0,k1,k2,k3,k5,_,X _ _ ho,.of_isNs (PySem.W.isNs_of_in X BB),PySem.W.nsMap_none_of_in X BB Yl,PySem.W.tail_of_in X BY⟩
  .cases q
 .cases q
noncomputable def qz(X:Aw)(C:A6):FS:=λ_ σ H=>∀A3 s h' a vs,θ->Heap.MadeExcOf s.heap h' a (.ref C) vs->X.DA (.ref a) { s with heap:=h' }
section
variable{X:Aw}{x:Str}{np Cv pos Ed:Pos}{C:A6}{Vm:↑A8}{B newId yW:String}{m:Str}{j:Nat}
def ae5(FB:ExcBaseFacts B newId yW Vm)(q:Uk X.K C Vm newId=true)(hm:X.mg x=↥(.ref C))(AK:X.calm=true:=by rfl)(Ar:En X x:=by rfl)(hd:(x==("__debug__" :Str))=false:=by decide) :
  Dn X (.Raise ↥(.Call (.Name x np) [.Constant (.str m) j Ed] [] Cv) none pos) (qz X C):=by
 intro A3 s σ H D A0 h;obtain⟨bm,N,nm,qn,bs,hdct,sn,sub,ab,col,dd,k0,k1,k2,k3,k5,mN,VJ,hN,Yl,hG⟩:=ul A0.mod.TM q;refine wpAny_Raise_call_subT (mN:=mN) (C:=C) (nm:=nm) (q:=qn) (N:=N) (bs:=bs) (bm:=bm) (hdct:=hdct) (sn:=sn) (sub:=sub) (ab:=ab) (col:=col) (dd:=dd) (k0:=k0) (k1:=k1) (k2:=k2) (k3:=k3) (k5:=k5) FB (hG.hasType FB.hasBase) (A0.ok.hd AK) rfl Yl (a4 A0 Ar hm ⟨rfl,?_⟩ hd);refine X8 (U_ (Ba (dD (X:=X) (x:=m) (j:=j) (pos:=Ed) A3 s σ H (λ_ H1=>H1=H) A0 rfl) λu s1⟨v,H1,Ai,As,A9⟩=>?_));subst A9;refine Ue ⟨rfl,rh rfl,Ai.Bv _ _ VJ,hN.keeps Ai.Bv,hG.keeps Ai.Bv,λh' a AM=>h A3 s1 h' a _ Ai AM⟩
def agb{P:CD}{w:Bq}{K:Ao}{mg:Str->Option A8}{base:BG}{N:↑Str}{qual:Str}{scope:FH}{f:A6}{cd:A8}{A:D3}{outer:↑Env}{s0:AR}{CG:AE}{E:Fo}{σ :St}{H:AE}{De:Ends}(h:∀a,H a=none->E (.ref C) ↥a H):qz (KZ (JL P w) P w K mg base N qual scope f cd A outer s0 CG E) C De σ H:=λA3 s h' a vs A0 AM=>
 A0.zU (C:=.ref C) rfl rfl rfl A0.ok.frames AM λGj B Jc CH=>⟨a,.ref C,Gj,B,H,rfl,CH,h a CH.AF⟩
def ad7{P:CD}{w:Bq}{K:Ao}{mg:Str->Option A8}{base:BG}{N:↑Str}{qual:Str}{scope:FH}{f:A6}{cd:A8}{A:D3}{outer:↑Env}{s0:AR}{CG:AE}{E:Fo} :
  Passes (JL P w) (KZ (JL P w) P w K mg base N qual scope f cd A outer s0 CG E) E:=λA3 σ H s e s' A0 AM=>by
 obtain⟨a,C,Gj,B,AC,rfl,CH,PA⟩:=AM;exact A0.zV (X:=KZ (JL P w) P w K mg base N qual scope f cd A outer s0 CG E) rfl rfl rfl A0.ok.frames CH λJc vb=>⟨a,C,Gj,B,AC,rfl,vb,PA⟩
end
abbrev uk(a:A6)(C:A8):Ev:=.ext λh=>∃BQ,h.get? a=↥BQ/\BQ.cls=C
section
variable{X:Aw}{A3:μ}{σ :St}{H AC:AE}{s s':AR}{a:A6}{C Gj:A8}{B:BG}{jj:BG}
end
section
variable{X:Aw}{k:Nat}{f C:A6}{fd:Hh}{ps:↑Str}{sp:Co}{E:Fo}{x:Str}{p pos:Pos}{e:Au}{es:↑Au}{t:FZ}
end
section
variable{X:Aw}{A3:μ}{σ :St}{H AC:AE}{s s':AR}{a:A6}
end
section
variable{X:Aw}{i:Nat}{x n:Str}{W:A6}{e:Au}{E8:TE}{E:Fo}{uO:BO}{aem:↑BO}{ea:FS}{ad9 np AX pos:Pos}
end
section
variable{prog:CD}{w:Bq}{A:D3}{E:A8->AR->Prop}{s:AR}
def abv{it t:A6}{i:Nat}{items:Array A8}{x:A8}{Q:A8->AR->Prop}(hit:s.heap.IsTupleIter it t i)(BY:s.heap.IsTuple t items)(AM:items[i]?=↥x)(GV:∀h',h'.IsTupleIter it t (i+1)->Kp it s.heap h'->Q x { s with heap:=h' }):Av Θ A (SP (.ref it)) Q E s:=by
 obtain⟨o,ho,AK,hd⟩:=id hit;obtain⟨ol,TC,_,nl,T7⟩:=BY;unfold SP
 refine Ah (SX (name:=Sh "__next__") hit.typeIs X0
  (QZ X0 hit.typeIs rS ?_ (rc _)))
 show Av _ _ (field (.ref it) 0>>=_) _ _ s;refine Ah (MF ho hd (x:=.ref t) rfl ?_);show Av _ _ (if(DB t==K2)=true then _ else _) _ _ s;rw[if_neg (show¬((DB t==K2)=true)from Km)];show Av _ _ (field (.ref it) 1>>=_) _ _ s;refine Ah (MF ho hd (x:=.int i 0) rfl ?_);show Av _ _ (seqItems? (.ref t)>>=_) _ _ s;refine Ah (PM TC T7 ?_);erw[SR,AM];refine Ah (XP ho hd γ (Bk ⟨x,rfl,Bk (GV _ ?_ (SV ..))⟩));exact⟨_,XE _ ho (ri (X9 hd _)),(Obj.cls_mapFields ..).trans AK,by
  rw[X9 hd];simp[N1]⟩
def abu{it t:A6}{i:Nat}{items:Array A8}{Q:A8->AR->Prop}(hh:A.handled=none)(hit:s.heap.IsTupleIter it t i)(BY:s.heap.IsTuple t items)(AM:items[i]?=none)(PA:∀h' e,Heap.ExtBut it s.heap h'->(∃o,h'.get? e=↥o/\o.cls=.type "StopIteration")->E (.ref e) { s with heap:=h' }):Av Θ A (SP (.ref it)) Q E s:=by
 obtain⟨o,ho,AK,hd⟩:=id hit;obtain⟨ol,TC,_,nl,T7⟩:=BY;unfold SP
 refine Ah (SX (name:=Sh "__next__") hit.typeIs X0
  (QZ X0 hit.typeIs rS ?_ (rc _)))
 show Av _ _ (field (.ref it) 0>>=_) _ _ s;refine Ah (MF ho hd (x:=.ref t) rfl ?_);show Av _ _ (if(DB t==K2)=true then _ else _) _ _ s;rw[if_neg (show¬((DB t==K2)=true)from Km)];show Av _ _ (field (.ref it) 1>>=_) _ _ s;refine Ah (MF ho hd (x:=.int i 0) rfl ?_);show Av _ _ (seqItems? (.ref t)>>=_) _ _ s;refine Ah (PM TC T7 ?_);erw[SR,AM];refine Ah (wpAny_rule (Ah (XP ho hd γ ?_)));show Av _ _ (newExc (.type "StopIteration") []>>=_) _ _ _;refine Ah ?_;erw[newExc,newTuple];refine Ah (ME ?_ (by size_fits));refine Ah (m:=XG _ _) (wpAny_of_eq (a:=K2) (by first|rfl|(erw[XG];rfl)) ?_);refine ME ?_ (by size_fits);erw[raiseNew];refine Ah (wpAny_handled ?_)
 first|rw[show A.in1.handled=none from hh]|rw[hh]
 refine Ah (Bk (wpAny_throw ?_));exact PA _ _ (((SV ..).extBut.push _).push _) ⟨_,GG _ rfl,rfl⟩
def vH(hh:A.handled=none)(it l:A6)(Lp:l≠it)(items:Array A8) :
  Draws prog w A it [it,l] items.size (λi v=>items[i]?=↥v) (λi h=>h.IsTupleIter it l i/\h.IsTuple l items) where
 live:=λ_ _ st=>let⟨o,ho,_⟩:=st.1;⟨o,ho⟩
 frame:=λ_ _ _ st AQ=>⟨st.1.at λo e=>AQ it γ o e,st.2.at λo e=>AQ l γ o e⟩
 item:=λi s Q E AA st GV=>by refine abv st.1 st.2 (x:=items[i]) (by simp[AA]) λh' Yk Nv=>?_;exact GV _ h' s.toks (by simp[AA]) ⟨Yk,st.2.extBut Nv.extBut Lp⟩ Nv
 done:=λs Q E st PA=>abu hh st.1 st.2 γ PA
end
def Inv.aW{X:Aw}{A3:μ}{σ :St}{H:AE}{s:AR}{h':BG}{t':Nat}{ch:↑A6}(A0:θ)(k:∀b o,b∉ch->s.heap.get? b=↥o->h'.get? b=↥o)(hf:∀b∈ch,KP X A3 H b):Inv X A3 σ H { s with heap:=h',toks:=t' }:=by
 have Pe:∀b u,H b=↥u->b∉ch:=λb u e z=>by rw[(hf b z).1]at e;cases e
 refine A0.step (g':=s.gens) (d':=s.drawn) (ch:=ch) (λb A4=>?_) (λb o _ _ AK e _=>k b o AK e) (λb o _ _ AK e _=>⟨o.slots,k b o AK e⟩) (λ_ _ _ _ n=>n)
  (λb o AK e=>⟨o,k b o AK e⟩) (λ_ _ e=>e) (λ_ _ _ e=>e) (λb ps e=>⟨#[],by rw[e];simp⟩) (λm hm=>?_) (λb u e=>?_) A0.bare
 .obtain⟨_,f1,_,FK,f4,GC⟩:=hf b A4;exact⟨FK,f1,f4,GC⟩
 .obtain⟨o,es,B9,ho,r⟩:=hm;exact⟨o,es,B9,k _ o (λz=>(hf _ z).2.1 rfl) ho,r⟩
 .refine(A0.BB b u e).Ng (λc v AK q=>k c v ?_ q) (λ_ q=>q) λ_ _ q=>q;rcases AK with z|z
  .rw[z];exact Pe b u e
  .exact Pe c _ z
def Inv.rC{X:Aw}{A3:μ}{σ :St}{H:AE}{s:AR}{h':BG}{t':Nat}{ch:↑A6}{T:A6}{xs:↑V}{its:↑A8}(A0:θ)(k:∀b o,b∉ch->s.heap.get? b=↥o->h'.get? b=↥o)(hf:∀b∈ch,KP X A3 H b)(D4:s.heap.objs.size<=T)(BY:ff h' T its.toArray)(C1:Vals xs its)(hz:⇑xs<=CU):Inv X A3 σ (upd H T (.tup xs)) { s with heap:=h',toks:=t' }:=by
 have Pe:∀b u,H b=↥u->b∉ch:=λb u e z=>by rw[(hf b z).1]at e;cases e
 have Ae:H T=none:=A0.BB.fresh D4;have neT:∀b o,s.heap.get? b=↥o->b≠T:=λb o e=>FG (GH (EN e) D4)
 refine A0.step (g':=s.gens) (d':=s.drawn) (ch:=ch) (λb A4=>?_) (λb o _ _ AK e _=>k b o AK e) (λb o _ _ AK e _=>⟨o.slots,k b o AK e⟩) (λb o _ e n=>by rw[DK (neT b o e)];exact n)
  (λb o AK e=>⟨o,k b o AK e⟩) (λb ys e=>by rw[DK (Ku e Ae)];exact e) (λb _ _ e=>by rw[DK (Ku e Ae)];exact e) (λb ps e=>⟨#[],by rw[DK (Ku e Ae),e];simp⟩) (λm hm=>?_) (λb u e=>?_) A0.bare
 .obtain⟨_,f1,_,FK,f4,GC⟩:=hf b A4;exact⟨FK,f1,f4,GC⟩
 .obtain⟨o,es,B9,ho,r⟩:=hm;exact⟨o,es,B9,k _ o (λz=>(hf _ z).2.1 rfl) ho,r⟩
 .by_cases A4:b=T
  .subst A4;rw[Ec]at e;cases e;exact⟨hz,its,C1,BY⟩
  .rw[DK A4]at e;refine(A0.BB b u e).Ng (λc v AK q=>k c v ?_ q) (λc q=>by rw[DK (Ku q Ae)];exact q) λc ys q=>by rw[DK (Ku q Ae)];exact q
   rcases AK with z|z
   .rw[z];exact Pe b u e
   .exact Pe c _ z
noncomputable def gi(x:Str):It:=⟨λi _=>i<x.cps.size,λi H v AC=>AC=H/\∃c,x.cps[i]?=↥c/\v=.str ⟨#[c]⟩,λi _=>i=x.cps.size⟩
def ql{prog:CD}{w:Bq}{A:D3}(hh:A.handled=none)(A0:A6)(x:Str)(t:Tok):Walks prog w A A0 [A0] [A0] x.cps.size (SignAt x) (λi h=>h.IsStrIter A0 (JC x) x t i):=by
 unfold JC;cases AF:x.cps.all (· <128)
 .rw[if_neg Km];exact Walks.strWide hh A0 x t
 .rw[if_pos rfl];exact Walks.strAscii hh A0 x t
def iD{prog:CD}{w:Bq}{A:D3}(hh:A.handled=none)(A0:A6)(x:Str)(t:Tok):Draws prog w A A0 [A0] x.cps.size (λi v=>∃c u,x.cps[i]?=↥c/\v=.str ⟨#[c]⟩ u) (λi h=>h.IsStrIter A0 (JC x) x t i):=by
 unfold JC;cases AF:x.cps.all (· <128)
 .rw[if_neg Km];exact Draws.strWide hh A0 x t
 .rw[if_pos rfl];exact Draws.strAscii hh A0 x t
def aeg(x:Str):["enumerate","zip","dict_itemiterator","dict_reverseitemiterator","odict_iterator","itertools.zip_longest","itertools.pairwise"].contains (JC x)=false:=by
 unfold JC
 split<;>decide
def aeW{P:CD}{w:Bq}{K:Ao}{C4:Au}(it:A6)(x:Str)(t:Tok):Turn P w K C4 (gi x) [it] it (λi h=>h.IsStrIter it (JC x) x t i) where
 mem:=γ
 obj:=λi h st b A4=>by
  have e:b=it:=(A4:)
  subst e;obtain⟨o,e,c,d⟩:=st;exact⟨o,e,λv z=>by rw[d]at z;cases z⟩
 keep:=λi h h' st k=>by obtain⟨o,e,r⟩:=st;exact⟨o,k it γ o e,r⟩
 item:=by nofun;have W:=ql (prog:=X.prog) (w:=X.w) (A:=X.A) (A0.ok.hd AK) it x t;refine W.item i s _ _ Ar st λv h' DJ CL Gz GM=>?_;obtain⟨c,u,Mq,rfl⟩:=CL;have Ai:Inv X A3 σ H { s with heap:=h',toks:=DJ }:=A0.aW (ch:=[it]) GM hf;obtain⟨o,e,C7,d1⟩:=id Gz;exact⟨_,rfl,T3 (s:={ s with heap:=h',toks:=DJ }) e C7 d1 (aeg x) ⟨.str ⟨#[c]⟩,H,Ai,⟨u,rfl⟩,⟨rfl,c,Mq,rfl⟩,Gz,λb A4=>(hf b A4).1⟩⟩
 done:=by nofun;have W:=ql (prog:=X.prog) (w:=X.w) (A:=X.A) (A0.ok.hd AK) it x t;have AA:i=x.cps.size:=Ar;subst AA;exact W.done s _ _ st λh' DJ GM=>⟨rfl,A0.aW (ch:=[it]) GM hf⟩
 self:=λA i s Q E st h=>by
  unfold JC at st;cases AF:x.cps.all (· <128)
  .rw[AF,if_neg Km]at st;exact wpAny_pyIter_striter_wide st h
  .rw[AF,if_pos rfl]at st;exact wpAny_pyIter_striter_ascii st h
section
variable{X:Aw}{C4:Au}
end
def gf(K:Ao)(l:A6):It:=⟨λi H=>∃xs x,ET K H l xs/\xs[i]?=↥x,λi H v AC=>∃p x,H p=none/\AC=upd H p (.tup [.int (i:Int),x])/\v=.ref p/\∀xs,ET K H l xs->xs[i]?=↥x,λi H=>∃xs,ET K H l xs/\ ⇑xs=i⟩
def aeS{P:CD}{w:Bq}{K:Ao}{elts:↑Au}{GM:Nat}{pos:Pos}(e it l:A6)(jC:e≠it) :
  Turn P w K (.Tuple elts GM pos) (gf K l) [e,it] e (λi h=>(∃old,IsEnum h e it i old)/\h.IsListIter it l i) where
 mem:=γ
 obj:=λi h st b A4=>by
  obtain⟨⟨old,he⟩,o,A9,c,d⟩:=st;rcases List.mem_cons.mp A4 with z|z
  .subst z;exact⟨_,he,λv z=>by have HI:Data.fields _=Up v:=z;cases HI⟩
  .have z:b=it:=by simpa using z
   subst z;exact⟨o,A9,λv z=>by rw[d]at z;cases z⟩
 keep:=λi h h' st k=>by obtain⟨⟨old,he⟩,hit⟩:=st;exact⟨⟨old,k e γ _ he⟩,hit.at λo x=>k it γ o x⟩
 item:=by
  nofun;obtain⟨xs,x,Ac,AM⟩:=Ar;obtain⟨its,C1,pl,hz⟩:=A0.list Ac;obtain⟨⟨old,he⟩,hit⟩:=st;have GE:=pl.isList;have hle:l≠e:=λz=>by subst z;obtain⟨o,ho,Jq,_⟩:=GE;rw[he]at ho;cases ho;have Jq:O5 "enumerate"=O5 "list":=Jq;injection Jq with Jq;exact absurd Jq ε
  have TA:l≠it:=λz=>by subst z;obtain⟨o,ho,Jq,_⟩:=GE;obtain⟨o',I8,PD,_⟩:=hit;rw[I8]at ho;cases ho;rw[Jq]at PD;injection PD with PD;exact absurd PD ε
  have W:=WalksT.enumerate (prog:=X.prog) (w:=X.w) (A:=X.A) (A0.ok.hd AK) e it l jC hle TA its.toArray;have hlen:=⇑C1;have jF:i< ⇑xs:=(List.getElem?_eq_some_iff.mp AM).1;refine W.item i s _ _ (by rw[Df,<-hlen];exact jF) ⟨⟨old,he⟩,hit,GE⟩ λT vals h' DJ E6 D4 xO Qq AQ=>?_;obtain⟨t,u,BS,rfl⟩:=E6;obtain⟨J5,yG,Eg⟩:=C1.get AM;have Er:J5=u:=by rw[rj]at BS;rw[yG]at BS;exact Ga BS
  subst Er;refine⟨_,rfl,?_⟩;refine W.go elts GM pos i T { s with heap:=h',toks:=DJ } _ _ Qq λh2 LW jG=>?_;have j5:T∉[e,it]:=W.apart i T h' Qq;have keep:∀b o,b∉[e,it]->s.heap.get? b=↥o->h2.get? b=↥o:=λb o A4 q=>jG b o A4 (AQ b o A4 q);have cO:ff h2 T (#[.int i t,J5]:Array A8):=by obtain⟨o,ho,r⟩:=xO;exact⟨o,jG T o j5 ho,r⟩
  have Ae:H T=none:=A0.BB.fresh D4;have Bz:Inv X A3 σ (upd H T (.tup [.int (i:Int),x])) { s with heap:=h2,toks:=DJ }:=A0.rC (its:=[.int i t,J5]) (ch:=[e,it]) keep hf D4 cO (.cons ⟨t,rfl⟩ (.cons Eg .nil)) (by show 2<=CU;decide);refine⟨.ref T,upd H T (.tup [.int (i:Int),x]),Bz,rfl,⟨T,x,Ae,rfl,rfl,λys Af=>by rw[A0.e4 Af Ac];exact AM⟩,⟨LW.1,LW.2.1⟩,λb A4=>?_⟩;have nb:b≠T:=λz=>j5 (z▸A4);rw[DK nb];exact(hf b A4).1
 done:=by
  nofun;obtain⟨xs,Ac,AM⟩:=Ar;obtain⟨its,C1,pl,hz⟩:=A0.list Ac;obtain⟨⟨old,he⟩,hit⟩:=st;have GE:=pl.isList;have hle:l≠e:=λz=>by subst z;obtain⟨o,ho,Jq,_⟩:=GE;rw[he]at ho;cases ho;have Jq:O5 "enumerate"=O5 "list":=Jq;injection Jq with Jq;exact absurd Jq ε
  have TA:l≠it:=λz=>by subst z;obtain⟨o,ho,Jq,_⟩:=GE;obtain⟨o',I8,PD,_⟩:=hit;rw[I8]at ho;cases ho;rw[Jq]at PD;injection PD with PD;exact absurd PD ε
  have W:=WalksT.enumerate (prog:=X.prog) (w:=X.w) (A:=X.A) (A0.ok.hd AK) e it l jC hle TA its.toArray;have Fb:i=its.toArray.size:=by rw[Df,<- ⇑C1];exact AM.symm
  subst Fb;exact W.done s _ _ ⟨⟨old,he⟩,hit,GE⟩ λh' DJ GM=>⟨rfl,A0.aW (ch:=[e,it]) GM hf⟩
 self:=λA i s Q E st h=>by obtain⟨⟨old,he⟩,_⟩:=st;exact wpAny_pyIter_enum he h
section
variable{X:Aw}{elts:↑Au}{GM:Nat}{WO:Pos}
def xl(K:Ao)(C0:FZ):TI:=λσ H R=>C0 σ H λvs H1=>∃l,vs=[.ref l]/\(∃xs,ET K H1 l xs)/\R (gf K l) H1
def acm{a:Au}{C0:FZ}{p pos:Pos}(Ar:En X "enumerate")(hm:X.mg "enumerate"=none)(AF:H5 X [a] C0)(AS:CM [a] X.env=[(false,Bd a X.env)]:=by rfl):Hi X (.Tuple elts GM WO) (.Call (.Name "enumerate" p) [a] [] pos) (xl X.K C0):=by
 have A4:O8 "enumerate"=↥(.type "enumerate"):=by kernel_rfl
 intro A3 s σ H R A0 h;refine sG (Oe A0 Ar hm A4 (QW (Ba (AF pos A3 s σ H _ A0 h) λus s1⟨vs,H1,Ai,As,Aq⟩=>?_) AS rfl));obtain⟨l,e,⟨xs,Ac⟩,q⟩:=Aq;subst e;obtain⟨u,rfl,Eg⟩:=vals1 As;cases Eg;obtain⟨its,C1,pl,hz⟩:=Ai.list Ac;refine call_enumerate_list pl.isList λh' he hit hsz AQ=>?_;have Bz:Inv X A3 σ H1 { s1 with heap:=h' }:=Ai.kept (t':=s1.toks) AQ;refine wpAny_pyIter_enum he ?_;refine⟨s1.heap.objs.size+1,[s1.heap.objs.size+1,s1.heap.objs.size],_,_,H1,rfl,Bz,aeS _ _ l (Nat.succ_ne_self _),⟨⟨_,he⟩,hit⟩,λb A4=>?_,q⟩;have A4:b=s1.heap.objs.size+1\/b=s1.heap.objs.size:=(A4:)
 rcases A4 with z|z
 .subst z;exact Ai.No (Uo _) (Ai.BB.fresh (Uo _))
 .subst z;exact Ai.No (CB _) (Ai.BB.fresh (CB _))
end
abbrev aI(h:BG)(x:Str)(t:Tok):BG:=h.push { cls:=.type (JC x),data:=.fields #[.str x t,.int 0 0] }
inductive EO where
 |J6 (l:A6)|J7 (y:Str) (t:Tok)
abbrev EO.w:EO->A8
 |.J6 l=>.ref l
 |.J7 y t=>.str y t
abbrev EO.o:EO->Obj
 |.J6 l=>{ cls:=.type "tuple_iterator",data:=.fields #[.ref l,.int 0 0] }
 |.J7 y t=>{ cls:=.type (JC y),data:=.fields #[.str y t,.int 0 0] }
def EO.v:EO->V
 |.J6 l=>.ref l
 |.J7 y _=>.str y
def EO.q(a:A6):EO->Nat->BG->Prop
 |.J6 l,i,h=>h.IsTupleIter a l i
 |.J7 y t,i,h=>h.IsStrIter a (JC y) y t i
def EO.c(ys:Array A8):EO->BG->Prop
 |.J6 l,h=>h.IsTuple l ys
 |.J7 _ _,_=>True
noncomputable def EO.BR(a:A6):EO->↑A6
 |.J6 l=>[a,l]
 |.J7 _ _=>[a]
noncomputable def EO.n(ys:Array A8):EO->Nat
 |.J6 _=>ys.size
 |.J7 y _=>y.cps.size
def EO.P(ys:Array A8):EO->Nat->A8->Prop
 |.J6 _,i,v=>ys[i]?=↥v
 |.J7 y _,i,v=>∃c u,y.cps[i]?=↥c/\v=.str ⟨#[c]⟩ u
def EO.lt(n:A6):EO->Prop
 |.J6 l=>l<n
 |.J7 _ _=>True
def EO.Pt{n:A6}:∀{z:EO},z.lt n->∀c∈z.BR (n+1),c=n+1\/c<n
 |.J6 _,h,c,AK=>(List.mem_cons.mp AK).imp id λAK=>by rw[List.mem_singleton.mp AK];exact h
 |.J7 _ _,_,c,AK=>.inl (List.mem_singleton.mp AK)
def vG{prog:CD}{w:Bq}{A:D3}(hh:A.handled=none){n:A6}{z:EO}{ys:Array A8}(lt:z.lt n) :
  Draws prog w A (n+1) (z.BR (n+1)) (z.n ys) (z.P ys) (λi h=>z.q (n+1) i h/\z.c ys h):=by
 cases z with
 |J6 l=>exact vH hh (n+1) l (FG (Sa lt)) ys
 |J7 y t=>have D:=iD (prog:=prog) (w:=w) hh (n+1) y t;exact⟨λi h st=>D.live i h st.1,λi h h' st k=>⟨D.frame i h h' st.1 k,trivial⟩,λi s Q E AA st GV=>D.item i s Q E AA st.1 λv h' DJ p Gz GM=>GV v h' DJ p ⟨Gz,trivial⟩ GM,λs Q E st PA=>D.done s Q E st.1 PA⟩
abbrev aJ(h:BG)(x:Str)(t:Tok)(l:EO):BG:=(aI h x t).push l.o
abbrev aK(h:BG)(x:Str)(t:Tok)(l:EO):BG:=(aJ h x t l).push { cls:=.type "tuple",data:=.seq #[.ref h.objs.size,.ref (aI h x t).objs.size] }
abbrev aL(h:BG)(x:Str)(t:Tok)(l:EO):BG:=(aK h x t l).push { cls:=.type "tuple",data:=.seq #[.none,.none] }
abbrev Rc(h:BG)(x:Str)(t:Tok)(l:EO):BG:=(aL h x t l).push { cls:=.type "zip",data:=.fields #[.none,.bool false,.bool false,.ref (aJ h x t l).objs.size,.ref (aK h x t l).objs.size] }
set_option maxHeartbeats 4000000 in
def abH(x:Str)(t:Tok)(Ct:EO)(ys:Array A8) :
  Meets (Builtin.«zip.__new__» ⟨[.type "zip",.str x t,Ct.w],[]⟩) (λ_ R s=>Ct.c ys s.heap/\R (.ok (.ret (.ref (aL s.heap x t Ct).objs.size))) { s with heap:=Rc s.heap x t Ct }):=
 .of_wp λprog w A R s h=>by
   obtain⟨AX,g,d,DJ,os⟩:=s;obtain⟨VQ,h⟩:=h;have Pw:=sub_zip;cases Ct with
   |J6 Ct=>
    have xI:Heap.IsTuple (Shared.heap ⟨AX.push { cls:=.type (JC x),data:=.fields #[.str x t,.int 0 0] },g,d,DJ,os⟩) Ct ys:=Heap.IsTuple.push VQ _
    wp_walk using f_,wpAny_pyIter_tuple xI
    exact⟨_,rfl,h⟩
   |J7 y u=>
    wp_walk using f_
    exact⟨_,rfl,h⟩
theorem tl {prog:CD} {w:Bq} {A:D3} {E:A8->AR->Prop} {s:AR} {x:Str} {t:Tok} {Ct:EO} {ys:Array A8} {Q:A8->AR->Prop} (VQ:Ct.c ys s.heap)(h:∀h',IsZip h' (s.heap.objs.size+4) (s.heap.objs.size+2) (s.heap.objs.size+3) .none->N2 h' (s.heap.objs.size+2) (.ref s.heap.objs.size) (.ref (s.heap.objs.size+1))->
    N2 h' (s.heap.objs.size+3) .none .none->h'.IsStrIter s.heap.objs.size (JC x) x t 0->Ct.q (s.heap.objs.size+1) 0 h'->h'.objs.size=s.heap.objs.size+5->
    (∀c o,s.heap.get? c=↥o->h'.get? c=↥o)->Q (.ref (s.heap.objs.size+4)) { s with heap:=h' }) :
  Av Θ A (call (.type "zip") [.str x t,Ct.w]) Q E s:=by
 refine callType_new F.called_zip ε (F.typeCall_zip_2 _ _) (F.newCall_zip_2 _ _) (λobj=>F.args_object_init_3 obj _ _) F.entry_zip_new (abH x t Ct ys) ⟨VQ,?_⟩;have FP:(aI s.heap x t).objs.size=s.heap.objs.size+1:=LI ..;have FE:(aJ s.heap x t Ct).objs.size=s.heap.objs.size+2:=by rw[LI,FP]
 have Wu:(aK s.heap x t Ct).objs.size=s.heap.objs.size+3:=by rw[LI,FE]
 have fK:(aL s.heap x t Ct).objs.size=s.heap.objs.size+4:=by rw[LI,Wu]
 have ahj:(Rc s.heap x t Ct).objs.size=s.heap.objs.size+5:=by rw[LI,fK]
 have Nr:(Rc s.heap x t Ct).get? (aL s.heap x t Ct).objs.size=↥_:=GG _ rfl;have g4:(Rc s.heap x t Ct).get? (aK s.heap x t Ct).objs.size=↥_:=Dm _ (GG _ rfl);have g3:(Rc s.heap x t Ct).get? (aJ s.heap x t Ct).objs.size=↥_:=Dm _ (Dm _ (GG _ rfl));have g2:(Rc s.heap x t Ct).get? (aI s.heap x t).objs.size=↥_:=Dm _ (Dm _ (Dm _ (GG _ (by cases Ct<;>rfl))));have g1:(Rc s.heap x t Ct).get? s.heap.objs.size=↥_:=Dm _ (Dm _ (Dm _ (Dm _ (GG _ rfl))));show _/\_;rw[FE,Wu,fK]at Nr;rw[FP,FE]at g3;rw[Wu]at g4;rw[FP]at g2;rw[fK];exact⟨⟨_,Nr,rfl⟩,h _ Nr g3 g4 ⟨_,g1,rfl,rfl⟩ (by cases Ct<;>exact⟨_,g2,rfl,rfl⟩) ahj λc o x=>
  Dm _ (Dm _ (Dm _ (Dm _ (Dm _ x))))⟩
def KU(K:Ao)(H:AE):V->↑V->Prop
 |.ref l,ys=>FA K H l ys
 |.str y,ys=>ys=y.cps.toList.map λc=>.str ⟨#[c]⟩
 |_,_=>False
def hp(K:Ao)(x:Str)(l:V):It:=⟨λi H=>i<x.cps.size/\∃ys y,KU K H l ys/\ys[i]?=↥y,
 λi H v AC=>∃p c y,x.cps[i]?=↥c/\H p=none/\AC=upd H p (.tup [.str ⟨#[c]⟩,y])/\v=.ref p/\∀ys,KU K H l ys->ys[i]?=↥y,
 λi H=>∃ys,KU K H l ys/\i=min x.cps.size ⇑ys⟩
section
variable{prog:CD}{w:Bq}{A:D3}{E:A8->AR->Prop}{s:AR}
def na{n a b:Nat}(h:a≠b):n+a≠n+b:=λe=>h (Nat.add_left_cancel e)
def Rl{n a:Nat}:n≠n+(a+1):=FG (Nat.lt_add_of_pos_right (Nat.succ_pos a))
def pa{n b:Nat}(h:b∈[n,n+1,n+3,n+4]):b∈[n,n+1,n+2,n+3,n+4]:=by erw[He]at h |-;rcases h with h|h|h|h|h<;>simp[h]
def gS(h:BG)(n:A6)(f0:A8)(x:Str)(t:Tok)(l:EO)(i:Nat):Prop:=IsZip h (n+4) (n+2) (n+3) f0/\N2 h (n+2) KK (.ref (n+1))/\(∃a b,N2 h (n+3) a b)/\h.IsStrIter n (JC x) x t i/\l.q (n+1) i h
theorem n1 {n:A6} {l:EO} {x:Str} {t:Tok} {i:Nat} {ys:Array A8} {Q:Option A8->AR->Prop} (hh:A.in1.handled=none) (ln:l.lt n) (BY:l.c ys s.heap) (st:gS s.heap n .none x t l i) (Cs:i<=x.cps.size) (Ft:i<=l.n ys)(GV:∀c y u h' DJ,x.cps[i]?=↥c->l.P ys i y->gS h' n (N1 s.heap.objs.size) x t l (i+1)->N2 h' s.heap.objs.size (.str ⟨#[c]⟩ u) y->
    (∀b o,b∉[n,n+1,n+3,n+4]->s.heap.get? b=↥o->h'.get? b=↥o)->Q ↥(.ref s.heap.objs.size) { s with heap:=h',toks:=DJ })
  (PA:i=x.cps.size\/i=l.n ys->∀h' DJ,(∀b o,b∉[n,n+1,n+3,n+4]->s.heap.get? b=↥o->h'.get? b=↥o)->Q none { s with heap:=h',toks:=DJ }) :
  Av Θ A (OB (.ref (n+4))) Q E s:=by
 obtain⟨hz,T6,⟨a,b,VL⟩,h1,h2⟩:=st;have YC:=iD (prog:=prog) (w:=w) (A:=A.in1) hh n x t;have YD:=vG (prog:=prog) (w:=w) (A:=A.in1) hh (ys:=ys) ln;have E1:∀{b:A6},b∉[n,n+1,n+3,n+4]->b≠n/\b≠n+1/\b≠n+3/\b≠n+4:=λh=>(h:)
 have f1:∀{b:Nat}{h h':BG}{i:Nat},Kp (n+(b+1)) h h'->h.IsStrIter n (JC x) x t i->h'.IsStrIter n (JC x) x t i:=λAS st=>YC.frame _ _ _ st λc AK o e=>AS.extBut c o (by rw[List.mem_singleton.mp AK];exact Rl) e;have f2:∀{b:A6}{h h':BG}{i:Nat},Kp b h h'->n+1≠b->n<=b->l.q (n+1) i h/\l.c ys h->l.q (n+1) i h'/\l.c ys h':=λAS E1 nb st=>YD.frame _ _ _ st λc AK o e=>AS.extBut c o ((EO.Pt ln c AK).elim (λz=>z▸E1) λz=>FG (GH z nb)) e;have D4:s.TypeIs (.ref (n+4)) "zip":=⟨_,hz,rfl⟩;unfold OB
 have fin:∀h' e DJ,(∀b o,b∉[n,n+1,n+3,n+4]->s.heap.get? b=↥o->h'.get? b=↥o)->(i=x.cps.size\/i=l.n ys)->(∃o,h'.get? e=↥o/\o.cls=.type "StopIteration")->Av Θ A (do
   if<-isInstance (.ref e) (.type "StopIteration")then pure none else throw (.ref e)) Q E { s with heap:=h',toks:=DJ }:=λh' e DJ AQ he⟨o,ho,AK⟩=>Ah (wpAny_isInstance (T:="StopIteration") (b:=true) ⟨o,ho,AK⟩ isSubtype_stop (Bk (PA he h' DJ AQ)))
 refine Ah (wpAny_attempt (SX (name:=Sh "__next__") D4 F.slot_zip_next (QZ F.slot_zip_next D4 F.entry_zip_next ?_ (F.args_zip_next_1 _))));show Av _ _ (field (.ref (n+4)) 2>>=_) _ _ _;refine Ah (MF hz rfl (x:=.bool false) rfl ?_);show Av _ _ (field (.ref (n+4)) 3>>=_) _ _ _;refine Ah (MF hz rfl (x:=.ref (n+2)) rfl ?_);refine Ah (PM T6 rfl ?_);show Av _ _ (rO (.ref (n+4))>>=_) _ _ _;refine Ah ?_;unfold rO;refine Ah (MF hz rfl (x:=.none) rfl (Bk ?_));erw[if_true];refine Ah (wpAny_rule ?_);refine Ah (MF hz rfl (x:=.ref (n+3)) rfl ?_);refine Ah (Uc hz γ λNw Yt RP=>?_);replace Yt:IsZip Nw (n+4) (n+2) (n+3) .ellipsis:=Yt;refine Ah ?_;erw[List.zipIdx_cons,List.zipIdx_nil,List.forIn_cons,List.forIn_nil];refine Ah (Ah (wpAny_onRaise ?_));show Av _ _ (SP KK>>=_) _ _ _;have pS:=f1 RP h1;by_cases DI:i<x.cps.size
 .refine Ah (YC.item i _ _ _ DI pS λv OZ ajs AM aej PH=>Bk ?_);obtain⟨c,u,AM,rfl⟩:=AM;have jn:N2 OZ (n+3) a b:=PH.extBut _ _ Rl.symm (RP.extBut _ _ (na ε) VL);refine Ah (PM jn rfl ?_);refine Ah (wpAny_updateSeq_pair jn λO_ d0 OY=>?_);replace d0:N2 O_ (n+3) (.str ⟨#[c]⟩ u) b:=d0;refine Ah (wpAny_letGo (Bk ?_));refine Ah (Ah (wpAny_onRaise ?_));show Av _ _ (SP (.ref (n+1))>>=_) _ _ _;have pT:=f2 OY (na ε) (PR _ _) (f2 PH Rl.symm (CB _) (f2 RP (na ε) (PR _ _) ⟨h2,BY⟩));have ix:IsZip O_ (n+4) (n+2) (n+3) .ellipsis:=OY.extBut _ _ (na ε) (PH.extBut _ _ Rl.symm Yt);by_cases Ct:i<l.n ys
  .refine Ah (YD.item i _ _ _ Ct pT λy VV ajt Af aek Px=>Bk ?_);have jo:N2 VV (n+3) (.str ⟨#[c]⟩ u) b:=Px.extBut _ _ (na ε) d0;refine Ah (PM jo rfl ?_);refine Ah (wpAny_updateSeq_pair jo λJr Ye Py=>?_);replace Ye:N2 Jr (n+3) (.str ⟨#[c]⟩ u) y:=Ye;refine Ah (wpAny_letGo (Bk (Bk ?_)));refine Ah (PM Ye rfl ?_);refine Ah (wpAny_newTuple ?_);have hsz:Jr.objs.size=s.heap.objs.size:=by rw[Py.1,Px.1,OY.1,PH.1,RP.1]
   have iz:IsZip Jr (n+4) (n+2) (n+3) .ellipsis:=Py.extBut _ _ (na ε) (Px.extBut _ _ (na ε) ix);have jH:∀b o,b∉[n,n+1,n+3,n+4]->s.heap.get? b=↥o->Jr.get? b=↥o:=λb o A4 e=>
    let⟨C7,Cz,GR,KX⟩:=E1 A4
    Py.extBut _ _ GR (Px.extBut _ _ Cz (OY.extBut _ _ GR (PH.extBut _ _ C7 (RP.extBut _ _ KX e))))
   have iv:n+4<Jr.objs.size:=EN iz;show Av _ _ (rN (.ref (n+4)) (.ref Jr.objs.size)>>=_) _ _ _;refine Ah ?_;unfold rN;have yK:IsZip (Jr.push { cls:=.type "tuple",data:=.seq #[.str ⟨#[c]⟩ u,y] }) (n+4) (n+2) (n+3) .ellipsis:=Dm _ iz;refine Ah (Uc yK γ λxe cS jP=>?_);replace cS:IsZip xe (n+4) (n+2) (n+3) (N1 Jr.objs.size):=cS;refine Uc cS γ λYv Yu jQ=>?_;replace Yu:IsZip Yv (n+4) (n+2) (n+3) (N1 Jr.objs.size):=Yu;have up:∀c o,c≠n+4->Jr.get? c=↥o->Yv.get? c=↥o:=λc o C7 e=>jQ.extBut _ _ C7 (jP.extBut _ _ C7 (Dm _ e));have j6:N2 Yv Jr.objs.size (.str ⟨#[c]⟩ u) y:=jQ.extBut _ _ (Qi iv) (jP.extBut _ _ (Qi iv) (GG _ rfl));refine Bk ⟨_,rfl,?_⟩;rw[hsz]at Yu j6 |-;refine Bk (GV c y u Yv _ AM Af ⟨Yu,up _ _ (na ε) (jH _ _ γ T6),⟨_,_,up _ _ (na ε) Ye⟩,?_,?_⟩ j6 λb o A4 e=>up b o (E1 A4).2.2.2 (jH b o A4 e))
   .exact YC.frame _ _ _ (f1 Py (f1 Px (f1 OY aej))) λc AK o e=>up c o (by rw[List.mem_singleton.mp AK];exact Rl) e
   .exact(YD.frame _ _ _ (f2 Py (na ε) (PR _ _) aek) λc AK o e=>up c o ((EO.Pt ln c AK).elim (λz=>z▸na ε) λz=>FG (GH z (PR _ _))) e).1
  .obtain rfl:i=l.n ys:=δ
   refine Ah (YD.done _ _ _ pT λVV e Px he=>?_);obtain⟨d5,Qx,VN⟩:=he;have iy:IsZip VV (n+4) (n+2) (n+3) .ellipsis:=Px _ _ (na ε) ix;have cB:e≠n+4:=λx=>by subst x;rw[iy]at Qx;cases Qx;simp at VN
   exact Uc iy γ λJr _ Py=>fin Jr e _ (λb o A4 x=>
    let⟨C7,Cz,GR,KX⟩:=E1 A4
    Py.extBut _ _ KX (Px _ _ Cz (OY.extBut _ _ GR (PH.extBut _ _ C7 (RP.extBut _ _ KX x))))) (.inr rfl) ⟨d5,Py.extBut _ _ cB Qx,VN⟩
 .obtain rfl:i=x.cps.size:=δ
  refine Ah (YC.done _ _ _ pS λOZ e PH he=>?_);obtain⟨d5,Qx,VN⟩:=he;have iw:IsZip OZ (n+4) (n+2) (n+3) .ellipsis:=PH _ _ Rl.symm Yt;have cB:e≠n+4:=λx=>by subst x;rw[iw]at Qx;cases Qx;simp at VN
  exact Uc iw γ λO_ _ OY=>fin O_ e _ (λb o A4 x=>
   let⟨C7,Cz,GR,KX⟩:=E1 A4
   OY.extBut _ _ KX (PH _ _ C7 (RP.extBut _ _ KX x))) (.inl rfl) ⟨d5,OY.extBut _ _ cB Qx,VN⟩
end
def EO.adY{a:A6}{i:Nat}{h:BG}:∀{l:EO},l.q a i h->∃o,h.get? a=↥o/\∀v,o.data≠.cell v
 |.J6 _,⟨o,e,_,d⟩|.J7 _ _,⟨o,e,_,d⟩=>⟨o,e,λv z=>by rw[d]at z;cases z⟩
def EO.n4{a:A6}{i:Nat}{h h':BG}:∀{l:EO},l.q a i h->(∀o,h.get? a=↥o->h'.get? a=↥o)->l.q a i h'
 |.J6 _,⟨o,e,r⟩,k|.J7 _ _,⟨o,e,r⟩,k=>⟨o,k o e,r⟩
def Inv.Ww{X:Aw}{A3:μ}{σ :St}{H:AE}{s:AR}(A0:θ):∀{l:EO}{ys:↑V},KU X.K H l.v ys->∃its,l.c its s.heap/\l.n its=⇑ys/\∀i u,l.P its i u->∃y,ys[i]?=↥y/\RelV y u
 |.J6 l,ys,h=>by obtain⟨its,C1,BY,_⟩:=A0.tuple h;refine⟨its.toArray,BY,by rw[EO.n,Df,⇑C1],λi u p=>?_⟩;have p:its.toArray[i]?=↥u:=p;rw[rj]at p;have AI:=(List.getElem?_eq_some_iff.mp p).1;obtain⟨J5,BS,Eg⟩:=C1.get (C3 (by rw[⇑C1];exact AI));rw[p]at BS;cases BS;exact⟨_,C3 _,Eg⟩
 |.J7 y t,ys,h=>by have h:ys=y.cps.toList.map λc=>V.str ⟨#[c]⟩:=h;refine⟨#[],trivial,by rw[h];simp[EO.n],λi u⟨c,k,e,Er⟩=>⟨.str ⟨#[c]⟩,?_,k,Er⟩⟩;rw[h,Dl,UT,e];rfl
def Inv.ahN{X:Aw}{A3:μ}{σ :St}{H:AE}{s:AR}(A0:θ):∀{v:V}{xs ys:↑V},KU X.K H v xs->KU X.K H v ys->xs=ys
 |.ref l,xs,ys,a,b=>A0.eb a b
 |.str y,xs,ys,a,b=>a.trans b.symm
def aey{P:CD}{w:Bq}{K:Ao}{elts:↑Au}{GM:Nat}{pos:Pos}(x:Str)(t:Tok){l:EO}{n:A6}(ln:l.lt n) :
  Turn P w K (.Tuple elts GM pos) (hp K x l.v) [n,n+1,n+2,n+3,n+4] (n+4) (λi h=>gS h n .none x t l i) where
 mem:=γ
 obj:=λi h st b A4=>by
  obtain⟨hz,T6,⟨a,JP,VL⟩,⟨F4,A9,C7,d1⟩,BV⟩:=st;obtain⟨FU,AG,Ek⟩:=l.adY BV;have A4:b=n\/b=n+1\/b=n+2\/b=n+3\/b=n+4:=(A4:)
  rcases A4 with q|q|q|q|q<;>subst q
  .exact⟨F4,A9,λv z=>by rw[d1]at z;cases z⟩
  .exact⟨FU,AG,Ek⟩
  .exact⟨_,T6,λv z=>by have HI:Data.seq _ _=Up v:=z;cases HI⟩
  .exact⟨_,VL,λv z=>by have HI:Data.seq _ _=Up v:=z;cases HI⟩
  .exact⟨_,hz,λv z=>by have HI:Data.fields _=Up v:=z;cases HI⟩
 keep:=λi h h' st k=>by obtain⟨hz,T6,⟨a,JP,VL⟩,⟨F4,A9,As⟩,BV⟩:=st;exact⟨k _ γ _ hz,k _ γ _ T6,⟨a,JP,k _ γ _ VL⟩,⟨F4,k _ γ _ A9,As⟩,l.n4 BV λo e=>k _ γ _ e⟩
 item:=by
  nofun;obtain⟨AA,ys,y,Ac,Af⟩:=Ar;obtain⟨its,BY,TB,C1⟩:=A0.Ww Ac;have jF:i< ⇑ys:=(List.getElem?_eq_some_iff.mp Af).1;refine n1 (A0.ok.hd AK) ln BY st (Qh AA) δ (λc J5 u h' DJ c8 Cm Gz T_ AQ=>?_) λh=>h.elim (λh=>absurd h (FG AA)) λh=>absurd h δ;obtain⟨ak,Dv,Eg⟩:=C1 i J5 Cm;obtain rfl:ak=y:=Ga (Dv.symm.trans Af);obtain⟨a1,a2,JO,R4,hH⟩:=Gz;refine⟨_,rfl,wpAny_letOwnedTupleGo_zip a1 λh2 yI TF=>?_⟩;have QP:n+4<s.heap.objs.size:=EN st.1;have aao:∀b∈[n,n+1,n+2,n+3,n+4],b≠s.heap.objs.size:=λb A4=>by
   have A4:b=n\/b=n+1\/b=n+2\/b=n+3\/b=n+4:=(A4:)
   change(n:Nat)+4<s.heap.objs.size at QP;have:(b:Nat)<=n+4:=by rcases A4 with q|q|q|q|q<;>subst q<;>simp
   exact FG (Qc this QP)
  have cO:ff h2 s.heap.objs.size ([.str ⟨#[c]⟩ u,J5]:↑A8).toArray:=⟨_,TF.extBut _ _ (Qi QP) T_,rfl,_,rfl⟩;have Ae:H s.heap.objs.size=none:=A0.BB.fresh (CB _);have Bz:Inv X A3 σ (upd H s.heap.objs.size (.tup [.str ⟨#[c]⟩,ak])) { s with heap:=h2,toks:=DJ }:=A0.rC (its:=[.str ⟨#[c]⟩ u,J5]) (ch:=[n,n+1,n+3,n+4]) (λb o A4 q=>TF.extBut b o (λz=>A4 (by simp[z])) (AQ b o A4 q)) (λb A4=>hf b (pa A4)) (CB _) cO (.cons ⟨u,rfl⟩ (.cons Eg .nil)) (by show 2<=CU;decide);refine⟨.ref s.heap.objs.size,_,Bz,rfl,⟨s.heap.objs.size,c,ak,c8,Ae,rfl,rfl,λzs yJ=>by rw[A0.ahN yJ Ac];exact Af⟩,⟨yI,TF.extBut _ _ (na ε) a2,?_,?_,?_⟩,λb A4=>?_⟩
  .obtain⟨a,b,JO⟩:=JO;exact⟨a,b,TF.extBut _ _ (na ε) JO⟩
  .obtain⟨F4,A9,As⟩:=R4;exact⟨F4,TF.extBut _ _ Rl A9,As⟩
  .exact l.n4 hH λo e=>TF.extBut _ _ (na ε) e
  .rw[DK (aao b A4)];exact(hf b A4).1
 done:=by nofun;obtain⟨ys,Ac,AA⟩:=Ar;obtain⟨its,BY,TB,C1⟩:=A0.Ww Ac;refine n1 (A0.ok.hd AK) ln BY st δ δ (λc ee u h' DJ c8 Cm _ _ _=>?_) λ_ h' DJ GM=>⟨rfl,A0.aW (ch:=[n,n+1,n+3,n+4]) GM λb A4=>hf b (pa A4)⟩;have:=(Array.getElem?_eq_some_iff.mp c8).1;obtain⟨y,Dv,_⟩:=C1 i ee Cm;have:=(List.getElem?_eq_some_iff.mp Dv).1;lia
 self:=λA i s Q E st h=>wpAny_pyIter_zip st.1 h
section
variable{X:Aw}{elts:↑Au}{GM:Nat}{WO:Pos}
def xo(K:Ao)(C0:FZ):TI:=λσ H R=>C0 σ H λvs H1=>∃x l,vs=[.str x,l]/\(∃ys,KU K H1 l ys)/\R (hp K x l) H1
def acq{a b:Au}{C0:FZ}{p pos:Pos}(Ar:En X "zip")(hm:X.mg "zip"=none)(AF:H5 X [a,b] C0)(AS:CM [a,b] X.env=[(false,Bd a X.env),(false,Bd b X.env)]:=by rfl)(Iz:CM [b] X.env=[(false,Bd b X.env)]:=by rfl) :
  Hi X (.Tuple elts GM WO) (.Call (.Name "zip" p) [a,b] [] pos) (xo X.K C0):=by
 have A4:O8 "zip"=↥(.type "zip"):=by kernel_rfl
 intro A3 s σ H R A0 h;refine sG (Oe A0 Ar hm A4 (QW (Ba (AF pos A3 s σ H _ A0 h) λus s1⟨vs,H1,Ai,As,Aq⟩=>?_) (by rw[AS,Iz]) (by rw[Iz];rfl)));obtain⟨x,l,e,⟨ys,Ac⟩,q⟩:=Aq;subst e;obtain⟨u,ee,rfl,⟨t,rfl⟩,Eg⟩:=vals2 As;obtain⟨z,rfl,rfl⟩:∃z:EO,l=z.v/\ee=z.w:=by
  cases l with
  |ref l=>cases Eg;exact⟨.J6 l,rfl,rfl⟩
  |str y=>obtain⟨k,rfl⟩:=Eg;exact⟨.J7 y k,rfl,rfl⟩
  |_=>cases Ac
 obtain⟨its,BY,_⟩:=Ai.Ww Ac;have H7:z.lt s1.heap.objs.size:=by
  cases z with
  |J6 l=>exact(let⟨_,e,_⟩:=BY;EN e)
  |J7 y k=>trivial
 refine tl BY λh' a1 a2 JO R4 T_ hH AQ=>?_;have Bz:Inv X A3 σ H1 { s1 with heap:=h' }:=Ai.kept (t':=s1.toks) AQ;refine wpAny_pyIter_zip a1 ?_;refine⟨s1.heap.objs.size+4,[s1.heap.objs.size,s1.heap.objs.size+1,s1.heap.objs.size+2,s1.heap.objs.size+3,s1.heap.objs.size+4],_,_,H1,rfl,Bz,aey x t H7,⟨a1,a2,⟨_,_,JO⟩,R4,T_⟩,λb A4=>?_,q⟩;have A4:s1.heap.objs.size<=b:=by erw[He,My,or_false]at A4;rcases A4 with q|q|q|q|q<;>rw[q]<;>first|exact CB _|exact PR _ _
 exact Ai.No A4 (Ai.BB.fresh A4)
end
end BN
namespace Xd
open PySem PySem.SetTable
theorem bl(xs:Array Nat)(j:Nat)(AS:xs.toList.Pairwise (· <·)):∀fuel lo AA,AA<=lo+fuel->lo<=AA->AA<=xs.size->(∀k,k<lo->xs.getD k j<j)->(∀k,AA<=k->k<xs.size->j<=xs.getD k j)->
  below.go xs j fuel lo AA<=xs.size/\(∀k,k<below.go xs j fuel lo AA->xs.getD k j<j)/\(∀k,below.go xs j fuel lo AA<=k->k<xs.size->j<=xs.getD k j)
 |0,lo,AA,h1,h2,BF,Cp,Es=>by
  have e:lo=AA:=δ
  subst e;exact⟨BF,Cp,Es⟩
 |fuel+1,lo,AA,h1,h2,BF,Cp,Es=>by
  have mono:∀a b,a<=b->b<xs.size->xs.getD a j<=xs.getD b j:=by
   intro a b VM A4;rcases Nat.eq_or_lt_of_le VM with rfl|VM
   .exact CB _
   have:=List.pairwise_iff_getElem.mp AS a b (by simp;lia) (A4:) VM;erw[Array.getElem_toList]at this;rw[SO,SO,LL δ,LL A4];exact Qh this
  unfold below.go;by_cases h:lo<AA
  .rw[if_pos h];dsimp only;by_cases q:xs.getD ((lo+AA)/2) j<j
   .rw[if_pos q];refine bl xs j AS fuel _ AA δ δ BF (λk AQ=>?_) Es;exact Qc (mono k ((lo+AA)/2) δ δ) q
   .rw[if_neg q];refine bl xs j AS fuel lo _ δ δ δ Cp λk AQ Nv=>?_;exact Gm (Nat.not_lt.mp q) (mono _ k AQ Nv)
  .rw[if_neg h];have e:lo=AA:=δ
   subst e;exact⟨BF,Cp,Es⟩
def h5{xs:Array Nat}(AS:xs.toList.Pairwise (· <·))(j:Nat):below xs j<=xs.size/\(∀y∈xs.toList.take (below xs j),y<j)/\(∀y∈xs.toList.drop (below xs j),j<=y):=by
 obtain⟨a,b,c⟩:=bl xs j AS xs.size 0 xs.size δ δ (CB _) (λk AQ=>absurd AQ (Nat.not_lt_zero _)) (λk h1 h2=>absurd h2 δ);refine⟨a,λy Af=>?_,λy Af=>?_⟩
 .obtain⟨k,AQ,rfl⟩:=UZ Af;have Qw:k<below xs j/\k<xs.size:=by simpa[LK,Nat.lt_min]using AQ
  have:=b k Qw.1;rw[SO,LL Qw.2]at this;simpa using this
 .obtain⟨k,AQ,rfl⟩:=UZ Af;have Qw:below xs j+k<xs.size:=by simp at AQ;lia
  have:=c (below xs j+k) (PR _ _) Qw;rw[SO,LL Qw]at this;simpa using this
def c3{α:Type}(xs:Array α)(p:Nat)(x:α):(insertAt xs p x).toList=xs.toList.take p++x::xs.toList.drop p:=by unfold insertAt;simp[Array.toList_extract,List.extract_eq_take_drop];exact Nz γ
structure Tab(t:Il)(n:Nat):Prop where
 Tf:t.dummies= #[]
 MY:t.place.size=n
 Tn:t.place.toList.Pairwise (· <·)
 le:∀j∈t.place.toList,j<=t.mask
def slot_of{t:Il}{n:Nat}(T:Tab t n)(j:Nat):(∃i,t.slot j=.live i/\t.place.toList[i]?=↥j)\/(t.slot j=.empty/\j∉t.place.toList):=by
 obtain⟨a,b,c⟩:=h5 T.Tn j;unfold slot;dsimp only;by_cases h:t.place[below t.place j]?=↥j
 .left
  refine⟨below t.place j,?_,(h:)⟩;rw[h];simp
 .right
  constructor
  .have:(t.place[below t.place j]?==↥j)=false:=by simpa using h
   rw[this,T.Tf];simp[has]
  .intro m;have E7:=m;rw[<-SY (below t.place j) t.place.toList]at E7;rcases List.mem_append.mp E7 with E7|E7
   .exact absurd (b j E7) (MG _)
   .cases hd:t.place.toList.drop (below t.place j)with
    |nil=>rw[hd]at E7;cases E7
    |cons y r=>
     have Af:t.place[below t.place j]?=↥y:=by
      have:(t.place.toList.drop (below t.place j))[0]?=↥y:=by rw[hd];rfl
      rw[List.getElem?_drop]at this;simpa using this
     have BZ:=T.Tn;rw[<-SY (below t.place j) t.place.toList,hd]at BZ;have BZ:=(List.pairwise_append.mp BZ).2.1;rw[hd]at E7;rcases List.mem_cons.mp E7 with rfl|E7
     .exact h Af
     .have h1:=(List.pairwise_cons.mp BZ).1 j E7;have h2:=c y (by rw[hd];simp);lia
def afM{t:Il}{n:Nat}(T:Tab t n){j:Nat}(m:j∈t.place.toList):∃i,t.slot j=.live i/\t.place.toList[i]?=↥j:=by
 rcases slot_of T j with h|h
 .exact h
 .exact absurd m h.2
def afL{t:Il}{n:Nat}(T:Tab t n){j:Nat}(m:j∉t.place.toList):t.slot j=.empty:=by
 rcases slot_of T j with⟨i,h,e⟩|h
 .exact absurd (Ik e) m
 .exact h.1
def aeK{t:Il}{n:Nat}(T:Tab t n){j:Nat}(m:j∉t.place.toList)(An:j<=t.mask):∃p,(t.put j).2=p/\p<=n/\Tab (t.put j).1 (n+1)/\(t.put j).1.place.toList=t.place.toList.take p++j::t.place.toList.drop p/\(t.put j).1={ t with place:=(t.put j).1.place }:=by
 obtain⟨a,b,c⟩:=h5 T.Tn j;have e:(t.put j).1.place.toList=t.place.toList.take (below t.place j)++j::t.place.toList.drop (below t.place j):=by unfold put;exact c3 _ _ _
 have Bc:(t.put j).1.dummies= #[]:=by unfold put;simp[has,T.Tf]
 have em:(t.put j).1.mask=t.mask:=rfl;refine⟨below t.place j,rfl,T.MY▸a,⟨Bc,?_,?_,?_⟩,e,?_⟩
 .have:(t.put j).1.place.toList.length=n+1:=by
    rw[e,EL,FF,LK,QY];have:=T.MY;erw[SU];lia
  simpa using this
 .rw[e];have BZ:=T.Tn;rw[<-SY (below t.place j) t.place.toList]at BZ;obtain⟨As,BK,Ff⟩:=List.pairwise_append.mp BZ;refine List.pairwise_append.mpr ⟨As,List.pairwise_cons.mpr ⟨λy Af=>?_,BK⟩,λx AM y Af=>?_⟩
  .rcases Nat.eq_or_lt_of_le (c y Af)with q|q
   .exact absurd (q▸fl Af) m
   .exact q
  .rcases List.mem_cons.mp Af with rfl|Af
   .exact b x AM
   .exact Ff x AM y Af
 .intro y Af;rw[em];rw[e]at Af;rcases List.mem_append.mp Af with Af|Af
  .exact T.le y (fm Af)
  .rcases List.mem_cons.mp Af with rfl|Af
   .exact An
   .exact T.le y (fl Af)
 .have ZI:(t.put j).1.dummies=t.dummies:=Bc.trans T.Tf.symm;show(t.put j).1=_;have:(t.put j).1={ t with place:=(t.put j).1.place,dummies:=(t.put j).1.dummies }:=rfl;rw[this,ZI]
noncomputable def Ld(mask:Nat)(p:Probe):Probe:=
 if p.more>0 then{ p with j:=p.j+1,more:=p.more-1 }else
 { p with j:=(leap mask p.i p.perturb).1,more:=runEnd mask (leap mask p.i p.perturb).1-(leap mask p.i p.perturb).1,i:=(leap mask p.i p.perturb).1,perturb:=(leap mask p.i p.perturb).2 }
def hK(t:Il)(p:Probe):t.advance p=Ld t.mask p:=rfl
noncomputable def my(mask:Nat)(i q:Nat):Probe:={ j:=i,more:=runEnd mask i-i,i,perturb:=q,dummy:=none }
def Ef(mask:Nat)(h:Int):Nat->Probe
 |0=>my mask (bits h%(mask+1)) (bits h)
 |n+1=>Ld mask (Ef mask h n)
noncomputable def BU(mask:Nat)(h:Int):Nat->Nat×Nat
 |0=>(bits h%(mask+1),bits h)
 |n+1=>leap mask (BU mask h n).1 (BU mask h n).2
def JF(mask i:Nat):Nat:=runEnd mask i-i
def LU(mask:Nat)(h:Int):Nat->Nat
 |0=>0
 |n+1=>LU mask h n+JF mask (BU mask h n).1+1
def adR(mask i:Nat):JF mask i<=9:=by unfold JF runEnd;split<;>lia
def f7(mask i:Nat):i<=runEnd mask i:=by unfold runEnd;split<;>lia
theorem qL(mask:Nat)(h:Int):∀n,LU mask h n<=10*n
 |0=>CB _
 |n+1=>by have:=qL mask h n;have:=adR mask (BU mask h n).1;unfold LU;lia
def sj{mask i q r:Nat}(BZ:r<JF mask i):Ld mask { j:=i+r,more:=JF mask i-r,i:=i,perturb:=q,dummy:=none }={ j:=i+(r+1),more:=JF mask i-(r+1),i:=i,perturb:=q,dummy:=none }:=by unfold Ld;rw[if_pos (by show JF mask i-r>0;lia)];erw[Probe.mk.injEq];refine⟨δ,δ,trivial,trivial,trivial⟩
def sk{mask i q:Nat}:Ld mask { j:=i+JF mask i,more:=JF mask i-JF mask i,i:=i,perturb:=q,dummy:=none }=my mask (leap mask i q).1 (leap mask i q).2:=by unfold Ld;rw[if_neg (by show¬(JF mask i-JF mask i>0);lia)];rfl
theorem ek(mask:Nat)(h:Int):∀L r,r<=JF mask (BU mask h L).1->Ef mask h (LU mask h L+r)={ j:=(BU mask h L).1+r,more:=JF mask (BU mask h L).1-r,i:=(BU mask h L).1,perturb:=(BU mask h L).2,dummy:=none }
 |0,0,_=>rfl
 |L,r+1,BZ=>by have:=ek mask h L r δ;show Ld mask (Ef mask h (LU mask h L+r))=_;rw[this];exact sj δ
 |L+1,0,_=>by have:=ek mask h L (JF mask (BU mask h L).1) (CB _);show Ld mask (Ef mask h (LU mask h L+JF mask (BU mask h L).1))=_;rw[this,sk];rfl
def uC(h:Int):bits h<2^64:=by unfold bits;have:=Int.emod_lt_of_pos h (b:=2^64) ε;have:=Int.emod_nonneg h (b:=2^64) ε;lia
theorem js(mask:Nat)(h:Int):∀n,(BU mask h n).2=bits h/32^n
 |0=>by simp[BU]
 |n+1=>by show(BU mask h n).2/32=_;rw[js mask h n,Nat.div_div_eq_div_mul,Nat.pow_succ]
def ab2(mask:Nat)(h:Int)(n:Nat)(Ae:13<=n):(BU mask h n).2=0:=by
 rw[js];apply Nat.div_eq_of_lt;have h1:=uC h;have h2:32^13<=32^n:=Nat.pow_le_pow_right ε Ae;have BF:(2:Nat)^64<32^13:=ε
 lia
noncomputable def L9(mask:Nat):Nat->Nat->Nat
 |0,i=>i
 |n+1,i=>(L9 mask n i*5+1)%(mask+1)
theorem jr(mask:Nat)(h:Int):∀m,(BU mask h (13+m)).1=L9 mask m (BU mask h 13).1
 |0=>rfl
 |m+1=>by have e:(BU mask h (13+(m+1))).2=0:=ab2 mask h _ δ;have AG:(BU mask h (13+m)).2/32=0:=e;show((BU mask h (13+m)).1*5+1+(BU mask h (13+m)).2/32)%(mask+1)=_;rw[AG,jr mask h m];rfl
theorem a3(mask:Nat)(a:Nat):∀b i,L9 mask (a+b) i=L9 mask b (L9 mask a i)
 |0,_=>rfl
 |b+1,i=>by show(L9 mask (a+b) i*5+1)%(mask+1)=_;rw[a3 mask a b i];rfl
noncomputable def Zi(mask:Nat):Nat->Nat->↑Nat
 |0,_=>[]
 |n+1,i=>i::Zi mask n ((i*5+1)%(mask+1))
theorem kN(mask i:Nat):∀n,L9 mask n ((i*5+1)%(mask+1))=L9 mask (n+1) i
 |0=>rfl
 |n+1=>by show(L9 mask n _*5+1)%_=_;rw[kN mask i n];rfl
theorem dQ(mask:Nat):∀n i j,j∈Zi mask n i->∃m,m<n/\L9 mask m i=j
 |0,_,_,h=>by cases h
 |n+1,i,j,h=>by
  rcases List.mem_cons.mp h with rfl|h
  .exact⟨0,δ,rfl⟩
  .obtain⟨m,h1,h2⟩:=dQ mask n _ j h;exact⟨m+1,δ,by rw[<-kN];exact h2⟩
structure IJ(mask:Nat):Prop where
 all:∀j,j<=mask->j∈Zi mask (mask+1) 0
 back:L9 mask (mask+1) 0=0
def IJ.reach{mask:Nat}(C:IJ mask){i j:Nat}(AA:i<=mask)(An:j<=mask):∃m,m<=mask/\L9 mask m i=j:=by
 obtain⟨a,a1,a2⟩:=dQ _ _ _ _ (C.all i AA);obtain⟨b,b1,Ey⟩:=dQ _ _ _ _ (C.all j An);by_cases h:a<=b
 .refine⟨b-a,δ,?_⟩;rw[<-a2,<-a3,show a+(b-a)=b by lia,Ey]
 .refine⟨mask+1-a+b,δ,?_⟩;rw[<-a2,<-a3,show a+(mask+1-a+b)=(mask+1)+b by lia,a3,C.back,Ey]
def bA{mask:Nat}(h:(Cg (mask+1)).all (λj=>(Zi mask (mask+1) 0).contains j)=true)(b:L9 mask (mask+1) 0=0):IJ mask:=
 ⟨λj An=>by have:=List.all_eq_true.mp h j (List.mem_range.mpr δ);exact List.contains_iff_mem.mp this,b⟩
def iu:IJ 7:=bA (by decide+kernel) (by decide+kernel)
def ir:IJ 31:=bA (by decide+kernel) (by decide+kernel)
def iq:IJ 127:=bA (by decide+kernel) (by decide+kernel)
def dI(mask:Nat)(h:Int):∀n,(BU mask h n).1<=mask
 |0=>fh (Xb _ δ)
 |n+1=>fh (Xb _ δ)
def IJ.leap{mask:Nat}(C:IJ mask)(h:Int){j:Nat}(An:j<=mask):∃L,L<mask+15/\(BU mask h L).1=j:=by obtain⟨m,h1,h2⟩:=C.reach (dI mask h 13) An;exact⟨13+m,δ,by rw[jr];exact h2⟩
def IJ.cover{mask:Nat}(C:IJ mask)(h:Int){j:Nat}(An:j<=mask):∃n,n<10*turns mask/\(Ef mask h n).j=j:=by
 obtain⟨L,h1,h2⟩:=C.leap h An;refine⟨LU mask h L,?_,?_⟩
 .have:=qL mask h L;unfold turns;lia
 .have:=ek mask h L 0 (IM _);erw[XW]at this;rw[this];exact h2
def vh{P:↑Nat}{mask:Nat}(AS:P.Pairwise (· <·))(Ae:⇑P<=mask):∃j,j<=mask/\j∉P:=by
 apply SQ;intro no;have all:∀j,j<=mask->j∈P:=λj An=>SQ λz=>no ⟨j,An,z⟩;have Bj:(Cg (mask+1)).Nodup:=List.nodup_range;have sub:∀x∈Cg (mask+1),x∈P:=λx AM=>all x (by have:=List.mem_range.mp AM;lia);have key:∀(l:↑Nat),l.Nodup->∀(P:↑Nat),(∀x∈l,x∈P)->⇑l<=⇑P:=by
  intro l;induction l with
  |nil=>intro _ P _;simp
  |cons a r CC=>intro Bj P sub;obtain⟨E1,FN⟩:=List.nodup_cons.mp Bj;have AF:=sub a γ;have:=CC FN (P.erase a) (λx AM=>(fo (by intro e;subst e;exact E1 AM)).mpr (sub x (by simp[AM])));rw[fT AF]at this;have:0< ⇑P:=XD AF;simp;lia
 have:=key _ Bj P sub;simp at this;lia
def least(p:Nat->Prop):(∃n,p n)->∃n,p n/\∀m,m<n->¬p m:=by
 rintro⟨n,h⟩;induction n using Nat.strongRecOn with
 |_ n CC=>
  by_cases q:∃m,m<n/\p m
  .obtain⟨m,Hp,H8⟩:=q;exact CC m Hp H8
  .exact⟨n,h,λm hm AX=>q ⟨m,hm,AX⟩⟩
def IJ.first{mask:Nat}(C:IJ mask){P:↑Nat}(AS:P.Pairwise (· <·))(Ae:⇑P<=mask)(h:Int):∃N,N<10*turns mask/\(Ef mask h N).j∉P/\∀m,m<N->(Ef mask h m).j∈P:=by obtain⟨j,Js,Kj⟩:=vh AS Ae;obtain⟨n,E1,FN⟩:=C.cover h Js;obtain⟨N,YJ,YK⟩:=least (λn=>(Ef mask h n).j∉P) ⟨n,by rw[FN];exact Kj⟩;refine⟨N,?_,YJ,λm hm=>SQ (YK m hm)⟩;have:¬n<N:=λz=>YK n z (by rw[FN];exact Kj);lia
theorem jq(mask:Nat)(h:Int):∀n,(Ef mask h n).dummy=none
 |0=>rfl
 |n+1=>by
  show(Ld mask (Ef mask h n)).dummy=none;unfold Ld
  split<;>exact jq mask h n
def f8{mask i:Nat}(AA:i<=mask):runEnd mask i<=mask:=by unfold runEnd;split<;>lia
structure hC(mask:Nat)(p:Probe):Prop where
 i:p.i<=mask
 j:p.j+p.more<=mask
theorem n0(mask:Nat)(h:Int):∀n,hC mask (Ef mask h n)
 |0=>by have:=dI mask h 0;have h2:=f8 this;have BF:=f7 mask (BU mask h 0).1;exact⟨this,by show(BU mask h 0).1+(runEnd mask (BU mask h 0).1-(BU mask h 0).1)<=mask;lia⟩
 |n+1=>by
  obtain⟨a,b⟩:=n0 mask h n;show hC mask (Ld mask (Ef mask h n));unfold Ld
  split
  .rename_i q;refine⟨a,?_⟩;show(Ef mask h n).j+1+((Ef mask h n).more-1)<=mask;lia
  .have h1:(gN mask (Ef mask h n).i (Ef mask h n).perturb).1<=mask:=fh (Xb _ δ);have h2:=f8 h1;have BF:=f7 mask (gN mask (Ef mask h n).i (Ef mask h n).perturb).1;refine⟨h1,?_⟩;show(gN mask (Ef mask h n).i (Ef mask h n).perturb).1+(runEnd mask _-_)<=mask;lia
def aeH(mask:Nat)(h:Int)(n:Nat):(Ef mask h n).j<=mask:=by have:=(n0 mask h n).j;lia
section
variable{α:Type}
structure KS(t:Il)(es:Array (Int×α)):Prop where
 tab:Tab t es.size
 tV:IJ t.mask
 room:es.size<=t.mask
def KS.len{t:Il}{es:Array (Int×α)}(A0:KS t es):⇑t.place.toList=es.size:=(A0.tab.MY:)
theorem KS.first{t:Il}{es:Array (Int×α)}(A0:KS t es)(h:Int):∃N,N<10*turns t.mask/\(Ef t.mask h N).j∉t.place.toList/\∀m,m<N->(Ef t.mask h m).j∈t.place.toList:=
 A0.tV.first A0.tab.Tn (by rw[A0.len];exact A0.room) h
theorem KS.fits{t:Il}{es:Array (Int×α)}(A0:KS t es):t.fits es.size=true:=by unfold SetTable.fits SetTable.fill;rw[A0.tab.Tf,A0.tab.MY];have:=A0.room;simp;lia
theorem mr{t:Il}{es:Array (Int×α)}(A0:KS t es)(f:Nat->Int)(h:Int){N:Nat}(h1:(Ef t.mask h N).j∉t.place.toList)(h2:∀m,m<N->(Ef t.mask h m).j∈t.place.toList) :
  ∀fuel n,n<=N->N-n<fuel->
  probe.go t f h fuel (Ef t.mask h n)=↥(.empty (Ef t.mask h N).j none)\/
  ∃m i e,n<=m/\m<N/\t.slot (Ef t.mask h m).j=.live i/\es[i]?=↥e/\probe.go t f h fuel (Ef t.mask h n)=↥(.candidate (Ef t.mask h m).j i (Ef t.mask h (m+1)))
 |0,n,_,ajF=>δ
 |fuel+1,n,Ae,PB=>by
  unfold probe.go;by_cases q:n=N
  .subst q;rw[afL A0.tab h1];exact .inl (by dsimp only;rw[jq])
  .obtain⟨i,s1,s2⟩:=afM A0.tab (h2 n δ);have AA:i<es.size:=by rw[<-A0.len];exact(List.getElem?_eq_some_iff.mp s2).1
   by_cases w:f i=h
   .exact .inr ⟨n,i,_,CB _,δ,s1,LL AA,by rw[s1];dsimp only;rw[if_pos (w:),hK];rfl⟩
   .rw[s1];dsimp only;rw[if_neg (w:),hK];exact(mr A0 f h h1 h2 fuel (n+1) δ δ).imp_right λ⟨m,j0,e,a1,a⟩=>⟨m,j0,e,δ,a⟩
def yX{es:Array α}{p:Nat}{e:α}(AX:p<=es.size):(insertAt es p e).size=es.size+1:=by
 have:(insertAt es p e).toList.length=es.size+1:=by rw[c3,EL,FF,LK,QY,SU];lia
 simpa using this
def lb{es:Array α}{p:Nat}{x e:α}:e∈(insertAt es p x).toList↔e=x\/e∈es.toList:=by
 rw[c3]
 conv=>rhs;rw[<-SY p es.toList]
 erw[Hf,He];exact⟨λh=>h.elim (λh=>.inr (.inl h)) λh=>h.imp_right .inr,λh=>h.elim (λh=>.inr (.inl h)) λh=>h.imp_right .inr⟩
end
structure Own(M:Nat)(owner:Array (Option Nat))(a:↑Nat):Prop where
 MY:owner.size=M+1
 Bj:a.Nodup
 le:∀j∈a,j<=M
 of:∀j k:Nat,owner[j]?=↥↥k↔a[k]?=↥j
def Own.free{M:Nat}{owner:Array (Option Nat)}{a:↑Nat}(O:Own M owner a){j:Nat}(An:j<=M):(owner.getD j ↥0).isNone=true↔j∉a:=by
 have AS:j<owner.size:=by have:=O.MY;lia
 rw[SO,LL AS,Sf];constructor
 .intro h m;obtain⟨k,AQ,rfl⟩:=UZ m;have:=(O.of _ k).mpr (C3 AQ);rw[LL AS]at this;rw[Ga this]at h;cases h
 .intro h;cases e:owner[j]with
  |none=>rfl
  |some k=>exact absurd (Ik ((O.of j k).mp (by rw[LL AS,e]))) h
theorem jb{M:Nat}{owner:Array (Option Nat)}{a:↑Nat}(O:Own M owner a)(h:Int):∀fuel L,(∃OH,L<=OH/\OH<L+fuel/\(BU M h OH).1∉a)->
  ∃j,layClean.free M owner fuel (BU M h L).1 (BU M h L).2=↥j/\j<=M/\j∉a
 |0,L,⟨OH,h1,h2,_⟩=>δ
 |fuel+1,L,⟨OH,h1,h2,BF⟩=>by
  unfold layClean.free;have hle:=dI M h L;have aiY:=f8 hle;have ajG:=f7 M (BU M h L).1;cases hf:(Cg (runEnd M (BU M h L).1+1-(BU M h L).1)).find? λk=>(owner.getD ((BU M h L).1+k) ↥0).isNone with
  |some k=>have AQ:=List.mem_range.mp (rQ hf);exact⟨_,rfl,δ,(O.free δ).mp (by have:=List.find?_some hf;exact this)⟩
  |none=>
   have ne:L≠OH:=by rintro rfl;exact List.find?_eq_none.mp hf 0 (List.mem_range.mpr δ) ((O.free δ).mpr BF)
   exact jb O h fuel (L+1) ⟨OH,δ,δ,BF⟩
def d_{l P:↑Nat}(Bj:l.Nodup)(sub:∀x∈l,x∈P):⇑l<=⇑P:=by
 induction l generalizing P with
 |nil=>simp
 |cons a r CC=>obtain⟨E1,FN⟩:=List.nodup_cons.mp Bj;have AF:=sub a γ;have:=CC FN (P:=P.erase a) (λx AM=>(fo (by intro e;subst e;exact E1 AM)).mpr (sub x (by simp[AM])));rw[fT AF]at this;have:0< ⇑P:=XD AF;simp;lia
def vi{M:Nat}(C:IJ M){owner:Array (Option Nat)}{a:↑Nat}(O:Own M owner a)(AI:⇑a<=M)(h:Int):∃j,layClean.free M owner (turns M) (bits h%(M+1)) (bits h)=↥j/\j<=M/\j∉a:=by
 obtain⟨j,Js,Kj⟩:∃j,j<=M/\j∉a:=by apply SQ;intro no;have:=d_ (List.nodup_range (n:=M+1)) (P:=a) λx AM=>SQ λz=>no ⟨x,by have:=List.mem_range.mp AM;lia,z⟩;simp at this;lia
 obtain⟨OH,DI,Ct⟩:=C.leap h Js;exact jb O h (turns M) 0 ⟨OH,IM _,by unfold turns;lia,by rw[Ct];exact Kj⟩
noncomputable def ZQ(M:Nat)(acc:Option (Array (Option Nat)×Nat))(h:Int):Option (Array (Option Nat)×Nat):=do
 let(owner,k) <-acc
 let j <-layClean.free M owner (turns M) (bits h%(M+1)) (bits h)
 pure (owner.setIfInBounds j ↥k,k+1)
def zS(M:Nat)(AS:Array Int):layClean M AS=(AS.toList.foldl (ZQ M) ↥(Array.replicate (M+1) none,0)).map (·.1):=by unfold layClean;rw[<-Array.foldl_toList];rfl
def Own.add{M:Nat}{owner:Array (Option Nat)}{a:↑Nat}(O:Own M owner a){j:Nat}(An:j<=M)(Ae:j∉a):Own M (owner.setIfInBounds j (some ⇑a)) (a++[j]):=by
 have AS:j<owner.size:=by have:=O.MY;lia
 refine⟨by simp[O.MY],?_,?_,λi k=>?_⟩
 .refine List.nodup_append.mpr ⟨O.Bj,γ,λx AM y Af=>?_⟩;simp at Af;subst Af;intro e;subst e;exact Ae AM
 .intro i AA;rcases List.mem_append.mp AA with AA|AA
  .exact O.le i AA
  .simp at AA;lia
 .rw[Array.getElem?_setIfInBounds,List.getElem?_append];by_cases q:j=i
  .subst q;rw[if_pos rfl,if_pos AS];constructor
   .intro e;have e:=Ga (Ga e);subst e;rw[if_neg (MG _)];simp
   .intro e
    split at e
    .exact absurd (Ik e) Ae
    .have:k- ⇑a<1:=(List.getElem?_eq_some_iff.mp e).1;rw[show k=⇑a by lia]
  .rw[if_neg q,O.of i k]
   split
   .rfl
   .rw[J_ δ];refine⟨(λe=>nomatch e),λe=>?_⟩;obtain⟨l,e⟩:=List.getElem?_eq_some_iff.mp e;simp at l e;exact absurd e q
theorem jY{M:Nat}(C:IJ M):∀(AS:↑Int)(owner:Array (Option Nat))(a:↑Nat),Own M owner a->⇑a+⇑AS<=M->
  ∃Zl Gi,AS.foldl (ZQ M) ↥(owner,⇑a)=↥(Zl,⇑Gi)/\Own M Zl Gi/\ ⇑Gi=⇑a+⇑AS
 |[],owner,a,O,_=>⟨owner,a,rfl,O,rfl⟩
 |h::AS,owner,a,O,AI=>by
  erw[FF]at AI;obtain⟨j,f1,f2,FK⟩:=vi C O δ h;obtain⟨Zl,Gi,As,BK,Ff⟩:=jY C AS _ _ (O.add f2 FK) (by simp;lia);refine⟨Zl,Gi,?_,BK,by simp at Ff |-;lia⟩;have DO:ZQ M ↥(owner,⇑a) h=↥(owner.setIfInBounds j (some ⇑a),⇑(a++[j])):=by unfold ZQ;erw[Option.bind_eq_bind,g8,f1];simp
  rw[List.foldl_cons,DO];exact As
section
variable{α:Type}
theorem jU{es:↑α}:∀{l:↑Nat},(∀k∈l,k< ⇑es)->⇑(l.filterMap (es[·]?))=⇑l
 |[],_=>rfl
 |k::l,AQ=>by rw[SS,C3 (AQ k γ)];simp[jU (es:=es) (l:=l) λx AM=>AQ x (by simp[AM])]
def zP{M:Nat}(C:IJ M){es:Array (Int×α)}(AI:es.size<=M)(finger moves:Nat)(led plain:Bool) :
  ∃t' order,laid M finger moves led plain (es.map (·.1))=↥(t',order)/\t'.mask=M/\
   (order.filterMap (es[·]?)).size=es.size/\KS t' (order.filterMap (es[·]?))/\∀e,e∈(order.filterMap (es[·]?)).toList↔e∈es.toList:=by
 obtain⟨owner,a,C7,O,e5⟩:=jY C (es.map (·.1)).toList (Array.replicate (M+1) none) [] ⟨γ,γ,γ,λj k=>by
  rw[Array.getElem?_replicate]
  split<;>simp⟩ (AI:)
 have e5:⇑a=es.size:=(e5:)
 have C7:layClean M (es.map (·.1))=↥owner:=by rw[zS];rw[show(List.length ([]:↑Nat))=0 from rfl]at C7;rw[C7];rfl
 obtain⟨live,au⟩:∃live,live=(Cg (M+1)).filterMap λj=>(owner.getD j none).map (j,·):=ο;have mem:∀j k,(j,k)∈live↔a[k]?=↥j:=by
  intro j k;rw[au,List.mem_filterMap,<-O.of j k];erw[SO,List.mem_range,Option.map_eq_some_iff,Prod.mk.injEq];constructor
  .rintro⟨i,AA,y,e,rfl,rfl⟩;cases q:owner[i]? with
   |none=>rw[q]at e;cases e
   |some x=>rw[q]at e;exact congrArg some e
  .intro e;have:=(Array.getElem?_eq_some_iff.mp e).1;exact⟨j,by have:=O.MY;lia,k,by rw[e];rfl,rfl,rfl⟩
 have rise:(live.map (·.1)).Pairwise (· <·):=by rw[au,X5];refine List.Pairwise.filterMap _ (R:=(· <·)) ?_ (List.pairwise_lt_range:);intro i j0 wx b A4 JP d3;obtain⟨_,_,rfl⟩:=Option.map_eq_some_iff.mp A4;obtain⟨_,_,rfl⟩:=Option.map_eq_some_iff.mp d3;exact wx
 have JV:⇑live=es.size:=by
  apply Nat.le_antisymm
  .have:=d_ (rise.imp λh=>FG h) (P:=a) (λx AM=>by
     obtain⟨p,Dk,rfl⟩:=List.mem_map.mp AM;exact Ik ((mem p.1 p.2).mp Dk))
   simp at this;lia
  .have:=d_ O.Bj (P:=live.map (·.1)) (λx AM=>by
     obtain⟨k,AQ,rfl⟩:=UZ AM;exact List.mem_map.mpr ⟨(a[k],k),(mem _ _).mpr (C3 AQ),rfl⟩)
   simp at this;lia
 have ad0:∀k∈live.map (·.2),k< ⇑es.toList:=λk AQ=>by obtain⟨p,Dk,rfl⟩:=List.mem_map.mp AQ;have:=(List.getElem?_eq_some_iff.mp ((mem p.1 p.2).mp Dk)).1;simp;lia
 have Nn:((live.map (·.2)).toArray.filterMap (es[·]?)).toList=(live.map (·.2)).filterMap (es.toList[·]?):=by rw[Array.toList_filterMap];simp
 have hsz:((live.map (·.2)).toArray.filterMap (es[·]?)).size=es.size:=by
  have:((live.map (·.2)).toArray.filterMap (es[·]?)).toList.length=es.size:=by rw[Nn,jU ad0];simp[JV]
  simpa using this
 refine⟨_,_,by
  unfold laid;rw[C7];show↥_=_;rw[<-au],rfl,hsz,⟨⟨rfl,?_,?_,?_⟩,C,by rw[hsz];exact AI⟩,λe=>?_⟩
 .rw[hsz];simp[JV]
 .simpa using rise
 .intro j An;have An:j∈live.map (·.1):=by simpa using An
  obtain⟨p,Dk,rfl⟩:=List.mem_map.mp An;exact O.le _ (Ik ((mem p.1 p.2).mp Dk))
 .rw[Nn,List.mem_filterMap];constructor
  .rintro⟨k,_,q⟩;exact Ik q
  .intro q;obtain⟨k,AQ,rfl⟩:=UZ q;have wz:k< ⇑a:=by rw[e5];simpa using AQ
   exact⟨k,List.mem_map.mpr ⟨(a[k],k),(mem _ _).mpr (C3 wz),rfl⟩,C3 AQ⟩
end
section
variable{prog:CD}{w:Bq}{A:D3}{E:A8->AR->Prop}{s:AR}{K:Type}[DecidableEq K]{knd:KeyKind prog w K}
def l8{AZ:↑K}{a:A6}{n:Nat}{Q:Bool->AR->Prop}(AQ:O7 knd s.heap AZ a)(h:Q false s):Av Θ A (X6 (n+1) (.ref a)) Q E s:=by
 have D4:=AQ.typeIs;obtain⟨o,items,m,ho,_,hd,AA⟩:=AQ;unfold X6;refine Ah (wpAny_typeOf D4 ?_);dsimp only;rw[if_pos (by rfl)];refine Ah (Bk ?_);erw[gO,Kn,if_false];refine Ah (PM ho hd ?_);refine Ah ?_;rw[<-Array.forIn_toList];refine g9 _ (λrest r s'=>r.1=none/\s'=s/\∀v∈rest,Uj v=true) _ ?_ ?_ _ _ ⟨rfl,rfl,AA.byValue⟩
 .rintro v rest r s' ⟨BZ,rfl,al⟩;have e:X6 n v=pure false:=by
   have:=al v I0;cases v<;>first|(simp[Uj]at this;done)|(unfold X6;rfl)
  rw[e];exact Ah (Bk (Bk ⟨rfl,rfl,λu BS=>al u (Gw _ BS)⟩))
 .rintro⟨As,BK⟩ s' ⟨BZ,rfl,_⟩;simp only at BZ;subst BZ;exact Bk h
theorem uN{AZ:↑K}{a:A6}{Q:Bool->AR->Prop}(AQ:O7 knd s.heap AZ a)(h:∀b,Q b s):Av Θ A (XV 8 (.ref a)) Q E s:=by
 have D4:=AQ.typeIs;obtain⟨o,items,m,ho,_,hd,AA⟩:=AQ;unfold XV;refine Ah (wpAny_specialOf D4 F.slot_tuple_hash.lookup ?_);refine Ah (PM ho hd ?_);erw[Sf];refine Ah ?_;rw[<-Array.forIn_toList];refine g9 _ (λrest r s'=>r.1=none/\s'=s/\∀v∈rest,Uj v=true) _ ?_ ?_ _ _ ⟨rfl,rfl,AA.byValue⟩
 .rintro v rest r s' ⟨BZ,rfl,al⟩;have e:∃b,XV 7 v=pure b:=by
   have:=al v I0;cases v<;>first|(simp[Uj]at this;done)|(unfold XV;exact⟨_,rfl⟩)
  obtain⟨b,e⟩:=e;rw[e];refine Ah (Bk ?_);cases b with
  |true=>exact Bk ⟨rfl,rfl,λu BS=>al u (Gw _ BS)⟩
  |false=>exact Bk (Bk (h _))
 .rintro⟨As,BK⟩ s' ⟨BZ,rfl,_⟩;simp only at BZ;subst BZ;exact Bk (h _)
def OG(knd:KeyKind prog w K)(ok:A6->Prop)(h:BG)(S:↑↑K)(v:A8):Prop:=∃AZ b,v=.ref b/\O7 knd h AZ b/\AZ∈S/\ok b
def OG.to{ok lF:A6->Prop}{h h':BG}{S E4:↑↑K}{v:A8}(x:OG knd ok h S v)(m:∀b o,ok b->h.get? b=↥o->h'.get? b=↥o)(s:∀AZ∈S,AZ∈E4)(k:∀b,ok b->lF b):OG knd lF h' E4 v:=
 let⟨AZ,b,e,⟨o,i,n,ho,r⟩,q,z⟩:=x;⟨AZ,b,e,⟨o,i,n,m b o z ho,r⟩,s AZ q,k b z⟩
def ac4{AZ:↑K}{x:A6}{ok:A6->Prop}{S:↑↑K}(AM:O7 knd s.heap AZ x):∀(l:↑A8),(∀y∈l,OG knd ok s.heap S y)->∀{Q:Bool->AR->Prop},Q false s->Av Θ A (searchCouldBeSeen (.ref x) l) Q E s:=by
 intro l AI Q h;unfold searchCouldBeSeen;refine Ah ?_;refine g9 _ (λrest r s'=>r.1=none/\s'=s/\∀y∈rest,OG knd ok s.heap S y) _ ?_ ?_ _ _ ⟨rfl,rfl,AI⟩
 .rintro v rest r s' ⟨BZ,rfl,al⟩;obtain⟨NL,b,rfl,A4,_⟩:=al v I0;have hL:=λu(BS:u∈rest)=>al u (Gw _ BS);dsimp only;by_cases q:(x==b)=true
  .rw[if_pos (by simp[q])];exact Bk ⟨rfl,rfl,hL⟩
  .rw[if_neg (by simp[Uj];simpa using q)];exact Ah (wpAny_eqIsQuiet_tuple AM (Ah (wpAny_eqIsQuiet_tuple A4 (Ah (l8 AM (Ah (l8 A4 (Bk ⟨rfl,rfl,hL⟩))))))))
 .rintro⟨As,BK⟩ s' ⟨BZ,rfl,_⟩;simp only at BZ;subst BZ;exact Bk h
def af6{α:Type}{c:Bool}{m:Sem Bool}{U R:Sem α}{Q:α->AR->Prop}(hm:∀{Q:Bool->AR->Prop},Q false s->Av Θ A m Q E s)(h:Av Θ A R Q E s) :
  Av Θ A (if c=true then m>>=λb=>if b=true then U else R else R) Q E s:=by
 split
 .exact Ah (hm (by rw[if_neg γ];exact h))
 .exact h
theorem qH{a x:A6}{o:Obj}{B9:Nat}{t:Il}{es:Array (Int×A8)}{AZ:↑K}{ok:A6->Prop}{S:↑↑K}(BS:A.units<Dr)(ho:s.heap.get? a=↥o)(hd:o.data=.set es B9 t)(A0:KS t es)(X:∀e∈es.toList,OG knd ok s.heap S e.2)(AM:O7 knd s.heap AZ x)(no:AZ∉S)(Zb:t.mask%2=1){N:Nat}(hN:N<10*turns t.mask)(h1:(Ef t.mask (IL knd AZ) N).j∉t.place.toList)(h2:∀m,m<N->(Ef t.mask (IL knd AZ) m).j∈t.place.toList){Q:SetFound->AR->Prop}(q:Q (.free (Ef t.mask (IL knd AZ) N).j false) s) :
  ∀(fuel n:Nat)(st:Option Probe),n<=N->N-n<fuel->st.getD (t.probeStart (IL knd AZ))=Ef t.mask (IL knd AZ) n->
   Av Θ A (setSearchFrom a (.ref x) (IL knd AZ) true fuel st) Q E s
 |0,n,_,_,z,_=>δ
 |fuel+1,n,st,Ae,hf,Hn=>by
  unfold setSearchFrom;refine Ah (Uf ho hd A0.fits ?_);dsimp only;rw[if_neg (by unfold SetTable.gaveWay;simp[Zb]),Hn];unfold SetTable.probe;have G:=mr A0 (λi=>(es[i]?.map (·.1)).getD 0) (IL knd AZ) h1 h2 (10*turns t.mask) n Ae δ;generalize hz:probe.go t _ (IL knd AZ) (10*turns t.mask) (Ef t.mask (IL knd AZ) n)=z;rcases G with g|⟨m,i,e,Hp,H8,CP,Fb,g⟩
  .have g:=hz.symm.trans g;subst g;exact Bk q
  .have g:=hz.symm.trans g;subst g;dsimp only;obtain⟨NL,b,B4,MM,ms,_⟩:=X e (by rw[<-UT]at Fb;exact Ik Fb);have Fb:es[i]?=↥(e.1,.ref b):=by rw[Fb,<-B4]
   refine af6 (λh=>ac4 (S:=S) (ok:=ok) AM _ (λy Af=>?_) h) ?_
   .obtain⟨e,he,rfl⟩:=List.mem_map.mp Af;exact X e (by simp at he;simpa using he.1)
   .rw[Fb];refine Ah (O1 (wpAny_eqBool_tuple BS MM AM ?_));refine Ah (Uf ho hd A0.fits ?_);have ne:decide (NL=AZ)=false:=decide_eq_false λz=>no (z▸ms);rw[ne];dsimp only;rw[if_neg γ,show t.sameMemory t.moves t.mask=↥true by unfold SetTable.sameMemory;simp];dsimp only;rw[if_pos rfl,CP];dsimp only;rw[Fb];refine Ah (wpAny_isSame_ref_self ?_);rw[if_pos rfl];refine Ah (Bk ?_);dsimp only;rw[if_neg γ];exact qH BS ho hd A0 X AM no Zb hN h1 h2 q fuel (m+1) _ δ δ rfl
def OL(knd:KeyKind prog w K)(ok:A6->Prop)(h:BG)(a:A6)(S:↑↑K):Prop:=
 ∃o es B9 t,h.get? a=↥o/\o.ExactSet/\o.data=.set es B9 t/\KS t es/\(∀e∈es.toList,OG knd ok h S e.2)/\es.size=⇑S/\((t.mask=7/\es.size<5)\/(t.mask=31/\es.size<19)\/(t.mask=127/\es.size<77))
end
section
variable{prog:CD}{w:Bq}{A:D3}{E:A8->AR->Prop}{s:AR}{K:Type}[DecidableEq K]{knd:KeyKind prog w K}
def ji{h:BG}{a:A6}{o:Obj}{es es':Array (Int×A8)}{B9:Nat}{t t':Il}(ho:h.get? a=↥o)(AM:o.ExactSet)(hd:o.data=.set es B9 t):∃o',(h.update a (Obj.putSet es' t')).get? a=↥o'/\o'.ExactSet/\o'.data=.set es' (B9+1) t':=by
 refine⟨_,XE _ ho (by rw[putSet_of es' t' hd];rfl),?_,?_⟩
 .rw[putSet_of es' t' hd];exact AM
 .rw[putSet_of es' t' hd]
def adO{a:A6}{o:Obj}{B9:Nat}{t:Il}{es:Array (Int×A8)}{M wanted:Nat}{Q:Unit->AR->Prop}(ho:s.heap.get? a=↥o)(AM:o.ExactSet)(hd:o.data=.set es B9 t)(A0:KS t es)(C:IJ M)(AI:es.size<=M)(Qq:sH wanted=M+1)(hm:M<=127)(h:∀es' t' o' h',Kp a s.heap h'->h'.get? a=↥o'->o'.ExactSet->o'.data=.set es' (B9+1) t'->t'.mask=M->KS t' es'->es'.size=es.size->(∀e,e∈es'.toList↔e∈es.toList)->Q () { s with heap:=h' }) :
  Av Θ A (setRelay a wanted) Q E s:=by
 unfold setRelay;refine Ah (Uf ho hd A0.fits ?_);dsimp only;rw[if_neg (by rw[Qq];show¬(M+1>CU);rw[Qd];lia)];obtain⟨t',order,As,BK,Rr,eo,adf⟩:=zP C AI t.finger (t.movedTo M) t.led t.plain;have e:t.relaid (es.map (·.1)) wanted=↥(t',order):=by unfold SetTable.relaid;rw[Qq];exact As
 rw[e];have DO:Av Θ A (if((order.filterMap (es[·]?)).size !=es.size)=true then(do unsupported "internal:set-table-lost-an-element";pure (order.filterMap (es[·]?),t'))else pure (order.filterMap (es[·]?),t')) (λr s'=>Av Θ A (storeSet a r.1 r.2) Q E s') E s:=by rw[if_neg (by rw[Rr];simp)];refine Bk ?_;obtain⟨o',g1,g2,g3⟩:=ji (es':=order.filterMap (es[·]?)) (t':=t') ho AM hd;exact wpAny_storeSet_of ho hd (h _ t' o' _ (SV _ _ _) g1 g2 g3 BK eo Rr adf) (by rw[Rr,Qd];lia)
 exact Ah DO
def sg{ok:A6->Prop}{a x:A6}{S:↑↑K}{AZ:↑K}{Q:Bool->AR->Prop}(BS:A.units<Dr)(T:OL knd ok s.heap a S)(AM:O7 knd s.heap AZ x)(BB:ok x)(na:∀b,ok b->b≠a)(no:AZ∉S)(Mp:⇑S<76)(h:∀b h',Kp a s.heap h'->OL knd ok h' a (S++[AZ])->Q b { s with heap:=h' }) :
  Av Θ A (setAddHashed a (.ref x) (IL knd AZ)) Q E s:=by
 obtain⟨o,es,B9,t,ho,hex,hd,A0,X,Ae,BZ⟩:=T;obtain⟨C,Zb⟩:IJ t.mask/\t.mask%2=1:=by
  rcases BZ with⟨e,_⟩|⟨e,_⟩|⟨e,_⟩<;>rw[e]
  .exact⟨iu,rfl⟩
  .exact⟨ir,rfl⟩
  .exact⟨iq,rfl⟩
 obtain⟨N,tK,YJ,YK⟩:=A0.first (IL knd AZ);unfold setAddHashed setAddHashedIn;refine O1 (Ah (Uf ho hd A0.fits ?_));dsimp only;rw[if_neg (by simp[byScan,Value.scannable])];unfold setSearch;refine Ah (qH BS ho hd A0 X AM no Zb tK YJ YK ?_ 100000 0 none (IM _) (by
  have:turns t.mask<=142:=by unfold turns;lia
  lia) rfl)
 dsimp only;refine Ah (Uf ho hd A0.fits ?_);dsimp only;obtain⟨p,Dk,Cm,TV,-,Hl⟩:=aeK A0.tab YJ (aeH _ _ _);generalize An:(Ef t.mask (IL knd AZ) N).j=j at*;have KH:=yX (e:=(IL knd AZ,DB x)) Cm
 have fin:∀pl:Bool,Av Θ A (do
       storeSet a (X7 es (t.put j).2 (IL knd AZ,DB x)) { (t.put j).1 with plain:=pl }
       if(!false&&({ (t.put j).1 with plain:=pl }:Il).tooFull)=true then do
          setRelay a (SetTable.grown (es.size+1))
          pure true
        else pure true) Q E s:=by
  intro pl;have Hl:(t.put j).1.mask=t.mask:=by rw[Hl]
  have Ai:KS { (t.put j).1 with plain:=pl } (X7 es (t.put j).2 (IL knd AZ,DB x)):=⟨⟨TV.Tf,by rw[Dk,KH];exact TV.MY,TV.Tn,TV.le⟩,by rw[<-Hl]at C;exact C,by rw[Dk,KH];show es.size+1<=(t.put j).1.mask;lia⟩;rw[Dk]at Ai |-;obtain⟨F4,g1,g2,g3⟩:=ji (es':=X7 es p (IL knd AZ,DB x)) (t':={ (t.put j).1 with plain:=pl }) ho hex hd;have p1:=SV s.heap a (Obj.putSet (X7 es p (IL knd AZ,DB x)) { (t.put j).1 with plain:=pl });have done:∀(h':BG)(es':Array (Int×A8))(t':Il)(o':Obj)(Lk:Nat),Kp a s.heap h'->h'.get? a=↥o'->o'.ExactSet->o'.data=.set es' Lk t'->KS t' es'->es'.size=es.size+1->(∀e,e∈es'.toList↔e=(IL knd AZ,DB x)\/e∈es.toList)->((t'.mask=7/\es'.size<5)\/(t'.mask=31/\es'.size<19)\/(t'.mask=127/\es'.size<77))->Q true { s with heap:=h' }:=by
   intro h' es' t' o' Lk HD Aq BV Do Jb UP QK Kx;have m:∀b o,ok b->s.heap.get? b=↥o->h'.get? b=↥o:=λb o z e=>(HD.2 b (na b z)).trans e;refine h true h' HD ⟨o',es',Lk,t',Aq,BV,Do,Jb,λe he=>?_,by rw[UP,Ae];simp,Kx⟩;rcases(QK e).mp he with rfl|he
   .exact OG.to (S:=[AZ]) ⟨AZ,x,rfl,AM,fV _,BB⟩ m (λk AQ=>Hz _ AQ) λ_ z=>z
   .exact(X e he).to m (λk AQ=>Gx _ AQ) λ_ z=>z
  refine Ah (wpAny_storeSet_of ho hd ?_ (by rw[KH,Qd];lia));have aev:({ (t.put j).1 with plain:=pl }:Il).tooFull=decide ((es.size+1)*5≥t.mask*3):=by unfold SetTable.tooFull SetTable.fill;rw[Ai.tab.MY,Ai.tab.Tf,KH];show decide ((es.size+1+0)*5≥(t.put j).1.mask*3)=_;rw[Hl]
  rw[aev];by_cases full:(es.size+1)*5≥t.mask*3
  .rw[if_pos (full:)];obtain⟨M,C7,Cz,GR,KX,bt⟩:∃M,IJ M/\sH (SetTable.grown (es.size+1))=M+1/\M<=127/\es.size+1<=M/\((M=7/\es.size+1<5)\/(M=31/\es.size+1<19)\/(M=127/\es.size+1<77)):=by
    rcases BZ with⟨e,l⟩|⟨e,l⟩|⟨e,l⟩
    .rw[show es.size=4 by lia];exact⟨31,ir,by decide+kernel,ε⟩
    .rw[show es.size=18 by lia];exact⟨127,iq,by decide+kernel,ε⟩
    .lia
   refine Ah (adO g1 g2 g3 Ai C7 (by rw[KH];exact KX) Cz GR λes' t' o' h' HD Aq BV Do Jb UP QK Kx=>Bk ?_);exact done h' es' t' o' _ (p1.trans HD) Aq BV Do UP (by rw[QK,KH]) (λe=>by rw[Kx e,lb]) (by rw[Jb,QK,KH];exact bt)
  .rw[if_neg (full:)];refine Bk (done _ _ _ F4 _ p1 g1 g2 g3 Ai KH (λe=>lb) ?_);rw[KH];show((t.put j).1.mask=7/\_)\/((t.put j).1.mask=31/\_)\/((t.put j).1.mask=127/\_);lia
 split
 .exact Ah (uN AM λb=>by cases b<;>exact fin _)
 .exact Ah (Bk (fin _))
end
open PyProof.Rows
section
variable{prog:CD}{w:Bq}{A:D3}{E:A8->AR->Prop}{s:AR}{K:Type}[DecidableEq K]{knd:fs prog w K}
section
variable{R:Result->AR->Prop}{A0:A6}{BR wr:↑A6}{G:Array GenState->Array GenState->Prop}{n:Nat}{P:Nat->A8->Prop}{St:Nat->AR->Prop}
def Keyed(knd:fs prog w K)(keys:↑↑K)(P:Nat->A8->Prop)(no:↑A6)(h:BG):Prop:=∀i v,P i v->∃AZ,keys[i]?=↥AZ/\OG knd (· ∉no) h [AZ] v
def OL.moved{ok:A6->Prop}{h h':BG}{S:A6}{L:↑↑K}(T:OL knd ok h S L)(abB:∀o,h.get? S=↥o->h'.get? S=↥o)(m:∀b o,ok b->h.get? b=↥o->h'.get? b=↥o):OL knd ok h' S L:=
 let⟨o,es,B9,t,ho,hex,hd,A0,X,r⟩:=T
 ⟨o,es,B9,t,abB o ho,hex,hd,A0,λe he=>(X e he).to m (λ_ z=>z) λ_ z=>z,r⟩
def aaz(W:WalksS prog w A.in1 A0 BR wr G n P St)(S:A6)(jm:S∉BR)(keys:↑↑K)(Ae:⇑keys=n)(Bj:keys.Nodup)(A4:n<77)(BS:A.in1.units<Dr) :
  ∀(k i:Nat)(s:AR),n-i=k->i<=n->St i s->Keyed knd keys P (S::wr) s.heap->OL knd (· ∉S::wr) s.heap S (keys.take i)->
   (∀s',Moved (S::wr) G s s'->OL knd (· ∉S::wr) s'.heap S keys->R (.ok (.ret .none)) s')->
   MI Θ A (.builtin "set.update.loop" ⟨[.ref S,.ref A0],[]⟩) R s:=by
 have xM:S∉wr:=λh=>jm (W.sub _ h);have Pw:∀b∈wr,b∈S::wr:=λb A4=>Gw _ A4;have keep:∀{s s':AR}{L:↑↑K},Moved wr G s s'->OL knd (· ∉S::wr) s.heap S L->OL knd (· ∉S::wr) s'.heap S L:=λm T=>
  T.moved (λo e=>m.heap S o xM e) λb o nb e=>m.heap b o (λz=>nb (Pw b z)) e
 intro k;induction k with
 |zero=>
  intro i s AQ AA Hn Vc T T5;obtain rfl:i=n:=δ
  refine XK rz ?_;rw[fp fW _];refine Ah (W.done s _ _ Hn λs' hm=>?_);rw[<-Ae,List.take_length]at T;exact Bk (T5 s' (hm.mono Pw) (keep hm T))
 |succ k CC=>
  intro i s AQ AA Hn Vc T T5;have Dc:i<n:=δ
  refine XK rz ?_;rw[fp fW _];refine Ah (W.item i s _ _ Dc Hn λv s' E6 yE hm=>?_);have TV:=keep hm T;obtain⟨AZ,EP,NL,b,rfl,MM,x5,nb⟩:=Vc i v E6;obtain rfl:=List.mem_singleton.mp x5;have MM:O7 knd s'.heap NL b:=let⟨o,it,c,ho,r⟩:=MM;⟨o,it,c,hm.heap b o (λz=>nb (Pw b z)) ho,r⟩
  show Av _ A.in1 (K5 [DB b] (setAdd S (.ref b))>>=_) _ _ s';refine Ah (O1 ?_);unfold setAdd;refine O1 (Ah (wpAny_pyHash_tuple BS MM ?_));have A9:keys.take (i+1)=keys.take i++[NL]:=by rw[List.take_add_one,EP];rfl
  have no:NL∉keys.take i:=λz=>by have:=Bj.sublist (List.take_sublist (i+1) keys);rw[A9,Sb]at this;exact this.2.2 _ z _ (fV _) rfl
  refine sg (s:={ s' with toks:=s'.toks+(⇑NL+1) }) BS TV MM nb (λb z e=>z (e▸I0)) no (by rw[LK];lia) λc h' HD sZ=>?_;have Pt:∀JP o,JP∉S::wr->s'.heap.get? JP=↥o->h'.get? JP=↥o:=λJP o aap e=>by rw[HD.2 JP (λz=>aap (by rw[z];exact I0))];exact e
  refine Bk ⟨plainId_quiet fW _,CC (i+1) _ δ Dc (W.frame _ s' _ _ yE (PR _ _) λJP d3 o e=>?_) (λj v p=>?_) (by rw[A9];exact sZ) λJc wb xL=>?_⟩
  .rw[HD.2 JP (λh:JP=S=>jm (by rw[<-h];exact d3))];exact e
  .obtain⟨AZ,e,x⟩:=Vc j v p;exact⟨AZ,e,x.to (λb o nb e=>Pt b o nb (hm.heap b o (λz=>nb (Pw b z)) e)) (λ_ z=>z) λ_ z=>z⟩
  .exact T5 Jc (Moved.trans W.gtrans ((hm.mono Pw).then_heap (PR _ _) Pt) wb) xL
end
noncomputable def MX(led:Bool):Obj:={ cls:=.type "set",dict:=none,data:=.set #[] 0 (.fresh 0 0 led) }
theorem af8(a:A8){Q₁:A8->AR->Prop}(h:Q₁ (.ref s.heap.objs.size) { s with heap:=s.heap.push (MX (!w.params.followText "set-order")) }):MI Θ A (.call (.builtin "set.__new__") { pos:=[.type "set",a] }) (wants Q₁ E) s:=by
 have Pw:=sub_set_self;refine codeAny_of_tree ?_;refine Ah (wpAny_of_eq (F.newCall_set_1 a) (Bk ⟨plainId_quiet F.plain_set_new _,XK F.entry_set_new ?_⟩));rw[fp F.plain_set_new _];obtain⟨AX,g,d,DJ,os⟩:=s;have nn:∀{A:D3}{Q:A8->AR->Prop}{E:A8->AR->Prop},Q (.ref AX.objs.size) ⟨AX.push (MX (!w.params.followText "set-order")),g,d,DJ,os⟩->Av Θ A (newSet (.type "set")) Q E ⟨AX,g,d,DJ,os⟩:=λ{A Q E} Ac=>by unfold newSet setsByText;exact Ah (Ah (wpAny_askSetting (Bk (ME Ac))))
 unfold Builtin.«set.__new__»;generalize hN:newSet=aiu at nn |-
 wp_walk
 exact nn (Bk h)
set_option maxHeartbeats 3200000 in
theorem ti{l:A6}{items:Array A8}{keys:↑↑K}{Q:A8->AR->Prop}(hh:A.handled=none)(BS:A.units+64<Dr)(AI:s.heap.IsList l items)(AQ:⇑keys=items.size)(Bj:keys.Nodup)(A4:items.size<77)(AA:∀(i:Nat) v,items[i]?=↥v->∃b AZ,v=.ref b/\keys[i]?=↥AZ/\O7 knd s.heap AZ b)(h:∀(h':BG)(DJ:Nat),(∃o es B9 t,h'.get? s.heap.objs.size=↥o/\o.ExactSet/\o.data=.set es B9 t/\t.fits es.size=true/\es.size=⇑keys)->(∀b o,s.heap.get? b=↥o->h'.get? b=↥o)->Q (.ref s.heap.objs.size) { s with heap:=h',toks:=DJ }) :
  Av Θ A (call (.type "set") [.ref l]) Q E s:=by
 obtain⟨c,Hw,aiW⟩:=F.called_set.mro;have aiV:=F.called_set.made;have Pw:=F.called_set.sub;refine wpAny_call (codeAny_of_tree ?_);show Av _ _ (callAny (.type "set") _) _ _ _;refine Bk ⟨Code.quiet_builtin _ (by decide+kernel),XK F.entry_type_call ?_⟩;rw[Around.under_plain (weight_type_call_type "set" [.ref l] []) rfl];have h1:=F.called_set.notType;have h2:=F.called_set.canCreate;have ajD:=F.typeCall_set_1 (.ref l)
 repeat (any_goals (first|assumption|wp_step))
 refine Sg (af8 (.ref l) (E:=E) (Q₁:=λobj Cy=>∃led:Bool,obj=.ref s.heap.objs.size/\Cy={ s with heap:=s.heap.push (MX led) }) ⟨_,rfl,rfl⟩) λr Cy BZ=>?_;rcases r with e|CH
 .exact BZ
 .cases CH with
  |ret obj=>
   obtain⟨led,rfl,rfl⟩:=BZ;have Mp:(s.heap.push (MX led)).get? s.heap.objs.size=↥(MX led):=GG _ rfl;have D4:Shared.TypeIs { s with heap:=s.heap.push (MX led) } (.ref s.heap.objs.size) "set":=⟨_,Mp,rfl⟩;have TA:=F.called_set.init.lookup;have Yf:=F.called_set.init.bind (.ref s.heap.objs.size)
   repeat (any_goals (first|assumption|wp_step))
   refine Sg (codeAny_call_builtin (R:=wants (λr JI=>r=.none/\Q (.ref s.heap.objs.size) JI) E) F.called_set.init.plain F.entry_set_init (check_set_init_1 D4 ?_)) λaez JI cM=>?_
   .obtain⟨ol,TC,Qu,nl,T7⟩:=AI;obtain⟨ajd,acJ,aje,ad1⟩:=ol;simp only at Qu T7;subst Qu;subst T7;have y3:(s.heap.push (MX led)).get? l=some { cls:=.type "list",dict:=acJ,data:=.seq items nl,slots:=ad1 }:=Dm _ TC;have ai_:=F.sub_list_set;have aiZ:=F.sub_list_frozenset;have Lp:(O5 "list"==O5 "dict")=false:=ε
    have jI:(s.heap.push (MX led)).IsList l items:=⟨_,y3,rfl,nl,rfl⟩;unfold Builtin.«set.__init__» noKeywords Builtin.Frozenset.updateFrom;generalize xJ:pyIter=Hi
    wp_walk
    subst xJ;refine g6 jI ?_;refine Ah (wpAny_runValue ?_);have jJ:l<s.heap.objs.size:=EN TC;have cY:(s.heap.push (MX led)).objs.size=s.heap.objs.size+1:=LI _ _;have jh:∀b o,s.heap.get? b=↥o->((s.heap.push (MX led)).push { cls:=.type "list_iterator",data:=.fields #[.ref l,.int 0 0] }).get? b=↥o:=λb o e=>Dm _ (Dm _ e);have Pt:∀b o,s.heap.get? b=↥o->b∉s.heap.objs.size::[(s.heap.push (MX led)).objs.size]:=λb o e=>by have:=EN e;rw[cY];erw[He,My,or_false,not_or];exact⟨FG this,FG (Sa this)⟩
    refine aaz (knd:=knd) ((Walks.list (by simp[hh]) _ l (by rw[cY];exact FG (Sa jJ)) items).toS) s.heap.objs.size (by
     rw[cY];erw[He,My,or_false,not_or];exact⟨FG (PQ _),Qi jJ⟩) keys AQ Bj A4 (by erw[Around.in1_units];lia) (items.size-0) 0 _ δ (IM _)
     ⟨⟨_,GG _ rfl,rfl,rfl⟩,(jI.push _)⟩ (λi v p=>?_) ⟨_,#[],0,_,Dm _ Mp,⟨rfl,rfl,rfl⟩,rfl,⟨⟨rfl,rfl,by simp[SetTable.fresh],by simp[SetTable.fresh]⟩,iu,IM _⟩,λe he=>(by simp at he),rfl,.inl ⟨rfl,ε⟩⟩ λs' hm T=>?_
    .obtain⟨b,AZ,rfl,q,o,it,c,ho,r⟩:=AA i v p;exact⟨AZ,q,AZ,b,rfl,⟨o,it,c,jh b o ho,r⟩,fV _,Pt b o ho⟩
    .obtain⟨h',g',d',aeP,d7⟩:=s';obtain rfl:g'=s.gens:=hm.gens;obtain rfl:d'=s.drawn:=hm.drawn;obtain rfl:d7=s.os:=hm.os;obtain⟨o,es,B9,t,Aq,BV,Do,Jb,UP,QK,Kx⟩:=T;exact Bk (Bk ⟨rfl,h h' aeP ⟨o,es,B9,t,Aq,BV,Do,Jb.fits,QK⟩ λb o e=>hm.heap b o (Pt b o e) (jh b o e)⟩)
   .rcases aez with e|vd
    .exact cM
    .cases vd with
     |ret r=>
      obtain⟨rfl,Ac⟩:=cM
      repeat (any_goals (first|assumption|wp_step))
     |_=>cases cM
  |_=>cases BZ
end
end Xd
namespace LT
open PyProof.Rows
def QA(h:BG)(d:A6)(es:Array O9)(B9:Nat):Prop:=∃o,h.get? d=↥o/\o.ExactDict/\o.data=.dict es B9
def QA.at{h h':BG}{d:A6}{es:Array O9}{B9:Nat}(x:QA h d es B9)(e:∀o,h.get? d=↥o->h'.get? d=↥o):QA h' d es B9:=let⟨o,ho,r⟩:=x;⟨o,e _ ho,r⟩
def QA.typeIs{s:AR}{d:A6}{es:Array O9}{B9:Nat}(x:QA s.heap d es B9):s.TypeIs (.ref d) "dict":=let⟨o,ho,c,_⟩:=x;⟨o,ho,c.1⟩
section
variable{prog:CD}{w:Bq}{A:D3}{E:A8->AR->Prop}{s:AR}{es:Array O9}
theorem adq{d:A6}{B9:Nat}{Q:A8->AR->Prop}(hd:(d==LM)=false)(hm:QA s.heap d es B9)(GV:Q (.ref s.heap.objs.size) { s with heap:=s.heap.push { cls:=.type "dict_keyiterator",data:=.fields #[.ref d,.int 0 0,.int es.size 0,.int B9 0] } }) :
  Av Θ A (pyIter (.ref d)) Q E s:=by
 have D4:s.TypeIs (.ref d) "dict":=hm.typeIs;obtain⟨o,ho,AK,jA⟩:=hm;refine wpAny_pyIter_slot D4 F.slot_dict_iter (QZ F.slot_dict_iter D4 F.entry_dict_iter ?_ (F.args_dict_iter_1 _));unfold Builtin.«dict.__iter__»;refine Ah ?_;unfold Builtin.Dict.dictSlotNone;refine Ah (wpAny_notOrdered_dict D4 ?_);show Av _ _ (pure (DB d)) _ _ s;refine Bk ?_;show Av _ _ (rk d>>=_) _ _ s;unfold rk;rw[if_neg (by rw[hd];exact Km)];refine Ah (Bk ?_);refine Ah (g7 ho jA ?_);refine Ah (fx ho jA ?_);refine Ah (ME (Bk ⟨_,rfl,"dict_keyiterator",_,⟨_,GG _ rfl,rfl⟩,F.slot_dict_keyiterator_next.lookup,?_⟩));simpa[N1]using GV
def adp{it d:A6}{i B9:Nat}{Q:Option A8->AR->Prop}(hit:s.heap.IsKeyIter it d i es.size B9)(hm:QA s.heap d es B9)(w_:i<es.size)(GV:∀h',h'.IsKeyIter it d (i+1) es.size B9->Kp it s.heap h'->Q (↥es[i].key) { s with heap:=h' }) :
  Av Θ A (OB (.ref it)) Q E s:=by
 obtain⟨o,ho,AK,hd⟩:=id hit;obtain⟨EB,VS,L7,VO⟩:=id hm;unfold OB
 refine Ah (wpAny_attempt (SX (name:=Sh "__next__") hit.typeIs Wz
  (QZ Wz hit.typeIs r_ ?_ (rZ _))))
 refine Ah (Bk ?_);refine Ah ?_;refine Ah ?_
 first|refine Ah (X3 hit.typeIs (Bk ?_))|refine Ah (XA hit.typeIs (Bk ?_))
 refine Ah (wpAny_fieldsOf ho hd ?_);have cK:rd "dict_keyiterator"=false:=ε
 erw[cK,Kn,if_false];show Av _ _ (if(DB d==K2)=true then _ else _) _ _ s;rw[if_neg (show¬((DB d==K2)=true)from Km)];refine Ah (Bk ?_);refine Ah (g7 VS VO ?_);rw[if_neg γ];refine Ah (Bk ?_);refine Ah (fx VS VO ?_);rw[if_neg γ];refine Bk ?_;erw[show¬((i:Int)<0)from δ,if_false,SR,LL w_];refine Ah ?_
 first|refine Ah (X3 hit.typeIs (Bk ?_))|refine Ah (XA hit.typeIs (Bk ?_))
 refine Ah (wpAny_isOneOf_keyiter hit.typeIs ?_);show Av _ _ (setField (.ref it) 1 (N1 ((i:Int)+1))>>=_) _ _ s;refine Ah (XP ho hd γ ?_);have Yk:(s.heap.update it (Obj.mapFields (·.setIfInBounds 1 (N1 ((i:Int)+1))))).IsKeyIter it d (i+1) es.size B9:=
  ⟨_,XE _ ho (ri (X9 hd _)),(Obj.cls_mapFields ..).trans AK,by rw[X9 hd];simp[N1]⟩
 refine Ah (O1 ?_);refine Ah (wpAny_isOneOf_keyiter (s:={ s with heap:=s.heap.update it (Obj.mapFields (·.setIfInBounds 1 (N1 ((i:Int)+1)))) }) Yk.typeIs ?_);show Av _ _ (pure es[i].key) _ _ _;exact Bk (Bk ⟨_,rfl,Bk (GV _ Yk (SV ..))⟩)
def ado{it d:A6}{B9:Nat}{Q:Option A8->AR->Prop}(hh:A.handled=none)(hit:s.heap.IsKeyIter it d es.size es.size B9)(hm:QA s.heap d es B9)(GV:∀h',Heap.ExtBut it s.heap h'->Q none { s with heap:=h' }):Av Θ A (OB (.ref it)) Q E s:=by
 obtain⟨o,ho,AK,hd⟩:=id hit;obtain⟨EB,VS,L7,VO⟩:=id hm;unfold OB
 refine Ah (wpAny_attempt (SX (name:=Sh "__next__") hit.typeIs Wz
  (QZ Wz hit.typeIs r_ ?_ (rZ _))))
 refine Ah (Bk ?_);refine Ah ?_;refine Ah ?_
 first|refine Ah (X3 hit.typeIs (Bk ?_))|refine Ah (XA hit.typeIs (Bk ?_))
 refine Ah (wpAny_fieldsOf ho hd ?_);have cK:rd "dict_keyiterator"=false:=ε
 erw[cK,Kn,if_false];show Av _ _ (if(DB d==K2)=true then _ else _) _ _ s;rw[if_neg (show¬((DB d==K2)=true)from Km)];refine Ah (Bk ?_);refine Ah (g7 VS VO ?_);rw[if_neg γ];refine Ah (Bk ?_);refine Ah (fx VS VO ?_);rw[if_neg γ];refine Bk ?_;erw[show¬((es.size:Int)<0)from δ,if_false,SR,Array.getElem?_eq_none (CB es.size)];refine Ah ?_
 first|refine Ah (X3 hit.typeIs (Bk ?_))|refine Ah (XA hit.typeIs (Bk ?_))
 show Av _ _ (setField (.ref it) 0 .none>>=_) _ _ s;refine Ah (XP ho hd γ ?_);show Av _ _ (newExc (.type "StopIteration") []>>=_) _ _ _;refine Ah ?_;erw[newExc,newTuple];refine Ah (ME ?_ (by size_fits));refine Ah (m:=XG _ _) (wpAny_of_eq (a:=K2) (by first|rfl|(erw[XG];rfl)) ?_);refine ME ?_ (by size_fits);erw[raiseNew];refine Ah (wpAny_handled ?_);rw[show A.in1.handled=none from hh];refine Ah (Bk (wpAny_throw ?_));refine Ah (wpAny_isInstance (T:="StopIteration") (b:=true) ⟨_,GG _ rfl,rfl⟩ isSubtype_stop ?_);exact Bk (GV _ (((SV ..).extBut.push _).push _))
end
end LT
namespace BJ
open PySem BN
inductive W where
 |non|AL (b:Bool)|int (i:Int)|str (x:Str)|tup (ws:↑W)|Ho (ws:↑W)|D1 (ws:↑W)|ref (n:Nat)|P9 (c:Str)
inductive QC where
 |lst|BM (AZ:↑Key)|G9 (AZ:↑Key)|ED (AZ:↑Ex)|ins (c:Str) (ns:↑Str)
 deriving DecidableEq
structure O where
 k:QC
 ws:↑W
abbrev A5:=↑O
def Ip(K:Ao)(c:Str)(C:A6):Prop:=J8 K FQ c=↥↥(.ref C)
def gu(K:Ao)(H:AE)(a:A6)(xs:↑V):Prop:=(∃o,H a=↥(.Dg o (.lst xs)))\/∃(o:Obj)(its:Array A8)(n:Nat),K.lookup a=↥o/\o.cls=.type "list"/\o.dict=none/\o.data=.seq its n/\its.size<=CU/\Vals xs its.toList
def gu.CZ{K:Ao}{H:AE}{a:A6}{xs:↑V}(h:gu K H a xs):ET K H a xs:=h.elim (λ⟨o,e⟩=>.inl (.inr ⟨o,e⟩)) .inr
mutual
noncomputable def AV(K:Ao)(φ:↑A6)(H:AE):W->V->Prop
 |.non,v=>v=.non
 |.AL b,v=>v=.AL b
 |.int i,v=>v=.int i
 |.str x,v=>v=.str x
 |.tup ws,v=>∃a xs,v=.ref a/\H a=↥(.tup xs)/\Al K φ H ws xs
 |.Ho ws,v=>∃a xs,v=.ref a/\FA K H a xs/\Al K φ H ws xs
 |.D1 ws,v=>∃a xs,v=.ref a/\gu K H a xs/\Al K φ H ws xs
 |.ref n,v=>∃a,v=.ref a/\φ[n]?=↥a
 |.P9 c,v=>∃a C,v=.ref a/\Ip K c C/\H a=↥(uk a (.ref C))
noncomputable def Al(K:Ao)(φ:↑A6)(H:AE):↑W->↑V->Prop
 |[],vs=>vs=[]
 |w::ws,vs=>∃v r,vs=v::r/\AV K φ H w v/\Al K φ H ws r
end
def Still:Ev->Prop
 |.tup _=>True
 |.Dg _ _=>True
 |.ext _=>True
 |_=>False
structure Ak(φ:↑A6)(H:AE)(Bb:↑A6)(AC:AE):Prop where
 p:φ<+: Bb
 t:∀b o,H b=↥o->Still o->AC b=↥o
section
variable{K:Ao}{φ Bb CR:↑A6}{H AC AH:AE}
def Ak.refl(φ:↑A6)(H:AE):Ak φ H φ H:=⟨UW,λ_ _ e _=>e⟩
theorem Ak.trans(a:Ak φ H Bb AC)(b:Ak Bb AC CR AH):Ak φ H CR AH:=⟨a.p.trans b.p,λc o e s=>b.t c o (a.t c o e s) s⟩
def Ea{α:Type}{l dx:↑α}(p:l<+: dx){n:Nat}{a:α}(e:l[n]?=↥a):dx[n]?=↥a:=by obtain⟨r,rfl⟩:=p;rw[Fz (List.getElem?_eq_some_iff.mp e).1];exact e
def FA.ex(x:Ak φ H Bb AC){a:A6}{xs:↑V}(h:FA K H a xs):FA K AC a xs:=by
 rcases h with(h|⟨o,h⟩)|h
 .exact .inl (.inl (x.t _ _ h trivial))
 .exact .inl (.inr ⟨o,x.t _ _ h trivial⟩)
 .exact .inr h
mutual
theorem AV.ex(x:Ak φ H Bb AC):∀{w:W}{v:V},AV K φ H w v->AV K Bb AC w v
 |.non,_,h|.AL _,_,h|.int _,_,h|.str _,_,h=>by simpa only[AV]using h
 |.tup _,_,h=>by erw[AV]at h |-;obtain⟨a,xs,e,q,r⟩:=h;exact⟨a,xs,e,x.t _ _ q trivial,Al.ex x r⟩
 |.Ho _,_,h=>by erw[AV]at h |-;obtain⟨a,xs,e,q,r⟩:=h;exact⟨a,xs,e,FA.ex x q,Al.ex x r⟩
 |.D1 _,_,h=>by erw[AV]at h |-;obtain⟨a,xs,e,q,r⟩:=h;exact⟨a,xs,e,q.elim (λ⟨o,q⟩=>.inl ⟨o,x.t _ _ q trivial⟩) .inr,Al.ex x r⟩
 |.ref _,_,h=>by erw[AV]at h |-;obtain⟨a,e,q⟩:=h;exact⟨a,e,Ea x.p q⟩
 |.P9 _,_,h=>by erw[AV]at h |-;obtain⟨a,C,e,c,q⟩:=h;exact⟨a,C,e,c,x.t _ _ q trivial⟩
theorem Al.ex(x:Ak φ H Bb AC):∀{ws:↑W}{vs:↑V},Al K φ H ws vs->Al K Bb AC ws vs
 |[],_,h=>by simpa only[Al]using h
 |_::_,_,h=>by erw[Al]at h |-;obtain⟨v,r,e,q,t⟩:=h;exact⟨v,r,e,AV.ex x q,Al.ex x t⟩
end
def Al.nil:Al K φ H [] []:=by erw[Al]
def Al.cons{w:W}{ws:↑W}{v:V}{vs:↑V}(a:AV K φ H w v)(b:Al K φ H ws vs):Al K φ H (w::ws) (v::vs):=by erw[Al];exact⟨v,vs,rfl,a,b⟩
theorem Al.length:∀{ws:↑W}{vs:↑V},Al K φ H ws vs->⇑ws=⇑vs
 |[],_,h=>by erw[Al]at h;subst h;rfl
 |_::_,_,h=>by erw[Al]at h;obtain⟨v,r,rfl,_,t⟩:=h;simp[Al.length t]
theorem Al.get:∀{ws:↑W}{vs:↑V}{i:Nat}{w:W},Al K φ H ws vs->ws[i]?=↥w->∃v,vs[i]?=↥v/\AV K φ H w v
 |[],_,_,_,_,e=>by simp at e
 |_::_,_,0,_,h,e=>by erw[Al]at h;obtain⟨v,r,rfl,q,_⟩:=h;simp at e;subst e;exact⟨v,rfl,q⟩
 |_::_,_,i+1,w,h,e=>by erw[Al]at h;obtain⟨v,r,rfl,_,t⟩:=h;obtain⟨u,h1,h2⟩:=Al.get (i:=i) (w:=w) t (e:);exact⟨u,(h1:),h2⟩
theorem Al.append:∀{ws us:↑W}{vs ys:↑V},Al K φ H ws vs->Al K φ H us ys->Al K φ H (ws++us) (vs++ys)
 |[],_,_,_,h,t=>by erw[Al]at h;subst h;exact t
 |_::_,_,_,_,h,t=>by erw[Al]at h;obtain⟨v,r,rfl,q,s⟩:=h;exact .cons q (Al.append s t)
theorem Al.take:∀(n:Nat){ws:↑W}{vs:↑V},Al K φ H ws vs->Al K φ H (ws.take n) (vs.take n)
 |0,_,_,_=>(Al.nil:)
 |_+1,[],_,h=>by erw[Al]at h;subst h;simpa using Al.nil
 |n+1,_::_,_,h=>by erw[Al]at h;obtain⟨v,r,rfl,q,t⟩:=h;exact .cons q (Al.take n t)
theorem Al.drop:∀(n:Nat){ws:↑W}{vs:↑V},Al K φ H ws vs->Al K φ H (ws.drop n) (vs.drop n)
 |0,_,_,h=>h
 |_+1,[],_,h=>by erw[Al]at h;subst h;simpa using Al.nil
 |n+1,_::_,_,h=>by erw[Al]at h;obtain⟨v,r,rfl,_,t⟩:=h;exact Al.drop n t
theorem Al.set{w:W}{v:V}(q:AV K φ H w v):∀(n:Nat){ws:↑W}{vs:↑V},Al K φ H ws vs->Al K φ H (ws.set n w) (vs.set n v)
 |_,[],_,h=>by erw[Al]at h;subst h;simpa using Al.nil
 |0,_::_,_,h=>by erw[Al]at h;obtain⟨u,r,rfl,_,t⟩:=h;exact .cons q t
 |n+1,_::_,_,h=>by erw[Al]at h;obtain⟨u,r,rfl,p,t⟩:=h;exact .cons p (Al.set q n t)
end
def ML(K:Ao)(H:AE)(a:A6)(xs:↑V):QC->Prop
 |.lst=>H a=↥(.lst xs)
 |.BM AZ=>∃AD,H a=↥(.BM AD)/\AD.map (·.1)=AZ/\AD.map (·.2)=xs
 |.G9 AZ=>∃o AD,H a=↥(.Dg o (.BM AD))/\AD.map (·.1)=AZ/\AD.map (·.2)=xs
 |.ED AZ=>∃AD,H a=↥(.ED AD)/\AD.map (·.1)=AZ/\AD.map (·.2)=xs
 |.ins c ns=>∃C Bt BA,Ip K c C/\H a=↥(.ins C Bt BA)/\BA.map (·.1)=ns/\BA.map (·.2)=xs
structure DD(K:Ao)(φ:↑A6)(h:A5)(H:AE):Prop where
 Bj:φ.Nodup
 len:⇑φ=⇑h
 BQ:∀(n:Nat) o a,h[n]?=↥o->φ[n]?=↥a->∃xs,ML K H a xs o.k/\Al K φ H o.ws xs
abbrev Ay:=↑(Option W)
structure DN where
 K:Ao
 DW:↑A6
 CG:AE
 MJ:Str->AE->Prop
structure Rel(F:DN)(φ:↑A6)(h:A5)(H:AE)(σ :St)(ρ:Ay):Prop where
 hd:DD F.K φ h H
 x0:Ak F.DW F.CG φ H
 len:⇑σ =⇑ρ
 CP:∀(i:Nat) w,ρ[i]?=↥↥w->∃v,σ[i]?=↥↥v/\AV F.K φ H w v
inductive R(α:Type) where
 |ok (a:α)|exc (c:Str) (h:A5)|bad
noncomputable def R.bind{α β:Type}:R α->(α->R β)->R β
 |.ok a,k=>k a
 |.exc c h,_=>.exc c h
 |.bad,_=>.bad
abbrev M(α:Type):=Ay->A5->R (α×A5)
def dk(F:DN)(φ:↑A6)(H:AE)(c:Str)(h':A5):Prop:=∀Bb AC,Ak φ H Bb AC->DD F.K Bb h' AC->F.MJ c AC
def Ee{α β:Type}(rel:Ao->↑A6->AE->α->β->Prop)(F:DN)(φ:↑A6)(H:AE)(σ :St)(ρ:Ay)(Q:β->AE->Prop):R (α×A5)->Prop
 |.ok (a,h')=>∀b Bb AC,Rel F Bb h' AC σ ρ->Ak φ H Bb AC->rel F.K Bb AC a b->Q b AC
 |.exc c h'=>dk F φ H c h'
 |.bad=>False
def LZ{α β:Type}(rel:Ao->↑A6->AE->α->β->Prop)(F:DN)(m:M α)(σ :St)(H:AE)(Q:β->AE->Prop):Prop:=∃φ ρ h,Rel F φ h H σ ρ/\Ee rel F φ H σ ρ Q (m ρ h)
def n7(_:Ao)(_:↑A6)(_:AE)(a b:Bool):Prop:=b=a
abbrev B8:=M W
abbrev DY:=M Bool
abbrev DQ:=M ↑W
abbrev CA(F:DN)(m:B8):TE:=LZ AV F m
abbrev Hb(F:DN)(m:DY):TT:=LZ n7 F m
abbrev G2(F:DN)(m:DQ):FZ:=LZ Al F m
noncomputable def bd{α β:Type}(m:M α)(k:α->M β):M β:=λρ h=>(m ρ h).bind λp=>k p.1 ρ p.2
section
variable{F:DN}{φ Bb:↑A6}{H AC:AE}{σ :St}{ρ:Ay}{h:A5}{α β Nh fO:Type}{rel:Ao->↑A6->AE->α->β->Prop}{Zs:Ao->↑A6->AE->Nh->fO->Prop}
def Ee.ex{Q:β->AE->Prop}(x:Ak φ H Bb AC):∀{r:R (α×A5)},Ee rel F φ H σ ρ Q r->Ee rel F Bb AC σ ρ Q r
 |.ok (_,_),k=>λb CR AH r y z=>k b CR AH r (x.trans y) z
 |.exc _ _,k=>λCR AH y d=>k CR AH (x.trans y) d
 |.bad,k=>k
def Ee.imp{Q HL:β->AE->Prop}(f:∀b H,Q b H->HL b H):∀{r:R (α×A5)},Ee rel F φ H σ ρ Q r->Ee rel F φ H σ ρ HL r
 |.ok (_,_),k=>λb CR AH r y z=>f _ _ (k b CR AH r y z)
 |.exc _ _,k=>k
 |.bad,k=>k
theorem Ee.bd{m:M α}{k:α->M Nh}{Q:fO->AE->Prop}{HL:β->AE->Prop}(q:Ee Zs F φ H σ ρ Q (bd m k ρ h))(f:∀a b By h1 H1,Rel F By h1 H1 σ ρ->Ak φ H By H1->rel F.K By H1 a b->Ee Zs F By H1 σ ρ Q (k a ρ h1)->HL b H1):Ee rel F φ H σ ρ HL (m ρ h):=by
 unfold BJ.bd at q;cases e:m ρ h with
 |ok p=>rw[e]at q;obtain⟨a,h1⟩:=p;exact λb By H1 r x z=>f a b By h1 H1 r x z (Ee.ex x q)
 |exc c h'=>rw[e]at q;exact q
 |bad=>rw[e]at q;cases q
theorem LZ.bd{m:M α}{k:α->M Nh}{Q:fO->AE->Prop}{HL:β->AE->Prop}(q:LZ Zs F (bd m k) σ H Q)(f:∀a b By ρ h1 H1,Rel F By h1 H1 σ ρ->rel F.K By H1 a b->Ee Zs F By H1 σ ρ Q (k a ρ h1)->HL b H1):LZ rel F m σ H HL:=by obtain⟨φ,ρ,h,r,q⟩:=q;exact⟨φ,ρ,h,r,q.bd λa b By h1 H1 r x z q=>f a b By ρ h1 H1 r z q⟩
end
section
variable{K:Ao}{φ:↑A6}{h:A5}{H:AE}{F:DN}{σ :St}{ρ:Ay}
def ML.is{a:A6}{xs:↑V}{k:QC}(q:ML K H a xs k):∃o,H a=↥o:=by
 cases k with
 |lst=>exact⟨_,q⟩
 |BM AZ=>obtain⟨_,e,_⟩:=q;exact⟨_,e⟩
 |G9 AZ=>obtain⟨_,_,e,_⟩:=q;exact⟨_,e⟩
 |ED AZ=>obtain⟨_,e,_⟩:=q;exact⟨_,e⟩
 |ins c ns=>obtain⟨C,Bt,BA,_,e,_⟩:=q;exact⟨_,e⟩
def ML.same{AC:AE}{a:A6}{xs:↑V}{k:QC}(q:ML K H a xs k)(e:AC a=H a):ML K AC a xs k:=by cases k<;>erw[ML]at q |-<;>rw[e]<;>exact q
def DD.has(d:DD K φ h H){a:A6}(m:a∈φ):∃o,H a=↥o:=by
 obtain⟨n,e⟩:=SZ m;have Ae:n< ⇑h:=by rw[<-d.len];exact(List.getElem?_eq_some_iff.mp e).1
 obtain⟨xs,q,_⟩:=d.BQ n _ a (C3 Ae) e;exact q.is
def DD.out(d:DD K φ h H){p:A6}(AX:H p=none):p∉φ:=λm=>by obtain⟨o,e⟩:=d.has m;rw[AX]at e;cases e
def Ak.lay{p:A6}{o:Ev}(AX:H p=none):Ak φ H φ (upd H p o):=⟨UW,λb u e _=>by rw[DK (Ku e AX)];exact e⟩
def Ak.V6{p:A6}{o:Ev}(AX:H p=none):Ak φ H (φ++[p]) (upd H p o):=⟨Eu _ _,(Ak.lay (φ:=φ) AX).t⟩
def Ak.put{p:A6}{o u:Ev}(e:H p=↥u)(s:¬Still u):Ak φ H φ (upd H p o):=⟨UW,λb v q z=>by
 rw[DK]
 .exact q
 .rintro rfl;rw[e]at q;cases q;exact s z⟩
def DD.over{AC:AE}(d:DD K φ h H)(x:Ak φ H φ AC)(k:∀a∈φ,AC a=H a):DD K φ h AC:=⟨d.Bj,d.len,λn o a A9 AG=>by obtain⟨xs,q,r⟩:=d.BQ n o a A9 AG;exact⟨xs,q.same (k a (Ik AG)),r.ex x⟩⟩
theorem DD.lay{p:A6}{o:Ev}(d:DD K φ h H)(AX:H p=none):DD K φ h (upd H p o):=d.over (Ak.lay AX) λa m=>DK λz=>d.out AX (z▸m)
def DD.new{p:A6}{ho:Ev}{k:QC}{ws:↑W}{xs:↑V}(d:DD K φ h H)(AX:H p=none)(q:ML K (upd H p ho) p xs k)(r:Al K φ H ws xs):DD K (φ++[p]) (h++[⟨k,ws⟩]) (upd H p ho):=by
 have x:=Ak.V6 (φ:=φ) (o:=ho) AX;refine⟨?_,by simp[d.len],λn o a A9 AG=>?_⟩
 .rw[Sb];exact⟨d.Bj,γ,λa AF b A4 z=>d.out AX (by rw[<-List.mem_singleton.mp A4,<-z];exact AF)⟩
 .by_cases Ae:n< ⇑h
  .rw[Fz Ae]at A9;rw[Fz (by rw[d.len];exact Ae)]at AG;obtain⟨ys,DZ,Bm⟩:=d.BQ n o a A9 AG;exact⟨ys,DZ.same (DK λz=>d.out AX (z▸Ik AG)),Bm.ex x⟩
  .have cI:n=⇑h:=by
     have:=(List.getElem?_eq_some_iff.mp A9).1;simp at this;lia
   subst cI;simp at A9;rw[<-d.len]at AG;simp at AG;subst A9 AG;exact⟨xs,q,r.ex x⟩
theorem DD.put{n:Nat}{a:A6}{o o':O}{u ho:Ev}{xs:↑V}(d:DD K φ h H)(B2:h[n]?=↥o)(BX:φ[n]?=↥a)(Er:H a=↥u)(st:¬Still u)(q:ML K (upd H a ho) a xs o'.k)(r:Al K φ H o'.ws xs):DD K φ (h.set n o') (upd H a ho):=by
 have x:Ak φ H φ (upd H a ho):=Ak.put Er st;refine⟨d.Bj,by simp[d.len],λm FU b A9 AG=>?_⟩;by_cases hm:n=m
 .subst hm;rw[LJ (List.getElem?_eq_some_iff.mp B2).1]at A9;rw[BX]at AG;cases A9;cases AG;exact⟨xs,q,r.ex x⟩
 .rw[PL hm]at A9;obtain⟨ys,DZ,Bm⟩:=d.BQ m FU b A9 AG;refine⟨ys,DZ.same (DK λz=>?_),Bm.ex x⟩;subst z;obtain⟨Cs,Js⟩:=List.getElem?_eq_some_iff.mp BX;obtain⟨Ft,Kj⟩:=List.getElem?_eq_some_iff.mp AG;exact hm ((XQ d.Bj).mp (Js.trans Kj.symm))
theorem DD.at(d:DD K φ h H){n:Nat}{o:O}{v:V}(e:h[n]?=↥o)(q:AV K φ H KK v):∃a xs,v=.ref a/\φ[n]?=↥a/\ML K H a xs o.k/\Al K φ H o.ws xs:=by erw[AV]at q;obtain⟨a,rfl,BX⟩:=q;obtain⟨xs,q,r⟩:=d.BQ n o a e BX;exact⟨a,xs,rfl,BX,q,r⟩
def Rel.to{Bb:↑A6}{h':A5}{AC:AE}(r:Rel F φ h H σ ρ)(d:DD F.K Bb h' AC)(x:Ak φ H Bb AC):Rel F Bb h' AC σ ρ:=⟨d,r.x0.trans x,r.len,λi w e=>by obtain⟨v,A9,q⟩:=r.CP i w e;exact⟨v,A9,q.ex x⟩⟩
theorem Rel.set{i:Nat}{w:W}{v:V}(r:Rel F φ h H σ ρ)(AA:i< ⇑ρ)(q:AV F.K φ H w v):Rel F φ h H (σ.set i ↥v) (ρ.set i ↥w):=⟨r.hd,r.x0,by simp[r.len],λj Cf e=>by
 by_cases An:i=j
 .subst An;rw[LJ AA]at e;cases e;exact⟨v,LJ (by rw[r.len];exact AA),q⟩
 .rw[PL An]at e |-;exact r.CP j Cf e⟩
def AV.GY{n:Nat}{a:A6}(e:φ[n]?=↥a):AV K φ H KK (.ref a):=by erw[AV];exact⟨a,rfl,e⟩
def a0{p:A6}(d:DD K φ h H):(φ++[p])[⇑h]?=↥p:=by rw[<-d.len];simp
end
section
variable{F:DN}
abbrev F8(t' t:TE):Prop:=∀ σ H Q,t' σ H Q->t σ H Q
abbrev RX(t' t:TT):Prop:=∀ σ H Q,t' σ H Q->t σ H Q
abbrev gd(t' t:FZ):Prop:=∀ σ H Q,t' σ H Q->t σ H Q
abbrev KQ(t' t:FS):Prop:=∀De σ H,t' De σ H->t De σ H
def pu{α:Type}(a:α):M α:=λ_ h=>.ok (a,h)
noncomputable def I(i:Nat):B8:=λρ h=>match ρ[i]? with
 |some ↥w=>.ok (w,h)
 |_=>.bad
def zG(i:Nat):F8 (CA F (I i)) (r7 i):=by
 rintro σ H Q ⟨φ,ρ,h,r,q⟩;unfold I at q
 split at q
 .rename_i w e;obtain⟨v,A9,a⟩:=r.CP i w e;exact⟨v,A9,q v φ H r (Ak.refl _ _) a⟩
 .exact q.elim
def VW{w:W}{v:V}(a:∀φ H,AV F.K φ H w v):F8 (CA F (pu w)) (OT v):=by rintro σ H Q ⟨φ,ρ,h,r,q⟩;exact q v φ H r (Ak.refl _ _) (a _ _)
def A1(f:W->W->A5->R (W×A5))(a b:B8):B8:=bd a λx=>bd b λy _ h=>f x y h
def I3(F:DN)(r:D6)(f:W->W->A5->R (W×A5)):Prop:=∀ σ ρ φ h H x y FW G3 Q,Rel F φ h H σ ρ->AV F.K φ H FW x->AV F.K φ H G3 y->Ee AV F φ H σ ρ Q (f FW G3 h)->r x y H Q
def Fl{r:D6}{f:W->W->A5->R (W×A5)}{a b:B8}(ho:I3 F r f):F8 (CA F (A1 f a b)) (Tt r (CA F a) (CA F b)):=λσ H Q q=>
 q.bd λx v φ ρ h H1 r EU q=>⟨φ,ρ,h,r,q.bd λy u CR h2 AH BK CK Gk q=>ho σ ρ CR h2 AH v u x y Q BK (EU.ex CK) Gk q⟩
def BD(f:W->A5->R (W×A5))(a:B8):B8:=bd a λx _ h=>f x h
def sd(F:DN)(r:V->AE->CV->Prop)(f:W->A5->R (W×A5)):Prop:=∀ σ ρ φ h H x w Q,Rel F φ h H σ ρ->AV F.K φ H w x->Ee AV F φ H σ ρ Q (f w h)->r x H Q
def zF{r:V->AE->CV->Prop}{f:W->A5->R (W×A5)}{a:B8}(ho:sd F r f):F8 (CA F (BD f a)) (r6 r (CA F a)):=λσ H Q q=>
 q.bd λx v φ ρ h H1 r EU q=>ho σ ρ φ h H1 v x Q r EU q
def A2:DQ:=pu []
def Z(a:B8)(r:DQ):DQ:=bd a λx=>bd r λxs=>pu (x::xs)
def Q0:gd (G2 F A2) aT:=by rintro σ H Q ⟨φ,ρ,h,r,q⟩;exact q [] φ H r (Ak.refl _ _) .nil
def Pz{a:B8}{m:DQ}:gd (G2 F (Z a m)) (aQ (CA F a) (G2 F m)):=λσ H Q q=>
 q.bd λx v φ ρ h H1 r EU q=>⟨φ,ρ,h,r,q.bd λxs vs CR h2 AH BK CK as q=>q (v::vs) CR AH BK (Ak.refl _ _) (.cons (EU.ex CK) as)⟩
def Bi:Nat:=1000000
def BE(m:DQ):B8:=bd m λxs=>if ⇑xs<=Bi then pu (.tup xs)else λ_ _=>.bad
def zE{m:DQ}:F8 (CA F (BE m)) (r5 (G2 F m)):=λσ H Q q=>
 q.bd λxs vs φ ρ h H1 r as q=>by
   by_cases AI:⇑xs<=Bi
   .rw[if_pos AI]at q;refine⟨by rw[<- ⇑as];exact Gm AI ε,λp AX=>?_⟩;refine q (.ref p) φ _ (r.to (r.hd.lay AX) (Ak.lay AX)) (Ak.lay AX) ?_;erw[AV];exact⟨p,vs,rfl,Ec,as.ex (Ak.lay AX)⟩
   .rw[if_neg AI]at q;cases q
noncomputable def nw(k:QC)(ws:↑W)(h:A5):R (W×A5):=if ⇑ws<=Bi then .ok (.ref ⇑h,h++[⟨k,ws⟩])else .bad
def Pf{φ:↑A6}{h:A5}{H:AE}{σ :St}{ρ:Ay}{Q:CV}{k:QC}{ws:↑W}{xs:↑V}{ho:Ev}{p:A6}(r:Rel F φ h H σ ρ)(q:Ee AV F φ H σ ρ Q (nw k ws h))(AX:H p=none)(o:ML F.K (upd H p ho) p xs k)(as:Al F.K φ H ws xs):Q (.ref p) (upd H p ho):=by
 unfold nw at q
 split at q
 .exact q (.ref p) (φ++[p]) _ (r.to (r.hd.new AX o as) (Ak.V6 AX)) (Ak.V6 AX) (.GY (a0 r.hd))
 .exact q.elim
def da{φ:↑A6}{h:A5}{H:AE}{σ :St}{ρ:Ay}{Q:CV}{k:QC}{ws:↑W}(q:Ee AV F φ H σ ρ Q (nw k ws h)):⇑ws<=Bi:=by
 unfold nw at q
 split at q
 .assumption
 .exact q.elim
def Be(m:DQ):B8:=bd m λxs _ h=>nw .lst xs h
def yz{m:DQ}:F8 (CA F (Be m)) (pK (G2 F m)):=λσ H Q q=>
 q.bd λxs vs φ ρ h H1 r as q=>⟨by rw[<- ⇑as];exact Gm (da q) ε,λp AX=>Pf r q AX Ec as⟩
noncomputable def Mj{α:Type}(k:Bool->M α):W->M α
 |.AL b=>k b
 |_=>λ_ _=>.bad
def Ad(m:B8):DY:=bd m (Mj pu)
def Vi{α β:Type}{rel:Ao->↑A6->AE->α->β->Prop}{k:Bool->M α}{φ:↑A6}{h:A5}{H:AE}{σ :St}{ρ:Ay}{Q:β->AE->Prop}{w:W}{v:V}(a:AV F.K φ H w v)(q:Ee rel F φ H σ ρ Q (Mj k w ρ h)):∃c,v=.AL c/\Ee rel F φ H σ ρ Q (k c ρ h):=by cases w<;>first|exact q.elim|(erw[AV]at a;exact⟨_,a,q⟩)
def Kg{m:B8}:RX (Hb F (Ad m)) (eS (CA F m)):=λσ H Q q=>
 q.bd λx v φ ρ h H1 r EU q=>let⟨c,e,q⟩:=Vi EU q;⟨c,e,q c φ H1 r (Ak.refl _ _) rfl⟩
def JX(a b:DY):DY:=bd a λc=>if c=true then b else pu false
def F2(a b:DY):DY:=bd a λc=>if c=true then pu true else b
def D8(a:DY):DY:=bd a λc=>pu (!c)
def xp{a b:DY}:RX (Hb F (JX a b)) (pf (Hb F a) (Hb F b)):=λσ H Q q=>
 q.bd λx c φ ρ h H1 r e q=>by
   cases e;cases x with
   |true=>exact⟨φ,ρ,h,r,q⟩
   |false=>exact q false φ H1 r (Ak.refl _ _) rfl
def z4{a b:DY}:RX (Hb F (F2 a b)) (pQ (Hb F a) (Hb F b)):=λσ H Q q=>
 q.bd λx c φ ρ h H1 r e q=>by
   cases e;cases x with
   |false=>exact⟨φ,ρ,h,r,q⟩
   |true=>exact q true φ H1 r (Ak.refl _ _) rfl
def z2{a:DY}:RX (Hb F (D8 a)) (pO (Hb F a)):=λσ H Q q=>
 q.bd λx c φ ρ h H1 r e q=>by cases e;exact q _ φ H1 r (Ak.refl _ _) rfl
def Ie(a b:B8):B8:=bd a (Mj λc=>if c=true then b else pu (.AL false))
def PZ(a b:B8):B8:=bd a (Mj λc=>if c=true then pu (.AL true)else b)
def VE(a:B8):B8:=bd a (Mj λc=>pu (.AL (!c)))
def Nb{K:Ao}{φ:↑A6}{H:AE}(b:Bool):AV K φ H (.AL b) (.AL b):=by erw[AV]
def xq{a b:B8}:F8 (CA F (Ie a b)) (pg (CA F a) (CA F b)):=λσ H Q q=>
 q.bd λx v φ ρ h H1 r EU q=>by
   obtain⟨c,e,q⟩:=Vi EU q;refine⟨c,e,?_⟩;cases c with
   |true=>exact⟨φ,ρ,h,r,q⟩
   |false=>exact q _ φ H1 r (Ak.refl _ _) (Nb _)
def z5{a b:B8}:F8 (CA F (PZ a b)) (pz (CA F a) (CA F b)):=λσ H Q q=>
 q.bd λx v φ ρ h H1 r EU q=>by
   obtain⟨c,e,q⟩:=Vi EU q;refine⟨c,e,?_⟩;cases c with
   |false=>exact⟨φ,ρ,h,r,q⟩
   |true=>exact q _ φ H1 r (Ak.refl _ _) (Nb _)
def z3{a:B8}:F8 (CA F (VE a)) (pP (CA F a)):=λσ H Q q=>
 q.bd λx v φ ρ h H1 r EU q=>let⟨c,e,q⟩:=Vi EU q;⟨c,e,q _ φ H1 r (Ak.refl _ _) (Nb _)⟩
def KB{α:Type}(c:DY)(a b:M α):M α:=bd c λk=>if k=true then a else b
def xb{c:DY}{a b:B8}:F8 (CA F (KB c a b)) (pI (Hb F c) (CA F a) (CA F b)):=λσ H Q q=>
 q.bd λx k φ ρ h H1 r e q=>by cases e;cases x<;>exact⟨φ,ρ,h,r,q⟩
inductive F7 where
 |AP (ρ:Ay)|Dp (w:W)|Bv (ρ:Ay)|D7 (ρ:Ay)
abbrev Ap:=M F7
def ER(F:DN)(φ:↑A6)(H:AE)(De:Ends):R (F7×A5)->Prop
 |.ok (.AP Eh,h')=>∀ σ' Bb AC,Rel F Bb h' AC σ' Eh->Ak φ H Bb AC->De.AP σ' AC
 |.ok (.Bv Eh,h')=>∀ σ' Bb AC,Rel F Bb h' AC σ' Eh->Ak φ H Bb AC->De.Bv σ' AC
 |.ok (.D7 Eh,h')=>∀ σ' Bb AC,Rel F Bb h' AC σ' Eh->Ak φ H Bb AC->De.D7 σ' AC
 |.ok (.Dp w,h')=>∀v Bb AC,DD F.K Bb h' AC->Ak φ H Bb AC->AV F.K Bb AC w v->De.Dp v AC
 |.exc c h'=>dk F φ H c h'
 |.bad=>False
noncomputable def GP(F:DN)(m:Ap):FS:=λDe σ H=>∃φ ρ h,Rel F φ h H σ ρ/\ER F φ H De (m ρ h)
def ER.ex{φ Bb:↑A6}{H AC:AE}{De:Ends}(x:Ak φ H Bb AC):∀{r:R (F7×A5)},ER F φ H De r->ER F Bb AC De r
 |.ok (.AP _,_),k|.ok (.Bv _,_),k|.ok (.D7 _,_),k=>λσ' CR AH r y=>k σ' CR AH r (x.trans y)
 |.ok (.Dp _,_),k=>λv CR AH d y a=>k v CR AH d (x.trans y) a
 |.exc _ _,k=>λCR AH y d=>k CR AH (x.trans y) d
 |.bad,k=>k
theorem ER.bd{α β:Type}{rel:Ao->↑A6->AE->α->β->Prop}{m:M α}{k:α->Ap}{φ:↑A6}{h:A5}{H:AE}{σ :St}{ρ:Ay}{De:Ends}{HL:β->AE->Prop}(q:ER F φ H De (bd m k ρ h))(f:∀a b By h1 H1,Rel F By h1 H1 σ ρ->Ak φ H By H1->rel F.K By H1 a b->ER F By H1 De (k a ρ h1)->HL b H1):Ee rel F φ H σ ρ HL (m ρ h):=by
 unfold BJ.bd at q;cases e:m ρ h with
 |ok p=>rw[e]at q;obtain⟨a,h1⟩:=p;exact λb By H1 r x z=>f a b By h1 H1 r x z (ER.ex x q)
 |exc c h'=>rw[e]at q;exact q
 |bad=>rw[e]at q;cases q
theorem GP.bd{α β:Type}{rel:Ao->↑A6->AE->α->β->Prop}{m:M α}{k:α->Ap}{H:AE}{σ :St}{De:Ends}{HL:β->AE->Prop}(q:GP F (bd m k) De σ H)(f:∀a b By ρ h1 H1,Rel F By h1 H1 σ ρ->rel F.K By H1 a b->ER F By H1 De (k a ρ h1)->HL b H1):LZ rel F m σ H HL:=by obtain⟨φ,ρ,h,r,q⟩:=q;exact⟨φ,ρ,h,r,ER.bd q λa b By h1 H1 r x z q=>f a b By ρ h1 H1 r z q⟩
def C5:Ap:=λρ h=>.ok (.AP ρ,h)
noncomputable def AT(a b:Ap):Ap:=λρ h=>(a ρ h).bind λp=>match p with
 |(.AP Eh,h')=>b Eh h'
 |p=>.ok p
def cV:KQ (GP F C5) aS:=by rintro De σ H ⟨φ,ρ,h,r,q⟩;exact q σ φ H r (Ak.refl _ _)
def zA{a b:Ap}:KQ (GP F (AT a b)) (r2 (GP F a) (GP F b)):=by
 rintro De σ H ⟨φ,ρ,h,r,q⟩;refine⟨φ,ρ,h,r,?_⟩;unfold AT at q;cases e:a ρ h with
 |ok p=>
  rw[e]at q;obtain⟨f,h1⟩:=p;cases f with
  |AP Eh=>exact λσ' Bb AC Bm x=>⟨Bb,Eh,h1,Bm,ER.ex x q⟩
  |_=>exact q
 |exc c h'=>rw[e]at q;exact q
 |bad=>rw[e]at q;cases q
def Di(a:B8):Ap:=bd a λ_=>C5
def xz{a:B8}:KQ (GP F (Di a)) (pw (CA F a)):=λDe σ H q=>
 q.bd λx v φ ρ h H1 r EU q=>q σ φ H1 r (Ak.refl _ _)
def B1(a:B8):Ap:=bd a λw _ h=>.ok (.Dp w,h)
def z8{a:B8}:KQ (GP F (B1 a)) (r0 (CA F a)):=λDe σ H q=>
 q.bd λx v φ ρ h H1 r EU q=>q v φ H1 r.hd (Ak.refl _ _) EU
def z9:KQ (GP F (B1 (pu .non))) r1:=by rintro De σ H ⟨φ,ρ,h,r,q⟩;exact q .non φ H r.hd (Ak.refl _ _) (by erw[AV])
def C8(c:DY)(a b:Ap):Ap:=bd c λk=>if k=true then a else b
def xc{c:DY}{a b:Ap}:KQ (GP F (C8 c a b)) (pJ (Hb F c) (GP F a) (GP F b)):=λDe σ H q=>
 q.bd λx k φ ρ h H1 r e q=>by cases e;cases x<;>exact⟨φ,ρ,h,r,q⟩
abbrev DR:=W->Ap
noncomputable def AB(i:Nat):DR:=λw ρ h=>if i< ⇑ρ then .ok (.AP (ρ.set i ↥w),h)else .bad
noncomputable def LY(F:DN)(g:DR):Jm:=λv σ H Q=>∃φ ρ h w,Rel F φ h H σ ρ/\AV F.K φ H w v/\ER F φ H ⟨Q,λ_ _=>False,λ_ _=>False,λ_ _=>False⟩ (g w ρ h)
abbrev YG(t' t:Jm):Prop:=∀v σ H Q,t' v σ H Q->t v σ H Q
def VX(i:Nat):YG (LY F (AB i)) (Yd i):=by
 rintro v σ H Q ⟨φ,ρ,h,w,r,a,q⟩;unfold AB at q
 split at q
 .rename_i AA;exact q _ φ H (r.set AA a) (Ak.refl _ _)
 .exact q.elim
def Am(a:B8)(g:DR):Ap:=bd a g
end
end BJ
namespace BJ
inductive C_ where
 |non|AL (b:Bool)|int (i:Int)|str (x:Str)|CZ (t:Bool) (ds:↑C_)
mutual
noncomputable def G4(K:Ao)(H:AE):C_->V->Prop
 |.non,v=>v=.non
 |.AL b,v=>v=.AL b
 |.int i,v=>v=.int i
 |.str x,v=>v=.str x
 |.CZ t ds,v=>∃a xs,v=.ref a/\(if t=true then FA K H a xs else ET K H a xs)/\II K H ds xs
noncomputable def II(K:Ao)(H:AE):↑C_->↑V->Prop
 |[],vs=>vs=[]
 |d::ds,vs=>∃v r,vs=v::r/\G4 K H d v/\II K H ds r
end
mutual
noncomputable def eqT:C_->C_->Bool
 |.non,d=>match d with
  |.non=>true
  |_=>false
 |.AL a,d=>match d with
  |.AL b=>a==b
  |.int b=>(if a then 1 else 0)==b
  |_=>false
 |.int a,d=>match d with
  |.AL b=>a==(if b then 1 else 0)
  |.int b=>a==b
  |_=>false
 |.str a,d=>match d with
  |.str b=>a==b
  |_=>false
 |.CZ t xs,d=>match d with
  |.CZ u ys=>t==u&&GJ xs ys
  |_=>false
noncomputable def GJ:↑C_->↑C_->Bool
 |[],ys=>ys.isEmpty
 |x::xs,ys=>match ys with
  |y::ys=>eqT x y&&GJ xs ys
  |[]=>false
end
noncomputable def GO:Nat->C_->Bool
 |0,.CZ _ _=>false
 |n+1,.CZ _ ds=>ds.all (GO n)
 |_,_=>true
def NC(K:Ao)(H:AE)(d:C_)(u:A8):Prop:=∃x,G4 K H d x/\RelV x u
section
variable{X:Aw}{A3:μ}{σ :St}{H:AE}{s:AR}{K:Ao}
theorem II.length:∀{ds:↑C_}{vs:↑V},II K H ds vs->⇑ds=⇑vs
 |[],_,h=>by erw[II]at h;subst h;rfl
 |_::_,_,h=>by erw[II]at h;obtain⟨v,r,rfl,_,t⟩:=h;simp[II.length t]
theorem II.get:∀{ds:↑C_}{vs:↑V}{i:Nat}{d:C_},II K H ds vs->ds[i]?=↥d->∃v,vs[i]?=↥v/\G4 K H d v
 |[],_,_,_,_,e=>by simp at e
 |_::_,_,0,_,h,e=>by erw[II]at h;obtain⟨v,r,rfl,q,_⟩:=h;simp at e;subst e;exact⟨v,rfl,q⟩
 |_::_,_,i+1,d,h,e=>by erw[II]at h;obtain⟨v,r,rfl,_,t⟩:=h;obtain⟨u,h1,h2⟩:=II.get (i:=i) (d:=d) t (e:);exact⟨u,(h1:),h2⟩
def ke{ds:↑C_}{xs:↑V}{its:↑A8}(q:II K H ds xs)(r:Vals xs its):∀(i:Nat) d u,ds[i]?=↥d->its[i]?=↥u->NC K H d u:=λi d u A9 AG=>by obtain⟨v,DS,a⟩:=q.get A9;obtain⟨J5,Li,C1⟩:=r.get DS;rw[AG]at Li;cases Li;exact⟨v,a,C1⟩
inductive R0(s:AR)(P:C_->A8->Prop):C_->A8->Prop where
 |non:R0 s P .non .none
 |AL (b:Bool):R0 s P (.AL b) (.bool b)
 |int (i:Int) (t:Tok):R0 s P (.int i) (.int i t)
 |str (x:Str) (t:Tok):R0 s P (.str x) (.str x t)
 |tup (a:A6) (ds:↑C_) (its:↑A8) (h:s.heap.IsTuple a its.toArray) (l:⇑ds=⇑its) (p:∀(i:Nat) d u,ds[i]?=↥d->its[i]?=↥u->P d u):R0 s P (.CZ true ds) (.ref a)
 |lst (a:A6) (ds:↑C_) (its:↑A8) (h:s.heap.IsList a its.toArray) (l:⇑ds=⇑its) (p:∀(i:Nat) d u,ds[i]?=↥d->its[i]?=↥u->P d u):R0 s P (.CZ false ds) (.ref a)
def ZN(A0:θ){d:C_}{u:A8}(h:NC X.K H d u):R0 s (NC X.K H) d u:=by
 obtain⟨x,a,r⟩:=h;cases d with
 |non=>erw[G4]at a;subst a;cases r;exact .non
 |AL b=>erw[G4]at a;subst a;cases r;exact .AL b
 |int i=>erw[G4]at a;subst a;obtain⟨t,rfl⟩:=r;exact .int i t
 |str i=>erw[G4]at a;subst a;obtain⟨t,rfl⟩:=r;exact .str i t
 |CZ t ds=>
  erw[G4]at a;obtain⟨p,xs,rfl,Ac,al⟩:=a;cases r;cases t with
  |true=>obtain⟨its,C1,BY,_⟩:=A0.tuple Ac;exact .tup p ds its BY (al.length.trans ⇑C1) (ke al C1)
  |false=>obtain⟨its,C1,BY,_⟩:=A0.list Ac;exact .lst p ds its BY.isList (al.length.trans ⇑C1) (ke al C1)
theorem b4:∀{xs ys:↑C_},⇑xs≠⇑ys->GJ xs ys=false
 |[],[],h=>absurd rfl h
 |[],_::_,_=>by erw[GJ];rfl
 |_::_,[],_=>by erw[GJ]
 |x::xs,y::ys,h=>by erw[GJ];rw[b4 (λe=>h (by simp[e])),S_]
def Mu(xs ys:↑C_)(j:Nat):Bool:=match xs[j]?,ys[j]? with
 |some x,↥y=>eqT x y
 |_,_=>true
def su(f:Nat->Bool)(n:Nat):(Cg (n+1)).all f=(f 0&&(Cg n).all λj=>f (j+1)):=by rw[List.range_succ_eq_map,Ul,Si];rfl
theorem bS:∀{xs ys:↑C_},⇑xs=⇑ys->(Cg ⇑xs).all (Mu xs ys)=GJ xs ys
 |[],[],_=>by simp[GJ]
 |[],_::_,h=>by simp at h
 |_::_,[],h=>by simp at h
 |x::xs,y::ys,h=>by
  rw[FF,su];have e:(λj=>Mu (x::xs) (y::ys) (j+1))=Mu xs ys:=by funext j;simp[Mu]
  rw[e,bS (h:)];erw[GJ];rfl
def Xp{f:C_->Bool}{ds:↑C_}(h:ds.all f=true){i:Nat}{d:C_}(e:ds[i]?=↥d):f d=true:=List.all_eq_true.mp h d (Ik e)
theorem b3:∀(n:Nat){d:C_},GO n d=true->eqT d d=true
 |_,.non,_|_,.AL _,_|_,.int _,_|_,.str _,_=>by simp[eqT]
 |0,.CZ _ _,o=>by cases o
 |n+1,.CZ t ds,o=>by
  erw[eqT,beq_self_eq_true,XY];have go:∀l:↑C_,l.all (GO n)=true->GJ l l=true:=λl=>by
   induction l with
   |nil=>intro _;simp[GJ]
   |cons x l CC=>intro h;rw[Ul,I1]at h;erw[GJ];rw[b3 n h.1,CC h.2];rfl
  exact go ds o
def hP(A0:θ):∀(n:Nat){d1 Ek:C_}{x:V},GO n d1=true->GO n Ek=true->G4 X.K H d1 x->G4 X.K H Ek x->d1=Ek:=by
 intro n;induction n with
 |zero=>
  intro d1 Ek x F4 FU a1 a2
  cases d1<;>cases Ek<;>erw[G4]at a1 a2<;>first
   |(cases F4;done)
   |(cases FU;done)
   |(subst a1;cases a2;done)
   |(subst a1;cases a2;rfl)
 |succ n CC=>
  intro d1 Ek x F4 FU a1 a2
  cases d1<;>cases Ek<;>erw[G4]at a1 a2<;>first
   |(subst a1;cases a2;done)
   |(subst a1;cases a2;rfl)
   |(obtain⟨_,_,e,_⟩:=a2;subst a1;cases e;done)
   |(obtain⟨_,_,e,_⟩:=a1;subst a2;cases e;done)
   |skip
  .rename_i t1 Fj Cn Fk;obtain⟨p,xs,rfl,h1,Aq⟩:=a1;obtain⟨HC,ys,e,h2,BV⟩:=a2;cases e;have key:t1=Cn/\xs=ys:=by
    cases t1<;>cases Cn
    .exact⟨rfl,A0.e4 h1 h2⟩
    .obtain⟨_,_,DI,_⟩:=A0.list h1;obtain⟨_,_,Ct,_⟩:=A0.tuple h2;exact absurd rfl (sB DI.isList Ct)
    .obtain⟨_,_,DI,_⟩:=A0.tuple h1;obtain⟨_,_,Ct,_⟩:=A0.list h2;exact absurd rfl (sB Ct.isList DI)
    .exact⟨rfl,A0.eb h1 h2⟩
   obtain⟨rfl,rfl⟩:=key;have:Fj=Fk:=by
    have AI:=Aq.length.trans BV.length.symm;apply List.ext_getElem?;intro i;by_cases AA:i< ⇑Fj
    .have A9:=C3 AA;have AG:=C3 (l:=Fk) (i:=i) δ;obtain⟨v,ev,E5⟩:=Aq.get A9;obtain⟨IF,i1,bv⟩:=BV.get AG;rw[ev]at i1;cases i1;rw[A9,AG,CC (Xp F4 A9) (Xp FU AG) E5 bv]
    .rw[J_ δ,J_ δ]
   rw[this]
def iN(A0:θ):∀(n:Nat){d1 Ek:C_}{u v:A8}{A:D3},GO n d1=true->GO n Ek=true->NC X.K H d1 u->NC X.K H Ek v->A.units+n<Dr->
  Xc A s u v (eqT d1 Ek)/\Un A s u v (eqT d1 Ek)/\SeqAt.RcNeAt A s u v (!eqT d1 Ek):=by
 intro n;induction n with
 |zero=>
  intro d1 Ek u v A F4 FU a1 a2 BS;have h1:=ZN A0 a1;have h2:=ZN A0 a2
  cases h1<;>cases h2<;>first
   |(cases F4;done)
   |(cases FU;done)
   |(erw[eqT,gO,Bool.not_false];refine⟨?_,?_,?_⟩<;>with_reducible first|exact .same _|exact .none_none|exact .none_bool _|exact .none_int _ _|exact .none_str _ _|exact .bool_none _|exact .bool_bool _ _|exact .bool_int _ _ _|exact .bool_str _ _ _|exact .int_none _ _|exact .int_bool _ _ _|exact .int_int _ _ _ _|exact .int_str _ _ _ _|exact .str_none _ _|exact .str_bool _ _ _|exact .str_int _ _ _ _|exact .str_str _ _ _ _)
 |succ n CC=>
  intro d1 Ek u v A F4 FU a1 a2 BS;have GL:A.units<Dr:=δ
  have h1:=ZN A0 a1;have h2:=ZN A0 a2
  have item:∀{Fj Fk:↑C_}{Ki Gq:↑A8},Fj.all (GO n)=true->Fk.all (GO n)=true->⇑Fj=⇑Ki->⇑Fk=⇑Gq->(∀(i:Nat) d u,Fj[i]?=↥d->Ki[i]?=↥u->NC X.K H d u)->(∀(i:Nat) d u,Fk[i]?=↥d->Gq[i]?=↥u->NC X.K H d u)->
    ∀j(h1:j<Ki.toArray.size)(h2:j<Gq.toArray.size),Xc A.in1 s Ki.toArray[j] Gq.toArray[j] (Mu Fj Fk j):=λ{Fj Fk Ki Gq} k1 k2 JV Lu Dk Cm j h1 h2=>by
   have Js:j< ⇑Fj:=by rw[JV];simpa using h1
   have Kj:j< ⇑Fk:=by rw[Lu];simpa using h2
   have:=(CC (A:=A.in1) (Xp k1 (C3 Js)) (Xp k2 (C3 Kj)) (Dk j _ Ki.toArray[j] (C3 Js) (by simp at h1;simp[h1])) (Cm j _ Gq.toArray[j] (C3 Kj) (by simp at h2;simp[h2])) (by show A.units+1+n<Dr;lia)).1;unfold Mu;rw[C3 Js,C3 Kj];exact this
  have same:∀{Dk Cm:A6},u=.ref Dk->v=.ref Cm->Un A s (.ref Dk) (.ref Cm) (eqT d1 Ek)->Xc A s (.ref Dk) (.ref Cm) (eqT d1 Ek):=λ{Dk Cm} A9 AG w=>by
   by_cases AX:Dk=Cm
   .subst AX A9 AG;obtain⟨Cc,b1,As⟩:=id a1;obtain⟨CK,Ey,BK⟩:=id a2;have:Cc=CK:=RelV.inj As BK;subst this;rw[hP A0 (n+1) F4 FU b1 Ey,b3 _ FU];exact SeqAt.EqAt.same _
   .exact SeqAt.EqAt.of_refs AX w
  cases h1<;>cases h2<;>first
   |(erw[eqT,gO,Bool.not_false];refine⟨?_,?_,?_⟩<;>with_reducible first|exact .same _|exact .none_none|exact .none_bool _|exact .none_int _ _|exact .none_str _ _|exact .bool_none _|exact .bool_bool _ _|exact .bool_int _ _ _|exact .bool_str _ _ _|exact .int_none _ _|exact .int_bool _ _ _|exact .int_int _ _ _ _|exact .int_str _ _ _ _|exact .str_none _ _|exact .str_bool _ _ _|exact .str_int _ _ _ _|exact .str_str _ _ _ _|exact .none_tuple ‹_› GL|exact .none_list ‹_› GL|exact .bool_tuple _ ‹_› GL|exact .bool_list _ ‹_› GL|exact .int_tuple _ _ ‹_› GL|exact .int_list _ _ ‹_› GL|exact .str_tuple _ _ ‹_› GL|exact .str_list _ _ ‹_› GL|exact .tuple_none ‹_› GL|exact .list_none ‹_› GL|exact .tuple_bool _ ‹_› GL|exact .list_bool _ ‹_› GL|exact .tuple_int _ _ ‹_› GL|exact .list_int _ _ ‹_› GL|exact .tuple_str _ _ ‹_› GL|exact .list_str _ _ ‹_› GL)
   |skip
  .rename_i Dk Fj Ki t1 JV Aq Cm Fk Gq Cn Lu BV;have C7:=SeqAt.RcAt.tuples (e:=Mu Fj Fk) t1 Cn GL (item F4 FU JV Lu Aq BV);have Cz:=SeqAt.RcNeAt.tuples (e:=Mu Fj Fk) t1 Cn GL (item F4 FU JV Lu Aq BV);have eq:((Cg (min Ki.toArray.size Gq.toArray.size)).all (Mu Fj Fk)&&Ki.toArray.size==Gq.toArray.size)=eqT (.CZ true Fj) (.CZ true Fk):=by
    rw[Df,Df,<-JV,<-Lu];erw[eqT,beq_self_eq_true,XY];by_cases AI:⇑Fj=⇑Fk
    .rw[<-AI,Nat.min_self,bS AI,beq_self_eq_true,XZ]
    .rw[b4 AI];have:(⇑Fj==⇑Fk)=false:=by simpa using AI
     rw[this,S_]
   rw[eq]at C7 Cz;exact⟨same rfl rfl C7,C7,Cz⟩
  .rename_i Dk Fj Ki t1 JV Aq Cm Fk Gq Cn Lu BV;have C7:Un A s (.ref Dk) (.ref Cm) (eqT (.CZ true Fj) (.CZ false Fk)):=by erw[eqT];exact SeqAt.RcAt.tuple_list t1 Cn GL
   exact⟨same rfl rfl C7,C7,by erw[eqT];exact SeqAt.RcNeAt.tuple_list t1 Cn GL⟩
  .rename_i Dk Fj Ki t1 JV Aq Cm Fk Gq Cn Lu BV;have C7:Un A s (.ref Dk) (.ref Cm) (eqT (.CZ false Fj) (.CZ true Fk)):=by erw[eqT];exact SeqAt.RcAt.list_tuple t1 Cn GL
   exact⟨same rfl rfl C7,C7,by erw[eqT];exact SeqAt.RcNeAt.list_tuple t1 Cn GL⟩
  .rename_i Dk Fj Ki t1 JV Aq Cm Fk Gq Cn Lu BV;have hsz:(Ki.toArray.size=Gq.toArray.size)=(⇑Fj=⇑Fk):=by rw[Df,Df,<-JV,<-Lu]
   by_cases AI:⇑Fj=⇑Fk
   .have C7:=SeqAt.RcAt.lists (e:=Mu Fj Fk) t1 Cn (by rw[hsz];exact AI) GL (item F4 FU JV Lu Aq BV);have Cz:=SeqAt.RcNeAt.lists (e:=Mu Fj Fk) t1 Cn (by rw[hsz];exact AI) GL (item F4 FU JV Lu Aq BV);rw[Df,<-JV,bS AI]at C7 Cz;have e:GJ Fj Fk=eqT (.CZ false Fj) (.CZ false Fk):=by simp[eqT]
    rw[e]at C7 Cz;exact⟨same rfl rfl C7,C7,Cz⟩
   .have hz:(Ki.toArray.size !=Gq.toArray.size)=true:=by
      rw[Df,Df,<-JV,<-Lu];simpa using AI
    have e:eqT (.CZ false Fj) (.CZ false Fk)=false:=by erw[eqT];rw[b4 AI,S_]
    have C7:Un A s (.ref Dk) (.ref Cm) (eqT (.CZ false Fj) (.CZ false Fk)):=by rw[e];exact SeqAt.RcAt.lists_lengths t1 Cn hz GL
    exact⟨same rfl rfl C7,C7,by rw[e];exact SeqAt.RcNeAt.lists_lengths t1 Cn hz GL⟩
open Classical in
def Le(K:Ao)(H:AE)(d:C_)(u:A8):Bool:=if h:∃d',GO 7 d'=true/\NC K H d' u then eqT (Classical.choose h) d else false
def sw(A0:θ){d d1:C_}{u:A8}(o:GO 7 d=true)(h:NC X.K H d u):Le X.K H d1 u=eqT d d1:=by have AM:∃d',GO 7 d'=true/\NC X.K H d' u:=⟨d,o,h⟩;unfold Le;rw[dif_pos AM];obtain⟨o',Fy,Gi,Bm⟩:=Classical.choose_spec AM;obtain⟨x,a,r⟩:=h;have:Fy=x:=Bm.inj r;subst this;rw[hP A0 7 o' o Gi a]
theorem Xr(A0:θ){d1:C_}{x:V}{v:A8}{A:D3}(BS:A.units+8<Dr)(F4:GO 7 d1=true)(a1:G4 X.K H d1 x)(Ax:RelV x v):∀{ds:↑C_}{xs:↑V}{its:↑A8},II X.K H ds xs->Vals xs its->ds.all (GO 7)=true->
  (∀u∈its,Xc A s u v (Le X.K H d1 u))/\its.map (Le X.K H d1)=ds.map λy=>eqT y d1
 |[],_,_,q,r,_=>by erw[II]at q;subst q;cases r;exact⟨(λu BS=>nomatch BS),rfl⟩
 |d::ds,_,_,q,r,o=>by
  erw[II]at q;obtain⟨w,wr,rfl,E5,Iw⟩:=q;cases r with
  |cons As BK=>
   rw[Ul,I1]at o;obtain⟨h1,h2⟩:=Xr A0 BS F4 a1 Ax Iw BK o.2;have e:=sw A0 (d1:=d1) o.1 ⟨w,E5,As⟩;refine⟨λJ5 hm=>?_,by rw[EM,EM,e,h2]⟩;rcases List.mem_cons.mp hm with z|hm
   .subst z;rw[e];exact(iN A0 7 (A:=A) o.1 F4 ⟨w,E5,As⟩ ⟨x,a1,Ax⟩ δ).1
   .exact h1 J5 hm
def any_map{α:Type}(l:↑α)(f:α->Bool):l.any f=(l.map f).any id:=by simp[XX]
def Zp(K:Ao)(b:Bool):D6:=λx y H Q=>∃d1 t ds,G4 K H d1 x/\G4 K H (.CZ t ds) y/\GO 7 d1=true/\ds.all (GO 7)=true/\Q (.AL (if b then ds.any (λy=>eqT y d1)else !ds.any λy=>eqT y d1)) H
def Zg(BS:X.A.units+64<Dr):Dy X (G0 .In) (Zp X.K true)/\Dy X (G0 .NotIn) (Zp X.K false):=by
 refine⟨?_,?_⟩<;>
 .intro A3 s σ H x y v u Q A0 Ax Bn h;obtain⟨d1,t,ds,a1,a2,F4,FU,q⟩:=h;erw[G4]at a2;obtain⟨p,xs,rfl,Ac,al⟩:=a2;cases Bn;cases t with
  |true=>
   obtain⟨its,C1,BY,_⟩:=A0.tuple Ac;obtain⟨h1,h2⟩:=Xr A0 (A:=X.A.in1) (d1:=d1) (by show X.A.units+1+8<Dr;lia) F4 a1 Ax al C1 FU;have e:its.any (Le X.K H d1)=ds.any λy=>eqT y d1:=by rw[any_map,h2,<-any_map]
   erw[if_true,Kn,if_false]at q;rw[<-e]at q
   first
    |exact SeqAt.in_tupleAt (Le X.K H d1) BY (λw hw=>h1 w (hw:)) ⟨.AL _,H,A0,rfl,(q:)⟩
    |exact SeqAt.notIn_tupleAt (Le X.K H d1) BY (λw hw=>h1 w (hw:)) ⟨.AL _,H,A0,rfl,(q:)⟩
  |false=>
   obtain⟨its,C1,BY,_⟩:=A0.list Ac;obtain⟨h1,h2⟩:=Xr A0 (A:=X.A.in1) (d1:=d1) (by show X.A.units+1+8<Dr;lia) F4 a1 Ax al C1 FU;have e:its.any (Le X.K H d1)=ds.any λy=>eqT y d1:=by rw[any_map,h2,<-any_map]
   erw[if_true,Kn,if_false]at q;rw[<-e]at q
   first
    |exact SeqAt.in_listAt (Le X.K H d1) BY.isList (λw hw=>h1 w (hw:)) ⟨.AL _,H,A0,rfl,(q:)⟩
    |exact SeqAt.notIn_listAt (Le X.K H d1) BY.isList (λw hw=>h1 w (hw:)) ⟨.AL _,H,A0,rfl,(q:)⟩
def er(K:Ao)(b:Bool):D6:=λx y H Q=>∃d1 Ek,G4 K H d1 x/\G4 K H Ek y/\GO 8 d1=true/\GO 8 Ek=true/\Q (.AL (if b then eqT d1 Ek else !eqT d1 Ek)) H
def Zf(BS:X.A.units+64<Dr):Dy X (G0 .Eq) (er X.K true)/\Dy X (G0 .NotEq) (er X.K false):=by
 refine⟨?_,?_⟩<;>
 .intro A3 s σ H x y v u Q A0 Ax Bn h;obtain⟨d1,Ek,a1,a2,F4,FU,q⟩:=h;have z:=iN A0 8 (A:=X.A) F4 FU ⟨x,a1,Ax⟩ ⟨y,a2,Bn⟩ δ
  first
   |exact z.2.1 X.prog X.w X.DA _ ⟨.AL _,H,A0,rfl,q⟩
   |exact z.2.2 X.prog X.w X.DA _ ⟨.AL _,H,A0,rfl,q⟩
end
noncomputable def Dw(h:A5):W->Option (Bool×↑W)
 |.tup ws=>↥(true,ws)
 |.Ho ws=>↥(true,ws)
 |.D1 ws=>↥(false,ws)
 |.ref n=>match h[n]? with
  |some ⟨.lst,ws⟩=>↥(false,ws)
  |_=>none
 |_=>none
section
variable{K:Ao}{φ:↑A6}{h:A5}{H:AE}{F:DN}{σ :St}{ρ:Ay}{X:Aw}
def JH(d:DD K φ h H){w:W}{v:V}{t:Bool}{ws:↑W}(a:AV K φ H w v)(e:Dw h w=↥(t,ws)):∃p xs,v=.ref p/\(if t=true then FA K H p xs else ET K H p xs)/\Al K φ H ws xs:=by
 unfold Dw at e
 split at e
 .cases e;erw[AV]at a;obtain⟨p,xs,rfl,q,r⟩:=a;exact⟨p,xs,rfl,.inl (.inl q),r⟩
 .cases e;erw[AV]at a;obtain⟨p,xs,rfl,q,r⟩:=a;exact⟨p,xs,rfl,q,r⟩
 .cases e;erw[AV]at a;obtain⟨p,xs,rfl,q,r⟩:=a;exact⟨p,xs,rfl,q.CZ,r⟩
 .rename_i n
  split at e
  .rename_i B2;cases e;obtain⟨p,xs,rfl,_,q,r⟩:=d.at B2 a;exact⟨p,xs,rfl,.inl (.inl q),r⟩
  .cases e
 .cases e
def Bu:Nat->A5->W->Option C_
 |_,_,.non=>↥.non
 |_,_,.AL b=>↥(.AL b)
 |_,_,.int i=>↥(.int i)
 |_,_,.str x=>↥(.str x)
 |0,_,_=>none
 |n+1,h,w=>match Dw h w with
  |some (t,ws)=>(ws.mapM (Bu n h)).map (.CZ t)
  |none=>none
theorem mW{n:Nat}(CC:∀{w:W}{v:V}{d:C_},Bu n h w=↥d->AV K φ H w v->G4 K H d v/\GO n d=true):∀{ws:↑W}{xs:↑V}{ds:↑C_},ws.mapM (Bu n h)=↥ds->Al K φ H ws xs->II K H ds xs/\ds.all (GO n)=true
 |[],_,_,e,a=>by simp at e;subst e;erw[Al]at a;subst a;simp[II]
 |w::ws,_,_,e,a=>by
  erw[Al]at a;obtain⟨v,r,rfl,a1,a2⟩:=a;rw[O0]at e;cases A9:Bu n h w with
  |none=>rw[A9]at e;cases e
  |some d=>
   rw[A9]at e;cases AG:ws.mapM (Bu n h)with
   |none=>rw[AG]at e;cases e
   |some ds=>rw[AG]at e;cases e;obtain⟨b1,Ey⟩:=CC A9 a1;obtain⟨C7,Cz⟩:=mW CC AG a2;exact⟨by erw[II];exact⟨v,r,rfl,b1,C7⟩,by rw[Ul,Ey,Cz];rfl⟩
def UQ(d:DD K φ h H):∀(n:Nat){w:W}{v:V}{t:C_},Bu n h w=↥t->AV K φ H w v->G4 K H t v/\GO n t=true:=by
 intro n;induction n with
 |zero=>
  intro w v t e a
  cases w<;>erw[Bu]at e<;>first
   |(cases e;done)
   |(cases e;erw[AV]at a;exact⟨by erw[G4];exact a,rfl⟩)
 |succ m CC=>
  intro w v t e a;have CZ:∀w,(match Dw h w with|some (t,ws)=>(ws.mapM (Bu m h)).map (C_.CZ t)|none=>none)=↥t->AV K φ H w v->G4 K H t v/\GO (m+1) t=true:=λw e a=>by
   split at e
   .rename_i t' ws es;obtain⟨p,xs,rfl,q,r⟩:=JH d a es;cases AG:ws.mapM (Bu m h)with
    |none=>rw[AG]at e;cases e
    |some ds=>rw[AG]at e;cases e;obtain⟨C7,Cz⟩:=mW (λe a=>CC e a) AG r;exact⟨by erw[G4];exact⟨p,xs,rfl,q,C7⟩,Cz⟩
   .cases e
  cases w<;>erw[Bu]at e<;>first
   |exact CZ _ e a
   |(cases e;erw[AV]at a;exact⟨by erw[G4];exact a,rfl⟩)
def Al.one{w:W}{vs:↑V}(a:Al K φ H [w] vs):∃v,vs=[v]/\AV K φ H w v:=by erw[Al]at a;obtain⟨v,r,rfl,h,rfl⟩:=a;exact⟨v,rfl,h⟩
def Al.two{w u:W}{vs:↑V}(a:Al K φ H [w,u] vs):∃v IF,vs=[v,IF]/\AV K φ H w v/\AV K φ H u IF:=by erw[Al]at a;obtain⟨v,r,rfl,h,IF,Bm,rfl,h',rfl⟩:=a;exact⟨v,IF,rfl,h,h'⟩
abbrev Iq:=W->W->A5->R (W×A5)
def BC(b:Bool):Iq:=λx y h=>match Bu 8 h x,Bu 8 h y with
 |some d,↥e=>.ok (.AL (if b then eqT d e else !eqT d e),h)
 |_,_=>.bad
def ZY(A_:F.K=X.K)(b:Bool):I3 F (er X.K b) (BC b):=by
 intro σ ρ φ h H x y FW G3 Q r a1 a2 q;unfold BC at q
 split at q
 .rename_i d e A9 AG;obtain⟨b1,C7⟩:=UQ r.hd 8 A9 a1;obtain⟨Ey,Cz⟩:=UQ r.hd 8 AG a2;rw[A_]at b1 Ey;exact⟨d,e,b1,Ey,C7,Cz,q _ φ H r (Ak.refl _ _) (Nb _)⟩
 .exact q.elim
def YT(b:Bool):Iq:=λx y h=>match Bu 7 h x,Bu 8 h y with
 |some d,↥(.CZ _ ds)=>.ok (.AL (if b then ds.any (λy=>eqT y d)else !ds.any λy=>eqT y d),h)
 |_,_=>.bad
def abb(A_:F.K=X.K)(b:Bool):I3 F (Zp X.K b) (YT b):=by
 intro σ ρ φ h H x y FW G3 Q r a1 a2 q;unfold YT at q
 split at q
 .rename_i d t ds A9 AG;obtain⟨b1,C7⟩:=UQ r.hd 7 A9 a1;obtain⟨Ey,Cz⟩:=UQ r.hd 8 AG a2;rw[A_]at b1 Ey;exact⟨d,t,ds,b1,Ey,C7,Cz,q _ φ H r (Ak.refl _ _) (Nb _)⟩
 .exact q.elim
noncomputable def Kh(f:Int->Int->Option W):Iq:=λx y h=>match x,y with
 |.int i,.int j=>match f i j with
  |some w=>.ok (w,h)
  |none=>.bad
 |_,_=>.bad
def Ly{g:Int->Int->V}{f:Int->Int->W}(e:∀i j K φ H,AV K φ H (f i j) (g i j)):I3 F (LC g) (Kh λi j=>↥(f i j)):=by
 intro σ ρ φ h H x y FW G3 Q r a1 a2 q;unfold Kh at q
 split at q
 .rename_i i j;erw[AV]at a1 a2;exact⟨i,j,a1,a2,q _ φ H r (Ak.refl _ _) (e _ _ _ _ _)⟩
 .exact q.elim
def Z_{C:Int->Int->Prop}[∀i j,Decidable (C i j)]{g:Int->Int->V}{f:Int->Int->W}(e:∀i j K φ H,AV K φ H (f i j) (g i j)):I3 F (IU C g) (Kh λi j=>if C i j then↥(f i j)else none):=by
 intro σ ρ φ h H x y FW G3 Q r a1 a2 q;unfold Kh at q
 split at q
 .rename_i i j;erw[AV]at a1 a2;dsimp only at q
  split at q
  .rename_i w hw
   split at hw
   .rename_i AK;cases hw;exact⟨i,j,a1,a2,AK,q _ φ H r (Ak.refl _ _) (e _ _ _ _ _)⟩
   .cases hw
  .exact q.elim
 .exact q.elim
instance(i j:Int):Decidable (So i j):=by unfold So;infer_instance
instance(i j:Int):Decidable (NE i j):=by unfold NE;infer_instance
instance(i j:Int):Decidable (NF i j):=by unfold NF;infer_instance
def J4:=Kh λi j=>↥(.int (i-j))
def EQ:=Kh λi j=>if So i j then↥(.int (i/j))else none
def Bf:=Kh λi j=>if 0<j then↥(.int (i%j))else none
def Gd:=Kh λi j=>if NF i j then↥(.int (i^j.toNat))else none
def NO:=Kh λi j=>↥(.AL (decide (i<j)))
def Ls:=Kh λi j=>↥(.AL (decide (i<=j)))
def Kd:=Kh λi j=>↥(.AL (decide (j<i)))
def cv:=Kh λi j=>↥(.AL (decide (j<=i)))
def afD:=Kh λi j=>if 0<=j then↥(.int (i/2^j.toNat))else none
def sv:=Kh λi j=>↥(.int (Builtin.bitAnd i j))
noncomputable def JW(h:A5):W->Option (Nat×↑W)
 |.ref n=>match h[n]? with
  |some ⟨.lst,ws⟩=>↥(n,ws)
  |_=>none
 |_=>none
def LA(d:DD K φ h H){w:W}{v:V}{n:Nat}{ws:↑W}(a:AV K φ H w v)(e:JW h w=↥(n,ws)):∃p xs,v=.ref p/\h[n]?=↥⟨.lst,ws⟩/\φ[n]?=↥p/\H p=↥(.lst xs)/\Al K φ H ws xs:=by
 unfold JW at e
 split at e
 .split at e
  .rename_i B2;cases e;obtain⟨p,xs,rfl,BX,q,r⟩:=d.at B2 a;exact⟨p,xs,rfl,B2,BX,q,r⟩
  .cases e
 .cases e
def addW:Iq:=λx y h=>match x,y with
 |.int i,.int j=>.ok (.int (i+j),h)
 |.str a,.str b=>if ⇑a+⇑b<=Bi then .ok (.str (a++b),h)else .bad
 |.tup a,y=>match Dw h y with
  |some (true,b)=>if a≠[]/\ ⇑a+⇑b<=Bi then .ok (.tup (a++b),h)else .bad
  |_=>.bad
 |x,y=>match JW h x,JW h y with
  |some (_,a),↥(_,b)=>nw .lst (a++b) h
  |_,_=>.bad
def n5(K:Ao):D6:=λx y H Q=>LC (λi j=>.int (i+j)) x y H Q\/(∃i j,x=.str i/\y=.str j/\ ⇑i+⇑j<=CU/\Q (.str (i++j)) H)\/mA K x y H Q\/m9 x y H Q
def abM:Dy X (Ja .Add) (n5 X.K):=abL.or (abN.or (abQ.or abP))
def big{n:Nat}(h:n<=Bi):n<=CU:=Gm h ε
def abZ(A_:F.K=X.K):I3 F (n5 X.K) addW:=by
 intro σ ρ φ h H x y FW G3 Q r a1 a2 q;unfold addW at q
 split at q
 .rename_i i j;erw[AV]at a1 a2;exact .inl ⟨i,j,a1,a2,q _ φ H r (Ak.refl _ _) (by erw[AV])⟩
 .rename_i i j;erw[AV]at a1 a2
  split at q
  .rename_i AI;exact .inr (.inl ⟨i,j,a1,a2,big AI,q _ φ H r (Ak.refl _ _) (by erw[AV])⟩)
  .exact q.elim
 .rename_i ws;erw[AV]at a1;obtain⟨p,xs,rfl,AF,BL⟩:=a1
  split at q
  .rename_i b B4;obtain⟨Cm,ys,rfl,A4,rb⟩:=JH r.hd a2 B4;rw[A_]at A4
   split at q
   .rename_i AI;refine .inr (.inr (.inl ⟨p,Cm,xs,ys,rfl,rfl,.inl (.inl AF),A4,λz=>AI.1 ?_,by rw[<- ⇑BL,<- ⇑rb];exact big AI.2,λz=>?_,λ_ HC AX=>?_⟩))
    .have:=⇑BL;rw[z]at this;exact ra this
    .subst z;have:=⇑rb;have:b=[]:=ra this;subst this;exact q _ φ H r (Ak.refl _ _) (by erw[AV,O4];exact⟨p,xs,rfl,AF,BL⟩)
    .exact q _ φ _ (r.to (r.hd.lay AX) (Ak.lay AX)) (Ak.lay AX) (by erw[AV];exact⟨HC,_,rfl,Ec,(BL.append rb).ex (Ak.lay AX)⟩)
   .exact q.elim
  .exact q.elim
 .split at q
  .rename_i na a nb b A9 AG;obtain⟨p,xs,rfl,_,_,AF,BL⟩:=LA r.hd a1 A9;obtain⟨Cm,ys,rfl,_,_,A4,rb⟩:=LA r.hd a2 AG;have OP:=BL.append rb;refine .inr (.inr (.inr ⟨p,Cm,xs,ys,rfl,rfl,AF,A4,?_,λHC AX=>Pf r q AX Ec OP⟩));have:=da q;rw[⇑OP,EL]at this;exact big this
  .exact q.elim
def F3:Iq:=λx y h=>match x,y with
 |.int i,.int j=>if NE i j then .ok (.int (i*j),h)else .bad
 |x,.int k=>match JW h x with
  |some (_,a)=>if-(2^63)<=k/\k<2^63 then nw .lst (Gy k.toNat a).flatten h else .bad
  |none=>.bad
 |_,_=>.bad
theorem Al.rep{ws:↑W}{xs:↑V}(a:Al K φ H ws xs):∀k:Nat,Al K φ H (Gy k ws).flatten (Gy k xs).flatten
 |0=>(Al.nil:)
 |k+1=>by rw[Qb,Qb,PP,PP];exact a.append (a.rep k)
def abj:I3 F (λx y H Q=>IU NE (λi j=>.int (i*j)) x y H Q\/mO x y H Q) F3:=by
 intro σ ρ φ h H x y FW G3 Q r a1 a2 q;unfold F3 at q
 split at q
 .rename_i i j;erw[AV]at a1 a2
  split at q
  .rename_i AK;exact .inl ⟨i,j,a1,a2,AK,q _ φ H r (Ak.refl _ _) (by erw[AV])⟩
  .exact q.elim
 .rename_i k _;erw[AV]at a2
  split at q
  .rename_i a A9;obtain⟨p,xs,rfl,_,_,AF,BL⟩:=LA r.hd a1 A9
   split at q
   .rename_i AQ;have KL:=BL.rep k.toNat;refine .inr ⟨p,k,xs,rfl,a2,AF,AQ.1,AQ.2,?_,λHC AX=>Pf r q AX Ec KL⟩;have:=da q;rw[⇑KL,len_rep]at this;rw[Nat.mul_comm];exact big this
   .exact q.elim
  .exact q.elim
 .exact q.elim
def Q2:W->Bool
 |.non=>true
 |_=>false
noncomputable def El(b:Bool):Iq:=λx y h=>match y with
 |.non=>.ok (.AL (if b then Q2 x else !Q2 x),h)
 |_=>.bad
def yh{w:W}{x:V}(a:AV K φ H w x):Q2 w=decide (x=.non):=by
 cases w<;>erw[AV,Q2]at a |-<;>first
  |(subst a;rfl)
  |(subst a;simp;done)
  |(obtain⟨_,_,rfl,_⟩:=a;simp;done)
  |(obtain⟨_,rfl,_⟩:=a;simp;done)
def Za(b:Bool):I3 F (λx y H Q=>y=.non/\Q (.AL (if b then decide (x=.non)else !decide (x=.non))) H) (El b):=by
 intro σ ρ φ h H x y FW G3 Q r a1 a2 q;unfold El at q
 split at q
 .erw[AV]at a2;rw[yh a1]at q;exact⟨a2,q _ φ H r (Ak.refl _ _) (Nb _)⟩
 .exact q.elim
def TJ:Iq:=λx y h=>match y with
 |.int i=>match x with
  |.str z=>if ⇑z<=Bi then match KV z.cps.toList i with
      |some c=>.ok (.str ⟨#[c]⟩,h)
      |none=>.bad
   else .bad
  |x=>match Dw h x with
   |some (_,ws)=>match KV ws i with
    |some w=>.ok (w,h)
    |none=>.bad
   |none=>.bad
 |_=>.bad
def sy{ws:↑W}{xs:↑V}{i:Int}{w:W}(a:Al K φ H ws xs)(e:KV ws i=↥w):∃v,KV xs i=↥v/\AV K φ H w v:=by
 unfold KV at e |-;rw[<- ⇑a];cases An:Oa ⇑ws i with
 |none=>rw[An]at e;cases e
 |some j=>rw[An]at e;exact a.get e
def abe(A_:F.K=X.K):I3 F (eu X.K) TJ:=by
 intro σ ρ φ h H x y FW G3 Q r a1 a2 q;unfold TJ at q
 split at q
 .rename_i i;erw[AV]at a2;subst a2
  split at q
  .rename_i z;erw[AV]at a1
   split at q
   .rename_i AI
    split at q
    .rename_i c ec;exact .inr (.inr ⟨z,i,c,a1,rfl,big AI,ec,q _ φ H r (Ak.refl _ _) (by erw[AV])⟩)
    .exact q.elim
   .exact q.elim
  .split at q
   .rename_i t ws es;obtain⟨p,xs,rfl,Ac,BL⟩:=JH r.hd a1 es;rw[A_]at Ac
    split at q
    .rename_i w Ck;obtain⟨v,ev,E5⟩:=sy BL Ck;have q:=q v φ H r (Ak.refl _ _) E5;cases t with
     |true=>exact .inr (.inl ⟨p,xs,i,v,rfl,rfl,Ac,ev,q⟩)
     |false=>exact .inl ⟨p,xs,i,v,rfl,rfl,Ac,ev,q⟩
    .exact q.elim
   .exact q.elim
 .exact q.elim
end
abbrev M3:=↑W->A5->R (W×A5)
def BI(f:M3)(m:DQ):B8:=bd m λws _ h=>f ws h
section
variable{K:Ao}{φ:↑A6}{h:A5}{H:AE}{F:DN}{σ :St}{ρ:Ay}{X:Aw}{ma:DQ}
def Q7(F:DN)(r:↑V->AE->CV->Prop)(f:M3):Prop:=∀ σ ρ φ h H xs ws Q,Rel F φ h H σ ρ->Al F.K φ H ws xs->Ee AV F φ H σ ρ Q (f ws h)->r xs H Q
def S3{r:↑V->AE->CV->Prop}{f:M3}(hf:Q7 F r f):F8 (CA F (BI f ma)) (WK r (G2 F ma)):=λσ H Q q=>
 q.bd λws xs φ ρ h H1 r as q=>hf σ ρ φ h H1 xs ws Q r as q
def Bh:M3:=λws h=>match ws with
 |[.str x]=>if ⇑x<=Bi then .ok (.int ⇑x,h)else .bad
 |[w]=>match Dw h w with
  |some (_,us)=>.ok (.int ⇑us,h)
  |none=>.bad
 |_=>.bad
def abg(A_:F.K=X.K):Q7 F (λxs H Q=>∃x n,xs=[x]/\hr X.K x H n/\Q (.int n) H) Bh:=by
 intro σ ρ φ h H xs ws Q r as q;unfold Bh at q
 split at q
 .rename_i x;obtain⟨v,rfl,a⟩:=as.one;erw[AV]at a;subst a
  split at q
  .rename_i AI;exact⟨_,⇑x,rfl,⟨big AI,rfl⟩,q _ φ H r (Ak.refl _ _) (by erw[AV])⟩
  .exact q.elim
 .obtain⟨v,rfl,a⟩:=as.one
  split at q
  .rename_i t us es;obtain⟨p,xs,rfl,Ac,BL⟩:=JH r.hd a es;rw[A_]at Ac;rw[⇑BL]at q;refine⟨_,⇑xs,rfl,?_,q _ φ H r (Ak.refl _ _) (by erw[AV])⟩;cases t with
   |true=>exact .inr ⟨xs,Ac,rfl⟩
   |false=>exact .inl ⟨xs,Ac,rfl⟩
  .exact q.elim
 .exact q.elim
def FD:M3:=λws h=>match ws with
 |[w]=>match Dw h w with
  |some (_,us)=>nw .lst us h
  |none=>.bad
 |_=>.bad
def abh(A_:F.K=X.K):Q7 F (λxs H Q=>∃p ys,xs=[.ref p]/\(ET X.K H p ys\/FA X.K H p ys)/\∀l,H l=none->Q (.ref l) (upd H l (.lst ys))) FD:=by
 intro σ ρ φ h H xs ws Q r as q;unfold FD at q
 split at q
 .obtain⟨v,rfl,a⟩:=as.one
  split at q
  .rename_i t us es;obtain⟨p,xs,rfl,Ac,BL⟩:=JH r.hd a es;rw[A_]at Ac;refine⟨p,xs,rfl,?_,λl AI=>Pf r q AI Ec BL⟩;cases t with
   |true=>exact .inr Ac
   |false=>exact .inl Ac
  .exact q.elim
 .exact q.elim
def OV:M3:=λws h=>match ws with
 |[w]=>match Dw h w with
  |some (false,us)=>.ok (.tup us,h)
  |some (true,_)=>.ok (w,h)
  |none=>.bad
 |_=>.bad
def abn(A_:F.K=X.K):Q7 F (λxs H Q=>∃p ys,xs=[.ref p]/\((ET X.K H p ys/\∀l,H l=none->Q (.ref l) (upd H l (.tup ys)))\/(FA X.K H p ys/\Q (.ref p) H))) OV:=by
 intro σ ρ φ h H xs ws Q r as q;unfold OV at q
 split at q
 .obtain⟨v,rfl,a⟩:=as.one
  split at q
  .rename_i us es;obtain⟨p,xs,rfl,Ac,BL⟩:=JH r.hd a es;rw[A_]at Ac;exact⟨p,xs,rfl,.inl ⟨Ac,λl AI=>q _ φ _ (r.to (r.hd.lay AI) (Ak.lay AI)) (Ak.lay AI) (by erw[AV];exact⟨l,_,rfl,Ec,BL.ex (Ak.lay AI)⟩)⟩⟩
  .rename_i us es;obtain⟨p,xs,rfl,Ac,BL⟩:=JH r.hd a es;rw[A_]at Ac;exact⟨p,xs,rfl,.inr ⟨Ac,q _ φ H r (Ak.refl _ _) a⟩⟩
  .exact q.elim
 .exact q.elim
noncomputable def LX:M3:=λws h=>match ws with
 |[.int i]=>if i.natAbs.log2<1920 then .ok (.str (toString i),h)else .bad
 |_=>.bad
def abl:Q7 F (λxs H Q=>∃i,xs=[.int i]/\i.natAbs.log2<1920/\Q (.str (toString i)) H) LX:=by
 intro σ ρ φ h H xs ws Q r as q;unfold LX at q
 split at q
 .rename_i i;obtain⟨v,rfl,a⟩:=as.one;erw[AV]at a;subst a
  split at q
  .rename_i AI;exact⟨i,rfl,AI,q _ φ H r (Ak.refl _ _) (by erw[AV])⟩
  .exact q.elim
 .exact q.elim
noncomputable def Rv:M3:=λws h=>match ws with
 |[.int i]=>.ok (.int i,h)
 |[.AL b]=>.ok (.int (if b then 1 else 0),h)
 |_=>.bad
def abm:Q7 F (λxs H Q=>(∃i,xs=[.int i]/\Q (.int i) H)\/∃k,xs=[.AL k]/\Q (.int (if k then 1 else 0)) H) Rv:=by
 intro σ ρ φ h H xs ws Q r as q;unfold Rv at q
 split at q
 .rename_i i;obtain⟨v,rfl,a⟩:=as.one;erw[AV]at a;subst a;exact .inl ⟨i,rfl,q _ φ H r (Ak.refl _ _) (by erw[AV])⟩
 .rename_i i;obtain⟨v,rfl,a⟩:=as.one;erw[AV]at a;subst a;exact .inr ⟨i,rfl,q _ φ H r (Ak.refl _ _) (by erw[AV])⟩
 .exact q.elim
noncomputable def Ma(h:A5):W->Option String
 |.non=>some "NoneType"
 |.AL _=>some "bool"
 |.int _=>some "int"
 |.str _=>some "str"
 |.tup _=>some "tuple"
 |.Ho _=>some "tuple"
 |.ref n=>match h[n]? with
  |some ⟨.lst,_⟩=>some "list"
  |some ⟨.BM _,_⟩=>some "dict"
  |some ⟨.ED _,_⟩=>some "dict"
  |_=>none
 |_=>none
noncomputable def eP(T U:String):Bool:=T==U||(T=="bool"&&U=="int")
def gQ(K:Ao)(U:String):Prop:=∀T,T="NoneType"\/T="bool"\/T="int"\/T="str"\/T="list"\/T="tuple"\/T="dict"->XO K (.type T) (.type U)=↥(eP T U)
def WP(K:Ao){U:String}(h:U="int"\/U="bool"\/U="str"\/U="list"\/U="tuple"\/U="dict"):gQ K U:=λT t=>by rcases h with rfl|rfl|rfl|rfl|rfl|rfl<;>rcases t with rfl|rfl|rfl|rfl|rfl|rfl|rfl<;>kernel_rfl
def ag2{w:W}{T:String}(e:Ma h w=↥T):T="NoneType"\/T="bool"\/T="int"\/T="str"\/T="list"\/T="tuple"\/T="dict":=by
 unfold Ma at e
 split at e<;>first
  |(cases e;simp;done)
  |(split at e<;>first|(cases e;simp;done)|(cases e;done))
  |(cases e;done)
def yj{A3:μ}{s:AR}{Q:A8->AR->Prop}{E:A8->AR->Prop}{w:W}{x:V}{u:A8}{T U:String}{k:Bool}(A0:θ)(d:DD X.K φ h H)(a:AV X.K φ H w x)(Ax:RelV x u)(e:Ma h w=↥T)(tt:XO X.K (.type T) (.type U)=↥k)(Ac:∀DJ,Q (.bool k) { s with toks:=DJ }):Av ξ X.A (call (.builtin "isinstance") [u,.type U]) Q E s:=by
 have Hd:∀{p:A6}{xs:↑V},FA X.K H p xs->XO X.K (.type "tuple") (.type U)=↥k->Av ξ X.A (call (.builtin "isinstance") [.ref p,.type U]) Q E s:=λAS tt=>by obtain⟨its,_,⟨o,A9,AG,_⟩,_⟩:=A0.tuple AS;exact JA sE A0.Fc ⟨o,A9,AG⟩ tt (λz=>nomatch z) Ac
 unfold Ma at e
 split at e
 .cases e;erw[AV]at a;subst a;cases Ax;exact JA sI A0.Fc Io tt (λz=>nomatch z) Ac
 .cases e;erw[AV]at a;subst a;cases Ax;exact JA sJ A0.Fc Io tt (λz=>nomatch z) Ac
 .cases e;erw[AV]at a;subst a;obtain⟨t,rfl⟩:=Ax;exact JA PySem.W.kitx_int A0.Fc Io tt (λz=>nomatch z) Ac
 .cases e;erw[AV]at a;subst a;obtain⟨t,rfl⟩:=Ax;exact JA PySem.W.kitx_str A0.Fc Io tt (λz=>nomatch z) Ac
 .cases e;erw[AV]at a;obtain⟨p,xs,rfl,AS,_⟩:=a;cases Ax;exact Hd (.inl (.inl AS)) tt
 .cases e;erw[AV]at a;obtain⟨p,xs,rfl,AS,_⟩:=a;cases Ax;exact Hd AS tt
 .split at e
  .rename_i B2;cases e;obtain⟨p,xs,rfl,_,AS,_⟩:=d.at B2 a;cases Ax;exact cW (x:=.ref p) A0 rfl (.lst AS) tt Ac
  .rename_i B2;cases e;obtain⟨p,xs,rfl,_,⟨AD,AS,_⟩,_⟩:=d.at B2 a;cases Ax;exact cW (x:=.ref p) A0 rfl (.BM AS) tt Ac
  .rename_i B2;cases e;obtain⟨p,xs,rfl,_,⟨AD,AS,_⟩,_⟩:=d.at B2 a;cases Ax;exact cW (x:=.ref p) A0 rfl (.ED AS) tt Ac
  .cases e
 .cases e
def mF(K:Ao)(U:String):↑V->AE->CV->Prop:=λxs H Q=>∃φ h w x T,DD K φ h H/\xs=[x,.ty U]/\AV K φ H w x/\Ma h w=↥T/\Q (.AL (eP T U)) H
def td{U:String}(tt:gQ X.K U):Jj X (.builtin "isinstance") (mF X.K U):=by intro A3 s σ H xs us Q A0 r h;obtain⟨φ,hh,w,x,T,d,rfl,a,e,q⟩:=h;obtain⟨u,Cf,rfl,Ax,Eg⟩:=vals2 r;obtain rfl:Cf=O5 U:=Eg;exact yj A0 d a Ax e (tt T (ag2 e)) λDJ=>⟨.AL _,H,A0.tok DJ,rfl,q⟩
def DT(U:String):W->A5->R (W×A5):=λw h=>match Ma h w with
 |some T=>.ok (.AL (eP T U),h)
 |none=>.bad
def xd{U:String}{m:B8}(A_:F.K=X.K):F8 (CA F (BD (DT U) m)) (WK (mF X.K U) (aQ (CA F m) (aQ (OT (.ty U)) aT))):=λσ H Q q=>
 q.bd λw v φ ρ h H1 r a q=>by
   unfold DT at q
   split at q
   .rename_i T Pp;have Gi:=a;have d:=r.hd;rw[A_]at Gi d;exact⟨φ,h,w,v,T,d,rfl,Gi,Pp,q _ φ H1 r (Ak.refl _ _) (Nb _)⟩
   .exact q.elim
noncomputable def bools:↑W->Option ↑Bool
 |[]=>some []
 |.AL b::ws=>(bools ws).map (b::·)
 |_=>none
theorem iW:∀{ws:↑W}{xs:↑V}{bs:↑Bool},bools ws=↥bs->Al K φ H ws xs->xs=bs.map V.AL
 |[],_,_,e,a=>by erw[bools]at e;cases e;erw[Al]at a;exact a
 |w::ws,_,_,e,a=>by
  erw[Al]at a;obtain⟨v,r,rfl,a1,a2⟩:=a;cases w<;>erw[bools]at e<;>try (cases e;done)
  rename_i b;cases AG:bools ws with
  |none=>rw[AG]at e;cases e
  |some bs=>rw[AG]at e;cases e;erw[AV]at a1;rw[a1,iW AG a2];rfl
def Hs(all:Bool):M3:=λws h=>match ws with
 |[w]=>match Dw h w with
  |some (false,us)=>match bools us with
   |some bs=>.ok (.AL (if all then bs.all id else bs.any id),h)
   |none=>.bad
  |_=>.bad
 |_=>.bad
def abk(A_:F.K=X.K)(b:Bool):Q7 F (λxs H Q=>∃(p:A6)(bs:↑Bool),xs=[.ref p]/\ET X.K H p (bs.map V.AL)/\Q (.AL (if b then bs.all id else bs.any id)) H) (Hs b):=by
 intro σ ρ φ h H xs ws Q r as q;unfold Hs at q
 split at q
 .obtain⟨v,rfl,a⟩:=as.one
  split at q
  .rename_i us es;obtain⟨p,xs,rfl,Ac,BL⟩:=JH r.hd a es
   split at q
   .rename_i bs B4;have:=iW B4 BL;subst this;rw[A_]at Ac;exact⟨p,bs,rfl,Ac,q _ φ H r (Ak.refl _ _) (Nb _)⟩
   .exact q.elim
  .exact q.elim
 .exact q.elim
abbrev RY:=M (Option Int)
def adh(_:Ao)(_:↑A6)(_:AE)(a b:Option Int):Prop:=b=a
abbrev WN(F:DN)(m:RY):TW:=LZ adh F m
def FM(m:B8):RY:=bd m λw=>match w with
 |.int i=>pu ↥i
 |_=>λ_ _=>.bad
def z1:∀ σ H Q,WN F (pu none) σ H Q->pN σ H Q:=λσ H Q q=>let⟨φ,ρ,h,r,q⟩:=q;q none φ H r (Ak.refl _ _) rfl
def z6{m:B8}:∀ σ H Q,WN F (FM m) σ H Q->qy (CA F m) σ H Q:=λσ H Q q=>
 q.bd λw v φ ρ h H1 r a q=>by
   cases w with
   |int i=>erw[AV]at a;exact⟨i,a,q _ φ H1 r (Ak.refl _ _) rfl⟩
   |_=>cases q
noncomputable def HO(ws:↑W)(lo AA:Option Int):↑W:=(ws.drop (Ei.Cu ⇑ws 0 lo)).take (Ei.Cu ⇑ws ⇑ws AA-Ei.Cu ⇑ws 0 lo)
def Al.cut{ws:↑W}{xs:↑V}(a:Al K φ H ws xs)(lo AA:Option Int):Al K φ H (HO ws lo AA) (Pn xs lo AA):=by unfold HO Pn;rw[⇑a];exact(a.drop _).take _
def Tp(w:W)(lo AA:Option Int):M W:=λ_ h=>match Dw h w with
 |some (false,ws)=>nw .lst (HO ws lo AA) h
 |some (true,ws)=>if Ei.Cu ⇑ws 0 lo=0/\Ei.Cu ⇑ws ⇑ws AA=⇑ws then .bad else .ok (.tup (HO ws lo AA),h)
 |none=>.bad
def Hq(m:B8)(lo AA:RY):B8:=bd m λw=>bd lo λl=>bd AA λu=>Tp w l u
def zB(A_:F.K=X.K){m:B8}{lo AA:RY}:F8 (CA F (Hq m lo AA)) (r3 (λx lo AA H Q=>mQ X.K x lo AA H Q\/mR X.K x lo AA H Q) (CA F m) (WN F lo) (WN F AA)):=λσ H Q q=>
 q.bd λw v φ ρ h H1 r a q=>⟨φ,ρ,h,r,q.bd λl dx CR h2 AH BK CK e q=>by
   cases e;exact⟨CR,ρ,h2,BK,q.bd λu J5 Ji BF BP Ff Dq e q=>by
    cases e;have a:=a.ex (CK.trans Dq);unfold Tp at q
    split at q
    .rename_i ws es;obtain⟨p,xs,rfl,Ac,BL⟩:=JH Ff.hd a es;rw[A_]at Ac;exact .inl ⟨p,xs,rfl,Ac,λHC AX=>Pf Ff q AX Ec (BL.cut l u)⟩
    .rename_i ws es;obtain⟨p,xs,rfl,Ac,BL⟩:=JH Ff.hd a es;rw[A_]at Ac
     split at q
     .exact q.elim
     .rename_i Ae;rw[⇑BL]at Ae;exact .inr ⟨p,xs,rfl,Ac,Ae,λHC AX=>q _ Ji _ (Ff.to (Ff.hd.lay AX) (Ak.lay AX)) (Ak.lay AX) (by erw[AV];exact⟨HC,_,rfl,Ec,(BL.cut l u).ex (Ak.lay AX)⟩)⟩
    .exact q.elim⟩⟩
end
section
variable{K:Ao}{φ:↑A6}{h:A5}{H:AE}{F:DN}{σ :St}{ρ:Ay}{X:Aw}{ma:DQ}{m:B8}
abbrev M4:=↑W->↑W->Option (W×↑W)
def SD(f:M4)(w:W)(us:↑W):B8:=λ_ h=>match JW h w with
 |some (n,ws)=>match f ws us with
  |some (r,ws')=>if ⇑ws'<=Bi then .ok (r,h.set n ⟨.lst,ws'⟩)else .bad
  |none=>.bad
 |none=>.bad
def Ms{α:Type}(w:W)(m:M α):M α:=λρ h=>match JW h w with
 |some _=>m ρ h
 |none=>.bad
def EA(f:M4)(o:B8)(ma:DQ):B8:=bd o λw=>Ms w (bd ma λus=>SD f w us)
def Sx{n:Nat}{p:A6}{ws ws':↑W}{xs U1:↑V}{r:W}{v:V}{Q:CV}(Gu:Rel F φ h H σ ρ)(B2:h[n]?=↥⟨.lst,ws⟩)(B9:φ[n]?=↥p)(AX:H p=↥(.lst xs))(BL:Al F.K φ H ws' U1)(C1:AV F.K φ H r v)(q:Ee AV F φ H σ ρ Q (.ok (r,h.set n ⟨.lst,ws'⟩))):Q v (upd H p (.lst U1)):=by have x:Ak φ H φ (upd H p (.lst U1)):=Ak.put AX λz=>z;exact q v φ _ (Gu.to (Gu.hd.put B2 B9 AX (λz=>z) (o':=⟨.lst,ws'⟩) Ec BL) x) x (C1.ex x)
def Su(F:DN)(r:V->↑V->AE->CV->Prop)(f:M4):Prop:=∀ σ ρ φ h H n p ws us xs vs Q Cf ws',Rel F φ h H σ ρ->h[n]?=↥⟨.lst,ws⟩->φ[n]?=↥p->H p=↥(.lst xs)->Al F.K φ H ws xs->Al F.K φ H us vs->f ws us=↥(Cf,ws')->⇑ws'<=Bi->Ee AV F φ H σ ρ Q (.ok (Cf,h.set n ⟨.lst,ws'⟩))->r (.ref p) vs H Q
def YR(A_:F.K=X.K){r:V->↑V->AE->CV->Prop}{f:M4}(hf:Su F r f):F8 (CA F (EA f m ma)) (WJ X.K "list" r (CA F m) (G2 F ma)):=λσ H Q q=>
 q.bd λw v φ ρ h H1 Gu a q=>by
   unfold Ms at q
   split at q
   .rename_i nw e;obtain⟨n,ws⟩:=nw;obtain⟨p,xs,rfl,B2,B9,AX,BL⟩:=LA Gu.hd a e;refine⟨.inl ⟨rfl,xs,.inl (.inl AX)⟩,φ,ρ,h,Gu,q.bd λus vs CR h2 AH BK CK as q=>?_⟩;unfold SD at q
    split at q
    .rename_i FN ws2 AG;obtain⟨Cm,aj,Lk,av,b2,TD,OP⟩:=LA BK.hd (a.ex CK) AG;cases Lk
     split at q
     .rename_i Cf ws' C2
      split at q
      .rename_i AI;exact hf σ ρ CR h2 AH FN p ws2 us aj vs Q Cf ws' BK av b2 TD OP as C2 AI q
      .exact q.elim
     .exact q.elim
    .exact q.elim
   .exact q.elim
def jS(A_:F.K=X.K){r:V->↑V->AE->CV->Prop}{f:M4}(hf:Su F r f):F8 (CA F (EA f m A2)) (ph X.K "list" r (CA F m)):=λσ H Q q=>by have z:=YR (X:=X) A_ hf (m:=m) (ma:=A2) σ H Q q;obtain⟨φ,ρ,h,r,z⟩:=z;refine⟨φ,ρ,h,r,z.imp λv H1⟨ty,φ,ρ,h,r,z⟩=>⟨ty,z [] φ H1 r (Ak.refl _ _) .nil⟩⟩
noncomputable def Ej:M4:=λws us=>match us with
 |[w]=>↥(.non,ws++[w])
 |_=>none
def WD:AV K φ H .non .non:=by erw[AV]
def ab_:Su F n6 Ej:=by
 intro σ ρ φ h H n p ws us xs vs Q Cf ws' Gu B2 B9 AX BL as C2 AI q;unfold Ej at C2
 split at C2
 .cases C2;obtain⟨v,rfl,E5⟩:=as.one;rw[EL,⇑BL]at AI;exact⟨p,xs,v,rfl,rfl,AX,GH (Nat.lt_of_succ_le AI) ε,Sx Gu B2 B9 AX (BL.append (.cons E5 .nil)) WD q⟩
 .cases C2
def cZ(h:A5):M4:=λws us=>match us with
 |[w]=>(JW h w).map λp=>(.non,ws++p.2)
 |_=>none
noncomputable def K0:M4:=λws us=>match us with
 |[]=>(ws[⇑ws-1]?).map λw=>(w,ws.dropLast)
 |[.int i]=>if-(2^63)<=i/\i<2^63 then match Sj i ⇑ws with
    |some k=>(ws[k]?).map λw=>(w,ws.eraseIdx k)
    |none=>none
  else none
 |_=>none
def Al.erase{ws:↑W}{xs:↑V}(a:Al K φ H ws xs)(k:Nat):Al K φ H (ws.eraseIdx k) (xs.eraseIdx k):=by rw[rP,rP];exact(a.take k).append (a.drop (k+1))
theorem Al.dropLast{ws:↑W}{xs:↑V}(a:Al K φ H ws xs):Al K φ H ws.dropLast xs.dropLast:=by rw[rl,rl,⇑a];exact a.take _
def lI:Su F (λx vs H Q=>mL x vs H Q\/mM x vs H Q) K0:=by
 intro σ ρ φ h H n p ws us xs vs Q Cf ws' Gu B2 B9 AX BL as C2 AI q;unfold K0 at C2
 split at C2
 .erw[Al]at as;subst as;cases e:ws[⇑ws-1]? with
  |none=>rw[e]at C2;cases C2
  |some w=>rw[e]at C2;cases C2;obtain⟨v,ev,E5⟩:=BL.get e;rw[⇑BL]at ev;exact .inl ⟨p,xs,v,rfl,rfl,AX,ev,Sx Gu B2 B9 AX BL.dropLast E5 q⟩
 .rename_i i;obtain⟨v,rfl,E5⟩:=as.one;erw[AV]at E5;subst E5
  split at C2
  .rename_i AA
   split at C2
   .rename_i k EP;cases e:ws[k]? with
    |none=>rw[e]at C2;cases C2
    |some w=>rw[e]at C2;cases C2;obtain⟨v,ev,E5⟩:=BL.get e;rw[⇑BL]at EP;exact .inr ⟨p,xs,i,k,v,rfl,rfl,AX,AA.1,AA.2,EP,ev,Sx Gu B2 B9 AX (BL.erase k) E5 q⟩
   .cases C2
  .cases C2
 .cases C2
noncomputable def b6:M4:=λ_ us=>match us with
 |[]=>↥(.non,[])
 |_=>none
def aba:Su F mB b6:=by
 intro σ ρ φ h H n p ws us xs vs Q Cf ws' Gu B2 B9 AX BL as C2 AI q;unfold b6 at C2
 split at C2
 .cases C2;erw[Al]at as;subst as;exact⟨p,xs,rfl,rfl,AX,Sx Gu B2 B9 AX .nil WD q⟩
 .cases C2
def en(o i v:W):Ap:=λρ h=>match JW h o,i with
 |some (n,ws),.int k=>match Oa ⇑ws k with
  |some j=>.ok (.AP ρ,h.set n ⟨.lst,ws.set j v⟩)
  |none=>.bad
 |_,_=>.bad
def cu(o i:B8):DR:=λv=>bd o λWt=>bd i λkf=>en Wt kf v
def z7{o i:B8}:YG (LY F (cu o i)) (jf (CA F o) (CA F i) mP):=by
 rintro v σ H Q ⟨φ,ρ,h,w,r,a,q⟩;refine⟨φ,ρ,h,r,ER.bd q λWt x By h1 H1 As Cc EU q=>⟨By,ρ,h1,As,ER.bd q λkf y CR h2 AH BK CK Gk q=>?_⟩⟩;unfold en at q
 split at q
 .rename_i n ws k e;obtain⟨p,xs,rfl,B2,B9,AX,BL⟩:=LA BK.hd (EU.ex CK) e;erw[AV]at Gk
  split at q
  .rename_i j FJ;have AG:Ak CR AH CR (upd AH p (.lst (xs.set j v))):=Ak.put AX λz=>z;rw[⇑BL]at FJ;exact⟨p,xs,k,j,rfl,Gk,AX,FJ,q σ CR _ (BK.to (BK.hd.put B2 B9 AX (λz=>z) (o':=⟨.lst,ws.set j w⟩) Ec (BL.set (a.ex (Cc.trans CK)) j)) AG) AG⟩
  .exact q.elim
 .exact q.elim
noncomputable def keyOf:W->Option Key
 |.int i=>↥(.inl i)
 |.str x=>↥(.inr x)
 |_=>none
def NW:W->Option Ex
 |.tup ws=>ws.mapM keyOf
 |_=>none
def Va{w:W}{v:V}{k:Key}(e:keyOf w=↥k)(a:AV K φ H w v):v=D0 k:=by cases w<;>erw[keyOf]at e<;>first|(cases e;done)|(cases e;erw[AV]at a;exact a)
theorem dN{α:Type}{f:W->Option α}{P:α->V->Prop}(hf:∀{w v k},f w=↥k->AV K φ H w v->P k v):∀{ws:↑W}{xs:↑V}{AZ:↑α},ws.mapM f=↥AZ->Al K φ H ws xs->Paired P AZ xs
 |[],_,_,e,a=>by simp at e;subst e;erw[Al]at a;subst a;exact .nil
 |w::ws,_,_,e,a=>by
  erw[Al]at a;obtain⟨v,r,rfl,a1,a2⟩:=a;rw[O0]at e;cases A9:f w with
  |none=>rw[A9]at e;cases e
  |some k=>
   rw[A9]at e;cases AG:ws.mapM f with
   |none=>rw[AG]at e;cases e
   |some AZ=>rw[AG]at e;cases e;exact .cons (hf A9 a1) (dN hf AG a2)
theorem l1:∀{AZ:↑Key}{xs:↑V},Paired (λk v=>v=D0 k) AZ xs->xs=AZ.map D0
 |_,_,.nil=>rfl
 |_,_,.cons e t=>by rw[e,l1 t];rfl
def dY{w:W}{v:V}{k:Ex}(e:NW w=↥k)(a:AV K φ H w v):∃b,v=.ref b/\OO H k b:=by
 unfold NW at e
 split at e
 .erw[AV]at a;obtain⟨b,xs,rfl,A4,BL⟩:=a;exact⟨b,rfl,by rw[OO,A4,l1 (dN Va e BL)]⟩
 .cases e
section
variable{Bp:Type}[DecidableEq Bp]
noncomputable def E3:↑Bp->↑W->Bp->Option W
 |k'::AZ,w::ws,k=>if k'=k then↥w else E3 AZ ws k
 |_,_,_=>none
noncomputable def ZL:↑Bp->↑W->Bp->W->↑W
 |k'::AZ,w::ws,k,u=>(if k'=k then u else w)::ZL AZ ws k u
 |_,_,_,_=>[]
noncomputable def Nj:↑Bp->↑W->Bp->↑W
 |k'::AZ,w::ws,k=>if k'=k then Nj AZ ws k else w::Nj AZ ws k
 |_,_,_=>[]
def Uv(K:Ao)(φ:↑A6)(H:AE):Option W->Option V->Prop
 |some w,↥v=>AV K φ H w v
 |none,none=>True
 |_,_=>False
theorem Rx(k:Bp):∀{AD:↑(Bp×V)}{ws:↑W},Al K φ H ws (AD.map (·.2))->Uv K φ H (E3 (AD.map (·.1)) ws k) (HG AD k)
 |[],ws,a=>by
  have:=⇑a;cases ws with
  |nil=>simp[E3,agL,Uv]
  |cons _ _=>simp at this
 |(k',v)::AD,ws,a=>by
  cases ws with
  |nil=>have:=⇑a;simp at this
  |cons w ws=>
   erw[EM,Al]at a;obtain⟨IF,r,e,a1,a2⟩:=a;cases e;erw[EM,E3];by_cases AQ:k'=k
   .rw[if_pos AQ,WT AQ];exact a1
   .rw[if_neg AQ,WS AQ];exact Rx k a2
theorem m4{k:Bp}{u:W}{x:V}(b:AV K φ H u x):∀{AD:↑(Bp×V)}{ws:↑W},Al K φ H ws (AD.map (·.2))->Al K φ H (ZL (AD.map (·.1)) ws k u) ((AD.map λCa=>if Ca.1=k then(Ca.1,x)else Ca).map (·.2))
 |[],ws,a=>by
  cases ws with
  |nil=>exact .nil
  |cons _ _=>have:=⇑a;simp at this
 |(k',v)::AD,ws,a=>by
  cases ws with
  |nil=>have:=⇑a;simp at this
  |cons w ws=>
   erw[EM,Al]at a;obtain⟨IF,r,e,a1,a2⟩:=a;cases e;erw[EM,ZL];refine .cons ?_ (m4 b a2);by_cases AQ:k'=k
   .rw[if_pos AQ,if_pos AQ];exact b
   .rw[if_neg AQ,if_neg AQ];exact a1
theorem iA{k:Bp}:∀{AD:↑(Bp×V)}{ws:↑W},Al K φ H ws (AD.map (·.2))->Al K φ H (Nj (AD.map (·.1)) ws k) ((Mn AD k).map (·.2))
 |[],ws,a=>by
  cases ws with
  |nil=>exact .nil
  |cons _ _=>have:=⇑a;simp at this
 |(k',v)::AD,ws,a=>by
  cases ws with
  |nil=>have:=⇑a;simp at this
  |cons w ws=>
   erw[EM,Al]at a;obtain⟨IF,r,e,a1,a2⟩:=a;cases e;have CC:=iA (k:=k) a2;unfold Mn at CC |-;erw[EM,Nj];by_cases AQ:k'=k
   .rw[if_pos AQ,List.filter_cons_of_neg (by simp[AQ])];exact CC
   .rw[if_neg AQ,List.filter_cons_of_pos (by simp[AQ])];exact .cons a1 CC
def vI(AD:↑(Bp×V))(k:Bp):(Mn AD k).map (·.1)=(AD.map (·.1)).filter λx=>decide (x≠k):=by unfold Mn;rw[fy];rfl
def Ox(AZ:↑Bp)(ws:↑W)(k:Bp)(w:W):↑Bp×↑W:=if k∈AZ then(AZ,ZL AZ ws k w)else(AZ++[k],ws++[w])
def sx(AD:↑(Bp×V))(k:Bp):(AD.any λCa=>decide (Ca.1=k))=decide (k∈AD.map (·.1)):=by rw[Qj];erw[XS,decide_eq_true_eq,Ui]
def mz{k:Bp}{u:W}{x:V}{AD:↑(Bp×V)}{ws:↑W}(b:AV K φ H u x)(a:Al K φ H ws (AD.map (·.2))):(putK AD k x).map (·.1)=(Ox (AD.map (·.1)) ws k u).1/\Al K φ H (Ox (AD.map (·.1)) ws k u).2 ((putK AD k x).map (·.2)):=by
 unfold putK Ox;rw[sx];by_cases AQ:k∈AD.map (·.1)
 .rw[if_pos (decide_eq_true AQ),if_pos AQ];refine⟨?_,m4 b a⟩;rw[K4];apply List.map_congr_left;intro Ca _;erw[O2]
  split<;>rfl
 .rw[if_neg (by erw[decide_eq_true_eq];exact AQ),if_neg AQ];exact⟨γ,by rw[Hg];exact a.append (.cons b .nil)⟩
end
def GT(h:A5)(d k:W):Option (Option W):=match d with
 |.ref n=>match h[n]? with
  |some ⟨.BM AZ,ws⟩=>(keyOf k).map (E3 AZ ws)
  |some ⟨.G9 AZ,ws⟩=>(keyOf k).map (E3 AZ ws)
  |some ⟨.ED AZ,ws⟩=>(NW k).map (E3 AZ ws)
  |_=>none
 |_=>none
def ZE(d:DD K φ h H){JR kw:W}{x y:V}{o:Option W}(e:GT h JR kw=↥o)(EU:AV K φ H JR x)(Gk:AV K φ H kw y):∃a Cq,x=.ref a/\JM H a y Cq/\Uv K φ H o Cq:=by
 unfold GT at e
 split at e
 .split at e
  .rename_i AZ ws B2;obtain⟨a,xs,rfl,_,⟨AD,AF,rfl,rfl⟩,BL⟩:=d.at B2 EU;cases EP:keyOf kw with
   |none=>rw[EP]at e;cases e
   |some k=>rw[EP]at e;cases e;rw[Va EP Gk];exact⟨a,_,rfl,JM.k AF,Rx k BL⟩
  .rename_i AZ ws B2;obtain⟨a,xs,rfl,_,⟨o,AD,AF,rfl,rfl⟩,BL⟩:=d.at B2 EU;cases EP:keyOf kw with
   |none=>rw[EP]at e;cases e
   |some k=>rw[EP]at e;cases e;rw[Va EP Gk];exact⟨a,_,rfl,.inl ⟨AD,k,.inr ⟨o,AF⟩,rfl,rfl⟩,Rx k BL⟩
  .rename_i AZ ws B2;obtain⟨a,xs,rfl,_,⟨AD,AF,rfl,rfl⟩,BL⟩:=d.at B2 EU;cases EP:NW kw with
   |none=>rw[EP]at e;cases e
   |some k=>rw[EP]at e;cases e;obtain⟨b,rfl,tb⟩:=dY EP Gk;exact⟨a,_,rfl,JM.t AF tb,Rx k BL⟩
  .cases e
 .cases e
def bC:Iq:=λd k h=>match GT h d k with
 |some ↥w=>.ok (w,h)
 |_=>.bad
def xw{d k:B8}:F8 (CA F (A1 bC d k)) (pj (CA F d) (CA F k)):=λσ H Q q=>
 q.bd λJR x φ ρ h H1 r EU q=>⟨φ,ρ,h,r,q.bd λkw y CR h2 AH BK CK Gk q=>by
   unfold bC at q
   split at q
   .rename_i w e;obtain⟨a,Cq,rfl,g,Fw⟩:=ZE BK.hd e (EU.ex CK) Gk;cases Cq with
    |none=>cases Fw
    |some v=>exact⟨a,v,rfl,g,q v CR AH BK (Ak.refl _ _) Fw⟩
   .exact q.elim⟩
def aj0(b:Bool):Iq:=λk d h=>match GT h d k with
 |some o=>.ok (.AL (if b then o.isSome else !o.isSome),h)
 |none=>.bad
def Uv.is{o:Option W}{Cq:Option V}(r:Uv K φ H o Cq):o.isSome=Cq.isSome:=by cases o<;>cases Cq<;>first|rfl|cases r
def RE(d k v:W):Ap:=λρ h=>match d with
 |.ref n=>match h[n]? with
  |some ⟨.BM AZ,ws⟩=>match keyOf k with
   |some k=>if ⇑ws<Bi then .ok (.AP ρ,h.set n ⟨.BM (Ox AZ ws k v).1,(Ox AZ ws k v).2⟩)else .bad
   |none=>.bad
  |some ⟨.ED AZ,ws⟩=>match NW k with
   |some k=>if ⇑ws<Bi then .ok (.AP ρ,h.set n ⟨.ED (Ox AZ ws k v).1,(Ox AZ ws k v).2⟩)else .bad
   |none=>.bad
  |_=>.bad
 |_=>.bad
def Og(d k v:B8):Ap:=bd v λOz=>bd d λJR=>bd k λkw=>RE JR kw Oz
def xy{d k v:B8}:KQ (GP F (Og d k v)) (m7 (CA F d) (CA F k) (CA F v)):=λDe σ H q=>
 q.bd λOz z φ ρ h H1 r Ta q=>⟨φ,ρ,h,r,ER.bd q λJR x By h1 AH As Cc EU q=>⟨By,ρ,h1,As,ER.bd q λkw y CR h2 BP BK CK Gk q=>by
   have Ta:=Ta.ex (Cc.trans CK);have EU:=EU.ex CK;unfold RE at q
   split at q
   .split at q
    .rename_i AZ ws B2;obtain⟨a,xs,rfl,BX,⟨AD,AF,rfl,rfl⟩,BL⟩:=BK.hd.at B2 EU
     split at q
     .rename_i k EP
      split at q
      .rename_i AI;rw[⇑BL,Cd]at AI;obtain⟨A9,AG⟩:=mz (k:=k) Ta BL;have Dq:Ak CR BP CR (upd BP a (.BM (putK AD k z))):=Ak.put AF λz=>z;rw[Va EP Gk];exact⟨a,_,rfl,Q9.k AF (GH AI ε),q σ CR _ (BK.to (BK.hd.put B2 BX AF (λz=>z) (o':=⟨.BM _,_⟩) ⟨_,Ec,A9,rfl⟩ AG) Dq) Dq⟩
      .exact q.elim
     .exact q.elim
    .rename_i AZ ws B2;obtain⟨a,xs,rfl,BX,⟨AD,AF,rfl,rfl⟩,BL⟩:=BK.hd.at B2 EU
     split at q
     .rename_i k EP
      split at q
      .rename_i AI;rw[⇑BL,Cd]at AI;obtain⟨A9,AG⟩:=mz (k:=k) Ta BL;have Dq:Ak CR BP CR (upd BP a (.ED (putK AD k z))):=Ak.put AF λz=>z;obtain⟨b,rfl,tb⟩:=dY EP Gk;exact⟨a,_,rfl,Q9.t AF tb (GH AI ε),q σ CR _ (BK.to (BK.hd.put B2 BX AF (λz=>z) (o':=⟨.ED _,_⟩) ⟨_,Ec,A9,rfl⟩ AG) Dq) Dq⟩
      .exact q.elim
     .exact q.elim
    .exact q.elim
   .exact q.elim⟩⟩
noncomputable def S6(h:A5):W->Bool
 |.ref n=>match h[n]? with
  |some ⟨.BM _,_⟩=>true
  |some ⟨.ED _,_⟩=>true
  |_=>false
 |_=>false
def k_(d:DD K φ h H){w:W}{x:V}(a:AV K φ H w x)(e:S6 h w=true):∃p,x=.ref p/\YH H p:=by
 unfold S6 at e
 split at e
 .split at e
  .rename_i B2;obtain⟨p,xs,rfl,_,⟨AD,AX,_⟩,_⟩:=d.at B2 a;exact⟨p,rfl,.inl ⟨AD,.inl AX⟩⟩
  .rename_i B2;obtain⟨p,xs,rfl,_,⟨AD,AX,_⟩,_⟩:=d.at B2 a;exact⟨p,rfl,.inr ⟨AD,.inl AX⟩⟩
  .cases e
 .cases e
def S5{α:Type}(w:W)(m:M α):M α:=λρ h=>if S6 h w=true then m ρ h else .bad
def VB(d k:B8):B8:=bd d λJR=>S5 JR (bd k λkw _ h=>match GT h JR kw with
 |some o=>.ok (o.getD .non,h)
 |none=>.bad)
def xv{d k:B8}:F8 (CA F (VB d k)) (pk (CA F d) (CA F k)):=λσ H Q q=>
 q.bd λJR x φ ρ h H1 r EU q=>by
   unfold S5 at q
   split at q
   .rename_i e;obtain⟨p,rfl,AX⟩:=k_ r.hd EU e;refine⟨p,rfl,AX,φ,ρ,h,r,q.bd λkw y CR h2 AH BK CK Gk q=>?_⟩
    split at q
    .rename_i o GB;obtain⟨a,Cq,BX,g,Fw⟩:=ZE BK.hd GB (EU.ex CK) Gk;cases BX;refine⟨Cq,g,q _ CR AH BK (Ak.refl _ _) ?_⟩;cases o<;>cases Cq<;>first|exact WD|exact Fw|cases Fw
    .exact q.elim
   .exact q.elim
def Vr(JR kw:W):B8:=λ_ h=>match JR with
 |.ref n=>match h[n]? with
  |some ⟨.BM AZ,ws⟩=>match keyOf kw with
   |some k=>match E3 AZ ws k with
    |some w=>.ok (w,h.set n ⟨.BM (AZ.filter λx=>decide (x≠k)),Nj AZ ws k⟩)
    |none=>.bad
   |none=>.bad
  |_=>.bad
 |_=>.bad
def VC(d k:B8):B8:=bd d λJR=>S5 JR (bd k λkw=>Vr JR kw)
def xx{d k:B8}:F8 (CA F (VC d k)) (pv (CA F d) (CA F k)):=λσ H Q q=>
 q.bd λJR x φ ρ h H1 r EU q=>by
   unfold S5 at q
   split at q
   .rename_i e;obtain⟨p,rfl,AX⟩:=k_ r.hd EU e;refine⟨p,rfl,AX,φ,ρ,h,r,q.bd λkw y CR h2 AH BK CK Gk q=>?_⟩;unfold Vr at q
    split at q
    .split at q
     .rename_i AZ ws B2;obtain⟨a,xs,BX,vS,⟨AD,AF,rfl,rfl⟩,BL⟩:=BK.hd.at B2 (EU.ex CK);cases BX
      split at q
      .rename_i k EP
       split at q
       .rename_i w Ck;have Fw:=Rx k BL;rw[Ck]at Fw;cases ev:HG AD k with
        |none=>rw[ev]at Fw;cases Fw
        |some v=>rw[ev]at Fw;have Dq:Ak CR AH CR (upd AH p (.BM (Mn AD k))):=Ak.put AF λz=>z;exact⟨AD,k,v,AF,Va EP Gk,ev,q v CR _ (BK.to (BK.hd.put B2 vS AF (λz=>z) (o':=⟨.BM _,_⟩) ⟨_,Ec,vI AD k,rfl⟩ (iA BL)) Dq) Dq (AV.ex Dq Fw)⟩
       .exact q.elim
      .exact q.elim
     .exact q.elim
    .exact q.elim
   .exact q.elim
def NP(t:Bool):B8:=λ_ h=>nw (if t then .ED []else .BM []) [] h
def xt:F8 (CA F (NP false)) eU:=λσ H Q⟨φ,ρ,h,r,q⟩ p AX=>Pf r q AX ⟨[],Ec,rfl,rfl⟩ .nil
def xu:F8 (CA F (NP true)) pq:=λσ H Q⟨φ,ρ,h,r,q⟩ p AX=>Pf r q AX ⟨[],Ec,rfl,rfl⟩ .nil
end
abbrev Gn:=Nat->A5->Option (Option W)
def IU(K:Ao)(DW:↑A6)(CG:AE)(it:Gn)(Bl:It):Prop:=∀i φ h H,DD K φ h H->Ak DW CG φ H->(it i h=↥none->Bl.stop i H)/\∀w,it i h=↥↥w->Bl.go i H/\∀x AC,Bl.W4 i H x AC->DD K φ h AC/\Ak φ H φ AC/\AV K φ AC w x
abbrev G6:=M Gn
abbrev eV(F:DN)(m:G6):TI:=LZ IU F m
noncomputable def Mo(it:Gn)(g:DR)(b:Ap):Nat->Nat->Ap
 |0,_=>λ_ _=>.bad
 |f+1,i=>λρ h=>match it i h with
  |some none=>.ok (.AP ρ,h)
  |some ↥w=>(g w ρ h).bind λp=>match p with
   |(.AP CT,h1)=>(b CT h1).bind λp=>match p with
    |(.AP Dx,h2)=>Mo it g b f (i+1) Dx h2
    |(.D7 Dx,h2)=>Mo it g b f (i+1) Dx h2
    |(.Bv Dx,h2)=>.ok (.AP Dx,h2)
    |(.Dp w,h2)=>.ok (.Dp w,h2)
   |_=>.bad
  |none=>.bad
def L0:Nat:=1000
def SE(mi:G6)(g:DR)(b:Ap):Ap:=bd mi λit=>Mo it g b L0 0
section
variable{F:DN}{K:Ao}{φ:↑A6}{h:A5}{H:AE}{σ :St}{ρ:Ay}{X:Aw}
def for_in{it:Gn}{Bl:It}{g:DR}{b:Ap}{De:Ends}{By:↑A6}{CT:Ay}{h1:A5}{H1:AE}(As:Rel F By h1 H1 σ CT)(io:IU F.K By H1 it Bl)(q:ER F By H1 De (Mo it g b L0 0 CT h1)):aR (λ_ H R=>R Bl H) (LY F g) (GP F b) De σ H1:=by
 refine⟨λi m σ H=>∃φ ρ h,Rel F φ h H σ ρ/\Ak By H1 φ H/\ER F φ H De (Mo it g b m i ρ h),⟨L0,By,CT,h1,As,Ak.refl _ _,q⟩,?_⟩;rintro i m σ H ⟨φ,ρ,h,r,x,q⟩;cases m with
 |zero=>cases q
 |succ m=>
  unfold Mo at q;obtain⟨Cs,Ft⟩:=io i φ h H r.hd x
  split at q
  .rename_i e;exact .inl ⟨Cs e,q σ φ H r (Ak.refl _ _)⟩
  .rename_i w e;obtain⟨go,fI⟩:=Ft w e;refine .inr ⟨go,λσ' AC=>∃φ ρ h,Rel F φ h AC σ' ρ/\Ak By H1 φ AC/\ER F φ AC De (Mo it g b m (i+1) ρ h),λσ' AC n=>⟨m,PQ _,n⟩,λy AC Af=>?_⟩;obtain⟨d',Fy,gV⟩:=fI y AC Af;refine⟨φ,ρ,h,w,r.to d' Fy,gV,?_⟩;have q:=ER.ex Fy q;cases eg:g w ρ h with
   |bad=>rw[eg]at q;cases q
   |exc c h'=>rw[eg]at q;exact q
   |ok p=>
    rw[eg]at q;obtain⟨f,h2⟩:=p;cases f with
    |AP Dx=>
     intro σ2 CR AH BK CK;refine⟨CR,Dx,h2,BK,?_⟩;have q:=ER.ex CK q;have S0:=x.trans (Fy.trans CK);erw[R.bind]at q;cases B4:b Dx h2 with
     |bad=>rw[B4]at q;cases q
     |exc c h'=>rw[B4]at q;exact q
     |ok p=>
      rw[B4]at q;obtain⟨f,BF⟩:=p;cases f with
      |AP PK=>exact λσ3 Ji BP Ff Dq=>⟨Ji,PK,BF,Ff,S0.trans Dq,ER.ex Dq q⟩
      |D7 PK=>exact λσ3 Ji BP Ff Dq=>⟨Ji,PK,BF,Ff,S0.trans Dq,ER.ex Dq q⟩
      |Bv PK=>exact q
      |Dp w=>exact q
    |_=>cases q
  .exact q.elim
def xZ{mi:G6}{g:DR}{b:Ap}:KQ (GP F (SE mi g b)) (aR (eV F mi) (LY F g) (GP F b)):=λDe σ H q=>
 q.bd λit Bl By CT h1 H1 As io q=>for_in As io q
def QT(c:DY)(b:Ap):Nat->Ap
 |0=>λ_ _=>.bad
 |f+1=>bd c λk=>if k=true then λρ h=>(b ρ h).bind λp=>match p with
   |(.AP Dx,h2)=>QT c b f Dx h2
   |(.D7 Dx,h2)=>QT c b f Dx h2
   |(.Bv Dx,h2)=>.ok (.AP Dx,h2)
   |(.Dp w,h2)=>.ok (.Dp w,h2)
  else C5
def a7(c:DY)(b:Ap):Ap:=QT c b L0
def zH{c:DY}{b:Ap}:KQ (GP F (a7 c b)) (r8 (Hb F c) (GP F b)):=by
 rintro De σ H ⟨φ,ρ,h,r,q⟩;refine⟨λm σ H=>∃φ ρ h,Rel F φ h H σ ρ/\ER F φ H De (QT c b m ρ h),⟨L0,φ,ρ,h,r,q⟩,?_⟩;rintro m σ H ⟨φ,ρ,h,r,q⟩;cases m with
 |zero=>cases q
 |succ m=>
  unfold QT at q;refine⟨φ,ρ,h,r,ER.bd q λk k' By h1 H1 As Cc e q=>?_⟩;cases e;cases k with
  |false=>exact q σ By H1 As (Ak.refl _ _)
  |true=>
   refine⟨λσ' AC=>∃φ ρ h,Rel F φ h AC σ' ρ/\ER F φ AC De (QT c b m ρ h),λσ' AC n=>⟨m,PQ _,n⟩,By,ρ,h1,As,?_⟩;rw[if_pos rfl]at q;cases B4:b ρ h1 with
   |bad=>rw[B4]at q;cases q
   |exc c h'=>rw[B4]at q;exact q
   |ok p=>
    rw[B4]at q;obtain⟨f,BF⟩:=p;cases f with
    |AP PK=>exact λσ3 Ji BP Ff Dq=>⟨Ji,PK,BF,Ff,ER.ex Dq q⟩
    |D7 PK=>exact λσ3 Ji BP Ff Dq=>⟨Ji,PK,BF,Ff,ER.ex Dq q⟩
    |Bv PK=>exact q
    |Dp w=>exact q
def Tw:↑DR->↑W->Ap
 |[],[]=>C5
 |g::GD,w::ws=>AT (g w) (Tw GD ws)
 |_,_=>λ_ _=>.bad
def Dh(GD:↑DR):DR:=λw ρ h=>match Dw h w with
 |some (true,ws)=>if ⇑GD=⇑ws then Tw GD ws ρ h else .bad
 |_=>.bad
def WM(F:DN)(GD:↑DR):OM:=λvs σ H Q=>∃φ ρ h ws,Rel F φ h H σ ρ/\Al F.K φ H ws vs/\ER F φ H ⟨Q,λ_ _=>False,λ_ _=>False,λ_ _=>False⟩ (Tw GD ws ρ h)
def j3:∀vs σ H Q,WM F [] vs σ H Q->je vs σ H Q:=by
 rintro vs σ H Q ⟨φ,ρ,h,ws,r,as,q⟩;cases ws with
 |nil=>erw[Al]at as;exact⟨as,q σ φ H r (Ak.refl _ _)⟩
 |cons _ _=>cases q
def cU{g:DR}{GD:↑DR}:∀vs σ H Q,WM F (g::GD) vs σ H Q->jd (LY F g) (WM F GD) vs σ H Q:=by
 rintro vs σ H Q ⟨φ,ρ,h,ws,r,as,q⟩;cases ws with
 |nil=>cases q
 |cons w ws=>
  erw[Al]at as;obtain⟨v,eB,rfl,a1,a2⟩:=as;refine⟨v,eB,rfl,φ,ρ,h,w,r,a1,?_⟩;unfold Tw AT at q;cases e:g w ρ h with
  |bad=>rw[e]at q;cases q
  |exc c h'=>rw[e]at q;exact q
  |ok p=>
   rw[e]at q;obtain⟨f,h1⟩:=p;cases f with
   |AP Eh=>exact λσ' Bb AC Bm x=>⟨Bb,Eh,h1,ws,Bm,a2.ex x,ER.ex x q⟩
   |_=>exact q
def j4(A_:F.K=X.K){GD:↑DR}{n:Nat}(Ae:⇑GD=n):YG (LY F (Dh GD)) (jg X.K n (WM F GD)):=by
 rintro v σ H Q ⟨φ,ρ,h,w,r,a,q⟩;unfold Dh at q
 split at q
 .rename_i ws e;obtain⟨p,xs,rfl,AS,BL⟩:=JH r.hd a e;rw[A_]at AS
  split at q
  .rename_i AI;exact⟨p,xs,rfl,AS,by rw[<- ⇑BL,<-AI];exact Ae,φ,ρ,h,ws,r,BL,q⟩
  .exact q.elim
 .exact q.elim
def Fd(w:W):Gn:=λi h=>match Dw h w with
 |some (_,ws)=>↥ws[i]?
 |none=>none
def ab4(A_:F.K=X.K){w:W}{v:V}{p:A6}(a:AV F.K φ H w v)(e:v=.ref p)(AS:∀CR h2 AH,DD F.K CR h2 AH->Ak φ H CR AH->∀t ws,Dw h2 w=↥(t,ws)->t=false):IU F.K φ H (Fd w) (gh X.K p):=λi CR h2 AH d x=>by
 unfold Fd;cases es:Dw h2 w with
 |none=>exact⟨λz=>(nomatch z),λw z=>(nomatch z)⟩
 |some Rw=>
  obtain⟨t,ws⟩:=Rw;have BY:=AS CR h2 AH d x t ws es;subst BY;obtain⟨HC,xs,Bg,Ac,BL⟩:=JH d (a.ex x) es;rw[e]at Bg;cases Bg;have Ac:ET F.K AH p xs:=Ac;rw[A_]at Ac;refine⟨λz=>⟨xs,Ac,?_⟩,λCf z=>?_⟩
  .have:ws[i]?=none:=Ga z;rw[<- ⇑BL];exact List.getElem?_eq_none_iff.mp this
  .have:ws[i]?=↥Cf:=Ga z;obtain⟨v,ev,E5⟩:=BL.get this;exact⟨⟨xs,v,Ac,ev⟩,λy AC Af=>by obtain⟨rfl,Af⟩:=Af;have:=Af xs Ac;rw[ev]at this;cases this;exact⟨d,Ak.refl _ _,E5⟩⟩
def dL(A_:F.K=X.K){w:W}{v:V}{p:A6}(a:AV F.K φ H w v)(e:v=.ref p)(AS:∀h2 t ws,Dw h2 w=↥(t,ws)->t=true):IU F.K φ H (Fd w) (gj X.K p):=λi CR h2 AH d x=>by
 unfold Fd;cases es:Dw h2 w with
 |none=>exact⟨λz=>(nomatch z),λw z=>(nomatch z)⟩
 |some Rw=>
  obtain⟨t,ws⟩:=Rw;have BY:=AS h2 t ws es;subst BY;obtain⟨HC,xs,Bg,Ac,BL⟩:=JH d (a.ex x) es;rw[e]at Bg;cases Bg;have Ac:FA F.K AH p xs:=Ac;rw[A_]at Ac;refine⟨λz=>⟨xs,Ac,?_⟩,λCf z=>?_⟩
  .have:ws[i]?=none:=Ga z;rw[<- ⇑BL];exact List.getElem?_eq_none_iff.mp this
  .have:ws[i]?=↥Cf:=Ga z;obtain⟨v,ev,E5⟩:=BL.get this;exact⟨⟨xs,v,Ac,ev⟩,λy AC Af=>by obtain⟨rfl,Af⟩:=Af;have:=Af xs Ac;rw[ev]at this;cases this;exact⟨d,Ak.refl _ _,E5⟩⟩
noncomputable def V_:W->Bool
 |.ref _=>true
 |.D1 _=>true
 |_=>false
def ZP{w:W}{t:Bool}{ws:↑W}(e:Dw h w=↥(t,ws)):(t=false↔V_ w=true):=by
 unfold Dw at e
 split at e
 .cases e;simp[V_]
 .cases e;simp[V_]
 .cases e;simp[V_]
 .split at e<;>first|(cases e;simp[V_];done)|(cases e;done)
 .cases e
noncomputable def KJ(lo:Int)(n:Nat):Gn:=λi _=>↥(if i<n then↥(.int (lo+i))else none)
def lz(lo:Int)(n:Nat):IU K φ H (KJ lo n) (V0 lo n):=λi CR h2 AH d x=>by
 unfold KJ;by_cases AA:i<n
 .rw[if_pos AA];exact⟨λz=>(nomatch z),λw z=>by cases z;exact⟨AA,λy AC Af=>by obtain⟨rfl,rfl⟩:=Af;exact⟨d,Ak.refl _ _,by erw[AV]⟩⟩⟩
 .rw[if_neg AA];exact⟨λ_=>(show n<=i by lia),λw z=>(nomatch z)⟩
noncomputable def Pk(nl:Nat)(caps:↑Nat)(ρ:Ay):Ay:=Gy nl none++caps.map λj=>ρ.getD j none
noncomputable def KY(it:Gn)(g:DR)(HE:DY)(elt:B8)(n:Nat):Nat->Nat->Ay->A5->R A5
 |0,_,_,_=>.bad
 |f+1,i,ρ,h=>match it i h with
  |some none=>.ok h
  |some ↥w=>(g w ρ h).bind λp=>match p with
   |(.AP CT,h1)=>(HE CT h1).bind λp=>if p.1=true then(elt CT p.2).bind λp=>match p.2[n]? with
      |some ⟨.lst,ws⟩=>if ⇑ws<Bi then KY it g HE elt n f (i+1) CT (p.2.set n ⟨.lst,ws++[p.1]⟩)else .bad
      |_=>.bad
    else KY it g HE elt n f (i+1) CT p.2
   |_=>.bad
  |none=>.bad
def CW(nl:Nat)(caps:↑Nat)(mi:G6)(g:DR)(HE:DY)(elt:B8):B8:=bd mi λit ρ h=>match KY it g HE elt ⇑h L0 0 (Pk nl caps ρ) (h++[⟨.lst,[]⟩])with
 |.ok h'=>.ok (.ref ⇑h,h')
 |_=>.bad
noncomputable def Ia(K:Ao)(φ:↑A6)(H:AE):DN:=⟨K,φ,H,λ_ _=>False⟩
abbrev DN.AP(F:DN):DN:=Ia F.K F.DW F.CG
theorem Rel.AP(r:Rel F φ h H σ ρ):Rel F.AP φ h H σ ρ:=⟨r.hd,r.x0,r.len,r.CP⟩
def Rel.uE(r:Rel F φ h H σ ρ)(nl:Nat)(caps:↑Nat):Rel F.AP φ h H (NB nl caps σ) (Pk nl caps ρ):=by
 refine⟨r.hd,r.x0,by simp[NB,Pk],λi w e=>?_⟩;unfold Pk at e;unfold NB;by_cases AA:i<nl
 .rw[Fz (AA:),XB,if_pos AA]at e;cases e
 .rw[IN (AA:),US,Dl]at e;rw[IN (AA:),US,Dl];cases FJ:caps[i-nl]? with
  |none=>rw[FJ]at e;cases e
  |some j=>
   rw[FJ]at e;have es:ρ.getD j none=↥w:=Ga e;rw[Fg]at es;cases B5:ρ[j]? with
   |none=>rw[B5]at es;cases es
   |some t=>rw[B5]at es;have:t=↥w:=es;subst this;obtain⟨v,A9,q⟩:=r.CP j w B5;exact⟨v,by show↥(σ.getD j none)=_;rw[Fg,A9];rfl,q⟩
def ig{nl:Nat}{caps:↑Nat}{it:Gn}{Bl:It}{g:DR}{HE:DY}{elt:B8}{Q:CV}{By:↑A6}{CT:Ay}{h1:A5}{H1:AE}(As:Rel F By h1 H1 σ CT)(io:IU F.K By H1 it Bl)(q:Ee AV F By H1 σ CT Q (CW nl caps (pu it) g HE elt CT h1)):WL (λ_ H R=>R Bl H) (λx σ H Q=>∃DW CG,LY (Ia F.K DW CG) g x σ H Q) (λσ H Q=>∃DW CG,Hb (Ia F.K DW CG) HE σ H Q) (λσ H Q=>∃DW CG,CA (Ia F.K DW CG) elt σ H Q) nl caps σ H1 Q:=by
 intro acc AF;unfold CW bd pu at q;erw[R.bind]at q
 split at q
 .rename_i h' B5;have x0:Ak By H1 (By++[acc]) (upd H1 acc (.lst [])):=Ak.V6 AF
  refine⟨λi m σ2 AH=>∃φ ρ h,Rel F.AP φ h AH σ2 ρ/\Ak (By++[acc]) (upd H1 acc (.lst [])) φ AH/\KY it g HE elt ⇑h1 m i ρ h=.ok h',
   ⟨L0,By++[acc],_,_,(As.to (As.hd.new AF (ho:=.lst []) (k:=.lst) Ec .nil) x0).uE nl caps,Ak.refl _ _,B5⟩,?_⟩
  rintro i m σ2 AH ⟨φ,ρ,h,r,x,B5⟩;have vT:φ[⇑h1]?=↥acc:=Ea x.p (a0 As.hd);cases m with
  |zero=>cases B5
  |succ m=>
   unfold KY at B5;obtain⟨Cs,Ft⟩:=io i φ h AH r.hd (x0.trans x)
   split at B5
   .rename_i e;cases B5;exact .inl ⟨Cs e,q _ φ AH ⟨r.hd,As.x0.trans (x0.trans x),As.len,λj w e=>let⟨v,A9,a⟩:=As.CP j w e;⟨v,A9,a.ex (x0.trans x)⟩⟩ (x0.trans x) (.GY vT)⟩
   .rename_i w e;obtain⟨go,fI⟩:=Ft w e;refine .inr ⟨go,λy AC Af=>?_⟩;obtain⟨d',Fy,gV⟩:=fI y AC Af;refine⟨F.DW,F.CG,φ,ρ,h,w,r.to d' Fy,gV,?_⟩;cases eg:g w ρ h with
    |bad=>rw[eg]at B5;cases B5
    |exc c h'=>rw[eg]at B5;cases B5
    |ok p=>
     rw[eg]at B5;obtain⟨f,h2⟩:=p;cases f with
     |AP Dx=>
      intro σ3 Ji BP Ff Dq;refine⟨F.DW,F.CG,Ji,Dx,h2,Ff,?_⟩;have qq:=x.trans (Fy.trans Dq);have B5:((HE Dx h2).bind λp=>if p.1=true then(elt Dx p.2).bind λp=>match p.2[⇑h1]? with
        |some ⟨.lst,ws⟩=>if ⇑ws<Bi then KY it g HE elt ⇑h1 m (i+1) Dx (p.2.set ⇑h1 ⟨.lst,ws++[p.1]⟩)else .bad
        |_=>.bad
       else KY it g HE elt ⇑h1 m (i+1) Dx p.2)=.ok h':=B5
      cases Hl:HE Dx h2 with
      |bad=>rw[Hl]at B5;cases B5
      |exc c h'=>rw[Hl]at B5;cases B5
      |ok p=>
       rw[Hl]at B5;obtain⟨b,Cp⟩:=p;intro JP aN DX Na U0 B4;cases B4;have B5:(if b=true then(elt Dx Cp).bind λp=>match p.2[⇑h1]? with
         |some ⟨.lst,ws⟩=>if ⇑ws<Bi then KY it g HE elt ⇑h1 m (i+1) Dx (p.2.set ⇑h1 ⟨.lst,ws++[p.1]⟩)else .bad
         |_=>.bad
        else KY it g HE elt ⇑h1 m (i+1) Dx Cp)=.ok h':=B5
       cases b with
       |false=>exact⟨m,PQ _,aN,Dx,Cp,Na,qq.trans U0,B5⟩
       |true=>
        rw[if_pos rfl]at B5;refine⟨F.DW,F.CG,aN,Dx,Cp,Na,?_⟩;cases Gc:elt Dx Cp with
        |bad=>rw[Gc]at B5;cases B5
        |exc c h'=>rw[Gc]at B5;cases B5
        |ok p=>
         rw[Gc]at B5;obtain⟨Tz,Es⟩:=p;intro U3 aO Ch Rq WU T_;have B5:(match Es[⇑h1]? with
          |some ⟨.lst,ws⟩=>if ⇑ws<Bi then KY it g HE elt ⇑h1 m (i+1) Dx (Es.set ⇑h1 ⟨.lst,ws++[Tz]⟩)else .bad
          |_=>.bad)=.ok h':=B5
         split at B5
         .rename_i ws B2
          split at B5
          .rename_i AI;have qr:=qq.trans (U0.trans WU);have GA:aO[⇑h1]?=↥acc:=Ea qr.p (a0 As.hd);obtain⟨ys,Af,BL⟩:=Rq.hd.BQ _ _ _ B2 GA;have Af:Ch acc=↥(.lst ys):=Af;have qs:Ak aO Ch aO (upd Ch acc (.lst (ys++[U3]))):=Ak.put Af λz=>z;rw[⇑BL]at AI;exact⟨ys,Af,GH AI ε,m,PQ _,aO,Dx,_,Rq.to (Rq.hd.put B2 GA Af (λz=>z) (o':=⟨.lst,ws++[Tz]⟩) Ec (BL.append (.cons T_ .nil))) qs,qr.trans qs,B5⟩
          .cases B5
         .cases B5
     |_=>cases B5
   .cases B5
 .exact q.elim
def j2{nl:Nat}{caps:↑Nat}{mi:G6}{g:DR}{HE:DY}{elt:B8}:F8 (CA F (CW nl caps mi g HE elt)) (WL (eV F mi) (λx σ H Q=>∃DW CG,LY (Ia F.K DW CG) g x σ H Q) (λσ H Q=>∃DW CG,Hb (Ia F.K DW CG) HE σ H Q) (λσ H Q=>∃DW CG,CA (Ia F.K DW CG) elt σ H Q) nl caps):=λσ H Q q=>
 q.bd λit Bl By CT h1 H1 As io q=>ig As io q
end
mutual
noncomputable def DU:W->Bool
 |.ref _=>false
 |.tup ws=>Fu ws
 |.Ho ws=>Fu ws
 |.D1 ws=>Fu ws
 |_=>true
noncomputable def Fu:↑W->Bool
 |[]=>true
 |w::ws=>DU w&&Fu ws
end
mutual
noncomputable def JQ:W->W->Bool
 |.non,.non=>true
 |.AL a,.AL b=>a==b
 |.int a,.int b=>a==b
 |.str a,.str b=>a==b
 |.tup a,.tup b=>KW a b
 |.Ho a,.Ho b=>KW a b
 |.D1 a,.D1 b=>KW a b
 |.ref a,.ref b=>a==b
 |.P9 a,.P9 b=>a==b
 |_,_=>false
noncomputable def KW:↑W->↑W->Bool
 |[],[]=>true
 |x::xs,y::ys=>JQ x y&&KW xs ys
 |_,_=>false
end
mutual
theorem u4:∀{a b:W},JQ a b=true->a=b
 |.non,b,h=>by cases b<;>simp_all[JQ]
 |.AL _,b,h=>by cases b<;>simp_all[JQ]
 |.int _,b,h=>by cases b<;>simp_all[JQ]
 |.str _,b,h=>by cases b<;>simp_all[JQ]
 |.tup _,b,h=>by cases b<;>erw[JQ]at h<;>first|(cases h;done)|rw[Vl h]
 |.Ho _,b,h=>by cases b<;>erw[JQ]at h<;>first|(cases h;done)|rw[Vl h]
 |.D1 _,b,h=>by cases b<;>erw[JQ]at h<;>first|(cases h;done)|rw[Vl h]
 |.ref _,b,h=>by cases b<;>simp_all[JQ]
 |.P9 _,b,h=>by cases b<;>simp_all[JQ]
theorem Vl:∀{a b:↑W},KW a b=true->a=b
 |[],b,h=>by cases b<;>simp_all[KW]
 |x::xs,b,h=>by
  cases b with
  |nil=>simp[KW]at h
  |cons y ys=>erw[KW,I1]at h;rw[u4 h.1,Vl h.2]
end
mutual
theorem u5:∀(a:W),JQ a a=true
 |.non|.AL _|.int _|.str _|.ref _|.P9 _=>by simp[JQ]
 |.tup a=>by erw[JQ];exact R7 a
 |.Ho a=>by erw[JQ];exact R7 a
 |.D1 a=>by erw[JQ];exact R7 a
theorem R7:∀(a:↑W),KW a a=true
 |[]=>by simp[KW]
 |x::xs=>by erw[KW];rw[u5 x,R7 xs];rfl
end
def FO:A5->A5->Bool
 |[],_=>true
 |o::h,o'::h'=>decide (o.k=o'.k)&&KW o.ws o'.ws&&FO h h'
 |_,_=>false
theorem ei:∀{h h':A5},FO h h'=true->h<+: h'
 |[],_,_=>List.nil_prefix
 |o::h,[],e=>by simp[FO]at e
 |⟨k,ws⟩::h,⟨k',ws'⟩::h',e=>by erw[FO,I1,decide_eq_true_eq]at e;rw[e.1.1,Vl e.1.2];exact List.cons_prefix_cons.mpr ⟨rfl,ei e.2⟩
theorem MV:∀(h g:A5),FO h (h++g)=true
 |[],_=>by simp[FO]
 |o::h,g=>by erw[Ij,FO];rw[R7,MV h g];simp
def acT(h:A5):FO h h=true:=(MV h []:)
def settle(h:A5)(w:W)(h1:A5):R (W×A5):=
 if FO h h1=true then
  if DU w=true then .ok (w,h)else match w with
   |.ref n=>if ⇑h<=n then match h1[n]? with
       |some ⟨.lst,ws⟩=>if Fu ws=true then .ok (.ref ⇑h,h++[⟨.lst,ws⟩])else .ok (w,h1)
       |_=>.ok (w,h1)
    else .ok (w,h)
   |_=>.ok (w,h1)
 else .ok (w,h1)
section
variable{K:Ao}{φ By:↑A6}{h h1:A5}{H H1:AE}
mutual
theorem AV.DU{Bb:↑A6}:∀{w:W}{v:V},BJ.DU w=true->AV K φ H w v->AV K Bb H w v
 |.non,_,_,a|.AL _,_,_,a|.int _,_,_,a|.str _,_,_,a|.P9 _,_,_,a=>by simpa only[AV]using a
 |.tup _,_,n,a=>by erw[AV,BJ.DU]at a n |-;obtain⟨p,xs,e,q,r⟩:=a;exact⟨p,xs,e,q,Al.DU n r⟩
 |.Ho _,_,n,a=>by erw[AV,BJ.DU]at a n |-;obtain⟨p,xs,e,q,r⟩:=a;exact⟨p,xs,e,q,Al.DU n r⟩
 |.D1 _,_,n,a=>by erw[AV,BJ.DU]at a n |-;obtain⟨p,xs,e,q,r⟩:=a;exact⟨p,xs,e,q,Al.DU n r⟩
 |.ref _,_,n,_=>by simp[BJ.DU]at n
theorem Al.DU{Bb:↑A6}:∀{ws:↑W}{vs:↑V},Fu ws=true->Al K φ H ws vs->Al K Bb H ws vs
 |[],_,_,a=>by simpa only[Al]using a
 |_::_,_,n,a=>by erw[Al,Fu,I1]at a n |-;obtain⟨v,r,e,q,t⟩:=a;exact⟨v,r,e,AV.DU n.1 q,Al.DU n.2 t⟩
end
mutual
theorem AV.back(p:φ<+: By):∀{w:W}{v v0:V},AV K φ H w v0->AV K By H1 w v->AV K φ H1 w v
 |.non,_,_,_,a|.AL _,_,_,_,a|.int _,_,_,_,a|.str _,_,_,_,a|.P9 _,_,_,_,a=>by simpa only[AV]using a
 |.tup _,_,_,b,a=>by erw[AV]at a b |-;obtain⟨q,xs,e,t,r⟩:=a;obtain⟨DZ,U1,Bg,t',Bm⟩:=b;exact⟨q,xs,e,t,Al.back p Bm r⟩
 |.Ho _,_,_,b,a=>by erw[AV]at a b |-;obtain⟨q,xs,e,t,r⟩:=a;obtain⟨DZ,U1,Bg,t',Bm⟩:=b;exact⟨q,xs,e,t,Al.back p Bm r⟩
 |.D1 _,_,_,b,a=>by erw[AV]at a b |-;obtain⟨q,xs,e,t,r⟩:=a;obtain⟨DZ,U1,Bg,t',Bm⟩:=b;exact⟨q,xs,e,t,Al.back p Bm r⟩
 |.ref _,_,_,b,a=>by erw[AV]at a b |-;obtain⟨q,e,t⟩:=a;obtain⟨DZ,Bg,t'⟩:=b;have:=Ea p t';rw[t]at this;cases this;exact⟨q,e,t'⟩
theorem Al.back(p:φ<+: By):∀{ws:↑W}{vs v0:↑V},Al K φ H ws v0->Al K By H1 ws vs->Al K φ H1 ws vs
 |[],_,_,_,a=>by simpa only[Al]using a
 |_::_,_,_,b,a=>by erw[Al]at a b |-;obtain⟨v,r,e,q,t⟩:=a;obtain⟨IF,Bm,Bg,DZ,t'⟩:=b;exact⟨v,r,e,AV.back p DZ q,Al.back p t' t⟩
end
def DD.cut(d:DD K φ h H)(d1:DD K By h1 H1)(p:φ<+: By)(de:h<+: h1):DD K φ h H1:=⟨d.Bj,d.len,λn o a A9 AG=>by obtain⟨xs,q,r⟩:=d1.BQ n o a (Ea de A9) (Ea p AG);obtain⟨ys,_,Bm⟩:=d.BQ n o a A9 AG;exact⟨xs,q,Al.back p Bm r⟩⟩
def eH{w Cf:W}{v:V}{h':A5}(d:DD K φ h H)(x:Ak φ H By H1)(d1:DD K By h1 H1)(a:AV K By H1 w v)(e:settle h w h1=.ok (Cf,h')):∃Bb,Ak φ H Bb H1/\DD K Bb h' H1/\AV K Bb H1 Cf v:=by
 have same:(Cf,h')=(w,h1)->∃Bb,Ak φ H Bb H1/\DD K Bb h' H1/\AV K Bb H1 Cf v:=λz=>by cases z;exact⟨By,x,d1,a⟩
 have x0:Ak φ H φ H1:=⟨UW,x.t⟩;unfold settle at e
 split at e
 .rename_i AX;have de:=ei AX;have I_:=d.cut d1 x.p de
  split at e
  .rename_i Ae;cases e;exact⟨φ,x0,I_,AV.DU Ae a⟩
  .split at e
   .rename_i n _
    split at e
    .rename_i AI
     split at e
     .rename_i ws B2
      split at e
      .rename_i hw;cases e;obtain⟨b,xs,rfl,B4,q,r⟩:=d1.at B2 a;have nb:b∉φ:=λm=>by
        obtain⟨j,FJ⟩:=SZ m;have A9:=Ea x.p FJ;obtain⟨Cs,Js⟩:=List.getElem?_eq_some_iff.mp A9;obtain⟨Ft,Kj⟩:=List.getElem?_eq_some_iff.mp B4;have:j=n:=(XQ d1.Bj).mp (Js.trans Kj.symm);have:j< ⇑φ:=(List.getElem?_eq_some_iff.mp FJ).1;rw[d.len]at this;lia
       refine⟨φ++[b],⟨Eu _ _,x.t⟩,⟨?_,by simp[d.len],λm o c A9 AG=>?_⟩,.GY (by rw[<-d.len];simp)⟩
       .rw[Sb];exact⟨d.Bj,γ,λc AK G8 Mq z=>nb (by rw[<-List.mem_singleton.mp Mq,<-z];exact AK)⟩
       .by_cases hm:m< ⇑h
        .rw[Fz hm]at A9;rw[Fz (by rw[d.len];exact hm)]at AG;obtain⟨ys,DZ,Bm⟩:=I_.BQ m o c A9 AG;exact⟨ys,DZ,Al.ex (⟨Eu _ _,λ_ _ e _=>e⟩:Ak φ H1 (φ++[b]) H1) Bm⟩
        .have wa:m=⇑h:=by
           have:=(List.getElem?_eq_some_iff.mp A9).1;simp at this;lia
         subst wa;simp at A9;rw[<-d.len]at AG;simp at AG;subst A9 AG;exact⟨xs,q,Al.DU hw r⟩
      .cases e;exact same rfl
     .cases e;exact same rfl
    .rename_i AI;cases e;have Ae:n< ⇑φ:=by rw[d.len];lia
     erw[AV]at a |-;obtain⟨b,rfl,B4⟩:=a;obtain⟨c,ec⟩:∃c,φ[n]?=↥c:=⟨_,C3 Ae⟩;have:=Ea x.p ec;rw[B4]at this;cases this;exact⟨φ,x0,I_,b,rfl,ec⟩
   .cases e;exact same rfl
 .cases e;exact same rfl
end
section
variable{F:DN}
def CI(m:B8):B8:=λρ h=>(m ρ h).bind λp=>settle h p.1 p.2
def eG(h:A5)(w:W)(h1:A5):∃Cf h',settle h w h1=.ok (Cf,h'):=by
 unfold settle
 repeat' split
 all_goals exact⟨_,_,rfl⟩
def zC{m:B8}:F8 (CA F (CI m)) (CA F m):=by
 rintro σ H Q ⟨φ,ρ,h,r,q⟩;refine⟨φ,ρ,h,r,?_⟩;unfold CI at q;cases e:m ρ h with
 |bad=>rw[e]at q;cases q
 |exc c h'=>rw[e]at q;exact q
 |ok p=>rw[e]at q;obtain⟨w,h1⟩:=p;intro v By H1 As x a;obtain⟨Cf,h',es⟩:=eG h w h1;have q:Ee AV F φ H σ ρ Q (settle h w h1):=q;rw[es]at q;obtain⟨Bb,Fy,d',Gi⟩:=eH r.hd x As.hd a es;exact q v Bb H1 (r.to d' Fy) Fy Gi
def MP(m:DY):DY:=λρ h=>(m ρ h).bind λp=>.ok (p.1,if FO h p.2=true then h else p.2)
def zD{m:DY}:RX (Hb F (MP m)) (Hb F m):=by
 rintro σ H Q ⟨φ,ρ,h,r,q⟩;refine⟨φ,ρ,h,r,?_⟩;unfold MP at q;cases e:m ρ h with
 |bad=>rw[e]at q;cases q
 |exc c h'=>rw[e]at q;exact q
 |ok p=>
  rw[e]at q;obtain⟨b,h1⟩:=p;intro JP By H1 As x a;cases a;have q:Ee n7 F φ H σ ρ Q (.ok (b,if FO h h1=true then h else h1)):=q
  split at q
  .rename_i AX;have Fy:Ak φ H φ H1:=⟨UW,x.t⟩;exact q b φ H1 (r.to (r.hd.cut As.hd x.p (ei AX)) Fy) Fy rfl
  .exact q b By H1 As x rfl
def S2(K:Ao):Fo->Str->AE->Prop:=λE c H=>∃C,Ip K c C/\∀a,H a=none->E (.ref C) ↥a H
noncomputable def T2(K:Ao)(φ:↑A6)(H:AE)(E:Fo):DN:=⟨K,φ,H,S2 K E⟩
abbrev Br:=↑W->A5->R (W×A5)
def J1(K:Ao)(φ:↑A6)(H:AE)(Q:CV)(MJ:Str->AE->Prop):R (W×A5)->Prop
 |.ok (w,h')=>∀v Bb AC,DD K Bb h' AC->Ak φ H Bb AC->AV K Bb AC w v->Q v AC
 |.exc c h'=>∀Bb AC,Ak φ H Bb AC->DD K Bb h' AC->MJ c AC
 |.bad=>False
noncomputable def LV(K:Ao)(n:Nat)(mf:Br):Co:=λvs H Q E=>∃φ h ws,DD K φ h H/\Al K φ H ws vs/\ ⇑ws=n/\J1 K φ H Q (S2 K E) (mf ws h)
def afN{K:Ao}{n:Nat}{mf:Br}:∀vs H Q E,LV K n mf vs H Q E->⇑vs=n:=λvs H Q E q=>by obtain⟨φ,h,ws,_,a,l,_⟩:=q;rw[<- ⇑a];exact l
noncomputable def NJ(N:Nat)(ws:↑W):Ay:=ws.map some++Gy (N- ⇑ws) none
noncomputable def outF:F7×A5->R (W×A5)
 |(.AP _,h)=>.ok (.non,h)
 |(.Dp w,h)=>.ok (w,h)
 |_=>.bad
def FL(N:Nat)(m:Ap):Br:=λws h=>(m (NJ N ws) h).bind outF
def D2(N:Nat)(m:Ap):Br:=λws h=>(FL N m ws h).bind λp=>settle h p.1 p.2
def qP{K:Ao}{N n:Nat}{m:Ap}:∀vs H Q E,LV K n (D2 N m) vs H Q E->LV K n (FL N m) vs H Q E:=λvs H Q E q=>by
 obtain⟨φ,h,ws,d,a,l,k⟩:=q;refine⟨φ,h,ws,d,a,l,?_⟩;unfold D2 at k;cases e:FL N m ws h with
 |bad=>rw[e]at k;cases k
 |exc c h'=>rw[e]at k;exact k
 |ok p=>rw[e]at k;obtain⟨w,h1⟩:=p;intro v By H1 d1 x a1;obtain⟨Cf,h',es⟩:=eG h w h1;have k:J1 K φ H Q (S2 K E) (settle h w h1):=k;rw[es]at k;obtain⟨Bb,Fy,d',Gi⟩:=eH d x d1 a1 es;exact k v Bb H1 d' Fy Gi
def adN{K:Ao}{φ:↑A6}{h:A5}{H:AE}{E:Fo}{N:↑Str}{ws:↑W}{vs:↑V}(d:DD K φ h H)(a:Al K φ H ws vs):Rel (T2 K φ H E) φ h H (BN.start N vs) (NJ ⇑N ws):=by
 have AI:=⇑a;refine⟨d,Ak.refl _ _,by simp[BN.start,NJ,AI],λi w e=>?_⟩;unfold NJ at e;unfold BN.start;by_cases AA:i< ⇑ws
 .rw[Fz (AA:),Dl]at e;cases Ck:ws[i]? with
  |none=>rw[Ck]at e;cases e
  |some Cf=>
   rw[Ck]at e;have:Cf=w:=(e:)
   subst this;obtain⟨v,ev,E5⟩:=a.get Ck;exact⟨v,by rw[Fz (by simp;lia),Dl,ev];rfl,E5⟩
 .rw[IN (AA:),XB]at e
  split at e<;>cases e
def uH{K:Ao}{n:Nat}{N:↑Str}{m:Ap}{vs:↑V}{H:AE}{Q:CV}{E:Fo}(q:LV K n (FL ⇑N m) vs H Q E) :
  ∃φ,GP (T2 K φ H E) m { AP:=λ_ AC=>Q .non AC,Dp:=Q } (BN.start N vs) H:=by
 obtain⟨φ,h,ws,d,a,l,k⟩:=q;refine⟨φ,φ,NJ ⇑N ws,h,adN d a,?_⟩;unfold FL at k;cases e:m (NJ ⇑N ws) h with
 |bad=>rw[e]at k;cases k
 |exc c h'=>rw[e]at k;exact k
 |ok p=>
  rw[e]at k;obtain⟨f,h1⟩:=p;cases f with
  |AP ρ=>exact λσ' Bb AC r x=>k .non Bb AC r.hd x (by erw[AV])
  |Dp w=>exact λv Bb AC d' x Gi=>k v Bb AC d' x Gi
  |Bv _=>cases k
  |D7 _=>cases k
structure AY(X:Aw)(F:DN)(e:Au)(m:B8):Prop where
 p:Aj X e (CA F m)
structure Fi(X:Aw)(F:DN)(e:Au)(m:DY):Prop where
 p:E_ X e (Hb F m)
structure Hj(X:Aw)(F:DN)(e:↑Au)(m:DQ):Prop where
 p:H5 X e (G2 F m)
structure G7(X:Aw)(F:DN)(s:BO)(m:Ap):Prop where
 p:Dn X s (GP F m)
structure Lc(X:Aw)(F:DN)(s:↑BO)(m:Ap):Prop where
 p:HK X s (GP F m)
structure Pi(X:Aw)(F:DN)(C4 e:Au)(m:G6):Prop where
 p:Hi X C4 e (eV F m)
structure R2(X:Aw)(F:DN)(e:Au)(m:DR):Prop where
 p:H6 X e (LY F m)
structure DM(K:Ao)(mg:Str->Option A8)(x:Str)(st:BO)(ps:↑Str):Prop where
 ex:∃(f:A6)(fd:Hh),OF K x x st f fd/\mg x=↥(.ref f)/\Binds K fd ps []
structure DP(P:CD)(w:Bq)(K:Ao)(mg:Str->Option A8)(base:BG)(x:Str)(n k:Nat)(mf:Br):Prop where
 ex:∃(f:A6)(fd:Hh)(ps:↑Str),⇑ps=n/\Ir P w K mg base (JL P w) k f fd ps (LV K n mf)/\mg x=↥(.ref f)/\K1 K (.ref f)=true/\Binds K fd ps []
abbrev CF(P:CD)(w:Bq)(K:Ao)(mg:Str->Option A8)(base:BG)(x:Str)(st:BO)(N:↑Str)(k:Nat)(m:Ap):Prop:=∀(f:A6)(FT:A8)(A:D3)(outer:↑Env)(s:AR)(H:AE)(E:Fo),DE k (A.deeper (PyProof.Rows.envOfC x (Bs st) s.heap.objs.size f FT))->∀φ CG,Lc (KZ (JL P w) P w K mg base N x (Bs st) f FT A outer s H E) (T2 K φ CG E) (K_ st) m
def VH{P:CD}{w:Bq}{K:Ao}{mg:Str->Option A8}{base:BG}{x qual:Str}{st:BO}{N ps:↑Str}{k:Nat}{m:Ap}{f:A6}{fd:Hh}(fn:OF K x qual st f fd)(S:C6 N ps (Bs st))(A4:CF P w K mg base qual st N k m) :
  Ir P w K mg base (JL P w) (k+1) f fd ps (LV K ⇑ps (FL ⇑N m)):=by
 obtain⟨GN,EB,D0,doc,pm,an,FT,D7,Ou,rfl,lk,L7⟩:=fn.ex;refine jX lk L7 S afN λA outer s H vs Q E BZ AS=>?_;obtain⟨φ,BY⟩:=uH AS;exact⟨_,(A4 f FT A outer s H E BZ φ H).p,BY⟩
def PI{P:CD}{w:Bq}{K:Ao}{mg:Str->Option A8}{base:BG}{x:Str}{st:BO}{N ps:↑Str}{k:Nat}{m:Ap}(d:DM K mg x st ps)(S:C6 N ps (Bs st))(A4:CF P w K mg base x st N k m) :
  DP P w K mg base x ⇑ps (k+1) (FL ⇑N m):=by
 obtain⟨f,fd,fn,hm,Yf⟩:=d.ex;exact⟨f,fd,ps,rfl,VH fn S A4,hm,fn.DH,Yf⟩
def EY{P:CD}{w:Bq}{K:Ao}{mg:Str->Option A8}{base:BG}{x:Str}{st:BO}{N ps:↑Str}{k:Nat}{m:Ap}(d:DM K mg x st ps)(S:C6 N ps (Bs st))(A4:CF P w K mg base x st N k m) :
  DP P w K mg base x ⇑ps (k+1) (D2 ⇑N m):=by
 obtain⟨f,fd,fn,hm,Yf⟩:=d.ex;exact⟨f,fd,ps,rfl,(VH fn S A4).imp qP,hm,fn.DH,Yf⟩
def Aa(n:Nat)(mf:Br)(m:DQ):B8:=bd m λws _ h=>if ⇑ws=n then mf ws h else .bad
structure Sv(X:Aw)(F:DN):Prop where
 ex:∃E,Passes (JL X.prog X.w) X E/\∀c H,F.MJ c H->S2 X.K E c H
def km{φ:↑A6}{h:A5}{H:AE}{σ :St}{ρ:Ay}{Q:CV}{K:Ao}{MJ:Str->AE->Prop}(A_:F.K=K)(r:Rel F φ h H σ ρ)(he:∀c H,F.MJ c H->MJ c H):∀{rs:R (W×A5)},Ee AV F φ H σ ρ Q rs->J1 K φ H Q MJ rs
 |.ok (w,h'),q=>λv Bb AC d x a=>by subst A_;exact q v Bb AC (r.to d x) x a
 |.exc c h',q=>λBb AC x d=>by subst A_;exact he c AC (q Bb AC x d)
 |.bad,q=>q
def xr{X:Aw}{n:Nat}{mf:Br}{m:DQ}{E:Fo}(A_:F.K=X.K)(he:∀c H,F.MJ c H->S2 X.K E c H):F8 (CA F (Aa n mf m)) (pi (LV X.K n mf) [] E (G2 F m)):=λσ H Q q=>
 q.bd λws vs φ ρ h H1 r as q=>by
   split at q
   .rename_i Ae;rw[O4];exact⟨φ,h,ws,A_▸r.hd,A_▸as,Ae,km A_ r he q⟩
   .exact q.elim
end
structure Q8(K:Ao)(c:Str)(BA:↑Str):Prop where
 ex:∃C,Ip K c C/\K8 K C/\∀f∈BA,RZ K C f
def Ip.inj{K:Ao}{c:Str}{C RQ:A6}(a:Ip K c C)(b:Ip K c RQ):C=RQ:=by unfold Ip at a b;rw[a]at b;cases b;rfl
theorem dH(f:Str):∀BA:↑(Str×V),BA.lookup f=HG BA f
 |[]=>rfl
 |(g,x)::r=>by
  by_cases h:g=f
  .subst h;rw[WT rfl];simp[XR]
  .rw[WS h,<-dH f r];have:(f==g)=false:=by simpa using λz:f=g=>h z.symm
   simp[XR,this]
noncomputable def S4(h:A5)(c:Str):W->Option (Nat×↑Str×↑W)
 |.ref n=>match h[n]? with
  |some ⟨.ins G8 ns,ws⟩=>if G8=c then↥(n,ns,ws)else none
  |_=>none
 |_=>none
noncomputable def Tk:↑Str->Str->↑Str
 |[],f=>[f]
 |g::r,f=>if g=f then g::r else g::Tk r f
noncomputable def RL:↑Str->↑W->Str->W->↑W
 |g::r,w::ws,f,u=>if g=f then u::ws else w::RL r ws f u
 |_,ws,_,u=>ws++[u]
section
variable{K:Ao}{φ:↑A6}{h:A5}{H:AE}{F:DN}{σ :St}{ρ:Ay}{X:Aw}{m:B8}{ma:DQ}
def c2(d:DD K φ h H){w:W}{v:V}{c:Str}{n:Nat}{ns:↑Str}{ws:↑W}(a:AV K φ H w v)(e:S4 h c w=↥(n,ns,ws)):∃p C Bt BA,v=.ref p/\h[n]?=↥⟨.ins c ns,ws⟩/\φ[n]?=↥p/\Ip K c C/\H p=↥(.ins C Bt BA)/\BA.map (·.1)=ns/\Al K φ H ws (BA.map (·.2)):=by
 unfold S4 at e
 split at e
 .split at e
  .rename_i B2
   split at e
   .rename_i AK;cases e;subst AK;obtain⟨p,xs,rfl,B9,⟨C,Bt,BA,AK,AX,A9,rfl⟩,BL⟩:=d.at B2 a;exact⟨p,C,Bt,BA,rfl,B2,B9,AK,AX,A9,BL⟩
   .cases e
  .cases e
 .cases e
def B6(c f:Str):W->A5->R (W×A5):=λw h=>match S4 h c w with
 |some (_,ns,ws)=>match E3 ns ws f with
  |some u=>.ok (u,h)
  |none=>.bad
 |none=>.bad
def xX{c f:Str}{BA:↑Str}(A_:F.K=X.K)(cl:Q8 X.K c BA)(hf:f∈BA):F8 (CA F (BD (B6 c f) m)) (px X.K (CA F m) f):=λσ H Q q=>
 q.bd λw v φ ρ h H1 r a q=>by
   unfold B6 at q
   split at q
   .rename_i n ns ws e;obtain⟨p,C,Bt,Np,rfl,B2,B9,AK,AX,rfl,BL⟩:=c2 r.hd a e;obtain⟨RQ,C7,Cz,GR⟩:=cl.ex;rw[A_]at AK;have:=AK.inj C7;subst this
    split at q
    .rename_i u Er;have Fw:=Rx f BL;rw[Er]at Fw;cases ev:HG Np f with
     |none=>rw[ev]at Fw;cases Fw
     |some x=>rw[ev]at Fw;exact⟨p,C,Bt,Np,x,rfl,AX,Cz,GR f hf,by rw[dH];exact ev,q x φ H1 r (Ak.refl _ _) Fw⟩
    .exact q.elim
   .exact q.elim
theorem j_{f:Str}{u:W}{x:V}(b:AV K φ H u x):∀{BA:↑(Str×V)}{ws:↑W},Al K φ H ws (BA.map (·.2))->(HY f x BA).map (·.1)=Tk (BA.map (·.1)) f/\Al K φ H (RL (BA.map (·.1)) ws f u) ((HY f x BA).map (·.2))
 |[],ws,a=>by
  cases ws with
  |nil=>exact⟨rfl,by erw[LP,RL,HY];exact .cons b .nil⟩
  |cons _ _=>have:=⇑a;simp at this
 |(g,v)::BA,ws,a=>by
  cases ws with
  |nil=>have:=⇑a;simp at this
  |cons w ws=>
   erw[EM,Al]at a;obtain⟨IF,r,e,a1,a2⟩:=a;cases e;obtain⟨Cs,Ft⟩:=j_ b a2;erw[EM,Tk,RL,HY];by_cases Ar:g=f
   .rw[if_pos Ar,if_pos Ar,if_pos Ar];exact⟨rfl,.cons b a2⟩
   .rw[if_neg Ar,if_neg Ar,if_neg Ar];exact⟨by rw[EM,Cs],.cons a1 Ft⟩
def VG(c f:Str)(o v:W):Ap:=λρ h=>match S4 h c o with
 |some (n,ns,ws)=>if ⇑ns<1000 then .ok (.AP ρ,h.set n ⟨.ins c (Tk ns f),RL ns ws f v⟩)else .bad
 |none=>.bad
def F1(c f:Str)(o v:B8):Ap:=bd v λOz=>bd o λWt=>VG c f Wt Oz
def xY{c f:Str}{BA:↑Str}{o v:B8}(A_:F.K=X.K)(cl:Q8 X.K c BA)(hf:f∈BA):KQ (GP F (F1 c f o v)) (m8 X.K (CA F o) (CA F v) f):=λDe σ H q=>
 q.bd λOz y φ ρ h H1 r Gk q=>⟨φ,ρ,h,r,ER.bd q λWt x By h1 AH As Cc EU q=>by
   unfold VG at q
   split at q
   .rename_i n ns ws e;obtain⟨p,C,Bt,Np,rfl,B2,B9,AK,AX,rfl,BL⟩:=c2 As.hd EU e;obtain⟨RQ,C7,Cz,GR⟩:=cl.ex;have Mq:=AK;rw[A_]at AK;have:=AK.inj C7;subst this
    split at q
    .rename_i AI;obtain⟨Cs,Ft⟩:=j_ (f:=f) (Gk.ex Cc) BL;have CK:Ak By AH By (upd AH p (.ins C Bt (HY f y Np))):=Ak.put AX λz=>z;refine⟨p,C,Bt,Np,rfl,AX,Cz,GR f hf,(AI:),q σ By _ (As.to (As.hd.put B2 B9 AX (λz=>z) (o':=⟨.ins c _,_⟩) ⟨C,Bt,_,Mq,Ec,Cs,rfl⟩ Ft) CK) CK⟩
    .exact q.elim
   .exact q.elim⟩
structure InK(K:Ao)(mg:Str->Option A8)(E0 qual:Str)(st:BO)(ps:↑Str):Prop where
 ex:∃(C f:A6)(fd:Hh),Ip K E0 C/\YI K C f/\OF K "__init__" qual st f fd/\mg E0=↥(.ref C)/\Binds K fd ps []
structure V2(P:CD)(w:Bq)(K:Ao)(mg:Str->Option A8)(base:BG)(E0:Str)(n k:Nat)(mf:Br):Prop where
 ex:∃(C f:A6)(fd:Hh)(ps:↑Str),⇑ps=n+1/\Ip K E0 C/\YI K C f/\Ir P w K mg base (JL P w) k f fd ps (LV K (n+1) mf)/\mg E0=↥(.ref C)/\Binds K fd ps []
def fE{P:CD}{w:Bq}{K:Ao}{mg:Str->Option A8}{base:BG}{qual E0 GX:Str}{st:BO}{N ps:↑Str}{k:Nat}{m:Ap}(d:InK K mg E0 qual st (GX::ps))(S:C6 N (GX::ps) (Bs st))(A4:CF P w K mg base qual st N k m) :
  V2 P w K mg base E0 ⇑ps (k+1) (FL ⇑N m):=by
 obtain⟨C,f,fd,h1,h2,BF,Cp,Es⟩:=d.ex;exact⟨C,f,fd,GX::ps,rfl,h1,h2,VH BF S A4,Cp,Es⟩
noncomputable def aa_(n:Nat):W×A5->R (W×A5)
 |(.non,h)=>.ok (.ref n,h)
 |_=>.bad
def KC(c:Str)(n:Nat)(mf:Br)(m:DQ):B8:=bd m λws _ h=>if ⇑ws=n then(mf (.ref ⇑h::ws) (h++[⟨.ins c [],[]⟩])).bind (aa_ ⇑h)else .bad
def z0{c:Str}{C:A6}{n:Nat}{mf:Br}{E:Fo}(A_:F.K=X.K)(AK:Ip X.K c C)(he:∀c H,F.MJ c H->S2 X.K E c H):F8 (CA F (KC c n mf ma)) (pL C (LV X.K (n+1) mf) [] E (G2 F ma)):=λσ H Q q=>
 q.bd λws vs φ ρ h H1 r as q x Bt AM hd Lp=>by
   split at q
   .rename_i Ae;have Cc:Ak φ H1 φ (upd H1 Bt (.own x)):=Ak.lay hd;have d1:=r.hd.lay (o:=.own x) hd;have jR:upd H1 Bt (.own x) x=none:=by rw[DK (K6 Lp)];exact AM
    have Ek:=d1.new (ho:=.ins C Bt []) (k:=.ins c []) jR ⟨C,Bt,[],A_▸AK,Ec,rfl,rfl⟩ .nil;have CK:Ak φ (upd H1 Bt (.own x)) (φ++[x]) (upd (upd H1 Bt (.own x)) x (.ins C Bt [])):=Ak.V6 jR;have S0:=Cc.trans CK;have ex:(φ++[x])[⇑h]?=↥x:=a0 r.hd;rw[O4];refine⟨φ++[x],_,.ref ⇑h::ws,A_▸Ek,.cons (.GY ex) (A_▸as.ex S0),by simp[Ae],?_⟩;cases e:mf (.ref ⇑h::ws) (h++[⟨.ins c [],[]⟩])with
    |bad=>rw[e]at q;cases q
    |exc G8 h'=>rw[e]at q;exact λBb AC Fy d'=>he G8 AC (q Bb AC (S0.trans Fy) (A_▸d'))
    |ok p=>
     rw[e]at q;obtain⟨w,h'⟩:=p;cases w<;>try cases q
     intro v Bb AC d' Fy Gi;erw[AV]at Gi;exact⟨Gi,q _ Bb AC (r.to (A_▸d') (S0.trans Fy)) (S0.trans Fy) (.GY (Ea Fy.p ex))⟩
   .exact q.elim
structure Iv(K:Ao)(E0 x qual:Str)(st:BO)(ps:↑Str):Prop where
 ex:∃(C f:A6)(fd:Hh),Ip K E0 C/\K8 K C/\Meth K C x f/\OF K x qual st f fd/\Binds K fd ps []
structure HJ(P:CD)(w:Bq)(K:Ao)(mg:Str->Option A8)(base:BG)(E0 x:Str)(n k:Nat)(mf:Br):Prop where
 ex:∃(C f:A6)(fd:Hh)(ps:↑Str),⇑ps=n+1/\Ip K E0 C/\K8 K C/\Meth K C x f/\Ir P w K mg base (JL P w) k f fd ps (LV K (n+1) mf)/\Binds K fd ps []
def Jh{P:CD}{w:Bq}{K:Ao}{mg:Str->Option A8}{base:BG}{x qual E0 GX:Str}{st:BO}{N ps:↑Str}{k:Nat}{m:Ap}(d:Iv K E0 x qual st (GX::ps))(S:C6 N (GX::ps) (Bs st))(A4:CF P w K mg base qual st N k m) :
  HJ P w K mg base E0 x ⇑ps (k+1) (FL ⇑N m):=by
 obtain⟨C,f,fd,h1,h2,BF,Cp,Es⟩:=d.ex;exact⟨C,f,fd,GX::ps,rfl,h1,h2,BF,VH Cp S A4,Es⟩
def HJ.st{P:CD}{w:Bq}{K:Ao}{mg:Str->Option A8}{base:BG}{x E0:Str}{N n k:Nat}{m:Ap}(d:HJ P w K mg base E0 x n k (FL N m)):HJ P w K mg base E0 x n k (D2 N m):=by obtain⟨C,f,fd,ps,h0,h1,h2,BF,Cp,Es⟩:=d.ex;exact⟨C,f,fd,ps,h0,h1,h2,BF,Cp.imp qP,Es⟩
def VZ{α:Type}(c x:Str)(w:W)(m:M α):M α:=λρ h=>match S4 h c w with
 |some (_,ns,ws)=>match E3 ns ws x with
  |none=>m ρ h
  |some _=>.bad
 |none=>.bad
def CO(c x:Str)(n:Nat)(mf:Br)(o:B8)(ma:DQ):B8:=bd o λw=>VZ c x w (bd ma λws _ h=>if ⇑ws=n then mf (w::ws) h else .bad)
def kU{c x:Str}{C:A6}{n:Nat}{mf:Br}{E:Fo}{o:B8}(A_:F.K=X.K)(AK:Ip X.K c C)(he:∀c H,F.MJ c H->S2 X.K E c H):F8 (CA F (CO c x n mf o ma)) (eW C x (LV X.K (n+1) mf) [] E (CA F o) (G2 F ma)):=λσ H Q q=>
 q.bd λw v φ ρ h H1 r a q=>by
   unfold VZ at q
   split at q
   .rename_i nn ns ws e;obtain⟨p,RQ,Bt,Np,rfl,B2,B9,Mq,AX,rfl,BL⟩:=c2 r.hd a e;rw[A_]at Mq;have:=AK.inj Mq;subst this
    split at q
    .rename_i Er;have Fw:=Rx x BL;rw[Er]at Fw;cases ev:HG Np x with
     |some _=>rw[ev]at Fw;cases Fw
     |none=>
      refine⟨p,Bt,Np,rfl,AX,by rw[dH];exact ev,φ,ρ,h,r,q.bd λus vs CR h2 AH BK CK as q=>?_⟩
      split at q
      .rename_i Ae;rw[O4];exact⟨CR,h2,w::us,A_▸BK.hd,.cons (A_▸a.ex CK) (A_▸as),by simp[Ae],km A_ BK he q⟩
      .exact q.elim
    .exact q.elim
   .exact q.elim
structure RV(K:Ao)(mg:Str->Option A8)(c:Str):Prop where
 ex:∃C,Ip K c C/\mg c=↥(.ref C)/\Uk K C [.type "ValueError",.type "Exception",.type "BaseException",.type "object"] "ValueError.__new__"=true
def MO(c:Str):Ap:=λ_ h=>.exc c h
end
section
variable{P:CD}{w:Bq}{K:Ao}{mg:Str->Option A8}{base:BG}{N:↑Str}{qual:Str}{scope:FH}{f:A6}{cd:A8}{A:D3}{outer:↑Env}{s0:AR}{M7:AE}{E:Fo}{φ:↑A6}{CG:AE}
def W3{x:Str}{np Cv pos Ed:Pos}{m:Str}{j:Nat}(k:RV K mg x)(Ar:En (KZ (JL P w) P w K mg base N qual scope f cd A outer s0 M7 E) x:=by rfl)(hd:(x==("__debug__" :Str))=false:=by decide) :
  G7 (KZ (JL P w) P w K mg base N qual scope f cd A outer s0 M7 E) (T2 K φ CG E) (.Raise ↥(.Call (.Name x np) [.Constant (.str m) j Ed] [] Cv) none pos) (MO x):=by
 obtain⟨C,h1,h2,BF⟩:=k.ex;refine⟨λA3 s σ H D A0 q=>ae5 (X:=KZ (JL P w) P w K mg base N qual scope f cd A outer s0 M7 E) PySem.F.excBase_ValueError BF h2 rfl Ar hd A3 s σ H D A0 ?_⟩;obtain⟨Bb,ρ,h,r,q⟩:=q;obtain⟨RQ,C7,Cz⟩:=(show dk (T2 K φ CG E) Bb H x h from q) Bb H (Ak.refl _ _) r.hd;have:=h1.inj C7;subst this;exact agb Cz
def Zo:Sv (KZ (JL P w) P w K mg base N qual scope f cd A outer s0 M7 E) (T2 K φ CG E):=⟨E,ad7,λ_ _ q=>q⟩
end
def Zn{X:Aw}{K:Ao}{φ:↑A6}{H:AE}:Sv X (Ia K φ H):=⟨λ_ _ _=>False,λ_ _ _ _ _ _ _ z=>by obtain⟨_,_,_,_,_,_,_,z⟩:=z;exact z.elim,λ_ _ q=>q.elim⟩
noncomputable def notStar:Au->Bool
 |.Starred .. =>false
 |_=>true
def pV(e:Au)(es:↑Au)(env:Env)(h:notStar e=true):CM (e::es) env=(false,Bd e env)::CM es env:=by cases e<;>first|rfl|(cases h)
noncomputable def UM:Au->Bool
 |.ListComp .. =>false
 |.SetComp .. =>false
 |.DictComp .. =>false
 |_=>true
def ZT(e:Au)(t:Option Au)(l:Nat)(env:Env)(h:UM e=true):PS e t l env=pure false:=by cases e<;>first|rfl|(cases h)
def ac5:Au->Bool
 |.Slice .. =>false
 |_=>true
def Oy{b:Au}(h:ac5 b=true:=by rfl):gs b:=λo i=>by cases b<;>first|rfl|(cases h)
section
variable{X:Aw}{F:DN}{e a b c o:Au}{es:↑Au}{pos p Cm apos:Pos}{m n l:B8}{ma:DQ}{st:BO}{QO:↑BO}{C4 iter:Au}{mg:DR}
def Aj.imp{t t':TE}(h:Aj X e t)(i:F8 t' t):Aj X e t':=λA3 s σ H Q A0 hw=>h A3 s σ H Q A0 (i σ H Q hw)
def E_.imp{t t':TT}(h:E_ X e t)(i:RX t' t):E_ X e t':=λA3 s σ H Q A0 hw=>h A3 s σ H Q A0 (i σ H Q hw)
def Jl.imp{t t':TT}(h:Jl X e t)(i:RX t' t):Jl X e t':=λRy A3 s σ H Q A0 hw=>h Ry A3 s σ H Q A0 (i σ H Q hw)
def H5.imp{t t':FZ}(h:H5 X es t)(i:gd t' t):H5 X es t':=λp A3 s σ H Q A0 hw=>h p A3 s σ H Q A0 (i σ H Q hw)
def Dn.imp{t t':FS}(h:Dn X st t)(i:KQ t' t):Dn X st t':=λA3 s σ H De A0 hw=>h A3 s σ H De A0 (i De σ H hw)
def HK.imp{t t':FS}(h:HK X QO t)(i:KQ t' t):HK X QO t':=λA3 s σ H De A0 hw=>h A3 s σ H De A0 (i De σ H hw)
def Hi.imp{t t':TI}(h:Hi X C4 e t)(i:∀ σ H R,t' σ H R->t σ H R):Hi X C4 e t':=λA3 s σ H Q A0 hw=>h A3 s σ H Q A0 (i σ H Q hw)
def H6.imp{t t':Jm}(h:H6 X C4 t)(i:YG t' t):H6 X C4 t':=λA3 s σ H v u Q A0 r hw=>h A3 s σ H v u Q A0 r (i v σ H Q hw)
def L2.imp{t t':OM}(h:L2 X es t)(i:∀vs σ H Q,t' vs σ H Q->t vs σ H Q):L2 X es t':=λA3 s σ H v u Q A0 r hw=>h A3 s σ H v u Q A0 r (i v σ H Q hw)
structure tL(X:Aw)(i:Nat)(x:Str):Prop where
 N:X.N[i]?=↥x:=by rfl
 v:YM X.env.scope x:=by first|exact Or.inl rfl|exact Or.inr (Or.inl rfl)|exact Or.inr (Or.inr rfl)
 d:(x==("__debug__" :Str))=false:=by decide
 cd:(x==("__classdict__" :Str))=false:=by decide
structure Ns(X:Aw)(i:Nat)(x:Str):Prop where
 N:X.N[i]?=↥x:=by rfl
 l:Loc X.env.scope x:=by first|exact Or.inl rfl|exact Or.inr rfl
 f:X.fn x=true\/X.env.scope.names.lookup x=↥.local:=by first|exact .inl rfl|exact .inr rfl
def agu(i:Nat){x:Str}(k:tL X i x:=by exact{}):AY X F (.Name x pos) (I i):=⟨Aj.imp (ach k.N k.v k.d k.cd) (zG i)⟩
def ah6{i:Int}{j}:AY X F (.Constant (.int i) j pos) (pu (.int i)):=⟨Aj.imp adM (VW λ_ _=>by erw[AV])⟩
def afP{i:Bool}{j}:AY X F (.Constant (.bool i) j pos) (pu (.AL i)):=⟨Aj.imp adB (VW λ_ _=>by erw[AV])⟩
def ago{i:Str}{j}:AY X F (.Constant (.str i) j pos) (pu (.str i)):=⟨Aj.imp dD (VW λ_ _=>by erw[AV])⟩
def agd{j}:AY X F (.Constant .none j pos) (pu .non):=⟨Aj.imp ac_ (VW λ_ _=>by erw[AV])⟩
structure M1(K:Ao)(mg:Str->Option A8)(x:Str)(w:W):Prop where
 ex:∃(v:V)(u:A8),mg x=↥u/\RelV v u/\∀φ H,AV K φ H w v
def PJ{x:Str}{w:W}(k:M1 X.K X.mg x w)(A_:F.K=X.K:=by rfl)(Ar:En X x:=by rfl)(hd:(x==("__debug__" :Str))=false:=by decide):AY X F (.Name x pos) (pu w):=by obtain⟨v,u,h1,h2,BF⟩:=k.ex;exact⟨Aj.imp (adK Ar h1 h2 hd) (VW (by rw[A_];exact BF))⟩
def agn(h:AY X F e m):AY X F e (CI m):=⟨Aj.imp h.p zC⟩
def ahZ{k:DY}(h:Fi X F e k):Fi X F e (MP k):=⟨E_.imp h.p zD⟩
def afr:Hj X F [] A2:=⟨H5.imp Ow Q0⟩
def afq(h:AY X F e m)(t:Hj X F es ma)(AS:notStar e=true:=by rfl):Hj X F (e::es) (Z m ma):=⟨H5.imp (MU h.p t.p (pV e es X.env AS)) Pz⟩
def ags{k}(h:Hj X F es ma):AY X F (.Tuple es k pos) (BE ma):=⟨Aj.imp (acf h.p) zE⟩
def ahF(h:Hj X F es ma):AY X F (.List es pos) (Be ma):=⟨Aj.imp (acW h.p) yz⟩
structure R3(X:Aw)(F:DN)(e:Au)(m:DY):Prop where
 p:Jl X e (Hb F m)
def ah_(h:AY X F e m)(he:∀whole,isTrue e X.env whole=(do let v <-whole;OA e.pos;K5 [v] (truthy v)):=by intro _;rfl):Fi X F e (Ad m):=⟨E_.imp (aeG h.p he) Kg⟩
def ahc{k:DY}(h:Fi X F a k):R3 X F (.BoolOp .And [a] pos) k:=⟨aeM h.p⟩
def ahe{k:DY}(h:Fi X F a k):R3 X F (.BoolOp .Or [a] pos) k:=⟨aeO h.p⟩
def ahb{k j:DY}(h:Fi X F a k)(t:R3 X F (.BoolOp .And (b::es) pos) j):R3 X F (.BoolOp .And (a::b::es) pos) (JX k j):=⟨Jl.imp (aeL h.p t.p) xp⟩
def ahd{k j:DY}(h:Fi X F a k)(t:R3 X F (.BoolOp .Or (b::es) pos) j):R3 X F (.BoolOp .Or (a::b::es) pos) (F2 k j):=⟨Jl.imp (aeN h.p t.p) z4⟩
def aha{k:DY}(h:R3 X F e k):Fi X F e k:=⟨Jl.pt h.p⟩
def ahX{k:DY}(h:Fi X F a k):Fi X F (.UnaryOp .Not a pos) (D8 k):=⟨E_.imp (aeF h.p) z2⟩
def agg{op}(h:AY X F a m):AY X F (.BoolOp op [a] pos) m:=⟨acb h.p⟩
def afv(h:AY X F a m)(k:AY X F (.BoolOp .And (b::es) pos) n):AY X F (.BoolOp .And (a::b::es) pos) (Ie m n):=⟨Aj.imp (adA h.p k.p) xq⟩
def agh(h:AY X F a m)(k:AY X F (.BoolOp .Or (b::es) pos) n):AY X F (.BoolOp .Or (a::b::es) pos) (PZ m n):=⟨Aj.imp (acd h.p k.p) z5⟩
def age(h:AY X F a m):AY X F (.UnaryOp .Not a pos) (VE m):=⟨Aj.imp (aca h.p) z3⟩
def ah2{k:DY}(h:Fi X F c k)(AF:AY X F a m)(A4:AY X F b n):AY X F (.IfExp c a b pos) (KB k m n):=⟨Aj.imp (adL h.p AF.p A4.p) xb⟩
def ahz:Lc X F [] C5:=⟨HK.imp aeC cV⟩
def ahs{u v:Ap}(h:G7 X F st u)(k:Lc X F QO v):Lc X F (st::QO) (AT u v):=⟨HK.imp (aeA h.p k.p) zA⟩
def ai0{u:Ap}(h:G7 X F st u):Lc X F [st] u:=⟨aeD h.p⟩
def ai1:G7 X F (.Pass pos) C5:=⟨Dn.imp ae4 cV⟩
def aht{x j Cm}:G7 X F (.Expr (.Constant (.str x) j pos) Cm) C5:=⟨Dn.imp acw cV⟩
def ahv(h:AY X F e m)(AS:UM e=true:=by rfl):G7 X F (.Expr e pos) (Di m):=⟨Dn.imp (ae0 h.p (ZT _ _ _ _ AS)) xz⟩
def ai3(h:AY X F e m):G7 X F (.Return ↥e pos) (B1 m):=⟨Dn.imp (ae6 h.p) z8⟩
def ai4:G7 X F (.Return none pos) (B1 (pu .non)):=⟨Dn.imp ae7 z9⟩
def ahy{k:DY}{u v:Ap}{xs ys:↑BO}(h:Fi X F c k)(AF:Lc X F xs u)(A4:Lc X F ys v):G7 X F (.If c xs ys pos) (C8 k u v):=⟨Dn.imp (ae2 h.p AF.p A4.p) xc⟩
def ai5(i:Nat){x:Str}(hN:X.N.Nodup)(he:AY X F e m)(k:Ns X i x:=by exact{})(AS:UM e=true:=by rfl):G7 X F (.Assign [.Name x p] e pos) (Am m (AB i)):=⟨Dn.imp (ae8 hN k.N k.l he.p (ZT _ _ _ _ AS) k.f) λDe σ H q=>
 q.bd λw v φ ρ h H1 r a q=>by
   unfold AB at q
   split at q
   .rename_i AA;exact q _ φ H1 (r.set AA a) (Ak.refl _ _)
   .exact q.elim⟩
def agN(i:Nat){x:Str}(hN:X.N.Nodup)(k:Ns X i x:=by exact{}):R2 X F (.Name x pos) (AB i):=⟨H6.imp (WA hN k.N k.l k.f) (VX i)⟩
structure YO(X:Aw)(F:DN)(es:↑Au)(GD:↑DR):Prop where
 p:L2 X es (WM F GD)
def agO:YO X F [] []:=⟨L2.imp m_ j3⟩
def agv{g:DR}{GD:↑DR}(h:R2 X F e g)(t:YO X F es GD)(AS:(LN (e::es) X.env).map (·.2)=Ks e X.env::(LN es X.env).map (·.2):=by rfl):YO X F (e::es) (g::GD):=⟨L2.imp (dE h.p t.p AS) cU⟩
def agP{k:Nat}{GD:↑DR}(h:YO X F es GD)(AK:X.calm=true:=by rfl)(A_:F.K=X.K:=by rfl)(Ae:⇑(LN es X.env)=⇑GD:=by rfl)(Hn:(LN es X.env).findIdx? (·.1)=none:=by rfl):R2 X F (.Tuple es k pos) (Dh GD):=⟨H6.imp (lT AK h.p Ae Hn) (j4 A_ rfl)⟩
def aft(AF:AY X F a m)(A4:AY X F b n)(A_:F.K=X.K:=by rfl):AY X F (.BinOp a .Add b pos) (A1 addW m n):=⟨Aj.imp (QJ abM AF.p A4.p) (Fl (abZ A_))⟩
def agq(AF:AY X F a m)(A4:AY X F b n)(A_:F.K=X.K:=by rfl):AY X F (.BinOp a .Sub b pos) (A1 J4 m n):=⟨Aj.imp (QJ acz AF.p A4.p) (Fl (Ly λ_ _ _ _ _=>by erw[AV]))⟩
def agY(AF:AY X F a m)(A4:AY X F b n)(A_:F.K=X.K:=by rfl):AY X F (.BinOp a .Mult b pos) (A1 F3 m n):=⟨Aj.imp (QJ (abT.or acx) AF.p A4.p) (Fl abj)⟩
def agz(AF:AY X F a m)(A4:AY X F b n)(A_:F.K=X.K:=by rfl):AY X F (.BinOp a .FloorDiv b pos) (A1 EQ m n):=⟨Aj.imp (QJ abR AF.p A4.p) (Fl (Z_ λ_ _ _ _ _=>by erw[AV]))⟩
def agX(AF:AY X F a m)(A4:AY X F b n)(A_:F.K=X.K:=by rfl):AY X F (.BinOp a .Mod b pos) (A1 Bf m n):=⟨Aj.imp (QJ abS AF.p A4.p) (Fl (Z_ λ_ _ _ _ _=>by erw[AV]))⟩
def agk(AF:AY X F a m)(A4:AY X F b n)(A_:F.K=X.K:=by rfl):AY X F (.BinOp a .Pow b pos) (A1 Gd m n):=⟨Aj.imp (QJ abt AF.p A4.p) (Fl (Z_ λ_ _ _ _ _=>by erw[AV]))⟩
def agl(AF:AY X F a m)(A4:AY X F b n)(A_:F.K=X.K:=by rfl):AY X F (.BinOp a .RShift b pos) (A1 afD m n):=⟨Aj.imp (QJ acy AF.p A4.p) (Fl (Z_ λ_ _ _ _ _=>by erw[AV]))⟩
def afw(AF:AY X F a m)(A4:AY X F b n)(A_:F.K=X.K:=by rfl):AY X F (.BinOp a .BitAnd b pos) (A1 sv m n):=⟨Aj.imp (QJ abO AF.p A4.p) (Fl (Ly λ_ _ _ _ _=>by erw[AV]))⟩
def ahG(AF:AY X F a m)(A4:AY X F b n)(A_:F.K=X.K:=by rfl):AY X F (.Compare a [.Lt] [b] pos) (A1 NO m n):=⟨Aj.imp (Lz Zh AF.p A4.p (Hr _)) (Fl (Ly λ_ _ _ _ _=>by erw[AV]))⟩
def ahT(AF:AY X F a m)(A4:AY X F b n)(A_:F.K=X.K:=by rfl):Fi X F (.Compare a [.Lt] [b] pos) (Ad (A1 NO m n)):=⟨E_.imp (M0 Zh AF.p A4.p (Hr _)) λσ H Q q=>let⟨φ,ρ,h,r,z⟩:=Kg σ H Q q;Fl (Ly λ_ _ _ _ _=>by erw[AV]) σ H _ ⟨φ,ρ,h,r,z⟩⟩
def ahA(AF:AY X F a m)(A4:AY X F b n)(A_:F.K=X.K:=by rfl):AY X F (.Compare a [.LtE] [b] pos) (A1 Ls m n):=⟨Aj.imp (Lz Q6 AF.p A4.p (Hr _)) (Fl (Ly λ_ _ _ _ _=>by erw[AV]))⟩
def ahS(AF:AY X F a m)(A4:AY X F b n)(A_:F.K=X.K:=by rfl):Fi X F (.Compare a [.LtE] [b] pos) (Ad (A1 Ls m n)):=⟨E_.imp (M0 Q6 AF.p A4.p (Hr _)) λσ H Q q=>let⟨φ,ρ,h,r,z⟩:=Kg σ H Q q;Fl (Ly λ_ _ _ _ _=>by erw[AV]) σ H _ ⟨φ,ρ,h,r,z⟩⟩
def ah1(AF:AY X F a m)(A4:AY X F b n)(A_:F.K=X.K:=by rfl):AY X F (.Compare a [.Gt] [b] pos) (A1 Kd m n):=⟨Aj.imp (Lz lN AF.p A4.p (Hr _)) (Fl (Ly λ_ _ _ _ _=>by erw[AV]))⟩
def aiB(AF:AY X F a m)(A4:AY X F b n)(A_:F.K=X.K:=by rfl):Fi X F (.Compare a [.Gt] [b] pos) (Ad (A1 Kd m n)):=⟨E_.imp (M0 lN AF.p A4.p (Hr _)) λσ H Q q=>let⟨φ,ρ,h,r,z⟩:=Kg σ H Q q;Fl (Ly λ_ _ _ _ _=>by erw[AV]) σ H _ ⟨φ,ρ,h,r,z⟩⟩
def ah0(AF:AY X F a m)(A4:AY X F b n)(A_:F.K=X.K:=by rfl):AY X F (.Compare a [.GtE] [b] pos) (A1 cv m n):=⟨Aj.imp (Lz lM AF.p A4.p (Hr _)) (Fl (Ly λ_ _ _ _ _=>by erw[AV]))⟩
def aiA(AF:AY X F a m)(A4:AY X F b n)(A_:F.K=X.K:=by rfl):Fi X F (.Compare a [.GtE] [b] pos) (Ad (A1 cv m n)):=⟨E_.imp (M0 lM AF.p A4.p (Hr _)) λσ H Q q=>let⟨φ,ρ,h,r,z⟩:=Kg σ H Q q;Fl (Ly λ_ _ _ _ _=>by erw[AV]) σ H _ ⟨φ,ρ,h,r,z⟩⟩
def afy(BS:X.A.units+64<Dr)(AF:AY X F a m)(A4:AY X F b n)(A_:F.K=X.K:=by rfl):AY X F (.Compare a [.Eq] [b] pos) (A1 Φ m n):=⟨Aj.imp (Lz (Zf BS).1 AF.p A4.p (Hr _)) (Fl (ZY A_ true))⟩
def ai8(BS:X.A.units+64<Dr)(AF:AY X F a m)(A4:AY X F b n)(A_:F.K=X.K:=by rfl):Fi X F (.Compare a [.Eq] [b] pos) (Ad (A1 Φ m n)):=⟨E_.imp (M0 (Zf BS).1 AF.p A4.p (Hr _)) λσ H Q q=>let⟨φ,ρ,h,r,z⟩:=Kg σ H Q q;Fl (ZY A_ true) σ H _ ⟨φ,ρ,h,r,z⟩⟩
def agZ(BS:X.A.units+64<Dr)(AF:AY X F a m)(A4:AY X F b n)(A_:F.K=X.K:=by rfl):AY X F (.Compare a [.NotEq] [b] pos) (A1 (BC false) m n):=⟨Aj.imp (Lz (Zf BS).2 AF.p A4.p (Hr _)) (Fl (ZY A_ false))⟩
def ahU(BS:X.A.units+64<Dr)(AF:AY X F a m)(A4:AY X F b n)(A_:F.K=X.K:=by rfl):Fi X F (.Compare a [.NotEq] [b] pos) (Ad (A1 (BC false) m n)):=⟨E_.imp (M0 (Zf BS).2 AF.p A4.p (Hr _)) λσ H Q q=>let⟨φ,ρ,h,r,z⟩:=Kg σ H Q q;Fl (ZY A_ false) σ H _ ⟨φ,ρ,h,r,z⟩⟩
def ah7(AF:AY X F a m)(A4:AY X F b n)(A_:F.K=X.K:=by rfl):AY X F (.Compare a [.Is] [b] pos) (A1 (El true) m n):=⟨Aj.imp (Lz lO AF.p A4.p (Hr _)) (Fl (Za true))⟩
def ahR(AF:AY X F a m)(A4:AY X F b n)(A_:F.K=X.K:=by rfl):Fi X F (.Compare a [.Is] [b] pos) (Ad (A1 (El true) m n)):=⟨E_.imp (M0 lO AF.p A4.p (Hr _)) λσ H Q q=>let⟨φ,ρ,h,r,z⟩:=Kg σ H Q q;Fl (Za true) σ H _ ⟨φ,ρ,h,r,z⟩⟩
def agf(AF:AY X F a m)(A4:AY X F b n)(A_:F.K=X.K:=by rfl):AY X F (.Compare a [.IsNot] [b] pos) (A1 (El false) m n):=⟨Aj.imp (Lz lQ AF.p A4.p (Hr _)) (Fl (Za false))⟩
def ahY(AF:AY X F a m)(A4:AY X F b n)(A_:F.K=X.K:=by rfl):Fi X F (.Compare a [.IsNot] [b] pos) (Ad (A1 (El false) m n)):=⟨E_.imp (M0 lQ AF.p A4.p (Hr _)) λσ H Q q=>let⟨φ,ρ,h,r,z⟩:=Kg σ H Q q;Fl (Za false) σ H _ ⟨φ,ρ,h,r,z⟩⟩
noncomputable def Os:W->A5->R (W×A5):=λw h=>match w with
 |.int i=>.ok (.int (-i),h)
 |_=>.bad
def aga(AF:AY X F a m):AY X F (.UnaryOp .USub a pos) (BD Os m):=⟨Aj.imp (acg agB AF.p) (zF λσ ρ φ h H x w Q r a q=>by
 cases w with
 |int i=>erw[AV]at a;exact⟨i,a,q _ φ H r (Ak.refl _ _) (by erw[AV])⟩
 |_=>cases q)⟩
def Of(f g:Iq)(a b c:B8):B8:=bd a λx=>bd b λy=>bd (λ_ h=>f x y h) (Mj λk=>if k=true then bd c λz _ h=>g y z h else pu (.AL false))
def j1{r Bm:D6}{f g:Iq}(hf:I3 F r f)(Ar:I3 F Bm g):F8 (CA F (Of f g m n l)) (eT r Bm (CA F m) (CA F n) (CA F l)):=λσ H Q q=>
 q.bd λx v φ ρ h H1 As EU q=>⟨φ,ρ,h,As,q.bd λy u CR h2 AH BK CK Gk q=>hf σ ρ CR h2 AH v u x y _ BK (EU.ex CK) Gk (q.bd λk Ca Ji BF BP Ff Dq sl q=>by
   obtain⟨c,e,q⟩:=Vi sl q;refine⟨c,e,?_⟩;cases c with
   |false=>exact q _ Ji BP Ff (Ak.refl _ _) (Nb _)
   |true=>have q:Ee AV F Ji BP σ ρ Q (bd l (λz _ h=>g y z h) ρ BF):=q;exact⟨Ji,ρ,BF,Ff,q.bd λz Ww aN Cp DX Na U0 Ta q=>Ar σ ρ aN Cp DX u Ww y z Q Na (Gk.ex (Dq.trans U0)) Ta q⟩)⟩
def qt{op Jz:CmpOp}{r Bm:D6}{f g:Iq}(ho:Dy X (G0 op) r)(I8:Dy X (G0 Jz) Bm)(hf:I3 F r f)(Ar:I3 F Bm g)(AF:AY X F a m)(A4:AY X F b n)(AK:AY X F c l)(hm:lastMarks [op,Jz] [b,c]=false:=by with_unfolding_all rfl):AY X F (.Compare a [op,Jz] [b,c] pos) (Of f g m n l):=⟨Aj.imp (adE ho I8 AF.p A4.p AK.p hm) (j1 hf Ar)⟩
def UN:I3 F (LC λi j=>.AL (decide (i<=j))) Ls:=Ly λ_ _ _ _ _=>by erw[AV]
def lH:I3 F (LC λi j=>.AL (decide (i<j))) NO:=Ly λ_ _ _ _ _=>by erw[AV]
def qu{op Jz:CmpOp}{r Bm:D6}{f g:Iq}(ho:Dy X (G0 op) r)(I8:Dy X (G0 Jz) Bm)(hf:I3 F r f)(Ar:I3 F Bm g)(AF:AY X F a m)(A4:AY X F b n)(AK:AY X F c l)(hm:lastMarks [op,Jz] [b,c]=false:=by with_unfolding_all rfl):Fi X F (.Compare a [op,Jz] [b,c] pos) (Ad (Of f g m n l)):=⟨E_.imp (aeE ho I8 AF.p A4.p AK.p hm) λσ H Q q=>j1 hf Ar σ H _ (Kg σ H Q q)⟩
structure L3(X:Aw)(F:DN)(e:Option Au)(k:RY):Prop where
 p:Ur X e (WN F k)
def agV:L3 X F none (pu none):=⟨λA3 s σ H Q A0 q=>acO A3 s σ H Q A0 (z1 σ H Q q)⟩
def agW(h:AY X F e m):L3 X F ↥e (FM m):=⟨λA3 s σ H Q A0 q=>acP h.p A3 s σ H Q A0 (z6 σ H Q q)⟩
def agm{lo AA:Option Au}{k j:RY}(AF:AY X F a m)(AI:L3 X F lo k)(hh:L3 X F AA j)(A_:F.K=X.K:=by rfl):AY X F (.Subscript a (.Slice lo AA none Cm) pos) (Hq m k j):=⟨Aj.imp (ace (afG.or afH) AF.p AI.p hh.p) (zB A_)⟩
structure Mg(X:Aw)(e:Au)(es:↑Au)(pos:Pos):Prop where
 he:CM (e::es) X.env=(false,Bd e X.env)::CM es X.env:=by rfl
 Gp:(Fh pos (CM es X.env)).any (·.1)=false:=by rfl
def ahB(hm:X.mg "len"=none)(AF:Hj X F [e] ma)(A_:F.K=X.K:=by rfl)(Ar:En X "len":=by rfl)(s:Mg X e [] pos:=by exact{}):AY X F (.Call (.Name "len" p) [e] [] pos) (BI Bh ma):=⟨Aj.imp (Zm te Ar hm PySem.boot_len AF.p ε ε s.he s.Gp) (S3 (abg A_))⟩
def ahD(hm:X.mg "list"=none)(AF:Hj X F [e] ma)(A_:F.K=X.K:=by rfl)(Ar:En X "list":=by rfl)(s:Mg X e [] pos:=by exact{}):AY X F (.Call (.Name "list" p) [e] [] pos) (BI FD ma):=⟨Aj.imp (W8 tg Ar hm (by kernel_rfl) AF.p ε ε s.he s.Gp) (S3 (abh A_))⟩
def agt(hm:X.mg "tuple"=none)(AF:Hj X F [e] ma)(A_:F.K=X.K:=by rfl)(Ar:En X "tuple":=by rfl)(s:Mg X e [] pos:=by exact{}):AY X F (.Call (.Name "tuple" p) [e] [] pos) (BI OV ma):=⟨Aj.imp (W8 tk Ar hm (by kernel_rfl) AF.p ε ε s.he s.Gp) (S3 (abn A_))⟩
def agp(hm:X.mg "str"=none)(AF:Hj X F [e] ma)(Ar:En X "str":=by rfl)(s:Mg X e [] pos:=by exact{}):AY X F (.Call (.Name "str" p) [e] [] pos) (BI LX ma):=⟨Aj.imp (W8 tj Ar hm (by kernel_rfl) AF.p ε ε s.he s.Gp) (S3 abl)⟩
def agr(hm:X.mg "int"=none)(AF:Hj X F [e] ma)(Ar:En X "int":=by rfl)(s:Mg X e [] pos:=by exact{}):AY X F (.Call (.Name "int" p) [e] [] pos) (BI Rv ma):=⟨Aj.imp (W8 tc Ar hm (by kernel_rfl) AF.p ε ε s.he s.Gp) (S3 abm)⟩
def W1{U:Str}{T:String}(tt:gQ X.K T)(hm:X.mg "isinstance"=none)(wd:X.mg U=none)(Pv:O8 U=↥(.type T))(AF:AY X F a m)(A_:F.K=X.K:=by rfl)(Ar:En X "isinstance":=by rfl)(wu:En X U:=by rfl)(we:U≠"__name__":=by decide)(wn:(U==("__debug__" :Str))=false:=by decide)(AS:notStar a=true:=by rfl)(s:Mg X a [.Name U Cm] pos:=by exact{}):AY X F (.Call (.Name "isinstance" p) [a,.Name U Cm] [] pos) (BD (DT T) m):=
 ⟨Aj.imp (Zm (td tt) Ar hm (by kernel_rfl) (MU AF.p (MU (adC (v:=.ty T) wu wd Pv rfl we wn) Ow) (pV _ _ _ AS)) ε ε s.he s.Gp) (xd A_)⟩
structure N5(X:Aw)(o:Au)(x:Str)(apos Cv:Pos)(e:Au):Prop where
 b:Ko o x X.env (Bd o X.env)=Bd o X.env:=by rfl
 l:(apos.endLine==Cv.line)=true:=by rfl
 f:((Fh Cv (CM [e] X.env)).all (λx=>!x.1)&&(LQ Cv (LO [] X.env)).all (λx=>x.1.isSome)&&decide (⇑([e]:↑Au)+⇑([]:↑Kr)+(if([]:↑Kr).isEmpty then 0 else 1)<30))=true:=by rfl
 s:CM [e] X.env=(false,Bd e X.env)::CM [] X.env:=by rfl
 h:(Fh Cv (CM [] X.env)).any (·.1)=false:=by rfl
def afx(ho:AY X F o m)(AF:AY X F e n)(A_:F.K=X.K:=by rfl)(k:N5 X o "append" apos pos e:=by exact{}):AY X F (.Call (.Attribute o "append" apos) [e] [] pos) (EA Ej m (Z n A2)):=⟨Aj.imp (UO QV PySem.F.slot_list_append PySem.F.type_list_append lg ho.p (MU AF.p Ow k.s) k.b k.f k.l k.s k.h) λσ H Q q=>YR A_ ab_ σ H Q q|>λ⟨φ,ρ,h,r,z⟩=>⟨φ,ρ,h,r,z.imp λv H1⟨ty,t⟩=>⟨ty,Pz σ H1 _ t|>λ⟨φ,ρ,h,r,z⟩=>⟨φ,ρ,h,r,z.imp λv AH t=>Q0 σ AH _ t⟩⟩⟩⟩
def agj(ho:AY X F o m)(AF:AY X F e n)(A_:F.K=X.K:=by rfl)(k:N5 X o "pop" apos pos e:=by exact{}):AY X F (.Call (.Attribute o "pop" apos) [e] [] pos) (EA K0 m (Z n A2)):=⟨Aj.imp (UO QV rm rn (N7.or lh lj) ho.p (MU AF.p Ow k.s) k.b k.f k.l k.s k.h) λσ H Q q=>YR A_ lI σ H Q q|>λ⟨φ,ρ,h,r,z⟩=>⟨φ,ρ,h,r,z.imp λv H1⟨ty,t⟩=>⟨ty,Pz σ H1 _ t|>λ⟨φ,ρ,h,r,z⟩=>⟨φ,ρ,h,r,z.imp λv AH t=>Q0 σ AH _ t⟩⟩⟩⟩
def agi(ho:AY X F o m)(A_:F.K=X.K:=by rfl)(A4:Ko o "pop" X.env (Bd o X.env)=Bd o X.env:=by rfl)(AI:(apos.endLine==pos.line)=true:=by rfl):AY X F (.Call (.Attribute o "pop" apos) [] [] pos) (EA K0 m A2):=⟨Aj.imp (l4 QV rm rn (N7.or lh lj) ho.p A4 AI) (jS A_ lI)⟩
def afR(ho:AY X F o m)(A_:F.K=X.K:=by rfl)(A4:Ko o "clear" X.env (Bd o X.env)=Bd o X.env:=by rfl)(AI:(apos.endLine==pos.line)=true:=by rfl):AY X F (.Call (.Attribute o "clear" apos) [] [] pos) (EA b6 m A2):=⟨Aj.imp (l4 QV PySem.F.slot_list_clear PySem.F.type_list_clear aaf ho.p A4 AI) (jS A_ aba)⟩
def ai2 {i v:Au} {Cx:B8} (CL:AY X F v Cx) (ho:AY X F o m) (AA:AY X F i n) (AS:UM v=true:=by rfl) (h1:swapsWithSole [.Subscript o i p] v pos.line X.env=pure false:=by rfl) (h2:swappedStores [.Subscript o i p] v X.env=pure none:=by rfl) (BF:(LN [.Subscript o i p] X.env).map (·.2)=[Ks (.Subscript o i p) X.env]:=by rfl)(AF:∀v,Ks (.Subscript o i p) X.env v=(do
    let Cq <-K5 [v] (Bd o X.env)
    let HT <-K5 [v,Cq] (Bd i X.env)
    OA p
    K5 [v,Cq,HT] (setItem Cq HT v)
    release [v,Cq,HT] []):=by intro _;rfl):G7 X F (.Assign [.Subscript o i p] v pos) (Am Cx (cu m n)):=⟨Dn.imp (mu CL.p (acj ho.p AA.p set_list AF) h1 h2 BF) λDe σ H q=>
 q.bd λw x φ ρ h H1 r a q=>by
   refine z7 x σ H1 De.AP ⟨φ,ρ,h,w,r,a,?_⟩;have AP:∀r:R (F7×A5),(∀f h',r=.ok (f,h')->∃Eh,f=.AP Eh)->ER F φ H1 De r->ER F φ H1 ⟨De.AP,λ_ _=>False,λ_ _=>False,λ_ _=>False⟩ r:=λr g k=>by
    cases r with
    |ok p=>obtain⟨f,h'⟩:=p;obtain⟨Eh,rfl⟩:=g f h' rfl;exact k
    |exc c h'=>exact k
    |bad=>exact k
   refine AP _ (λf h' e=>?_) q;unfold cu bd at e;cases A9:m ρ h with
   |ok p=>
    rw[A9]at e;cases AG:n ρ p.2 with
    |ok Cm=>
     erw[R.bind,AG]at e;unfold en at e
     split at e
     .split at e
      .cases e;exact⟨_,rfl⟩
      .cases e
     .cases e
    |exc c h2=>erw[R.bind,AG]at e;cases e
    |bad=>erw[R.bind,AG]at e;cases e
   |exc c h2=>rw[A9]at e;cases e
   |bad=>rw[A9]at e;cases e⟩
def afW:AY X F (.Dict [] [] pos) (NP false):=⟨Aj.imp W9 xt⟩
def afX:AY X F (.Dict [] [] pos) (NP true):=⟨Aj.imp adH xu⟩
def ajT(BS:X.A.units+64<Dr)(ho:AY X F o m)(he:AY X F e n)(AS:gm e):AY X F (.Subscript o e pos) (A1 bC m n):=⟨Aj.imp (adF δ ho.p he.p AS) xw⟩
def ahu{v:Au}{Cx:B8}(BS:X.A.units+64<Dr)(ho:AY X F o m)(AA:AY X F e n)(CL:AY X F v Cx)(AS:UM v=true:=by rfl):G7 X F (.Assign [.Subscript o e p] v pos) (Og m n Cx):=⟨Dn.imp (adz δ ho.p AA.p CL.p (ZT _ _ _ _ AS)) xy⟩
def fD{E0 f:Str}{BA:↑Str}(cl:Q8 X.K E0 BA)(AF:AY X F a m)(hf:f∈BA:=by decide)(A_:F.K=X.K:=by rfl)(A4:Ko a f X.env (Bd a X.env)=Bd a X.env:=by rfl):AY X F (.Attribute a f pos) (BD (B6 E0 f) m):=⟨Aj.imp (adJ AF.p A4) (xX A_ cl hf)⟩
def fG{E0 f:Str}{BA:↑Str}{v:Au}{Cx:B8}(cl:Q8 X.K E0 BA)(ho:AY X F o m)(CL:AY X F v Cx)(hf:f∈BA:=by decide)(A_:F.K=X.K:=by rfl)(AS:UM v=true:=by rfl):G7 X F (.Assign [.Attribute o f p] v pos) (F1 E0 f m Cx):=⟨Dn.imp (ae1 ho.p CL.p (ZT _ _ _ _ AS)) (xY A_ cl hf)⟩
def afQ{x:Str}{k j:Nat}{mf:Br}(c:DP X.prog X.w X.K X.mg X.base x k j mf)(BZ:DE j X.A)(AF:Hj X F (e::es) ma)(P:Sv X F:=by first|exact Zo|exact Zn)(A_:F.K=X.K:=by rfl)(Ar:En X x:=by rfl)(Mr:(x==("__debug__" :Str))=false:=by decide)(s:Mg X e es pos:=by exact{}):AY X F (.Call (.Name x p) (e::es) [] pos) (Aa k mf ma):=by obtain⟨f,fd,ps,Ae,RK,hm,AQ,A4⟩:=c.ex;obtain⟨E,h1,h2⟩:=P.ex;exact⟨Aj.imp (adD RK BZ Ar hm AQ A4 .nil h1 AF.p Mr s.he s.Gp) (xr A_ h2)⟩
def ahH{E0:Str}{k j:Nat}{mf:Br}(c:V2 X.prog X.w X.K X.mg X.base E0 k j mf)(BZ:DE (j+1) X.A)(AF:Hj X F (e::es) ma)(P:Sv X F:=by first|exact Zo|exact Zn)(A_:F.K=X.K:=by rfl)(Ar:En X E0:=by rfl)(Mr:(E0==("__debug__" :Str))=false:=by decide)(s:Mg X e es pos:=by exact{}):AY X F (.Call (.Name E0 p) (e::es) [] pos) (KC E0 k mf ma):=by obtain⟨C,f,fd,ps,Ae,AK,mk,RK,hm,A4⟩:=c.ex;obtain⟨E,h1,h2⟩:=P.ex;exact⟨Aj.imp (acX mk RK BZ Ar hm A4 .nil h1 AF.p Mr s.he s.Gp) (z0 A_ AK h2)⟩
end
section
variable{X:Aw}{F:DN}{e a b c o elt:Au}{es ifs:↑Au}{pos p Cm apos Cv:Pos}{m n l:B8}{ma:DQ}{C4 iter:Au}{g:DR}{scope:FH}{mi:G6}{mt:DY}
noncomputable def GI(sc:FH)(N9:↑Str)(nl:Nat)(caps:↑Nat):↑Str:=((sc.names.drop 1).take nl).map (·.1)++caps.map λj=>N9.getD j ""
def ON(X:Aw)(scope:FH)(N:↑Str)(C4:Au)(g:DR):Prop:=∀cl C s H BR DW CG,R2 (GS X scope N cl C s H BR) (Ia X.K DW CG) C4 g
def Sn(X:Aw)(scope:FH)(N:↑Str)(e:Au)(m:B8):Prop:=∀cl C s H BR DW CG,AY (GS X scope N cl C s H BR) (Ia X.K DW CG) e m
def BT(X:Aw)(scope:FH)(N:↑Str)(ifs:↑Au)(k:DY):Prop:=∀cl C s H BR DW CG,QE (GS X scope N cl C s H BR) ifs (Hb (Ia X.K DW CG) k)
def uM{N:↑Str}:BT X scope N [] ac:=λcl C s H BR DW CG A3 s' σ AC Q A0 q=>by obtain⟨φ,ρ,h,r,k⟩:=q;exact aeI A3 s' σ AC Q A0 (k true φ AC r (Ak.refl _ _) rfl)
def uL{N:↑Str}(h:∀cl C s H BR DW CG,Fi (GS X scope N cl C s H BR) (Ia X.K DW CG) c mt):BT X scope N [c] mt:=λcl C s H BR DW CG=>aeJ (h cl C s H BR DW CG).p
def uA(i:Nat){N:↑Str}{x:Str}(hN:N.Nodup:=by decide+kernel)(AA:N[i]?=↥x:=by rfl)(AI:(LR scope X.env).names.lookup x=↥.local:=by rfl):ON X scope N (.Name x pos) (AB i):=λcl C s H BR DW CG=>
 ⟨H6.imp (WA (X:=GS X scope N cl C s H BR) hN AA (.inl AI) (.inr AI)) (VX i)⟩
def u9(i:Nat){N:↑Str}{x:Str}(hN:N.Nodup:=by decide+kernel)(AA:N[i]?=↥x:=by rfl)(AI:(LR scope X.env).names.lookup x=↥.cell:=by rfl)(AS:(scope.names.lookup x==↥.cell)=true:=by rfl):ON X scope N (.Name x pos) (AB i):=λcl C s H BR DW CG=>
 ⟨H6.imp (WA (X:=GS X scope N cl C s H BR) hN AA (.inr AI) (.inl AS)) (VX i)⟩
def uB(i j:Nat){N:↑Str}{x y:Str}{Oy py:Pos}{k:Nat}(AK:X.calm=true:=by rfl)(hN:N.Nodup:=by decide+kernel)(AA:N[i]?=↥x:=by rfl)(An:N[j]?=↥y:=by rfl)(AI:(LR scope X.env).names.lookup x=↥.local:=by rfl)(hm:(LR scope X.env).names.lookup y=↥.local:=by rfl) :
  ON X scope N (.Tuple [.Name x Oy,.Name y py] k pos) (Dh [AB i,AB j]):=λcl C s H BR DW CG=>
 ⟨H6.imp (lT (X:=GS X scope N cl C s H BR) AK (L2.imp (dE (H6.imp (WA (X:=GS X scope N cl C s H BR) hN AA (.inl AI) (.inr AI)) (VX i)) (L2.imp (dE (H6.imp (WA (X:=GS X scope N cl C s H BR) hN An (.inl hm) (.inr hm)) (VX j)) (L2.imp m_ j3) rfl) cU) rfl) cU) rfl rfl) (j4 rfl rfl)⟩
def Vq(nl:Nat)(caps:↑Nat)(A_:F.K=X.K)(Ar:ON X scope Δ C4 g)(BY:BT X scope Δ ifs mt)(he:Sn X scope Δ elt m) :
  (∀cl C s H BR,H6 (GS X scope Δ cl C s H BR) C4 (λx σ H Q=>∃DW CG,LY (Ia F.K DW CG) g x σ H Q))/\(∀cl C s H BR,QE (GS X scope Δ cl C s H BR) ifs (λσ H Q=>∃DW CG,Hb (Ia F.K DW CG) mt σ H Q))/\(∀cl C s H BR,Aj (GS X scope Δ cl C s H BR) elt (λσ H Q=>∃DW CG,CA (Ia F.K DW CG) m σ H Q)):=by
 rw[A_];exact⟨λcl C s H BR A3 s' σ AC v u Q A0 r⟨DW,CG,q⟩=>(Ar cl C s H BR DW CG).p A3 s' σ AC v u Q A0 r q,λcl C s H BR A3 s' σ AC Q A0⟨DW,CG,q⟩=>BY cl C s H BR DW CG A3 s' σ AC Q A0 q,λcl C s H BR A3 s' σ AC Q A0⟨DW,CG,q⟩=>(he cl C s H BR DW CG).p A3 s' σ AC Q A0 q⟩
def afS(nl:Nat)(caps:↑Nat)(S:RB X.env.scope X.N scope Δ nl caps=true)(AA:Pi X F C4 iter mi)(Ar:ON X scope Δ C4 g)(BY:BT X scope Δ ifs mt)(he:Sn X scope Δ elt m)(AK:X.calm=true:=by rfl)(A_:F.K=X.K:=by rfl)(AS:∀x,Mv iter X.env x=pure x:=by intro _;rfl) :
  AY X F (.ListComp elt [⟨C4,iter,ifs,0⟩] scope pos) (CW nl caps mi g mt m):=by
 obtain⟨h1,h2,BF⟩:=Vq nl caps A_ Ar BY he;exact⟨Aj.imp (dC (K9.of S) AK AA.p h1 h2 BF AS) j2⟩
def ahq(i:Nat)(nl:Nat)(caps:↑Nat){y:Str}{py:Pos}(hN:X.N.Nodup)(S:RB X.env.scope X.N scope Δ nl caps=true)(AA:Pi X F C4 iter mi)(Ar:ON X scope Δ C4 g)(BY:BT X scope Δ ifs mt)(he:Sn X scope Δ elt m)(Af:X.N[i]?=↥y:=by rfl)(AI:X.env.kindOf y=↥.local:=by rfl)(VU:PS (.ListComp elt [⟨C4,iter,ifs,0⟩] scope Cv) ↥(.Name y py) pos.line X.env=pure true:=by rfl)(AK:X.calm=true:=by rfl)(A_:F.K=X.K:=by rfl)(AS:∀x,Mv iter X.env x=pure x:=by intro _;rfl) :
  G7 X F (.Assign [.Name y py] (.ListComp elt [⟨C4,iter,ifs,0⟩] scope Cv) pos) (Am (CW nl caps mi g mt m) (AB i)):=by
 obtain⟨h1,h2,BF⟩:=Vq nl caps A_ Ar BY he;refine⟨Dn.imp (mv (K9.of S) AK hN Af AI AA.p h1 h2 BF VU AS) λDe σ H q=>?_⟩;obtain⟨φ,ρ,h,r,q⟩:=q;refine j2 σ H _ ⟨φ,ρ,h,r,ER.bd q λw v By h1 H1 As Cc a q=>?_⟩;unfold AB at q
 split at q
 .rename_i AA;exact q _ By H1 (As.set AA a) (Ak.refl _ _)
 .exact q.elim
def ai6{st:BO}{i:Nat}(h:G7 X F st (Am m (AB i))):G7 X F st (Am (CI m) (AB i)):=⟨Dn.imp h.p λDe σ H q=>by
 obtain⟨φ,ρ,h,r,q⟩:=q;refine⟨φ,ρ,h,r,?_⟩;unfold Am bd CI at*;cases e:m ρ h with
 |bad=>rw[e]at q;cases q
 |exc c h'=>rw[e]at q;exact q
 |ok p=>
  rw[e]at q;obtain⟨w,h1⟩:=p;obtain⟨Cf,h',es⟩:=eG h w h1;erw[R.bind]at q |-;rw[es]at q;unfold AB at q |-;dsimp only at q |-
  split at q
  .rename_i AA;rw[if_pos AA];intro σ' By H1 As Cc;obtain⟨v,ev,E5⟩:=As.CP i w (LJ AA);obtain⟨Bb,Fy,d',Gi⟩:=eH r.hd Cc As.hd E5 es;refine q σ' Bb H1 ⟨d',r.x0.trans Fy,(As.len:),λj u FJ=>?_⟩ Fy;by_cases An:i=j
   .subst An;rw[LJ AA]at FJ;cases FJ;exact⟨v,ev,Gi⟩
   .rw[PL An]at FJ;obtain⟨v0,_,Gj⟩:=r.CP j u FJ;obtain⟨v1,A9,a1⟩:=As.CP j u (by rw[PL An];exact FJ);exact⟨v1,A9,AV.ex (⟨Fy.p,λ_ _ e _=>e⟩:Ak φ H1 Bb H1) (AV.back Cc.p Gj a1)⟩
  .exact q.elim⟩
def ahI {E0 x:Str} {k j:Nat} {mf:Br} {pl:Sem Bool} (c:HJ X.prog X.w X.K X.mg X.base E0 x k j mf) (BZ:DE j X.A) (ho:AY X F o m) (AF:Hj X F (e::es) ma) (P:Sv X F:=by first|exact Zo|exact Zn) (A_:F.K=X.K:=by rfl) (s:Mg X e es pos:=by exact{}) (BY:Bd (.Call (.Attribute o x apos) (e::es) [] pos) X.env=(do
   let Cq <-Bd o X.env
   OA apos.atName
   let(f,first) <-K5 [Cq] (Ql Cq x pl)
   Sm pos f first (Fh pos (CM (e::es) X.env)) (LQ pos (LO [] X.env))):=by rfl):AY X F (.Call (.Attribute o x apos) (e::es) [] pos) (CO E0 x k mf m ma):=by
 obtain⟨C,f,fd,ps,Ae,AK,Cz,GR,RK,A4⟩:=c.ex;obtain⟨E,h1,h2⟩:=P.ex;exact⟨Aj.imp (acY (pl:=pl) ho.p Cz GR RK BZ A4 .nil h1 AF.p s.he s.Gp BY) (kU A_ AK h2)⟩
def ahJ {E0 x:Str} {j:Nat} {mf:Br} {pl:Sem Bool} (c:HJ X.prog X.w X.K X.mg X.base E0 x 0 j mf) (BZ:DE j X.A) (ho:AY X F o m) (P:Sv X F:=by first|exact Zo|exact Zn) (A_:F.K=X.K:=by rfl) (BY:Bd (.Call (.Attribute o x apos) [] [] pos) X.env=(do
   let Cq <-Bd o X.env
   OA apos.atName
   let(f,first) <-K5 [Cq] (Ql Cq x pl)
   Sm pos f first (Fh pos (CM [] X.env)) (LQ pos (LO [] X.env))):=by rfl):AY X F (.Call (.Attribute o x apos) [] [] pos) (CO E0 x 0 mf m A2):=by
 obtain⟨C,f,fd,ps,Ae,AK,Cz,GR,RK,A4⟩:=c.ex;obtain⟨E,h1,h2⟩:=P.ex;refine⟨Aj.imp (acZ (pl:=pl) ho.p Cz GR RK BZ A4 .nil h1 BY) λσ H Q q=>?_⟩;obtain⟨φ,ρ,h,r,z⟩:=kU (X:=X) A_ AK h2 σ H Q q;exact⟨φ,ρ,h,r,z.imp λv H1⟨a,Bt,BA,A9,AG,DS,t⟩=>⟨a,Bt,BA,A9,AG,DS,Q0 σ H1 _ t⟩⟩
def afV(BS:X.A.units+64<Dr)(ho:AY X F o m)(he:AY X F e n)(k:BN.N5 X o "get" apos e Cv:=by exact⟨rfl,rfl,rfl,rfl⟩):AY X F (.Call (.Attribute o "get" apos) [e] [] Cv) (VB m n):=⟨Aj.imp (adG δ ho.p he.p k) xv⟩
def afY(ho:AY X F o m)(he:AY X F e n)(k:BN.N5 X o "pop" apos e Cv:=by exact⟨rfl,rfl,rfl,rfl⟩):AY X F (.Call (.Attribute o "pop" apos) [e] [] Cv) (VC m n):=⟨Aj.imp (adI ho.p he.p k) xx⟩
def Dj(ma:DQ):G6:=bd ma λws=>match ws with
 |[.int j]=>if-(2^62)<=j/\j<2^62 then pu (KJ 0 j.toNat)else λ_ _=>.bad
 |_=>λ_ _=>.bad
def agS(hm:X.mg "range"=none)(AF:Hj X F [a] ma)(Ar:En X "range":=by rfl)(AS:CM [a] X.env=[(false,Bd a X.env)]:=by rfl):Pi X F C4 (.Call (.Name "range" p) [a] [] pos) (Dj ma):=⟨Hi.imp (acn Ar hm AF.p AS) λσ H R q=>
 q.bd λws vs φ ρ h H1 r as q=>by
   split at q
   .rename_i j;obtain⟨v,rfl,a⟩:=as.one;erw[AV]at a;subst a
    split at q
    .rename_i An;exact⟨j,rfl,An.1,An.2,q _ φ H1 r (Ak.refl _ _) (lz _ _)⟩
    .exact q.elim
   .exact q.elim⟩
def abA(ma:DQ):G6:=bd ma λws=>match ws with
 |[.int i,.int j]=>if-(2^62)<=i/\i<2^62/\-(2^62)<=j/\j<2^62 then pu (KJ i (j-i).toNat)else λ_ _=>.bad
 |_=>λ_ _=>.bad
def agT(hm:X.mg "range"=none)(AF:Hj X F [a,b] ma)(Ar:En X "range":=by rfl)(AS:CM [a,b] X.env=[(false,Bd a X.env),(false,Bd b X.env)]:=by rfl)(Iz:CM [b] X.env=[(false,Bd b X.env)]:=by rfl):Pi X F C4 (.Call (.Name "range" p) [a,b] [] pos) (abA ma):=⟨Hi.imp (aco Ar hm AF.p AS Iz) λσ H R q=>
 q.bd λws vs φ ρ h H1 r as q=>by
   split at q
   .rename_i i j;obtain⟨v,IF,rfl,a,b⟩:=as.two;erw[AV]at a b;subst a b
    split at q
    .rename_i An;exact⟨i,j,rfl,An,q _ φ H1 r (Ak.refl _ _) (lz _ _)⟩
    .exact q.elim
   .exact q.elim⟩
noncomputable def Rt(x:Str):Gn:=λi _=>if i=x.cps.size then↥none else(x.cps[i]?).map λc=>↥(.str ⟨#[c]⟩)
def aio(m:B8):G6:=bd m λw=>match w with
 |.str x=>pu (Rt x)
 |_=>λ_ _=>.bad
def aei{K:Ao}{φ:↑A6}{H:AE}(x:Str):IU K φ H (Rt x) (gi x):=λi CR h2 AH d _=>by
 unfold Rt;by_cases AA:i=x.cps.size
 .rw[if_pos AA];exact⟨λ_=>AA,λw z=>by cases z⟩
 .rw[if_neg AA];cases e:x.cps[i]? with
  |none=>exact⟨(λz=>by cases z),λw z=>by cases z⟩
  |some c=>exact⟨(λz=>by cases z),λw z=>by
     cases z;exact⟨(Array.getElem?_eq_some_iff.mp e).1,λy AC Af=>by obtain⟨rfl,G8,Bg,rfl⟩:=Af;rw[e]at Bg;cases Bg;exact⟨d,Ak.refl _ _,by erw[AV]⟩⟩⟩
def P8(w:W):Gn:=λi h=>match JW h w with
 |some (_,ws)=>if i=⇑ws then↥none else(ws[i]?).map λx=>↥(.tup [.int i,x])
 |none=>none
def Lw(ma:DQ):G6:=bd ma λws ρ h=>match ws with
 |[w]=>match JW h w with
  |some _=>.ok (P8 w,h)
  |none=>.bad
 |_=>.bad
def qS{K:Ao}{φ:↑A6}{h:A5}{H:AE}{q:A6}{ws:↑W}{xs:↑V}(d:DD K φ h H)(AX:H q=none)(a:Al K φ H ws xs):DD K φ h (upd H q (.tup xs))/\Ak φ H φ (upd H q (.tup xs))/\AV K φ (upd H q (.tup xs)) (.tup ws) (.ref q):=
 ⟨d.lay AX,Ak.lay AX,by erw[AV];exact⟨q,xs,rfl,Ec,a.ex (Ak.lay AX)⟩⟩
def ud{φ:↑A6}{H:AE}{w:W}{q:A6}(A_:F.K=X.K)(a:AV F.K φ H w (.ref q)):IU F.K φ H (P8 w) (gf X.K q):=λi CR h2 AH d x=>by
 unfold P8;cases es:JW h2 w with
 |none=>exact⟨(λz=>by cases z),λw z=>by cases z⟩
 |some Rw=>
  obtain⟨n,ws⟩:=Rw;obtain⟨HC,xs,Bg,_,_,Ac,BL⟩:=LA d (a.ex x) es;cases Bg;have Ac:ET X.K AH q xs:=.inl (.inl Ac);dsimp only;by_cases AA:i=⇑ws
  .rw[if_pos AA];exact⟨λ_=>⟨xs,Ac,by rw[<- ⇑BL,AA]⟩,λw z=>by cases z⟩
  .rw[if_neg AA];cases Ck:ws[i]? with
   |none=>exact⟨(λz=>by cases z),λw z=>by cases z⟩
   |some u=>
    obtain⟨v,ev,E5⟩:=BL.get Ck;exact⟨(λz=>by cases z),λCf z=>by
     cases z;exact⟨⟨xs,v,Ac,ev⟩,λy AC Af=>by obtain⟨b,Fy,A4,rfl,rfl,g⟩:=Af;have:=g xs Ac;rw[ev]at this;cases this;exact qS d A4 (.cons (by erw[AV]) (.cons E5 .nil))⟩⟩
def agR{elts:↑Au}{k:Nat}{Hd:Pos}(hm:X.mg "enumerate"=none)(AF:Hj X F [a] ma)(A_:F.K=X.K:=by rfl)(Ar:En X "enumerate":=by rfl)(AS:CM [a] X.env=[(false,Bd a X.env)]:=by rfl):Pi X F (.Tuple elts k Hd) (.Call (.Name "enumerate" p) [a] [] pos) (Lw ma):=⟨Hi.imp (acm Ar hm AF.p AS) λσ H R q=>
 q.bd λws vs φ ρ h H1 r as q=>by
   split at q
   .obtain⟨v,rfl,a⟩:=as.one
    split at q
    .rename_i nw es;obtain⟨n,us⟩:=nw;obtain⟨DZ,xs,rfl,_,_,Ac,BL⟩:=LA r.hd a es;exact⟨DZ,rfl,⟨xs,.inl (.inl Ac)⟩,q _ φ H1 r (Ak.refl _ _) (ud A_ a)⟩
    .exact q.elim
   .exact q.elim⟩
noncomputable def Rb(x:Str)(us:↑W):Gn:=λi _=>if i=min x.cps.size ⇑us then↥none else match x.cps[i]?,us[i]? with
 |some c,↥u=>↥↥(.tup [.str ⟨#[c]⟩,u])
 |_,_=>none
def aM(h:A5):W->Option ↑W
 |.str y=>↥(y.cps.toList.map λc=>.str ⟨#[c]⟩)
 |w=>match Dw h w with
  |some (true,us)=>↥us
  |_=>none
def Oi(ma:DQ):G6:=bd ma λws ρ h=>match ws with
 |[.str x,w]=>match aM h w with
  |some us=>.ok (Rb x us,h)
  |_=>.bad
 |_=>.bad
theorem m5{K:Ao}{φ:↑A6}{H:AE}:∀l:↑Nat,Al K φ H (l.map λc=>W.str ⟨#[c]⟩) (l.map λc=>V.str ⟨#[c]⟩)
 |[]=>.nil
 |_::l=>.cons (by erw[AV]) (m5 l)
def ahL{K:Ao}{φ:↑A6}{h:A5}{H:AE}{w:W}{v:V}{us:↑W}(d:DD K φ h H)(b:AV K φ H w v)(es:aM h w=↥us):∃ys,KU K H v ys/\Al K φ H us ys:=by
 have g:(∀y,w≠.str y)->∃ys,KU K H v ys/\Al K φ H us ys:=λn=>by
  have e:Dw h w=↥(true,us):=by
   unfold aM at es
   split at es
   .exact absurd rfl (n _)
   .split at es
    .rename_i e;cases es;exact e
    .cases es
  obtain⟨DZ,ys,rfl,Ac,BL⟩:=JH d b e;exact⟨ys,Ac,BL⟩
 cases w with
 |str y=>erw[AV]at b;subst b;cases es;exact⟨_,rfl,m5 _⟩
 |_=>exact g λ_ z=>by cases z
theorem KU.ex{K:Ao}{φ Bb:↑A6}{H AC:AE}(x:Ak φ H Bb AC):∀{v:V}{ys:↑V},KU K H v ys->KU K AC v ys
 |.ref _,_,q=>FA.ex x q
 |.str _,_,q=>q
def agU{elts:↑Au}{k:Nat}{Hd:Pos}(hm:X.mg "zip"=none)(AF:Hj X F [a,b] ma)(A_:F.K=X.K:=by rfl)(Ar:En X "zip":=by rfl)(AS:CM [a,b] X.env=[(false,Bd a X.env),(false,Bd b X.env)]:=by rfl)(Iz:CM [b] X.env=[(false,Bd b X.env)]:=by rfl):Pi X F (.Tuple elts k Hd) (.Call (.Name "zip" p) [a,b] [] pos) (Oi ma):=⟨Hi.imp (acq Ar hm AF.p AS Iz) λσ H R q=>
 q.bd λws vs φ ρ h H1 r as q=>by
   split at q
   .rename_i x w;obtain⟨v,IF,rfl,a,b⟩:=as.two;erw[AV]at a;subst a
    split at q
    .rename_i us es;obtain⟨ys,Ac,BL⟩:=ahL r.hd b es;refine⟨x,IF,rfl,⟨ys,A_▸Ac⟩,q _ φ H1 r (Ak.refl _ _) λi CR h2 AH d CK=>?_⟩;have cL:KU X.K AH IF ys:=A_▸KU.ex CK Ac;have OP:=BL.ex CK;unfold Rb;by_cases AA:i=min x.cps.size ⇑us
     .rw[if_pos AA];exact⟨λ_=>⟨ys,cL,by rw[<- ⇑BL];exact AA⟩,λw z=>by cases z⟩
     .rw[if_neg AA];cases A9:x.cps[i]? with
      |none=>exact⟨(λz=>by cases z),λw z=>by cases z⟩
      |some c=>
       cases AG:us[i]? with
       |none=>exact⟨(λz=>by cases z),λw z=>by cases z⟩
       |some u=>
        obtain⟨y,Dv,Gk⟩:=OP.get AG;exact⟨(λz=>by cases z),λCf z=>by
         cases z;exact⟨⟨(Array.getElem?_eq_some_iff.mp A9).1,ys,y,cL,Dv⟩,λv AC Af=>by obtain⟨JP,G8,ak,f1,f2,rfl,rfl,GC⟩:=Af;rw[A9]at f1;cases f1;have:=GC ys cL;rw[Dv]at this;cases this;exact qS d f2 (.cons (by erw[AV]) (.cons Gk .nil))⟩⟩
    .exact q.elim
   .exact q.elim⟩
end
end BJ
namespace BJ
open PySem PySem.Spec BN PyProof.Rows
section
variable{X:Aw}{F:DN}{e a b c o:Au}{es:↑Au}{pos p Cm apos Cv:Pos}{m n l:B8}{ma:DQ}{C4 iter:Au}{st:BO}
def ahp:G7 X F st (λ_ _=>.bad):=⟨Dn.imp ae3 λDe σ H⟨_,_,_,_,q⟩=>q⟩
def afs{QO:↑BO}:Lc X F QO (λ_ _=>.bad):=⟨HK.imp aeB λDe σ H⟨_,_,_,_,q⟩=>q⟩
noncomputable def mG:D6:=λx y H Q=>∃q v,x=.ref q/\JM H q y ↥v/\Q v H
def yp(BS:X.A.units+64<Dr):N3 X mG:=by intro value slice A3 s σ H x y v u Q A0 Ax Bn h AS;obtain⟨q,z,rfl,g,h⟩:=h;obtain rfl:v=DB q:=Ax;exact tail_any (i8 A0 g) PySem.F.slot_dict_getitem.lookup (i5 δ A0 g Bn λCf s3 Da Ge=>⟨z,H,Da,Ge,h⟩) AS
def A7:Iq:=λx y h=>match GT h x y with
 |some ↥w=>.ok (w,h)
 |some none=>.bad
 |none=>TJ x y h
def abf(A_:F.K=X.K):I3 F (λx y H Q=>mG x y H Q\/eu X.K x y H Q) A7:=by
 intro σ ρ φ h H x y FW G3 Q r a1 a2 q;unfold A7 at q
 split at q
 .rename_i w e;obtain⟨k,Cq,rfl,g,Fw⟩:=ZE r.hd e a1 a2;cases Cq with
  |none=>cases Fw
  |some v=>exact .inl ⟨k,v,rfl,g,q v φ H r (Ak.refl _ _) Fw⟩
 .exact q.elim
 .exact .inr (abe A_ σ ρ φ h H x y FW G3 Q r a1 a2 q)
def ah8(BS:X.A.units+64<Dr)(AF:AY X F a m)(A4:AY X F b n)(AS:gs b)(A_:F.K=X.K:=by rfl):AY X F (.Subscript a b pos) (A1 A7 m n):=⟨Aj.imp (acU ((yp BS).or yr) AF.p A4.p AS) (Fl (abf A_))⟩
noncomputable def ep(k:Bool):D6:=λx y H Q=>∃q Cq,y=.ref q/\JM H q x Cq/\Q (.AL (if k then Cq.isSome else !Cq.isSome)) H
def Ze(BS:X.A.units+64<Dr):Dy X (G0 .In) (ep true)/\Dy X (G0 .NotIn) (ep false):=by
 refine⟨?_,?_⟩<;>
 .intro A3 s σ H x y v u Q A0 Ax Bn h;obtain⟨q,Cq,rfl,g,h⟩:=h;obtain rfl:u=DB q:=Bn
  first
   |exact tX δ A0 g Ax λs3 Da=>⟨.AL Cq.isSome,H,Da,rfl,h⟩
   |exact tY δ A0 g Ax λs3 Da=>⟨.AL (!Cq.isSome),H,Da,rfl,h⟩
def Ce(k:Bool):Iq:=λx y h=>match GT h y x with
 |some o=>.ok (.AL (if k then o.isSome else !o.isSome),h)
 |none=>YT k x y h
def ZZ(A_:F.K=X.K)(k:Bool):I3 F (λx y H Q=>ep k x y H Q\/Zp X.K k x y H Q) (Ce k):=by
 intro σ ρ φ h H x y FW G3 Q r a1 a2 q;unfold Ce at q
 split at q
 .rename_i o e;obtain⟨d,Cq,rfl,g,Fw⟩:=ZE r.hd e a2 a1;rw[Fw.is]at q;exact .inl ⟨d,Cq,rfl,g,q _ φ H r (Ak.refl _ _) (Nb _)⟩
 .exact .inr (abb A_ k σ ρ φ h H x y FW G3 Q r a1 a2 q)
def ah3(BS:X.A.units+64<Dr)(AF:AY X F a m)(A4:AY X F b n)(A_:F.K=X.K:=by rfl)(hm:MH .In b=false:=by with_unfolding_all rfl):AY X F (.Compare a [.In] [b] pos) (A1 (Ce true) m n):=⟨Aj.imp (Lz ((Ze BS).1.or (Zg BS).1) AF.p A4.p hm) (Fl (ZZ A_ true))⟩
def ahQ(BS:X.A.units+64<Dr)(AF:AY X F a m)(A4:AY X F b n)(A_:F.K=X.K:=by rfl)(hm:MH .In b=false:=by with_unfolding_all rfl):Fi X F (.Compare a [.In] [b] pos) (Ad (A1 (Ce true) m n)):=⟨E_.imp (M0 ((Ze BS).1.or (Zg BS).1) AF.p A4.p hm) λσ H Q q=>Fl (ZZ A_ true) σ H _ (Kg σ H Q q)⟩
def agc(BS:X.A.units+64<Dr)(AF:AY X F a m)(A4:AY X F b n)(A_:F.K=X.K:=by rfl)(hm:MH .NotIn b=false:=by with_unfolding_all rfl):AY X F (.Compare a [.NotIn] [b] pos) (A1 (Ce false) m n):=⟨Aj.imp (Lz ((Ze BS).2.or (Zg BS).2) AF.p A4.p hm) (Fl (ZZ A_ false))⟩
def ahW(BS:X.A.units+64<Dr)(AF:AY X F a m)(A4:AY X F b n)(A_:F.K=X.K:=by rfl)(hm:MH .NotIn b=false:=by with_unfolding_all rfl):Fi X F (.Compare a [.NotIn] [b] pos) (Ad (A1 (Ce false) m n)):=⟨E_.imp (M0 ((Ze BS).2.or (Zg BS).2) AF.p A4.p hm) λσ H Q q=>Fl (ZZ A_ false) σ H _ (Kg σ H Q q)⟩
def xk(K:Ao)(Hw:TE):TI:=λσ H R=>Hw σ H λx H1=>(∃q,x=.ref q/\(∃xs,ET K H1 q xs)/\R (gh K q) H1)\/(∃q,x=.ref q/\(∃xs,FA K H1 q xs)/\R (gj K q) H1)\/∃z,x=.str z/\R (gi z) H1
def ack{e:Au}{Hw:TE}(AI:Aj X e Hw):Hi X C4 e (xk X.K Hw):=by
 intro A3 s σ H R A0 h;refine Ba (AI A3 s σ H _ A0 h) λv s1⟨x,H1,Ai,As,Aq⟩=>?_;rcases Aq with⟨q,rfl,⟨xs,Ac⟩,k⟩|⟨q,rfl,⟨xs,Ac⟩,k⟩|⟨z,rfl,k⟩
 .cases As;obtain⟨its,C1,pl,hz⟩:=Ai.list Ac;refine g6 pl.isList ?_;refine⟨s1.heap.objs.size,[s1.heap.objs.size],_,_,H1,rfl,Ai.kept (t':=s1.toks) λb o e=>Dm _ e,aeU q _,⟨_,GG _ rfl,rfl,rfl⟩,λb A4=>?_,k⟩;have e:b=s1.heap.objs.size:=by simpa using A4
  subst e;exact Ai.No (CB _) (Ai.BB.fresh (CB _))
 .cases As;obtain⟨its,C1,pl,hz⟩:=Ai.tuple Ac;refine wpAny_pyIter_tuple (show s1.heap.IsTuple q its.toArray from pl) ?_;refine⟨s1.heap.objs.size,[s1.heap.objs.size],_,_,H1,rfl,Ai.kept (t':=s1.toks) λb o e=>Dm _ e,aeX q _,⟨_,GG _ rfl,rfl,rfl⟩,λb A4=>?_,k⟩;have e:b=s1.heap.objs.size:=by simpa using A4
  subst e;exact Ai.No (CB _) (Ai.BB.fresh (CB _))
 .obtain⟨t,rfl⟩:=As;refine f_ ?_;refine⟨s1.heap.objs.size,[s1.heap.objs.size],_,_,H1,rfl,Ai.kept (t':=s1.toks) λb o e=>Dm _ e,aeW _ z t,⟨_,GG _ rfl,rfl,rfl⟩,λb A4=>?_,k⟩;have e:b=s1.heap.objs.size:=by simpa using A4
  subst e;exact Ai.No (CB _) (Ai.BB.fresh (CB _))
def CN(m:B8):G6:=bd m λw ρ h=>match w with
 |.str x=>.ok (Rt x,h)
 |w=>match Dw h w with
  |some _=>.ok (Fd w,h)
  |none=>.bad
def agQ(h:AY X F e m)(A_:F.K=X.K:=by rfl):Pi X F C4 e (CN m):=⟨Hi.imp (ack h.p) λσ H R q=>
 q.bd λw v φ ρ h H1 r a q=>by
   split at q
   .rename_i x;erw[AV]at a;exact .inr (.inr ⟨x,a,q _ φ H1 r (Ak.refl _ _) (aei x)⟩)
   .split at q
    .rename_i Rw es;obtain⟨t,ws⟩:=Rw;obtain⟨DZ,xs,rfl,Ac,BL⟩:=JH r.hd a es;cases t with
     |false=>have hw:=(ZP es).mp rfl;exact .inl ⟨DZ,rfl,⟨xs,A_▸Ac⟩,q _ φ H1 r (Ak.refl _ _) (ab4 A_ a rfl λCR h2 AH _ _ t ws e=>(ZP e).mpr hw)⟩
     |true=>
      refine .inr (.inl ⟨DZ,rfl,⟨xs,A_▸Ac⟩,q _ φ H1 r (Ak.refl _ _) (dL A_ a rfl λh2 t ws' AG=>?_)⟩);cases t with
      |true=>rfl
      |false=>have hw:=(ZP AG).mp rfl;exact(ZP es).mpr hw|>.symm
    .exact q.elim⟩
theorem qd:∀{bs:↑Bool}{us:↑A8},Vals (bs.map V.AL) us->us=bs.map Qm
 |[],_,r=>by cases r;rfl
 |b::bs,_,r=>by
  cases r with
  |cons As BK=>cases As;rw[qd BK];rfl
def ta(AK:X.calm=true)(Qu:X.A.handled=none):Jj X (.builtin "all") (λxs H Q=>∃(p:A6)(bs:↑Bool),xs=[.ref p]/\ET X.K H p (bs.map V.AL)/\Q (.AL (bs.all id)) H):=by
 intro A3 s σ H xs us Q A0 r h;obtain⟨p,bs,rfl,Ac,q⟩:=h;obtain⟨u,rfl,Eg⟩:=vals1 r;cases Eg;obtain⟨its,C1,pl,hz⟩:=A0.list Ac;have Fb:=qd C1;refine call_all_walk (g6 pl.isList ?_);have Lp:p≠s.heap.objs.size:=by obtain⟨o,ho,_⟩:=pl.isList;exact FG (EN ho)
 refine⟨s.heap.objs.size,_,_,_,_,_,λi=>(bs[i]?).getD true,rfl,Walks.list (prog:=X.prog) (w:=X.w) (A:=X.A.in1) Qu s.heap.objs.size p Lp its.toArray,⟨⟨_,GG _ rfl,rfl,rfl⟩,pl.isList.push _⟩,?_,λh' DJ GM=>?_⟩
 .intro i v s' HL aiG E6 cz;rw[Fb]at E6;have E6:(bs.map Qm)[i]?=↥v:=by simpa using E6
  rw[Dl]at E6;cases B4:bs[i]? with
  |none=>rw[B4]at E6;cases E6
  |some b=>rw[B4]at E6;have ev:Qm b=v:=Ga E6;subst ev;dsimp only at cz;rw[B4]at cz;exact MD cz
 .have d2:(Cg its.toArray.size).all (λi=>(bs[i]?).getD true)=bs.all id:=by
    have AI:its.toArray.size=⇑bs:=by rw[Fb];simp
    rw[AI,Qj,UU,UU];constructor
    .intro hh x AM;obtain⟨i,AA,rfl⟩:=List.mem_iff_getElem.mp AM;have:=hh i (List.mem_range.mpr AA);rw[C3 AA]at this;exact this
    .intro hh i AA;have AA:=List.mem_range.mp AA;rw[C3 AA];exact hh _ (J9 AA)
  rw[d2];exact⟨.AL _,H,A0.kept (t':=DJ) λb o AG=>GM b o (by
   intro z;have z:b=s.heap.objs.size:=(z:)
   exact absurd (EN AG) (by rw[z];exact MG _)) (Dm _ AG),rfl,q⟩
def afu{k:Nat}(BZ:DE k X.A)(hm:X.mg "all"=none)(AF:Hj X F [e] ma)(AK:X.calm=true:=by rfl)(A_:F.K=X.K:=by rfl)(Ar:En X "all":=by rfl)(s:Mg X e [] pos:=by exact{}):AY X F (.Call (.Name "all" p) [e] [] pos) (BI (Hs true) ma):=⟨Aj.imp (Zm (ta AK BZ.hd) Ar hm (by kernel_rfl) AF.p ε ε s.he s.Gp) (S3 (abk A_ true))⟩
end
end BJ
namespace BN
open PyProof.Rows
section
variable{X:Aw}{a e:Au}{C0:FZ}{pos p pos' HC:Pos}
theorem qf:∀{xs:↑V}{us:↑A8},⇑xs=⇑us->(∀(i:Nat) x y,xs[i]?=↥x->us[i]?=↥y->RelV x y)->Vals xs us
 |[],[],_,_=>.nil
 |[],_::_,h,_=>by simp at h
 |_::_,[],h,_=>by simp at h
 |x::xs,u::us,h,f=>.cons (f 0 x u γ γ) (qf (h:) λi a b A9 AG=>f (i+1) a b (A9:) (AG:))
def aav{A3:μ}{σ :St}{H1:AE}{s2:AR}{Q:CV}{r:A6}{j:Int}{t u v:Tok}(Bz:Inv X A3 σ H1 s2)(AK:X.calm=true)(BZ:IsRange s2.heap r 0 j 1 t u v)(Aq: -(2^62)<=j)(BV:j<=1000000)(q:∀l,H1 l=none->Q (.ref l) (upd H1 l (.lst ((Cg j.toNat).map λi=>.int (i:Nat))))):Av ξ X.A (call (.type "list") [.ref r]) (H3 X A3 σ Q) X.DA s2:=by
 have Ae:ru 0 j 1=(j.toNat:Nat):=by rw[rangeSize_one];split<;>lia
 refine call_list_range (Bz.ok.hd AK) BZ (small_one δ δ δ δ) Ae δ λh' DJ hI G8 DH e it=>?_;obtain⟨acc,rfl⟩:∃l:↑A8,hI=l.toArray:=⟨hI.toList,γ⟩;have CL:Vals ((Cg j.toNat).map λi=>V.int ((i:Nat):Int)) acc:=by
  have AI:⇑acc=j.toNat:=(it.1:)
  refine qf ?_ ?_
  .simp[AI]
  .intro i x y A9 AG;rw[Dl]at A9;have AA:i<j.toNat:=by rw[<-AI];exact(List.getElem?_eq_some_iff.mp AG).1
   rw[Ny AA]at A9;cases A9;obtain⟨tt,rfl⟩:=it.2 i y (AG:);exact⟨tt,γ⟩
 exact⟨.ref _,_,Bz.laid (t':=DJ) DH (CB _) (show EJ X.prog X.w _ h' _ (.lst _)from⟨Gm (m:=1000000) (by simp;lia) ε,acc,G8,CL,e⟩),rfl,q _ (Bz.BB.fresh (CB _))⟩
def mK:↑V->AE->CV->Prop:=λvs H1 Q=>∃j:Int,vs=[.int j]/\-(2^62)<=j/\j<=1000000/\∀l,H1 l=none->Q (.ref l) (upd H1 l (.lst ((Cg j.toNat).map λi=>.int (i:Nat))))
def acV(Ar:En X "list")(hm:X.mg "list"=none)(VP:En X "range")(VR:X.mg "range"=none)(AK:X.calm=true)(AF:H5 X [a] C0)(AS:CM [a] X.env=[(false,Bd a X.env)]:=by rfl)(Iz:CM [.Call (.Name "range" HC) [a] [] pos'] X.env=[(false,Bd (.Call (.Name "range" HC) [a] [] pos') X.env)]:=by rfl) :
  Aj X (.Call (.Name "list" p) [.Call (.Name "range" HC) [a] [] pos'] [] pos) (WK mK C0):=by
 intro A3 s σ H Q A0 h;refine Ua (Oe (u:=.type "list") A0 Ar hm (by kernel_rfl) ?_);refine QW ?_ Iz rfl;rw[Iz];refine U_ ?_;refine Call_ (Oe A0 VP VR boot_range (QW (Ba (AF pos' A3 s σ H _ A0 h) λus s1⟨vs,H1,Ai,As,Aq⟩=>?_) AS rfl));obtain⟨j,e,Aq,BV,q⟩:=Aq;subst e;cases As with
 |cons r KL=>cases KL;obtain⟨t,rfl⟩:=r;refine call_range_1 (Ue ?_);exact aav (Ai.kept λb o e=>Dm _ e) AK (IsRange.new ..) Aq BV q
end
end BN
namespace BJ
def Cb{N P:↑Str}{sc:FH}(a:sc.kind=.function:=by rfl)(b:sc.isCoroutine=false:=by rfl)(c:sc.isGenerator=false:=by rfl)(d:N.Nodup:=by decide+kernel)(e:N.take ⇑P=P:=by rfl)(f:∀x∈P,sc.names.lookup x=↥.local\/sc.names.lookup x=↥.cell:=by decide+kernel)(g:∀y∈sc.names,y.2≠.free:=by decide+kernel):C6 N P sc:=⟨a,b,c,d,e,f,g⟩
section
variable{X:Aw}{F:DN}{e a b o:Au}{es:↑Au}{pos p Cm:Pos}{m n:B8}{ma:DQ}{C4:Au}{g:DR}
noncomputable def ZW:R (F7×A5)->R (F7×A5)
 |.ok (.AP ρ,h)=>.ok (.AP ρ,h)
 |.ok _=>.bad
 |.exc c h=>.exc c h
 |.bad=>.bad
def acA{φ:↑A6}{H:AE}{De:Ends}:∀{r:R (F7×A5)},ER F φ H De (ZW r)->ER F φ H ⟨De.AP,λ_ _=>False,λ_ _=>False,λ_ _=>False⟩ r
 |.ok (.AP _,_),k=>k
 |.ok (.Dp _,_),k|.ok (.Bv _,_),k|.ok (.D7 _,_),k=>k.elim
 |.exc _ _,k=>k
 |.bad,k=>k
def a6(m:B8)(g:DR):Ap:=bd m λw ρ h=>ZW (g w ρ h)
def agw(CL:AY X F e m)(Ar:R2 X F C4 g)(h1:swapsWithSole [C4] e pos.line X.env=pure false:=by rfl)(h2:swappedStores [C4] e X.env=pure none:=by rfl)(BF:(LN [C4] X.env).map (·.2)=[Ks C4 X.env]:=by rfl):G7 X F (.Assign [C4] e pos) (a6 m g):=⟨Dn.imp (mu CL.p Ar.p h1 h2 BF) λDe σ H q=>
 q.bd λw x φ ρ h H1 r a q=>⟨φ,ρ,h,w,r,a,acA q⟩⟩
def lB(AZ:↑Int):↑W:=AZ.map W.int
theorem kZ{K:Ao}{φ:↑A6}{H:AE}:∀AZ:↑Int,Al K φ H (lB AZ) (AZ.map V.int)
 |[]=>.nil
 |_::AZ=>.cons (by erw[AV]) (kZ AZ)
def dK:M3:=λws h=>match ws with
 |[.int j]=>if-(2^62)<=j/\j<=1000000 then nw .lst (lB ((Cg j.toNat).map λi:Nat=>(i:Int))) h else .bad
 |_=>.bad
def abi:Q7 F mK dK:=by
 intro σ ρ φ h H xs ws Q r as q;unfold dK at q
 split at q
 .rename_i j;obtain⟨v,rfl,a⟩:=as.one;erw[AV]at a;subst a
  split at q
  .rename_i An;refine⟨j,rfl,An.1,An.2,λl AI=>Pf r q AI Ec ?_⟩;have:=kZ (K:=F.K) (φ:=φ) (H:=H) ((Cg j.toNat).map λi:Nat=>(i:Int));rw[K4]at this;exact this
  .exact q.elim
 .exact q.elim
def ahE(hm:X.mg "list"=none)(VR:X.mg "range"=none)(AF:Hj X F [a] ma)(AK:X.calm=true:=by rfl)(Ar:En X "list":=by rfl)(VP:En X "range":=by rfl){HC pos':Pos}(AS:CM [a] X.env=[(false,Bd a X.env)]:=by rfl)(Iz:CM [.Call (.Name "range" HC) [a] [] pos'] X.env=[(false,Bd (.Call (.Name "range" HC) [a] [] pos') X.env)]:=by rfl) :
  AY X F (.Call (.Name "list" p) [.Call (.Name "range" HC) [a] [] pos'] [] pos) (BI dK ma):=⟨Aj.imp (acV Ar hm VP VR AK AF.p AS Iz) (S3 abi)⟩
end
end BJ
namespace BN
open PyProof.Rows
section
variable{X:Aw}{st:BO}{t:FS}
theorem Dn.HU(h:Dn X.HU st t):Dn X st t:=λA3 s σ H D A0 hw=>
 Im (h A3 s σ H D (A0.LG _) hw) (λ_ _ q=>q.Mb) λ_ _ z=>IQ z
end
section
variable{X:Aw}{A3:μ}{σ :St}{H:AE}{s:AR}{r:A6}
def Inv.swap(A0:θ){o o':Ev}(e:H r=↥o)(ok:EJ X.prog X.w (upd H r o') s.heap r o')(E1:∀xs,o≠.tup xs)(FN:∀x,o≠.own x)(Rj:∀ps,o≠.OU ps)(KF:∀BQ u,X.M8 r≠↥(.Dg BQ u)):Inv X A3 σ (upd H r o') s:=by
 have ne:∀{b:A6},H b=none->b≠r:=λz q=>by subst q;rw[e]at z;cases z
 have DH:∀{b:A6}{u:Ev},H b=↥u->u≠o->upd H r o' b=↥u:=λ{b u} z q=>by
  by_cases A4:b=r
  .subst A4;rw[e]at z;cases z;exact absurd rfl q
  .rw[DK A4];exact z
 refine⟨A0.ok,A0.os,A0.bare,⟨A0.base.keep,A0.base.slot,λb BQ h1 h2 BF=>?_,A0.base.there,λb xs q=>DH (A0.base.JK b xs q) λz=>E1 xs z.symm,λb BQ u q=>?_,λb ps q=>?_⟩,A0.loc,A0.cell,?_,λx c q=>?_,λp AX=>?_,λa u q=>?_,A0.len⟩
 .have:=A0.base.free b BQ h1 h2 BF;rw[DK (ne this)];exact this
 .by_cases A4:b=r
  .subst A4;exact absurd q (KF BQ u)
  .rw[DK A4];exact A0.base.I7 b BQ u q
 .obtain⟨more,q⟩:=A0.base.JJ b ps q;exact⟨more,DH q λz=>Rj _ z.symm⟩
 .rw[DK (ne A0.free)];exact A0.free
 .rw[DK (ne (A0.Ll x c q))];exact A0.Ll x c q
 .obtain⟨h1,h2,BF⟩:=A0.pin p AX;exact⟨h1,by rw[DK (ne h2)];exact h2,BF⟩
 .by_cases AF:a=r
  .subst AF;rw[Ec]at q;cases q;exact ok
  .rw[DK AF]at q;exact(A0.BB a u q).Ng (λ_ _ _ z=>z) (λb z=>DH z λy=>FN _ y.symm) λb xs z=>DH z λy=>E1 _ y.symm
end
noncomputable def gg(a:A6)(o:Obj)(AD:↑(Key×V)):It:=
 ⟨λi H=>H a=↥(.Dg o (.BM AD))/\i< ⇑AD,λi H x AC=>AC=H/\∃Ca,AD[i]?=↥Ca/\x=D0 Ca.1,λi H=>H a=↥(.Dg o (.BM AD))/\i=⇑AD⟩
theorem l2{P:CD}{w:Bq}:∀{es:↑O9}{vs:↑(Key×A8)}{AD:↑(Key×V)},Pairs (HA P w) es vs->Fn AD vs->⇑es=⇑AD/\∀(i:Nat) e,es[i]?=↥e->∃Ca,AD[i]?=↥Ca/\RelV (D0 Ca.1) e.key
 |_,_,_,.nil,.nil=>⟨rfl,λi e h=>by simp at h⟩
 |_,_,Ca::_,.cons a _ p,.cons b r=>by
  obtain⟨l,g⟩:=l2 p r;refine⟨by simp[l],λi e h=>?_⟩;cases i with
  |zero=>
   simp at h;subst h;refine⟨Ca,rfl,?_⟩;rw[aaX,<-b.1]at a;rcases NK a with⟨j,t,A9,AG⟩|⟨x,t,A9,AG⟩
   .rw[A9,AG];exact⟨t,rfl⟩
   .rw[A9,AG];exact⟨t,rfl⟩
  |succ i=>obtain⟨dw,h1,h2⟩:=g i e (h:);exact⟨dw,(h1:),h2⟩
def aeT{P:CD}{w:Bq}{K:Ao}{C4:Au}{a it:A6}{o:Obj}{AD:↑(Key×V)}{es:Array O9}{B9:Nat}(Lp:a≠it)(AM:o.ExactDict)(hd:o.data=.dict es B9)(AI:es.size=⇑AD)(AQ:∀(i:Nat) e,es.toList[i]?=↥e->∃Ca,AD[i]?=↥Ca/\RelV (D0 Ca.1) e.key) :
  Turn P w K C4 (gg a o AD) [it] it (λi h=>h.IsKeyIter it a i es.size B9) where
 mem:=γ
 obj:=λi h st b A4=>by
  have e:b=it:=(A4:)
  subst e;obtain⟨o,e,c,d⟩:=st;exact⟨o,e,λv z=>by rw[d]at z;cases z⟩
 keep:=λi h h' st k=>st.at λo e=>k it γ o e
 item:=by
  nofun;obtain⟨Ac,AA⟩:=Ar;have ho:s.heap.get? a=↥o:=(show EJ X.prog X.w H s.heap a (.Dg o (.BM AD))from A0.BB a _ Ac).1;obtain⟨f0,f1,f2,FK,f4,GC⟩:=hf it γ;have Yj:i<es.size:=δ
  refine LT.adp st ⟨o,ho,AM,hd⟩ Yj λh' Gz HD=>?_;have Ai:Inv X A3 σ H { s with heap:=h' }:=A0.turned (t':=s.toks) (λb o A4 e=>(HD.2 b A4).trans e) f0 f1 FK f4 GC;obtain⟨Ca,A9,AG⟩:=AQ i es[i] (by simp[Yj]);obtain⟨o',e,c,d⟩:=id Gz;exact⟨_,rfl,T3 (s:={ s with heap:=h' }) e c d ε ⟨D0 Ca.1,H,Ai,AG,⟨rfl,Ca,A9,rfl⟩,Gz,λb A4=>(hf b A4).1⟩⟩
 done:=by nofun;obtain⟨Ac,AA⟩:=Ar;have ho:s.heap.get? a=↥o:=(show EJ X.prog X.w H s.heap a (.Dg o (.BM AD))from A0.BB a _ Ac).1;obtain⟨f0,f1,f2,FK,f4,GC⟩:=hf it γ;rw[AA,<-AI]at st;exact LT.ado (A0.ok.hd AK) st ⟨o,ho,AM,hd⟩ λh' B4=>⟨rfl,A0.turned (t':=s.toks) (λb o A4 e=>B4 b o A4 e) f0 f1 FK f4 GC⟩
 self:=λ_ _ _ _ _ st h=>wpAny_pyIter_keyiter st h
section
variable{X:Aw}{C4:Au}
def YP(X:Aw)(mk:A6->Obj->↑(Key×V)->It)(Hw:TE):TI:=λσ H R=>Hw σ H λx H1=>∃a AD,x=.ref a/\H1 a=↥(.BM AD)/\∀o,(∀BQ u,X.M8 a≠↥(.Dg BQ u))->R (mk a o AD) (upd H1 a (.Dg o (.BM AD)))
def eh{e:Au}{Hw:TE}(AI:Aj X e Hw):Hi X C4 e (YP X gg Hw):=by
 intro A3 s σ H R A0 h;refine Ba (AI A3 s σ H _ A0 h) λv s1⟨x,H1,Ai,As,Aq⟩=>?_;obtain⟨a,AD,rfl,AF,k⟩:=Aq;cases As;obtain⟨z,hd,vs,rel,dd⟩:=RD Ai.BB AF;obtain⟨o,es,B9,g1,g2,g3,g4,Nr,ct⟩:=id dd;obtain⟨l,g⟩:=l2 Nr rel;have hz:es.size=⇑AD:=by rw[<-l];simp
 have KF:∀BQ u,X.M8 a≠↥(.Dg BQ u):=λBQ u q=>by have:=Ai.base.I7 a BQ u q;rw[AF]at this;cases this
 refine LT.adq hd ⟨o,g1,g2,g3⟩ ?_;have Lp:a≠s1.heap.objs.size:=FG (EN g1);have Bz:=Ai.swap (o':=.Dg o (.BM AD)) AF ⟨g1,z,hd,vs,rel,dd⟩ (λ_ q=>nomatch q) (λ_ q=>nomatch q) (λ_ q=>nomatch q) KF;refine⟨s1.heap.objs.size,[s1.heap.objs.size],_,_,_,rfl,Bz.kept (t':=s1.toks) λb o e=>Dm _ e,aeT Lp g2 g3 hz g,⟨_,GG _ rfl,rfl,rfl⟩,λb A4=>?_,k o KF⟩;have e:b=s1.heap.objs.size:=(A4:)
 subst e;exact Bz.No (CB _) (Bz.BB.fresh (CB _))
def TX(X:Aw)(Q:AE->Prop)(H:AE):Prop:=∃r o AD,(∀BQ u,X.M8 r≠↥(.Dg BQ u))/\H r=↥(.Dg o (.BM AD))/\Q (upd H r (.BM AD))
noncomputable def Ends.Hv(X:Aw)(D:Ends):Ends:=⟨λσ =>TX X (D.AP σ),λv=>TX X (D.Dp v),λ_ _=>False,λ_ _=>False⟩
def eY{A3:μ}{σ :St}{H:AE}{s:AR}{Q:AE->Prop}(A0:θ)(q:TX X Q H):∃AC,Inv X A3 σ AC s/\Q AC:=by obtain⟨r,o,AD,KF,e,q⟩:=q;exact⟨_,A0.swap (o':=.BM AD) e (show EJ X.prog X.w (upd H r (.BM AD)) s.heap r (.BM AD)from(show EJ X.prog X.w H s.heap r (.Dg o (.BM AD))from A0.BB r _ e).2) (λ_ q=>nomatch q) (λ_ q=>nomatch q) (λ_ q=>nomatch q) KF,q⟩
def mx{st:BO}{t:FS}(h:Dn X st t):Dn X st (λD σ H=>t (D.Hv X) σ H):=λA3 s σ H D A0 hw=>
 Ba (h A3 s σ H _ A0 hw) λf s' q=>by
  cases f with
  |next=>obtain⟨σ',AC,H4,q⟩:=q;obtain⟨AH,Bz,BV⟩:=eY H4 q;exact⟨σ',AH,Bz,BV⟩
  |brk=>obtain⟨σ',AC,H4,q⟩:=q;cases q
  |cont=>obtain⟨σ',AC,H4,q⟩:=q;cases q
  |ret u=>obtain⟨v,σ',AC,H4,r,q⟩:=q;obtain⟨AH,Bz,BV⟩:=eY H4 q;exact⟨v,σ',AH,Bz,r,BV⟩
end
end BN
namespace BJ
section
variable{X:Aw}{F:DN}{e a b o:Au}{es:↑Au}{pos p Cm:Pos}{m n:B8}{ma:DQ}{C4 iter c:Au}{g:DR}{body:↑BO}{mi:G6}{Gs:Ap}{Wh:DY}
noncomputable def HB:R (F7×A5)->R (F7×A5)
 |.exc _ _=>.bad
 |r=>r
def VD(m:Ap):Ap:=λρ h=>HB (m ρ h)
def Rel.e6{φ:↑A6}{h:A5}{H:AE}{σ :St}{ρ:Ay}(r:Rel F.AP φ h H σ ρ):Rel F φ h H σ ρ:=⟨r.hd,r.x0,r.len,r.CP⟩
def bw{m:Ap}:KQ (GP F (VD m)) (GP F.AP m):=λDe σ H⟨φ,ρ,h,r,q⟩=>by
 refine⟨φ,ρ,h,r.AP,?_⟩;unfold VD at q;cases e:m ρ h with
 |bad=>rw[e]at q;exact q
 |exc c h'=>rw[e]at q;cases q
 |ok p=>
  rw[e]at q;obtain⟨f,h1⟩:=p;cases f with
  |AP Eh=>exact λσ' Bb AC r x=>q σ' Bb AC r.e6 x
  |Bv Eh=>exact λσ' Bb AC r x=>q σ' Bb AC r.e6 x
  |D7 Eh=>exact λσ' Bb AC r x=>q σ' Bb AC r.e6 x
  |Dp w=>exact q
def Em(mi:G6)(g:DR)(b:Ap):Ap:=VD (SE mi g b)
def SG(c:DY)(b:Ap):Ap:=VD (a7 c b)
def ahx(AA:Pi X.HU F.AP C4 iter mi)(Ar:R2 X.HU F.AP C4 g)(A4:Lc X.HU F.AP body Gs)(AK:X.calm=true:=by rfl)(AS:∀x,Mv iter X.env x=pure x:=by intro _;rfl):G7 X F (.For C4 iter body [] pos) (Em mi g Gs):=
 ⟨Dn.imp (Dn.HU (mw fz AK AA.p Ar.p A4.p AS)) λDe σ H q=>xZ De σ H (bw De σ H q)⟩
def ai7(AK:Fi X.HU F.AP c Wh)(A4:Lc X.HU F.AP body Gs):G7 X F (.While c body [] pos) (SG Wh Gs):=
 ⟨Dn.imp (Dn.HU (ae9 fz AK.p A4.p)) λDe σ H q=>zH De σ H (bw De σ H q)⟩
def dm:Key->W
 |.inl i=>.int i
 |.inr x=>.str x
noncomputable def Oc(AZ:↑Key):Gn:=λi _=>if i=⇑AZ then↥none else(AZ[i]?).map λk=>↥(dm k)
noncomputable def aew(n:Nat):R (F7×A5)->R (F7×A5)
 |.ok (.AP ρ,h)=>match h[n]? with
  |some ⟨.G9 AZ,ws⟩=>.ok (.AP ρ,h.set n ⟨.BM AZ,ws⟩)
  |_=>.bad
 |.ok (.Dp w,h)=>match h[n]? with
  |some ⟨.G9 AZ,ws⟩=>.ok (.Dp w,h.set n ⟨.BM AZ,ws⟩)
  |_=>.bad
 |_=>.bad
abbrev Pg:=↑Key->↑W->Gn
def jw(it:Pg)(m:B8)(g:DR)(b:Ap):Ap:=bd m λw ρ h=>match w with
 |.ref n=>match h[n]? with
  |some ⟨.BM AZ,ws⟩=>aew n (Mo (it AZ ws) g b L0 0 ρ (h.set n ⟨.G9 AZ,ws⟩))
  |_=>.bad
 |_=>.bad
def YN(it:Pg)(mk:A6->Obj->↑(Key×V)->It):Prop:=∀(K:Ao)(φ:↑A6)(H:AE)(a:A6)(o:Obj)(AD:↑(Key×V))(ws:↑W),H a=↥(.Dg o (.BM AD))->Al K φ H ws (AD.map (·.2))->IU K φ H (it (AD.map (·.1)) ws) (mk a o AD)
section
variable{K:Ao}{φ:↑A6}{H:AE}{d:A6}{BQ:Obj}{AD:↑(Key×V)}{u:Ev}
mutual
theorem AV.Hv(e:H d=↥(.Dg BQ (.BM AD))):∀{w:W}{v:V},AV K φ H w v->AV K φ (upd H d u) w v
 |.non,_,h|.AL _,_,h|.int _,_,h|.str _,_,h|.ref _,_,h=>by simpa only[AV]using h
 |.tup _,_,h=>by erw[AV]at h |-;obtain⟨a,xs,A9,q,r⟩:=h;exact⟨a,xs,A9,by rw[DK λz=>by subst z;rw[e]at q;cases q];exact q,Al.Hv e r⟩
 |.Ho _,_,h=>by
  erw[AV]at h |-;obtain⟨a,xs,A9,q,r⟩:=h;refine⟨a,xs,A9,?_,Al.Hv e r⟩;rcases q with(q|⟨o,q⟩)|q
  .exact .inl (.inl (by rw[DK λz=>by subst z;rw[e]at q;cases q];exact q))
  .exact .inl (.inr ⟨o,by rw[DK λz=>by subst z;rw[e]at q;cases q];exact q⟩)
  .exact .inr q
 |.D1 _,_,h=>by
  erw[AV]at h |-;obtain⟨a,xs,A9,q,r⟩:=h;refine⟨a,xs,A9,?_,Al.Hv e r⟩;rcases q with⟨o,q⟩|q
  .exact .inl ⟨o,by rw[DK λz=>by subst z;rw[e]at q;cases q];exact q⟩
  .exact .inr q
 |.P9 _,_,h=>by erw[AV]at h |-;obtain⟨a,C,A9,c,q⟩:=h;exact⟨a,C,A9,c,by rw[DK λz=>by subst z;rw[e]at q;cases q];exact q⟩
theorem Al.Hv(e:H d=↥(.Dg BQ (.BM AD))):∀{ws:↑W}{vs:↑V},Al K φ H ws vs->Al K φ (upd H d u) ws vs
 |[],_,h=>by simpa only[Al]using h
 |_::_,_,h=>by erw[Al]at h |-;obtain⟨v,r,A9,q,t⟩:=h;exact⟨v,r,A9,AV.Hv e q,Al.Hv e t⟩
end
theorem DD.Hv{h:A5}{n:Nat}{AZ:↑Key}{ws:↑W}(x:DD K φ h H)(B2:h[n]?=↥⟨.G9 AZ,ws⟩)(BX:φ[n]?=↥d)(e:H d=↥(.Dg BQ (.BM AD))):DD K φ (h.set n ⟨.BM AZ,ws⟩) (upd H d (.BM AD)):=by
 refine⟨x.Bj,by simp[x.len],λm FU b A9 AG=>?_⟩;by_cases hm:n=m
 .subst hm;rw[LJ (List.getElem?_eq_some_iff.mp B2).1]at A9;rw[BX]at AG;cases A9;cases AG;obtain⟨xs,⟨o,aid,q,Aq,BV⟩,r⟩:=x.BQ n _ d B2 BX;rw[e]at q;cases q;exact⟨xs,⟨AD,Ec,Aq,BV⟩,Al.Hv e r⟩
 .rw[PL hm]at A9;obtain⟨ys,DZ,Bm⟩:=x.BQ m FU b A9 AG;refine⟨ys,DZ.same (DK λz=>?_),Al.Hv e Bm⟩;subst z;obtain⟨Cs,Js⟩:=List.getElem?_eq_some_iff.mp BX;obtain⟨Ft,Kj⟩:=List.getElem?_eq_some_iff.mp AG;exact hm ((XQ x.Bj).mp (Js.trans Kj.symm))
end
def dn:YN (λAZ _=>Oc AZ) gg:=λK φ H a o AD ws e _ i CR h2 AH d x=>by
 have AG:=x.t a _ e trivial;unfold Oc;dsimp only;by_cases AA:i=⇑AD
 .rw[if_pos (AA:)];exact⟨λ_=>⟨AG,AA⟩,λw z=>by cases z⟩
 .rw[if_neg (AA:)];cases EP:AD[i]? with
  |none=>simp[EP]
  |some Ca=>refine⟨(λz=>by simp[EP]at z),λw z=>?_⟩;simp[EP]at z;subst z;refine⟨⟨AG,(List.getElem?_eq_some_iff.mp EP).1⟩,λy AC Af=>?_⟩;obtain⟨rfl,dw,Bg,rfl⟩:=Af;rw[EP]at Bg;cases Bg;refine⟨d,Ak.refl _ _,?_⟩;cases Ca.1<;>erw[dm,AV,D0]
def x_{it:Pg}{mk:A6->Obj->↑(Key×V)->It}(ok:YN it mk):KQ (GP F (jw it m g Gs)) (λDe σ H=>aR (YP X mk (CA F m)) (LY F g) (GP F Gs) (De.Hv X) σ H):=λDe σ H q=>by
 obtain⟨φ,ρ,h,r,q⟩:=q;refine⟨φ,ρ,h,r,ER.bd q λw v By h1 H1 As Cc E5 q=>?_⟩
 split at q
 .rename_i n
  split at q
  .rename_i AZ ws B2;obtain⟨a,xs,rfl,BX,⟨AD,AF,rfl,rfl⟩,BL⟩:=As.hd.at B2 E5;refine⟨a,AD,rfl,AF,λo KF=>?_⟩;have ns:¬Still (.BM AD):=λz=>z;have W2:Ak By H1 By (upd H1 a (.Dg o (.BM AD))):=Ak.put AF ns;have GY:=As.to (As.hd.put (o':=⟨.G9 _,ws⟩) B2 BX AF ns ⟨o,AD,Ec,rfl,rfl⟩ BL) W2;have Bv:∀Bb AC,Ak By (upd H1 a (.Dg o (.BM AD))) Bb AC->AC a=↥(.Dg o (.BM AD))/\Bb[n]?=↥a/\Ak By H1 Bb (upd AC a (.BM AD)):=λBb AC x=>⟨x.t a _ Ec trivial,Ea x.p BX,x.p,λb u e s=>by
    have nb:b≠a:=λz=>by subst z;rw[AF]at e;cases e;exact s
    rw[DK nb];exact x.t b u (by rw[DK nb];exact e) s⟩
   refine for_in (De:=De.Hv X) GY (ok F.K By _ a o AD ws Ec (BL.ex W2)) ?_;cases e:Mo (it (AD.map (·.1)) ws) g Gs L0 0 ρ (h1.set n ⟨.G9 (AD.map (·.1)),ws⟩)with
   |bad=>rw[e]at q;cases q
   |exc c h'=>rw[e]at q;cases q
   |ok p=>
    rw[e]at q;obtain⟨f,h2⟩:=p;cases f with
    |AP Dx=>
     intro σ2 CR AH BK CK;obtain⟨b1,Ey,P1⟩:=Bv CR AH CK;have q:ER F By H1 De (match h2[n]? with
      |some ⟨.G9 AZ,ws⟩=>.ok (.AP Dx,h2.set n ⟨.BM AZ,ws⟩)
      |_=>.bad):=q
     split at q
     .rename_i NL ws' Vz;refine⟨a,o,AD,KF,b1,q σ2 CR _ ⟨BK.hd.Hv Vz Ey b1,As.x0.trans P1,BK.len,λi w e=>?_⟩ P1⟩;obtain⟨v,A9,Aq⟩:=BK.CP i w e;exact⟨v,A9,AV.Hv b1 Aq⟩
     .exact q.elim
    |Dp w=>
     intro v CR AH Ek CK a2;obtain⟨b1,Ey,P1⟩:=Bv CR AH CK;have q:ER F By H1 De (match h2[n]? with
      |some ⟨.G9 AZ,ws⟩=>.ok (.Dp w,h2.set n ⟨.BM AZ,ws⟩)
      |_=>.bad):=q
     split at q
     .rename_i NL ws' Vz;exact⟨a,o,AD,KF,b1,q v CR _ (Ek.Hv Vz Ey b1) P1 (AV.Hv b1 a2)⟩
     .exact q.elim
    |Bv _=>cases q
    |D7 _=>cases q
  .exact q.elim
 .exact q.elim
def ab9(m:B8)(g:DR)(b:Ap):Ap:=VD (jw (λAZ _=>Oc AZ) m g b)
def ahw(AA:AY X.HU F.AP iter m)(Ar:R2 X.HU F.AP C4 g)(A4:Lc X.HU F.AP body Gs)(AK:X.calm=true:=by rfl)(AS:∀x,Mv iter X.env x=pure x:=by intro _;rfl):G7 X F (.For C4 iter body [] pos) (ab9 m g Gs):=
 ⟨Dn.imp (Dn.HU (mx (mw fz AK (eh AA.p) Ar.p A4.p AS))) λDe σ H q=>x_ dn De σ H (bw De σ H q)⟩
end
end BJ
namespace BN
open PyProof.Rows
section
variable{X:Aw}
def hF(a:A6)(n:Nat)(h:BG):Prop:=∃o es B9 t,h.get? a=↥o/\o.ExactSet/\o.data=.set es B9 t/\t.fits es.size=true/\es.size=n
def ZU(a:A6)(n:Nat):Ev:=.ext (hF a n)
def aen{P:CD}{w:Bq}{H:AE}{h:BG}{a:A6}{n:Nat}(x:hF a n h):EJ P w H h a (ZU a n):=
 ⟨x,by obtain⟨o,_,_,_,e,_⟩:=x;exact⟨o,e⟩,λh1 h2 y k=>by obtain⟨o,es,B9,t,e,r⟩:=y;exact⟨o,es,B9,t,k o e,r⟩⟩
def hq(H:AE)(ys:↑V)(keys:↑↑Key):Prop:=⇑keys=⇑ys/\∀(i:Nat) y k,ys[i]?=↥y->keys[i]?=↥k->∃b,y=.ref b/\H b=↥(.tup (k.map D0))
def adi(K:Ao):↑V->AE->CV->Prop:=λxs H Q=>∃p ys keys,xs=[.ref p]/\ET K H p ys/\ ⇑ys<77/\hq H ys keys/\keys.Nodup/\∀l,H l=none->Q (.ref l) (upd H l (ZU l ⇑keys))
def th(hh:X.A.handled=none)(BS:X.A.units+64<Dr):Jj X (.type "set") (adi X.K):=by
 intro A3 s σ H xs us Q A0 r h;obtain⟨p,ys,keys,rfl,Ac,Ae,⟨AI,AQ⟩,Bj,q⟩:=h;obtain⟨u,rfl,Ax⟩:=vals1 r;cases Ax;obtain⟨its,Bm,pl,hz⟩:=A0.list Ac;have hlen:=⇑Bm;refine Xd.ti (knd:=HA X.prog X.w) (items:=its.toArray) (keys:=keys) hh BS pl.isList (by rw[Df];lia) Bj (by rw[Df];lia) (λi v CL=>?_) λh' DJ T DH=>?_
 .have CL:its[i]?=↥v:=by simpa using CL
  have AA:=(List.getElem?_eq_some_iff.mp CL).1;have Dv:ys[i]?=↥ys[i]:=C3 δ;have EP:keys[i]?=↥keys[i]:=C3 δ;obtain⟨b,A9,AG⟩:=AQ i _ _ Dv EP;obtain⟨IF,Ys,C1⟩:=Bm.get Dv;rw[CL]at Ys;cases Ys;rw[A9]at C1;cases C1;exact⟨b,_,rfl,EP,SA A0.BB AG⟩
 .exact⟨.ref s.heap.objs.size,_,A0.laid (t':=DJ) DH (CB _) (aen T),rfl,q _ (A0.BB.fresh (CB _))⟩
def adg:↑V->AE->CV->Prop:=λxs H Q=>∃a n,xs=[.ref a]/\H a=↥(ZU a n)/\n<1000/\Q (.int n) H
def tf:Jj X (.builtin "len") adg:=by intro A3 s σ H xs us Q A0 r h;obtain⟨a,n,rfl,AF,Ae,q⟩:=h;obtain⟨u,rfl,Ax⟩:=vals1 r;cases Ax;obtain⟨⟨o,es,B9,t,g1,g2,g3,g4,Nr⟩,_⟩:=(show EJ X.prog X.w H s.heap a (ZU a n)from A0.BB a _ AF);subst Nr;exact call_len_set g1 g2 g3 g4 δ ⟨.int es.size,H,A0.tok _,⟨_,rfl⟩,q⟩
noncomputable def et(b:Bool):D6:=λx y H Q=>∃p q AD,x=.ref p/\y=.ref q/\KR H p (.BM AD)/\H q=↥(.BM [])/\Q (.AL (AD.isEmpty==b)) H
def lL(BS:X.A.units+64<Dr):Dy X (G0 .Eq) (et true):=by
 intro A3 s σ H x y v u Q A0 Ax Bn h;obtain⟨p,q,AD,rfl,rfl,AX,Ac,h⟩:=h;obtain rfl:v=DB p:=Ax;obtain rfl:u=DB q:=Bn;obtain⟨FP,d1,vs,As,Hp⟩:=P5 A0.BB AX;obtain⟨FE,Ek,us,BK,H8⟩:=RD A0.BB Ac;have Er:us=[]:=by cases BK;rfl
 subst Er;have AQ:(⇑vs==⇑([]:↑(Key×A8))&&true)=AD.isEmpty:=by cases As<;>rfl
 refine PySem.W.keq_eq (r:=true) d1 Ek Hp H8 δ (λe=>?_) ?_
 .cases vs with
  |nil=>exact .nil
  |cons _ _=>simp at e
 .rw[AQ];exact⟨.AL _,H,A0,rfl,(h:)⟩
def lP(BS:X.A.units+64<Dr):Dy X (G0 .NotEq) (et false):=by
 intro A3 s σ H x y v u Q A0 Ax Bn h;obtain⟨p,q,AD,rfl,rfl,AX,Ac,h⟩:=h;obtain rfl:v=DB p:=Ax;obtain rfl:u=DB q:=Bn;obtain⟨FP,d1,vs,As,Hp⟩:=P5 A0.BB AX;obtain⟨FE,Ek,us,BK,H8⟩:=RD A0.BB Ac;have Er:us=[]:=by cases BK;rfl
 subst Er;have AQ:(⇑vs==⇑([]:↑(Key×A8))&&true)=AD.isEmpty:=by cases As<;>rfl
 refine PySem.W.keq_ne (r:=true) d1 Ek Hp H8 δ (λe=>?_) ?_
 .cases vs with
  |nil=>exact .nil
  |cons _ _=>simp at e
 .rw[AQ];exact⟨.AL _,H,A0,rfl,(h:)⟩
end
end BN
namespace BJ
section
variable{X:Aw}{F:DN}{e a b o:Au}{es:↑Au}{pos p Cm HC pos':Pos}{m n:B8}{ma:DQ}
noncomputable def Ti(b:Bool):W->A5->R (W×A5):=λw h=>match w with
 |.ref n=>match h[n]? with
  |some ⟨.BM AZ,_⟩=>.ok (.AL (AZ.isEmpty==b),h)
  |some ⟨.G9 AZ,_⟩=>.ok (.AL (AZ.isEmpty==b),h)
  |_=>.bad
 |_=>.bad
def YQ(b:Bool):F8 (CA F (BD (Ti b) m)) (Tt (et b) (CA F m) eU):=λσ H Q q=>
 q.bd λw v φ ρ h H1 r E5 q p AX=>by
   have BK:=r.to (r.hd.lay (o:=.BM []) AX) (Ak.lay AX);unfold Ti at q
   split at q
   .split at q
    .rename_i AZ ws B2;obtain⟨d,xs,rfl,Bc,⟨AD,AF,rfl,rfl⟩,BL⟩:=r.hd.at B2 E5;refine⟨d,p,AD,rfl,rfl,.inl (by rw[DK (Ku AF AX)];exact AF),Ec,q _ φ _ BK (Ak.lay AX) ?_⟩;erw[AV];cases AD<;>rfl
    .rename_i AZ ws B2;obtain⟨d,xs,rfl,Bc,⟨o,AD,AF,rfl,rfl⟩,BL⟩:=r.hd.at B2 E5;refine⟨d,p,AD,rfl,rfl,.inr ⟨o,by rw[DK (Ku AF AX)];exact AF⟩,Ec,q _ φ _ BK (Ak.lay AX) ?_⟩;erw[AV];cases AD<;>rfl
    .exact q.elim
   .exact q.elim
def agx(BS:X.A.units+64<Dr)(AF:AY X F a m):AY X F (.Compare a [.Eq] [.Dict [] [] Cm] pos) (BD (Ti true) m):=⟨Aj.imp (Lz (lL BS) AF.p W9 (Hr _)) (YQ true)⟩
def ai9(BS:X.A.units+64<Dr)(AF:AY X F a m):Fi X F (.Compare a [.Eq] [.Dict [] [] Cm] pos) (Ad (BD (Ti true) m)):=⟨E_.imp (M0 (lL BS) AF.p W9 (Hr _)) λσ H Q q=>YQ true σ H _ (Kg σ H Q q)⟩
def ag_(BS:X.A.units+64<Dr)(AF:AY X F a m):AY X F (.Compare a [.NotEq] [.Dict [] [] Cm] pos) (BD (Ti false) m):=⟨Aj.imp (Lz (lP BS) AF.p W9 (Hr _)) (YQ false)⟩
def ahV(BS:X.A.units+64<Dr)(AF:AY X F a m):Fi X F (.Compare a [.NotEq] [.Dict [] [] Cm] pos) (Ad (BD (Ti false) m)):=⟨E_.imp (M0 (lP BS) AF.p W9 (Hr _)) λσ H Q q=>YQ false σ H _ (Kg σ H Q q)⟩
def aeR{K:Ao}{φ:↑A6}{H:AE}{ws:↑W}{AZ:↑Ex}{xs:↑V}(e:ws.mapM NW=↥AZ)(a:Al K φ H ws xs):hq H xs AZ:=by
 have p:=dN (P:=λk v=>∃b,v=.ref b/\H b=↥(.tup (k.map D0))) dY e a;exact⟨⇑p,λi y k A9 AG=>by
  clear e a;induction p generalizing i with
  |nil=>cases A9
  |cons r _ CC=>
   cases i with
   |zero=>cases A9;cases AG;exact r
   |succ i=>exact CC i A9 AG⟩
def V8:M3:=λws h=>match ws with
 |[w]=>match Dw h w with
  |some (false,us)=>if ⇑us<77 then match us.mapM NW with
   |some AZ=>if AZ.Nodup then .ok (.int ⇑AZ,h)else .bad
   |none=>.bad
   else .bad
  |_=>.bad
 |_=>.bad
def ahC{k:Nat}(BZ:DE k X.A)(hm:X.mg "len"=none)(VR:X.mg "set"=none)(AF:Hj X F [e] ma)(A_:F.K=X.K:=by rfl)(Ar:En X "len":=by rfl)(VP:En X "set":=by rfl)(AS:CM [.Call (.Name "set" HC) [e] [] pos'] X.env=(false,Bd (.Call (.Name "set" HC) [e] [] pos') X.env)::CM [] X.env:=by rfl)(he:CM [e] X.env=(false,Bd e X.env)::CM [] X.env:=by rfl)(Gp:(Fh pos (CM [] X.env)).any (·.1)=false:=by rfl)(y6:(Fh pos' (CM [] X.env)).any (·.1)=false:=by rfl) :
  AY X F (.Call (.Name "len" p) [.Call (.Name "set" HC) [e] [] pos'] [] pos) (BI V8 ma):=
 ⟨Aj.imp (Zm tf Ar hm PySem.boot_len (MU (W8 (th BZ.hd BZ.units) VP VR (by kernel_rfl) AF.p ε ε he y6) Ow AS) ε ε AS Gp) λσ H Q q=>
   q.bd λws vs φ ρ h H1 r as q=>by
     unfold V8 at q
     split at q
     .obtain⟨v,rfl,E5⟩:=as.one
      split at q
      .rename_i us es;obtain⟨d,xs,rfl,Ac,BL⟩:=JH r.hd E5 es
       split at q
       .rename_i AI
        split at q
        .rename_i AZ EP
         split at q
         .rename_i Bj;have kt:=aeR EP BL;have H7:=⇑BL;have Ac:ET F.K H1 d xs:=Ac;refine⟨d,xs,AZ,rfl,A_▸Ac,δ,kt,Bj,λl PF=>?_⟩;have:=kt.1;exact⟨l,_,rfl,Ec,δ,q _ φ _ (r.to (r.hd.lay PF) (Ak.lay PF)) (Ak.lay PF) (by erw[AV])⟩
         .exact q.elim
        .exact q.elim
       .exact q.elim
      .exact q.elim
     .exact q.elim⟩
end
end BJ
namespace BN
open PyProof.Rows
theorem kJ:∀{AD:↑(Key×V)}{vs:↑(Key×A8)},Fn AD vs->∀(i:Nat) Ca,AD[i]?=↥Ca->∃v,vs[i]?=↥(Ca.1,v)/\RelV Ca.2 v
 |_,_,.nil,i,Ca,e=>by simp at e
 |_,_,.cons h t,0,Ca,e=>by simp at e;subst e;rename_i p q _ _;exact⟨q.2,by rw[h.1];rfl,h.2⟩
 |_,_,.cons h t,i+1,Ca,e=>by obtain⟨v,A9,AG⟩:=kJ t i Ca (e:);exact⟨v,(A9:),AG⟩
theorem Vb:∀{AD:↑(Key×V)}{vs:↑(Key×A8)},Fn AD vs->⇑AD=⇑vs
 |_,_,.nil=>rfl
 |_,_,.cons _ t=>by simp[Vb t]
def cr{P:CD}{w:Bq}{H:AE}{h:BG}{a:A6}{o:Obj}{AD:↑(Key×V)}{es:Array O9}{B9:Nat}(hd:o.data=.dict es B9)(x:EJ P w H h a (.Dg o (.BM AD))):∃vs,Fn AD vs/\h.DictAt (HA P w) a vs B9:=by obtain⟨ho,z,Af,vs,rel,o',es',Lk,g1,g2,g3,g4,Nr,ct⟩:=x;rw[ho]at g1;cases g1;rw[hd]at g3;cases g3;exact⟨vs,rel,_,_,ho,g2,hd,g4,Nr,ct⟩
noncomputable def gk(a:A6)(o:Obj)(AD:↑(Key×V)):It:=
 ⟨λi H=>H a=↥(.Dg o (.BM AD))/\i< ⇑AD,λi H x AC=>AC=H/\∃Ca,AD[i]?=↥Ca/\x=Ca.2,λi H=>H a=↥(.Dg o (.BM AD))/\i=⇑AD⟩
def aeY{P:CD}{w:Bq}{K:Ao}{C4:Au}{a it:A6}{o:Obj}{AD:↑(Key×V)}{es:Array O9}{B9:Nat}(Lp:a≠it)(hd:o.data=.dict es B9) :
  Turn P w K C4 (gk a o AD) [it] it (λi h=>h.IsValIter it a i ⇑AD B9) where
 mem:=γ
 obj:=λi h st b A4=>by
  have e:b=it:=(A4:)
  subst e;obtain⟨o,e,c,d⟩:=st;exact⟨o,e,λv z=>by rw[d]at z;cases z⟩
 keep:=λi h h' st k=>by obtain⟨o,e,c,d⟩:=st;exact⟨o,k it γ o e,c,d⟩
 item:=by nofun;obtain⟨Ac,AA⟩:=Ar;obtain⟨vs,rel,dd⟩:=cr hd (show EJ X.prog X.w H s.heap a (.Dg o (.BM AD))from A0.BB a _ Ac);obtain⟨f0,f1,f2,FK,f4,GC⟩:=hf it γ;obtain⟨v,ev,C1⟩:=kJ rel i AD[i] (C3 AA);rw[Vb rel]at st;refine wpAny_pyNext_values_item st dd ev λh' Gz HD=>?_;have Ai:Inv X A3 σ H { s with heap:=h' }:=A0.turned (t':=s.toks) (λb o A4 e=>(HD.2 b A4).trans e) f0 f1 FK f4 GC;obtain⟨o',e,c,d⟩:=id Gz;rw[<-Vb rel]at Gz;exact⟨_,rfl,T3 (s:={ s with heap:=h' }) e c d ε ⟨AD[i].2,H,Ai,C1,⟨rfl,_,C3 AA,rfl⟩,Gz,λb A4=>(hf b A4).1⟩⟩
 done:=by nofun;obtain⟨Ac,AA⟩:=Ar;obtain⟨vs,rel,dd⟩:=cr hd (show EJ X.prog X.w H s.heap a (.Dg o (.BM AD))from A0.BB a _ Ac);obtain⟨f0,f1,f2,FK,f4,GC⟩:=hf it γ;rw[Vb rel]at st AA;exact wpAny_pyNext_values_end (A0.ok.hd AK) st dd (by rw[AA];simp) λh' B4=>⟨rfl,A0.turned (t':=s.toks) (λb o A4 e=>B4 b o A4 e) f0 f1 FK f4 GC⟩
 self:=λ_ _ _ _ _ st h=>wpAny_pyIter_valiter st h
section
variable{X:Aw}
theorem acp{C4 o:Au}{Hu:TE}{apos Cv:Pos}(ho:Aj X o Hu)(A4:Ko o "values" X.env (Bd o X.env)=Bd o X.env:=by rfl)(AI:(apos.endLine==Cv.line)=true:=by rfl)(hf:((Fh Cv (CM [] X.env)).all (λx=>!x.1)&&(LQ Cv (LO [] X.env)).all (λx=>x.1.isSome)&&decide (⇑([]:↑Au)+⇑([]:↑Kr)+(if([]:↑Kr).isEmpty then 0 else 1)<30))=true:=by rfl)(BY:Fh Cv (CM [] X.env)=[]:=by rfl) :
  Hi X C4 (.Call (.Attribute o "values" apos) [] [] Cv) (YP X gk Hu):=by
 intro A3 s σ H R A0 h;refine fZ A4 hf AI fU PySem.F.slot_dict_values PySem.F.type_dict_values (Ba (ho A3 s σ H _ A0 h) λu s1⟨x,H1,Ai,Ax,d,AD,ex,hd,q⟩=>?_);subst ex;obtain rfl:u=DB d:=Ax;obtain⟨t1,Cn,_⟩:=c5 Ai (.inl ⟨AD,.inl hd⟩);refine⟨t1,Cn,?_⟩;rw[BY];refine UR rfl (rf ?_);obtain⟨z,Af,vs,rel,dd⟩:=RD Ai.BB hd;obtain⟨BQ,es,B9,g1,g2,g3,g4,Nr,ct⟩:=id dd;have KF:∀BQ u,X.M8 d≠↥(.Dg BQ u):=λBQ u q=>by have:=Ai.base.I7 d BQ u q;rw[hd]at this;cases this
 refine Uh F.slot_dict_values t1 F.entry_dict_values (F.args_dict_values_1 _) (meets_dict_values (HA X.prog X.w) d Af) ⟨⟨vs,dd⟩,?_⟩;have Bz:=Ai.swap (o':=.Dg BQ (.BM AD)) hd ⟨g1,z,Af,vs,rel,dd⟩ (λ_ q=>nomatch q) (λ_ q=>nomatch q) (λ_ q=>nomatch q) KF;have Da:Inv X A3 σ _ { s1 with heap:=s1.heap.push { cls:=.type "dict_values",data:=.fields #[.ref d] } }:=Bz.kept (t':=s1.toks) λb o e=>Dm _ e;obtain⟨ajR,adx,ZD⟩:=cr g3 (show EJ X.prog X.w _ _ d (.Dg BQ (.BM AD))from Da.BB d _ Ec);refine wpAny_pyIter_values ⟨_,GG _ rfl,rfl,rfl⟩ ZD ?_;have Lp:d≠(s1.heap.push { cls:=.type "dict_values",data:=.fields #[.ref d] }).objs.size:=FG (EN (Dm _ g1));refine⟨_,[_],_,_,_,rfl,Da.kept (t':=s1.toks) λb o e=>Dm _ e,aeY Lp g3,⟨_,GG _ rfl,rfl,by rw[Vb adx];rfl⟩,λb A4=>?_,q BQ KF⟩;obtain rfl:=List.mem_singleton.mp A4;exact Da.No (CB _) (Da.BB.fresh (CB _))
end
def l5{X:Aw}{e:Au}{t:TE}(h:Aj X e t):Aj X e (λσ H Q=>t σ H λv=>TX X (Q v)):=λA3 s σ H Q A0 hw=>
 Ba (h A3 s σ H _ A0 hw) λv s'⟨x,AC,H4,r,q⟩=>by obtain⟨AH,Bz,BV⟩:=eY H4 q;exact⟨x,AH,Bz,r,BV⟩
section
variable{X:Aw}{k:Nat}{f C:A6}{fd:Hh}{ps:↑Str}{sp:Co}{E:Fo}{m:Str}{pos apos:Pos}{o e:Au}{es:↑Au}{C0:TE}{t:FZ}
end
section
variable{X:Aw}{j:Nat}{x y:Str}{W:A6}{e:Au}{E8:TE}{E:Fo}{uO:BO}{aem:↑BO}{ea:FS}{ad9 np AX pos py:Pos}
end
end BN
namespace BJ
noncomputable def OX:Pg:=λ_ ws i _=>if i=⇑ws then↥none else(ws[i]?).map some
noncomputable def aib:Pg:=λAZ ws i _=>if i=⇑ws then↥none else match AZ[i]?,ws[i]? with
 |some k,↥w=>↥↥(.tup [dm k,w])
 |_,_=>none
def agM:YN OX gk:=λK φ H a o AD ws e C1 i CR h2 AH d x=>by
 have AG:=x.t a _ e trivial;have H7:⇑ws=⇑AD:=by rw[⇑C1,Cd]
 unfold OX;by_cases AA:i=⇑AD
 .rw[if_pos δ];exact⟨λ_=>⟨AG,AA⟩,λw z=>by cases z⟩
 .rw[if_neg δ];cases EP:ws[i]? with
  |none=>simp
  |some u=>
   refine⟨(λz=>by simp at z),λw z=>?_⟩;simp at z;subst z;obtain⟨v,ev,E5⟩:=C1.get EP;rw[Dl]at ev;cases ZJ:AD[i]? with
   |none=>rw[ZJ]at ev;cases ev
   |some Ca=>rw[ZJ]at ev;cases ev;refine⟨⟨AG,(List.getElem?_eq_some_iff.mp ZJ).1⟩,λy AC Af=>?_⟩;obtain⟨rfl,dw,Bg,rfl⟩:=Af;rw[ZJ]at Bg;cases Bg;exact⟨d,Ak.refl _ _,E5.ex x⟩
section
variable{X:Aw}{F:DN}{e a b o:Au}{es:↑Au}{pos p Cm apos Cv:Pos}{m n:B8}{ma:DQ}{C4 iter c:Au}{g:DR}{body:↑BO}{mi:G6}{Gs:Ap}{Wh:DY}{elt:Au}{ifs:↑Au}{scope:FH}{mt:DY}{Op:B8}
noncomputable def eX(n:Nat):R (W×A5)->R (W×A5)
 |.ok (w,h)=>match h[n]? with
  |some ⟨.G9 AZ,ws⟩=>.ok (w,h.set n ⟨.BM AZ,ws⟩)
  |_=>.bad
 |_=>.bad
def Lv(it:Pg)(nl:Nat)(caps:↑Nat)(m:B8)(g:DR)(HE:DY)(elt:B8):B8:=bd m λw ρ h=>match w with
 |.ref n=>match h[n]? with
  |some ⟨.BM AZ,ws⟩=>eX n (CW nl caps (pu (it AZ ws)) g HE elt ρ (h.set n ⟨.G9 AZ,ws⟩))
  |_=>.bad
 |_=>.bad
def cT{it:Pg}{mk:A6->Obj->↑(Key×V)->It}(ok:YN it mk){nl:Nat}{caps:↑Nat}:F8 (CA F (Lv it nl caps m g mt Op)) (λσ H Q=>WL (YP X mk (CA F m)) (λx σ H Q=>∃DW CG,LY (Ia F.K DW CG) g x σ H Q) (λσ H Q=>∃DW CG,Hb (Ia F.K DW CG) mt σ H Q) (λσ H Q=>∃DW CG,CA (Ia F.K DW CG) Op σ H Q) nl caps σ H λv=>TX X (Q v)):=λσ H Q q=>
 q.bd λw v By ρ h1 H1 As E5 q=>by
   split at q
   .rename_i n
    split at q
    .rename_i AZ ws B2;obtain⟨a,xs,rfl,BX,⟨AD,AF,rfl,rfl⟩,BL⟩:=As.hd.at B2 E5;refine⟨a,AD,rfl,AF,λo KF=>?_⟩;have ns:¬Still (.BM AD):=λz=>z;have W2:Ak By H1 By (upd H1 a (.Dg o (.BM AD))):=Ak.put AF ns;have GY:=As.to (As.hd.put (o':=⟨.G9 _,ws⟩) B2 BX AF ns ⟨o,AD,Ec,rfl,rfl⟩ BL) W2;have Bv:∀Bb AC,Ak By (upd H1 a (.Dg o (.BM AD))) Bb AC->AC a=↥(.Dg o (.BM AD))/\Bb[n]?=↥a/\Ak By H1 Bb (upd AC a (.BM AD)):=λBb AC x=>⟨x.t a _ Ec trivial,Ea x.p BX,x.p,λb u e s=>by
      have nb:b≠a:=λz=>by subst z;rw[AF]at e;cases e;exact s
      rw[DK nb];exact x.t b u (by rw[DK nb];exact e) s⟩
     refine ig (Q:=λv=>TX X (Q v)) GY (ok F.K By _ a o AD ws Ec (BL.ex W2)) ?_;cases e:CW nl caps (pu (it (AD.map (·.1)) ws)) g mt Op ρ (h1.set n ⟨.G9 (AD.map (·.1)),ws⟩)with
     |bad=>rw[e]at q;cases q
     |exc c h'=>rw[e]at q;cases q
     |ok p=>
      rw[e]at q;obtain⟨w,h2⟩:=p;intro v CR AH BK CK a2;obtain⟨b1,Ey,P1⟩:=Bv CR AH CK;have q:Ee AV F By H1 σ ρ Q (match h2[n]? with
       |some ⟨.G9 AZ,ws⟩=>.ok (w,h2.set n ⟨.BM AZ,ws⟩)
       |_=>.bad):=q
      split at q
      .rename_i NL ws' Vz;refine⟨a,o,AD,KF,b1,q v CR _ ⟨BK.hd.Hv Vz Ey b1,As.x0.trans P1,BK.len,λi w e=>?_⟩ P1 (AV.Hv b1 a2)⟩;obtain⟨v,A9,Aq⟩:=BK.CP i w e;exact⟨v,A9,AV.Hv b1 Aq⟩
      .exact q.elim
    .exact q.elim
   .exact q.elim
def afU(nl:Nat)(caps:↑Nat)(S:RB X.env.scope X.N scope Δ nl caps=true)(AA:AY X F o m)(Ar:ON X scope Δ C4 g)(BY:BT X scope Δ ifs mt)(he:Sn X scope Δ elt Op)(AK:X.calm=true:=by rfl)(A_:F.K=X.K:=by rfl)(AS:∀x,Mv (.Call (.Attribute o "values" apos) [] [] Cv) X.env x=pure x:=by intro _;rfl)(h1:Ko o "values" X.env (Bd o X.env)=Bd o X.env:=by rfl)(h2:(apos.endLine==Cv.line)=true:=by rfl) :
  AY X F (.ListComp elt [⟨C4,.Call (.Attribute o "values" apos) [] [] Cv,ifs,0⟩] scope pos) (Lv OX nl caps m g mt Op):=by
 obtain⟨C7,Cz,GR⟩:=Vq nl caps A_ Ar BY he;exact⟨Aj.imp (l5 (dC (K9.of S) AK (acp AA.p h1 h2) C7 Cz GR AS)) (cT agM)⟩
def afT(nl:Nat)(caps:↑Nat)(S:RB X.env.scope X.N scope Δ nl caps=true)(AA:AY X F o m)(Ar:ON X scope Δ C4 g)(BY:BT X scope Δ ifs mt)(he:Sn X scope Δ elt Op)(AK:X.calm=true:=by rfl)(A_:F.K=X.K:=by rfl)(AS:∀x,Mv o X.env x=pure x:=by intro _;rfl) :
  AY X F (.ListComp elt [⟨C4,o,ifs,0⟩] scope pos) (Lv (λAZ _=>Oc AZ) nl caps m g mt Op):=by
 obtain⟨C7,Cz,GR⟩:=Vq nl caps A_ Ar BY he;exact⟨Aj.imp (l5 (dC (K9.of S) AK (eh AA.p) C7 Cz GR AS)) (cT dn)⟩
def ahr(i:Nat)(nl:Nat)(caps:↑Nat){y:Str}{py:Pos}(hN:X.N.Nodup)(S:RB X.env.scope X.N scope Δ nl caps=true)(AA:AY X F o m)(Ar:ON X scope Δ C4 g)(BY:BT X scope Δ ifs mt)(he:Sn X scope Δ elt Op)(Af:X.N[i]?=↥y:=by rfl)(AI:X.env.kindOf y=↥.local:=by rfl)(VU:PS (.ListComp elt [⟨C4,o,ifs,0⟩] scope Cv) ↥(.Name y py) pos.line X.env=pure true:=by rfl)(AK:X.calm=true:=by rfl)(A_:F.K=X.K:=by rfl)(AS:∀x,Mv o X.env x=pure x:=by intro _;rfl) :
  G7 X F (.Assign [.Name y py] (.ListComp elt [⟨C4,o,ifs,0⟩] scope Cv) pos) (Am (Lv (λAZ _=>Oc AZ) nl caps m g mt Op) (AB i)):=by
 obtain⟨C7,Cz,GR⟩:=Vq nl caps A_ Ar BY he;refine⟨Dn.imp (mx (mv (K9.of S) AK hN Af AI (eh AA.p) C7 Cz GR VU AS)) λDe σ H q=>?_⟩;obtain⟨φ,ρ,h,r,q⟩:=q;refine cT dn σ H (λv AC=>De.AP (σ.set i ↥v) AC) ⟨φ,ρ,h,r,ER.bd q λw v By h1 H1 As Cc a q=>?_⟩;unfold AB at q
 split at q
 .rename_i AA;exact q _ By H1 (As.set AA a) (Ak.refl _ _)
 .exact q.elim
theorem LZ.imp{α β:Type}{rel:Ao->↑A6->AE->α->β->Prop}{m:M α}{σ :St}{H:AE}{Q HL:β->AE->Prop}(h:LZ rel F m σ H Q)(f:∀b H,Q b H->HL b H):LZ rel F m σ H HL:=by obtain⟨φ,ρ,h,r,q⟩:=h;exact⟨φ,ρ,h,r,q.imp f⟩
structure s_(K:Ao)(mg:Str->Option A8)(x:Str)(cs:↑Str):Prop where
 ex:∃W,mg x=↥(.ref W)/\∀c∈cs,∃C,Ip K c C/\XH K (.ref C) (.ref W)=↥true
end
open PySem PySem.Spec BN PyProof.Rows
section
variable{X:Aw}{F:DN}{o e:Au}{m n:B8}{apos pos:Pos}
def mD(K:Ao):V->↑V->AE->CV->Prop:=λx vs H Q=>∃d1 ds y j,vs=[y]/\G4 K H d1 y/\G4 K H (.CZ false ds) x/\GO 7 d1=true/\ds.all (GO 7)=true/\ds.findIdx? (λz=>eqT z d1)=↥j/\j<1000000/\Q (.int (j:Nat)) H
def aah(BS:X.A.units+64<Dr):N7 X "list.index" (mD X.K):=by
 intro A3 s σ H x vs v us Q A0 Ax C1 h;obtain⟨d1,ds,y,j,rfl,a1,a2,F4,FU,An,AS,q⟩:=h;erw[G4]at a2;obtain⟨p,xs,rfl,Ac,al⟩:=a2;cases Ax;obtain⟨u,rfl,Eg⟩:=vals1 C1;obtain⟨its,r,⟨⟨cls,dict,data,slots⟩,nn,g1,g2,g3,g4⟩,_⟩:=A0.list Ac;simp only at g2 g3 g4;subst g2 g3 g4;obtain⟨hm,em⟩:=Xr A0 (A:=X.A.in1) (d1:=d1) (by show X.A.units+1+8<Dr;lia) F4 a1 Eg al r FU;obtain⟨Dc,A9,AG⟩:=List.findIdx?_eq_some_iff_getElem.mp An;have TA:⇑its=⇑ds:=by rw[<- ⇑r,<- ⇑al]
 have hO:∀(i:Nat)(h:i< ⇑ds),Le X.K H d1 (its[i]' δ)=eqT ds[i] d1:=λi h=>by have:=congrArg (λl:↑Bool=>l[i]?) em;simpa[h,show i< ⇑its by lia]using this
 have D4:s.TypeIs (.ref p) "list":=⟨_,g1,rfl⟩;have yD:(j:Int)<2^63-1:=by
  have:(j:Int)<1000000:=δ
  lia
 refine O6 s6 D4 PySem.F.entry_list_index (PySem.F.args_list_index_2 _ _) (SeqAt.list_indexAt p its.toArray nn _ slots u (Le X.K H d1) j (by simpa[TA]using Dc) yD ?_ ?_) ⟨g1,λw hw=>hm w (hw:),?_⟩
 .have:=hO j Dc;rw[A9]at this;simpa using this
 .intro k AQ x4;have z:=hO k δ;have DS:=AG k x4;rw[Bool.not_eq_true]at DS;rw[DS]at z;simpa using z
 .exact⟨.int (j:Nat),H,A0.tok _,⟨_,rfl⟩,q⟩
def YS(x y:W)(h:A5):R (W×A5):=match Bu 7 h y,Bu 8 h x with
 |some d1,↥(.CZ false ds)=>match ds.findIdx? (λz=>eqT z d1)with
  |some j=>if j<1000000 then .ok (.int (j:Nat),h)else .bad
  |none=>.bad
 |_,_=>.bad
def Oh(m:B8)(ma:DQ):B8:=bd m λx=>Ms x (bd ma λus _ h=>match us with
 |[y]=>YS x y h
 |_=>.bad)
def xa{ma:DQ}(A_:F.K=X.K):F8 (CA F (Oh m ma)) (WJ X.K "list" (mD X.K) (CA F m) (G2 F ma)):=λσ H Q q=>
 q.bd λw v φ ρ h H1 Gu a q=>by
   unfold Ms at q
   split at q
   .rename_i nw e;obtain⟨k,ws⟩:=nw;obtain⟨p,xs,rfl,B2,B9,AX,BL⟩:=LA Gu.hd a e;refine⟨.inl ⟨rfl,xs,.inl (.inl AX)⟩,φ,ρ,h,Gu,q.bd λus vs CR h2 AH BK CK as q=>?_⟩
    split at q
    .rename_i y;erw[Al]at as;obtain⟨v1,eB,rfl,E5,rfl⟩:=as;unfold YS at q
     split at q
     .rename_i d1 ds A9 AG
      split at q
      .rename_i j FJ
       split at q
       .rename_i An;obtain⟨b1,C7⟩:=UQ BK.hd 7 A9 E5;obtain⟨Ey,Cz⟩:=UQ BK.hd 8 AG (a.ex CK);rw[A_]at b1 Ey;exact⟨d1,ds,v1,j,rfl,b1,Ey,C7,Cz,FJ,An,q _ CR AH BK (Ak.refl _ _) (by erw[AV])⟩
       .exact q.elim
      .exact q.elim
     .exact q.elim
    .exact q.elim
   .exact q.elim
def ah4(BS:X.A.units+64<Dr)(ho:AY X F o m)(AF:AY X F e n)(A_:F.K=X.K:=by rfl)(k:N5 X o "index" apos pos e:=by exact{}):AY X F (.Call (.Attribute o "index" apos) [e] [] pos) (Oh m (Z n A2)):=
 ⟨Aj.imp (UO QV s6 PySem.F.type_list_index (aah BS) ho.p (MU AF.p Ow k.s) k.b k.f k.l k.s k.h) λσ H Q z=>xa A_ σ H Q z|>λ⟨φ,ρ,h,r,z⟩=>⟨φ,ρ,h,r,z.imp λv H1⟨ty,t⟩=>⟨ty,Pz σ H1 _ t|>λ⟨φ,ρ,h,r,z⟩=>⟨φ,ρ,h,r,z.imp λv AH t=>Q0 σ AH _ t⟩⟩⟩⟩
end
end BJ
namespace BN
open PyProof.Rows
section
variable{X:Aw}
def mE:V->↑V->AE->CV->Prop:=λx vs H Q=>∃l xs i y,x=.ref l/\vs=[.int i,y]/\0<=i/\i<2^62/\H l=↥(.lst xs)/\ ⇑xs<CU/\Q .non (upd H l (.lst (xs.take i.toNat++y::xs.drop i.toNat)))
theorem aai:Ss X "list.insert" mE:=by
 intro A3 s σ H x vs v us Q A0 Ax C1 h;obtain⟨l,xs,i,y,rfl,rfl,h0,h1,GU,hz,q⟩:=h;cases Ax;obtain⟨rE,u,rfl,⟨t,rfl⟩,Eg⟩:=vals2 C1;obtain⟨z,its,n,r,AI,e⟩:=A0.NN GU;have w8:¬(!Builtin.List.listFitsIndex i)=true:=by
  have:rW i=true:=by erw[rW,I1,decide_eq_true_eq];lia
  rw[this];simp
 refine O6 F.slot_list_insert ⟨_,e,rfl⟩ F.entry_list_insert (F.args_list_insert_3 _ _ _) (AutoSeq1.list_insert_list_int_val_1 l its.toArray n i t u w8 (by rw[Df];lia)) ⟨e,?_⟩;refine⟨.non,_,A0.Sy (its':=its.take i.toNat++u::its.drop i.toNat) GU e ?_ ((r.take _).append (.cons Eg (r.drop _))) ?_,rfl,q⟩
 .have:¬i<0:=δ
  erw[if_neg this,Df];apply Array.toList_inj.mp;have t1:its.take (min i.toNat ⇑its)=its.take i.toNat:=by
   rcases gG i.toNat ⇑its with z|z
   .rw[UX z]
   .rw[gA z,Nz (CB _),Nz z]
  have Cn:its.drop (min i.toNat ⇑its)=its.drop i.toNat:=by
   rcases gG i.toNat ⇑its with z|z
   .rw[UX z]
   .rw[gA z,sC (CB _),sC z]
  have t3:(its.drop i.toNat).take (⇑its-min i.toNat ⇑its)=its.drop i.toNat:=Nz (by rw[QY];lia);simp[t1,Cn,t3]
 .rw[EL,FF,LK,QY];lia
end
end BN
namespace BJ
section
variable{X:Aw}{F:DN}{o e i:Au}{m n k:B8}{ma:DQ}{apos pos:Pos}
noncomputable def Q1:M4:=λws us=>match us with
 |[.int i,w]=>if 0<=i/\i<2^62 then↥(.non,ws.take i.toNat++w::ws.drop i.toNat)else none
 |_=>none
def abd:Su F mE Q1:=by
 intro σ ρ φ h H n p ws us xs vs Q Cf ws' Gu B2 B9 AX BL as C2 AI q;unfold Q1 at C2
 split at C2
 .split at C2
  .rename_i i w AA;cases C2;erw[Al]at as;obtain⟨v0,N_,rfl,Gj,v,As,rfl,E5,rfl⟩:=as;erw[AV]at Gj;subst Gj;have Ct:⇑(ws.take i.toNat++w::ws.drop i.toNat)=⇑ws+1:=by rw[EL,FF,LK,QY];lia
   rw[Ct,⇑BL]at AI;exact⟨p,xs,i,v,rfl,rfl,AA.1,AA.2,AX,GH (Nat.lt_of_succ_le AI) ε,Sx Gu B2 B9 AX ((BL.take _).append (.cons E5 (BL.drop _))) WD q⟩
  .cases C2
 .cases C2
structure M2(X:Aw)(o:Au)(x:Str)(apos Cv:Pos)(i e:Au):Prop where
 b:Ko o x X.env (Bd o X.env)=Bd o X.env:=by rfl
 l:(apos.endLine==Cv.line)=true:=by rfl
 f:((Fh Cv (CM [i,e] X.env)).all (λx=>!x.1)&&(LQ Cv (LO [] X.env)).all (λx=>x.1.isSome)&&decide (⇑([i,e]:↑Au)+⇑([]:↑Kr)+(if([]:↑Kr).isEmpty then 0 else 1)<30))=true:=by rfl
 s:CM [i,e] X.env=(false,Bd i X.env)::CM [e] X.env:=by rfl
 s2:CM [e] X.env=(false,Bd e X.env)::CM [] X.env:=by rfl
 h:(Fh Cv (CM [e] X.env)).any (·.1)=false:=by rfl
def ah5(ho:AY X F o m)(AA:AY X F i k)(AF:AY X F e n)(A_:F.K=X.K:=by rfl)(q:M2 X o "insert" apos pos i e:=by exact{}):AY X F (.Call (.Attribute o "insert" apos) [i,e] [] pos) (EA Q1 m (Z k (Z n A2))):=
 ⟨Aj.imp (UO QV PySem.F.slot_list_insert PySem.F.type_list_insert aai ho.p (MU AA.p (MU AF.p Ow q.s2) q.s) q.b q.f q.l q.s q.h) λσ H Q z=>YR A_ abd σ H Q z|>λ⟨φ,ρ,h,r,z⟩=>⟨φ,ρ,h,r,z.imp λv H1⟨ty,t⟩=>⟨ty,Pz σ H1 _ t|>λ⟨φ,ρ,h,r,z⟩=>⟨φ,ρ,h,r,z.imp λv AH t=>Pz σ AH _ t|>λ⟨φ,ρ,h,r,z⟩=>⟨φ,ρ,h,r,z.imp λv AH t=>Q0 σ AH _ t⟩⟩⟩⟩⟩
def NQ(o:B8)(ma:DQ):B8:=bd o λw=>Ms w (bd ma λus ρ h=>SD (cZ h) w us ρ h)
def xW(A_:F.K=X.K):F8 (CA F (NQ m ma)) (WJ X.K "list" mC (CA F m) (G2 F ma)):=λσ H Q q=>
 q.bd λw v φ ρ h H1 Gu a q=>by
   unfold Ms at q
   split at q
   .rename_i nw e;obtain⟨n,ws⟩:=nw;obtain⟨p,xs,rfl,B2,B9,AX,BL⟩:=LA Gu.hd a e;refine⟨.inl ⟨rfl,xs,.inl (.inl AX)⟩,φ,ρ,h,Gu,q.bd λus vs CR h2 AH BK CK as q=>?_⟩;unfold SD at q
    split at q
    .rename_i FN ws2 AG;obtain⟨Cm,aj,Lk,av,b2,TD,OP⟩:=LA BK.hd (a.ex CK) AG;cases Lk
     split at q
     .rename_i Cf ws' C2
      split at q
      .rename_i AI;unfold cZ at C2
       split at C2
       .rename_i afh;obtain⟨ajO,rfl,ab⟩:=as.one;cases DS:JW h2 afh with
        |none=>rw[DS]at C2;cases C2
        |some l3=>
         obtain⟨nb,ajS⟩:=l3;rw[DS]at C2;cases C2;obtain⟨b,zs,rfl,aj2,aj6,y5,rb⟩:=LA BK.hd ab DS;have Ct:⇑aj+⇑zs<=CU:=by rw[EL,⇑OP,⇑rb]at AI;exact Gm AI ε
         exact⟨p,b,aj,zs,rfl,rfl,TD,y5,Ct,Sx BK av b2 TD (OP.append rb) WD q⟩
       .cases C2
      .exact q.elim
     .exact q.elim
    .exact q.elim
   .exact q.elim
def agy(ho:AY X F o m)(AF:AY X F e n)(A_:F.K=X.K:=by rfl)(k:N5 X o "extend" apos pos e:=by exact{}):AY X F (.Call (.Attribute o "extend" apos) [e] [] pos) (NQ m (Z n A2)):=⟨Aj.imp (UO QV PySem.F.slot_list_extend PySem.F.type_list_extend aag ho.p (MU AF.p Ow k.s) k.b k.f k.l k.s k.h) λσ H Q q=>xW A_ σ H Q q|>λ⟨φ,ρ,h,r,z⟩=>⟨φ,ρ,h,r,z.imp λv H1⟨ty,t⟩=>⟨ty,Pz σ H1 _ t|>λ⟨φ,ρ,h,r,z⟩=>⟨φ,ρ,h,r,z.imp λv AH t=>Q0 σ AH _ t⟩⟩⟩⟩
end
end BJ
namespace BN
open PyProof.Rows
section
variable{X:Aw}
def rJoin(K:Ao):V->↑V->AE->CV->Prop:=λx vs H Q=>∃sep p ys,x=.str sep/\vs=[.ref p]/\ET K H p (ys.map V.str)/\(ys.map (·.length)).sum+⇑ys*⇑sep<=16777216/\Q (.str (Txt.join sep ys)) H
theorem pY:∀{ys:↑Str}{its:↑A8},Vals (ys.map V.str) its->StrsAre its ys
 |[],_,h=>by cases h;exact .nil
 |y::ys,_,h=>by
  cases h with
  |cons r KL=>obtain⟨t,rfl⟩:=r;exact .cons y t (pY KL)
def aaj:N7 X "str.join" (rJoin X.K):=by intro A3 s σ H x vs v us Q A0 Ax C1 h;obtain⟨sep,p,ys,rfl,rfl,Ac,hz,q⟩:=h;obtain⟨t,rfl⟩:=Ax;obtain⟨u,rfl,Eg⟩:=vals1 C1;cases Eg;obtain⟨its,r,pl,_⟩:=A0.list Ac;exact join_list pl.isList (pY r:) hz λt' k=>⟨.str _,H,A0.tok _,⟨_,rfl⟩,q⟩
end
end BN
namespace BJ
section
variable{X:Aw}{F:DN}{e:Au}{n:B8}{ma:DQ}{apos pos Oy:Pos}{sep:Str}{j:Nat}
def strOf:W->Option Str
 |.str x=>↥x
 |_=>none
def di(sep:Str)(w:W)(h:A5):R (W×A5):=match JW h w with
 |some (_,ws)=>match ws.mapM strOf with
  |some ys=>if(ys.map (·.length)).sum+⇑ys*⇑sep<=16777216 then .ok (.str (Txt.join sep ys),h)else .bad
  |none=>.bad
 |none=>.bad
def SF(sep:Str)(ma:DQ):B8:=bd ma λus _ h=>match us with
 |[w]=>di sep w h
 |_=>.bad
theorem pZ{K:Ao}{φ:↑A6}{H:AE}:∀{ws:↑W}{xs:↑V}{ys:↑Str},Al K φ H ws xs->ws.mapM strOf=↥ys->xs=ys.map V.str
 |[],xs,ys,r,e=>by erw[Al]at r;simp at e;subst r e;rfl
 |w::ws,xs,ys,r,e=>by
  erw[Al]at r;obtain⟨v,Bm,rfl,a,b⟩:=r;rw[O0]at e;cases A9:strOf w with
  |none=>rw[A9]at e;cases e
  |some y=>
   cases AG:ws.mapM strOf with
   |none=>rw[A9,AG]at e;cases e
   |some zs=>
    rw[A9,AG]at e;cases e;rw[pZ b AG];cases w<;>simp[strOf]at A9
    subst A9;erw[AV]at a;subst a;rfl
def y0(A_:F.K=X.K):F8 (CA F (SF sep ma)) (WJ X.K "str" (rJoin X.K) (OT (.str sep)) (G2 F ma)):=λσ H Q q=>
 ⟨rfl,q.bd λus vs φ ρ h H1 Gu as q=>by
   split at q
   .rename_i w;obtain⟨v,rfl,E5⟩:=as.one;unfold di at q
    split at q
    .rename_i nn ws A9
     split at q
     .rename_i ys AG
      split at q
      .rename_i hz;obtain⟨p,xs,rfl,B2,B9,AX,BL⟩:=LA Gu.hd E5 A9;have:=pZ BL AG;subst this;exact⟨sep,p,ys,rfl,rfl,.inl (.inl AX),hz,q _ φ H1 Gu (Ak.refl _ _) (by erw[AV])⟩
      .exact q.elim
     .exact q.elim
    .exact q.elim
   .exact q.elim⟩
def ah9(AF:AY X F e n)(A_:F.K=X.K:=by rfl)(k:N5 X (.Constant (.str sep) j Oy) "join" apos pos e:=by exact{}):AY X F (.Call (.Attribute (.Constant (.str sep) j Oy) "join" apos) [e] [] pos) (SF sep (Z n A2)):=
 ⟨Aj.imp (UO PySem.F.plainAttrs_str PySem.F.slot_str_join PySem.F.type_str_join aaj dD (MU AF.p Ow k.s) k.b k.f k.l k.s k.h) λσ H Q z=>y0 A_ σ H Q z|>λ⟨ty,t⟩=>⟨ty,Pz σ H _ t|>λ⟨φ,ρ,h,r,z⟩=>⟨φ,ρ,h,r,z.imp λv AH t=>Q0 σ AH _ t⟩⟩⟩
end
section
variable{α β:Type}
def Ends{α:Type}(r:R (α×A5))(T:α->A5->Prop):Prop:=∃a h,r=.ok (a,h)/\T a h
@[simp] theorem J(a:α)(k:α->R β):(R.ok a).bind k=k a:=rfl
@[simp] theorem ajP(k:α->R β):(R.bad:R α).bind k=.bad:=rfl
@[simp] theorem ajQ(c:Str)(h:A5)(k:α->R β):(R.exc c h:R α).bind k=.exc c h:=rfl
@[simp] theorem ay(a:α)(h:A5)(T:α->A5->Prop):Ends (.ok (a,h)) T↔T a h:=⟨λ⟨b,g,e,t⟩=>by cases e;exact t,λt=>⟨a,h,rfl,t⟩⟩
@[simp] theorem aj3(T:α->A5->Prop):Ends (.bad:R (α×A5)) T↔False:=⟨λ⟨b,g,e,t⟩=>(nomatch e),IQ⟩
@[simp] theorem aj4(c:Str)(h:A5)(T:α->A5->Prop):Ends (.exc c h:R (α×A5)) T↔False:=⟨λ⟨b,g,e,t⟩=>(nomatch e),IQ⟩
theorem Ends.bind{r:R (α×A5)}{k:α×A5->R (β×A5)}{S:α->A5->Prop}{T:β->A5->Prop}(h:Ends r S)(g:∀a h,S a h->Ends (k (a,h)) T):Ends (r.bind k) T:=by obtain⟨a,h',e,s⟩:=h;rw[e];exact g a h' s
def Ends.mono{r:R (α×A5)}{S T:α->A5->Prop}(h:Ends r S)(g:∀a h,S a h->T a h):Ends r T:=by obtain⟨a,h',e,s⟩:=h;exact⟨a,h',e,g a h' s⟩
def Ends.done{r:R (α×A5)}{a:α}{h:A5}(e:Ends r λb g=>b=a/\g=h):r=.ok (a,h):=by obtain⟨b,g,e,rfl,rfl⟩:=e;exact e
@[simp] theorem H0(m:M α)(k:α->M β)(ρ:Ay)(h:A5):bd m k ρ h=(m ρ h).bind λp=>k p.1 ρ p.2:=rfl
@[simp] theorem Ag(a:α)(ρ:Ay)(h:A5):pu a ρ h=.ok (a,h):=rfl
end
section
variable(ρ:Ay)(h g:A5)(m n:B8)(a:DQ)(s t:Ap)(c d:DY)
noncomputable def Oz:Option (Option W)->A5->R (W×A5)
 |some ↥w,h=>.ok (w,h)
 |_,_=>.bad
@[simp] theorem Fq(w:W):Oz ↥↥w h=.ok (w,h):=rfl
@[simp] theorem v_var(i:Nat):I i ρ h=Oz ρ[i]? h:=by
  unfold I Oz;cases ρ[i]? with
  |none=>rfl
  |some o=>cases o<;>rfl
@[simp] theorem AU(f:Iq):A1 f m n ρ h=(m ρ h).bind λp=>(n ρ p.2).bind λq=>f p.1 q.1 q.2:=rfl
@[simp] theorem H2(f:W->A5->R (W×A5)):BD f m ρ h=(m ρ h).bind λp=>f p.1 p.2:=rfl
@[simp] theorem BH:A2 ρ h=.ok ([],h):=rfl
@[simp] theorem AW:Z m a ρ h=(m ρ h).bind λp=>(a ρ p.2).bind λq=>.ok (p.1::q.1,q.2):=rfl
@[simp] theorem HF:BE a ρ h=(a ρ h).bind λp=>if ⇑p.1<=Bi then .ok (.tup p.1,p.2)else .bad:=by unfold BE bd;congr;funext p;dsimp only;split<;>rfl
@[simp] theorem Mc:Be a ρ h=(a ρ h).bind λp=>nw .lst p.1 p.2:=rfl
@[simp] theorem Fx(f:M3):BI f a ρ h=(a ρ h).bind λp=>f p.1 p.2:=rfl
@[simp] theorem EH(k:Nat)(f:Br):Aa k f a ρ h=(a ρ h).bind λp=>if ⇑p.1=k then f p.1 p.2 else .bad:=by unfold Aa bd;congr
noncomputable def Vj:W->A5->R (Bool×A5)
 |.AL b,h=>.ok (b,h)
 |_,_=>.bad
@[simp] theorem Db(b:Bool):Vj (.AL b) h=.ok (b,h):=rfl
@[simp] theorem D_:Ad m ρ h=(m ρ h).bind λp=>Vj p.1 p.2:=by unfold Ad bd;congr;funext p;cases p.1<;>rfl
@[simp] theorem v_and:JX c d ρ h=(c ρ h).bind λp=>if p.1=true then d ρ p.2 else .ok (false,p.2):=by unfold JX bd;congr;funext p;dsimp only;split<;>rfl
@[simp] theorem v_or:F2 c d ρ h=(c ρ h).bind λp=>if p.1=true then .ok (true,p.2)else d ρ p.2:=by unfold F2 bd;congr;funext p;dsimp only;split<;>rfl
@[simp] theorem v_not:D8 c ρ h=(c ρ h).bind λp=>.ok (!p.1,p.2):=rfl
@[simp] theorem af:Ie m n ρ h=(m ρ h).bind λp=>(Vj p.1 p.2).bind λq=>if q.1=true then n ρ q.2 else .ok (.AL false,q.2):=by unfold Ie bd;congr;funext p;cases p.1<;>first|rfl|(rename_i b;cases b<;>rfl)
@[simp] theorem agJ:PZ m n ρ h=(m ρ h).bind λp=>(Vj p.1 p.2).bind λq=>if q.1=true then .ok (.AL true,q.2)else n ρ q.2:=by unfold PZ bd;congr;funext p;cases p.1<;>first|rfl|(rename_i b;cases b<;>rfl)
@[simp] theorem ajK:VE m ρ h=(m ρ h).bind λp=>(Vj p.1 p.2).bind λq=>.ok (.AL (!q.1),q.2):=by unfold VE bd;congr;funext p;cases p.1<;>rfl
@[simp] theorem agG:KB c m n ρ h=(c ρ h).bind λp=>if p.1=true then m ρ p.2 else n ρ p.2:=by unfold KB bd;congr;funext p;dsimp only;split<;>rfl
noncomputable def QL(t:Ap):F7×A5->R (F7×A5)
 |(.AP ρ,h)=>t ρ h
 |p=>.ok p
@[simp] theorem B0:QL t (.AP ρ,h)=t ρ h:=rfl
@[simp] theorem MZ(w:W):QL t (.Dp w,h)=.ok (.Dp w,h):=rfl
@[simp] theorem Az:AT s t ρ h=(s ρ h).bind (QL t):=by unfold AT;congr
@[simp] theorem E9:C5 ρ h=.ok (.AP ρ,h):=rfl
@[simp] theorem IG:Di m ρ h=(m ρ h).bind λp=>.ok (.AP ρ,p.2):=rfl
@[simp] theorem EC:B1 m ρ h=(m ρ h).bind λp=>.ok (.Dp p.1,p.2):=rfl
@[simp] theorem DL:C8 c s t ρ h=(c ρ h).bind λp=>if p.1=true then s ρ p.2 else t ρ p.2:=by unfold C8 bd;congr;funext p;dsimp only;split<;>rfl
@[simp] theorem ajM(i:Nat)(w:W):AB i w ρ h=if i< ⇑ρ then .ok (.AP (ρ.set i ↥w),h)else .bad:=rfl
@[simp] theorem DV(f:DR):Am m f ρ h=(m ρ h).bind λp=>f p.1 ρ p.2:=rfl
@[simp] theorem ajI(f:DR):a6 m f ρ h=(m ρ h).bind λp=>ZW (f p.1 ρ p.2):=rfl
@[simp] theorem aj_:ZW (.ok (.AP ρ,h))=.ok (.AP ρ,h):=rfl
@[simp] theorem ajJ(N:Nat)(ws:↑W):FL N s ws h=(s (NJ N ws) h).bind outF:=rfl
@[simp] theorem rK(N:Nat)(ws:↑W):D2 N s ws h=(s (NJ N ws) h).bind λp=>(outF p).bind λq=>settle h q.1 q.2:=by unfold D2 FL;cases s (NJ N ws) h<;>rfl
@[simp] theorem lS:outF (.AP ρ,h)=.ok (.non,h):=rfl
@[simp] theorem Fm(w:W):outF (.Dp w,h)=.ok (w,h):=rfl
@[simp] theorem FV:CI m ρ h=(m ρ h).bind λp=>settle h p.1 p.2:=rfl
@[simp] theorem e9:MP c ρ h=(c ρ h).bind λp=>.ok (p.1,if FO h p.2=true then h else p.2):=rfl
@[simp] theorem agH(f:M4):EA f m a ρ h=(m ρ h).bind λp=>Ms p.1 (bd a λus=>SD f p.1 us) ρ p.2:=rfl
@[simp] theorem ajL(x:Str):MO x ρ h=.exc x h:=rfl
@[simp] theorem ajZ(p:F7×A5):HB (.ok p)=.ok p:=rfl
@[simp] theorem KO(mi:G6)(f:DR):Em mi f s ρ h=HB (SE mi f s ρ h):=rfl
@[simp] theorem ajN:SG c s ρ h=HB (a7 c s ρ h):=rfl
@[simp] theorem kY(N:Nat)(ws:↑W):NJ N ws=ws.map some++Gy (N- ⇑ws) none:=rfl
end
section
variable(h g:A5)
@[simp] theorem Qs(k:Nat):(h++g)[⇑h+k]?=g[k]?:=by rw[IN δ];congr 1;lia
@[simp] theorem C9:(h++g)[⇑h]?=g[0]?:=Qs h g 0
@[simp] theorem xP(k:Nat)(o:O):(h++g).set (⇑h+k) o=h++g.set k o:=by rw[ro _ _ δ];congr 2;lia
@[simp] theorem PC(o:O):(h++g).set ⇑h o=h++g.set 0 o:=xP h g 0 o
def CE{n:Nat}{o:O}(e:h[n]?=↥o)(g:A5):(h++g)[n]?=↥o:=by rw[Fz (List.getElem?_eq_some_iff.mp e).1];exact e
@[simp] theorem ajf(h g:A5):FO h (h++g)=true:=MV h g
@[simp] theorem ajj(h:A5):FO h h=true:=acT h
@[simp] theorem Nf(w:W)(e:DU w=true):settle h w h=.ok (w,h):=by unfold settle;simp[e]
@[simp] theorem Nd(w:W)(e:DU w=true):settle h w (h++g)=.ok (w,h):=by unfold settle;simp[e]
theorem mn:∀(h a b:A5),FO (h++a) (h++b)=FO a b
 |[],_,_=>rfl
 |o::h,a,b=>by erw[Ij,FO,R7,mn h a b];simp
@[simp] theorem ajg(h a b:A5):FO (h++a) (h++b)=FO a b:=mn h a b
@[simp] theorem aiv(a:↑W):KW a a=true:=R7 a
@[simp] theorem aji(h:A5):FO [] h=true:=by simp[FO]
@[simp] theorem ajh(o o':O)(h g:A5):FO (o::h) (o'::g)=(decide (o.k=o'.k)&&KW o.ws o'.ws&&FO h g):=by simp[FO]
@[simp] theorem QN(w:W)(e:DU w=true)(p:FO h g=true):settle h w g=.ok (w,h):=by unfold settle;simp[e,p]
def LF{n:Nat}{ws:↑W}(p:FO h g=true)(l:⇑h<=n)(e:g[n]?=↥⟨.lst,ws⟩)(KG:Fu ws=true):settle h KK g=.ok (.ref ⇑h,h++[⟨.lst,ws⟩]):=by unfold settle;simp[p,l,e,KG,DU]
def ae_(k:Nat){ws:↑W}(e:g[k]?=↥⟨.lst,ws⟩)(n:Fu ws=true):settle h (.ref (⇑h+k)) (h++g)=.ok (.ref ⇑h,h++[⟨.lst,ws⟩]):=by unfold settle;simp[e,n,DU]
def WH{ws:↑W}(e:g[0]?=↥⟨.lst,ws⟩)(n:Fu ws=true):settle h (.ref ⇑h) (h++g)=.ok (.ref ⇑h,h++[⟨.lst,ws⟩]):=ae_ h g 0 e n
def aea{n:Nat}(l:n< ⇑h):settle h KK (h++g)=.ok (.ref n,h):=by unfold settle;simp[DU,show¬⇑h<=n by lia]
@[simp] theorem Tq(ws:↑W):Dw h (.tup ws)=↥(true,ws):=by simp[Dw]
@[simp] theorem ajn(ws:↑W):Dw h (.Ho ws)=↥(true,ws):=by simp[Dw]
def Gf{n:Nat}{ws:↑W}(e:h[n]?=↥⟨.lst,ws⟩):Dw h KK=↥(false,ws):=by simp[Dw,e]
@[simp] theorem eL(ws:↑W):Dw h (.D1 ws)=↥(false,ws):=by simp[Dw]
def Kl{n:Nat}{ws:↑W}(e:h[n]?=↥⟨.lst,ws⟩):JW h KK=↥(n,ws):=by simp[JW,e]
@[simp] theorem aiI(i:Int):DU (.int i)=true:=by simp[DU]
@[simp] theorem aiN(i:Str):DU (.str i)=true:=by simp[DU]
@[simp] theorem aiq(i:Bool):DU (.AL i)=true:=by simp[DU]
@[simp] theorem aiL:DU .non=true:=by simp[DU]
@[simp] theorem aiP(ws:↑W):DU (.tup ws)=Fu ws:=by simp[DU]
@[simp] theorem aiK(ws:↑W):DU (.Ho ws)=Fu ws:=by simp[DU]
@[simp] theorem aiJ(ws:↑W):DU (.D1 ws)=Fu ws:=by simp[DU]
@[simp] theorem ajY:Fu []=true:=by simp[Fu]
@[simp] theorem aiQ(w:W)(ws:↑W):Fu (w::ws)=(DU w&&Fu ws):=by simp[Fu]
theorem Rk:∀{ws:↑W},Fu ws=true↔∀w∈ws,DU w=true
 |[]=>γ
 |w::ws=>by simp[Rk (ws:=ws)]
def NX{ws:↑W}(e:⇑ws<=Bi):nw .lst ws h=.ok (.ref ⇑h,h++[⟨.lst,ws⟩]):=if_pos e
end
section
variable(i j:Int)(h:A5)
@[simp] theorem Kv:addW (.int i) (.int j) h=.ok (.int (i+j),h):=rfl
@[simp] theorem acE:J4 (.int i) (.int j) h=.ok (.int (i-j),h):=rfl
@[simp] theorem lE:F3 (.int i) (.int j) h=if NE i j then .ok (.int (i*j),h)else .bad:=rfl
@[simp] theorem F5:Bf (.int i) (.int j) h=if 0<j then .ok (.int (i%j),h)else .bad:=by show(match(if 0<j then↥(W.int (i%j))else none)with|some w=>R.ok (w,h)|none=>R.bad)=_;by_cases AK:0<j<;>simp[AK]
@[simp] theorem Kw:EQ (.int i) (.int j) h=if 0<j/\j<1073741824 then .ok (.int (i/j),h)else .bad:=by show(match(if So i j then↥(W.int (i/j))else none)with|some w=>R.ok (w,h)|none=>R.bad)=_;unfold So;by_cases AK:0<j/\j<1073741824<;>simp[AK]
@[simp] theorem dc:Gd (.int i) (.int j) h=if NF i j then .ok (.int (i^j.toNat),h)else .bad:=by show(match(if NF i j then↥(W.int (i^j.toNat))else none)with|some w=>R.ok (w,h)|none=>R.bad)=_;by_cases AK:NF i j<;>simp[AK]
@[simp] theorem acD:NO (.int i) (.int j) h=.ok (.AL (decide (i<j)),h):=rfl
@[simp] theorem lD:Ls (.int i) (.int j) h=.ok (.AL (decide (i<=j)),h):=rfl
@[simp] theorem db:Kd (.int i) (.int j) h=.ok (.AL (decide (j<i)),h):=rfl
@[simp] theorem ajb:cv (.int i) (.int j) h=.ok (.AL (decide (j<=i)),h):=rfl
@[simp] theorem ZX:BC true (.int i) (.int j) h=.ok (.AL (decide (i=j)),h):=by erw[BC,Bu,eqT];by_cases e:i=j<;>simp[e]
@[simp] theorem ajc:BC false (.int i) (.int j) h=.ok (.AL (!decide (i=j)),h):=by erw[BC,Bu,eqT];by_cases e:i=j<;>simp[e]
def YX{t:Bool}{x:W}{ws:↑W}{k:Nat}{w:W}(e:Dw h x=↥(t,ws))(AM:ws[k]?=↥w):A7 x (.int (k:Int)) h=.ok (w,h):=by
 have AQ:k< ⇑ws:=(List.getElem?_eq_some_iff.mp AM).1;have ex:TJ x (.int (k:Int)) h=.ok (w,h):=by
  have:KV ws (k:Int)=↥w:=by unfold KV Oa;rw[if_pos δ,if_pos δ];simpa using AM
  unfold TJ;cases x<;>first|(simp[e,this];done)|(simp[Dw]at e)
 unfold A7;have hd:GT h x (.int (k:Int))=none:=by
  unfold GT;cases x<;>first|rfl|skip
  rename_i n;unfold Dw at e;dsimp only at e |-
  split at e<;>rename_i B2<;>first|(rw[B2];done)|(cases e;done)
 rw[hd];exact ex
end
def ND(A0:Ay->A5->Prop)(T:F7->A5->Prop):F7->A5->Prop
 |.AP ρ,h=>A0 ρ h
 |.D7 ρ,h=>A0 ρ h
 |.Bv ρ,h=>T (.AP ρ) h
 |.Dp w,h=>T (.Dp w) h
@[simp] theorem hc(A0:Ay->A5->Prop)(T:F7->A5->Prop)(ρ:Ay)(h:A5):ND A0 T (.AP ρ) h↔A0 ρ h:=Iff.rfl
@[simp] theorem aiD(A0:Ay->A5->Prop)(T:F7->A5->Prop)(ρ:Ay)(h:A5):ND A0 T (.D7 ρ) h↔A0 ρ h:=Iff.rfl
@[simp] theorem aiC(A0:Ay->A5->Prop)(T:F7->A5->Prop)(ρ:Ay)(h:A5):ND A0 T (.Bv ρ) h↔T (.AP ρ) h:=Iff.rfl
@[simp] theorem sO(A0:Ay->A5->Prop)(T:F7->A5->Prop)(w:W)(h:A5):ND A0 T (.Dp w) h↔T (.Dp w) h:=Iff.rfl
theorem Ends.HB{r:R (F7×A5)}{T:F7->A5->Prop}(h:Ends r T):Ends (BJ.HB r) T:=by obtain⟨a,g,e,t⟩:=h;rw[e];exact⟨a,g,rfl,t⟩
theorem cq{it:Gn}{g:DR}{b:Ap}(n:Nat)(A0:Nat->Ay->A5->Prop)(T:F7->A5->Prop)(DO:∀j ρ h,A0 j ρ h->(it j h=↥none/\T (.AP ρ) h)\/(∃w,it j h=↥↥w/\j<n/\∃CT h1,g w ρ h=.ok (.AP CT,h1)/\Ends (b CT h1) (ND (A0 (j+1)) T))) :
  ∀f j ρ h,A0 j ρ h->n-j<f->Ends (Mo it g b f j ρ h) T
 |0,j,ρ,h,i,l=>δ
 |f+1,j,ρ,h,i,l=>by
  unfold Mo;rcases DO j ρ h i with⟨e,t⟩|⟨w,e,An,CT,h1,eg,CH,h2,B4,t⟩
  .rw[e];exact⟨_,_,rfl,t⟩
  .rw[e];erw[eg,J,B4];cases CH with
   |AP Dx=>exact cq n A0 T DO f (j+1) Dx h2 t δ
   |D7 Dx=>exact cq n A0 T DO f (j+1) Dx h2 t δ
   |Bv Dx=>exact⟨_,_,rfl,t⟩
   |Dp w=>exact⟨_,_,rfl,t⟩
def aw{mi:G6}{it:Gn}{g:DR}{b:Ap}{ρ:Ay}{h h0:A5}(n:Nat)(Ae:n<1000)(A0:Nat->Ay->A5->Prop){T:F7->A5->Prop}(AA:mi ρ h=.ok (it,h0))(F0:A0 0 ρ h0)(DO:∀j ρ h,A0 j ρ h->(it j h=↥none/\T (.AP ρ) h)\/(∃w,it j h=↥↥w/\j<n/\∃CT h1,g w ρ h=.ok (.AP CT,h1)/\Ends (b CT h1) (ND (A0 (j+1)) T))):Ends (SE mi g b ρ h) T:=by unfold SE;erw[H0,AA,J];exact cq n A0 T DO 1000 0 ρ h0 F0 δ
def Pq{mi:G6}{g:DR}{b:Ap}{ρ:Ay}{h h0:A5}(lo:Int)(n:Nat)(Ae:n<1000)(A0:Nat->Ay->A5->Prop){T:F7->A5->Prop}(AA:mi ρ h=.ok (KJ lo n,h0))(F0:A0 0 ρ h0)(DO:∀j ρ h,j<n->A0 j ρ h->∃CT h1,g (.int (lo+j)) ρ h=.ok (.AP CT,h1)/\Ends (b CT h1) (ND (A0 (j+1)) T))(fin:∀ρ h,A0 n ρ h->T (.AP ρ) h):Ends (SE mi g b ρ h) T:=by
 refine aw n Ae (λj ρ h=>j<=n/\A0 j ρ h) AA ⟨IM _,F0⟩ λj ρ h⟨l,i⟩=>?_;by_cases An:j<n
 .obtain⟨CT,h1,e,t⟩:=DO j ρ h An i;exact .inr ⟨_,by simp[KJ,An],An,CT,h1,e,t.mono λf h' q=>by cases f<;>first|exact⟨An,q⟩|exact q⟩
 .have:j=n:=δ
  subst this;exact .inl ⟨by simp[KJ],fin ρ h i⟩
def Th{mi:G6}{it:Gn}{g:DR}{b:Ap}{ρ:Ay}{h h0:A5}(ws:↑W)(Ae:⇑ws<1000)(A0:Nat->Ay->A5->Prop){T:F7->A5->Prop}(AA:mi ρ h=.ok (it,h0))(hit:∀j ρ h,j<=⇑ws->A0 j ρ h->it j h=↥ws[j]?)(F0:A0 0 ρ h0)(DO:∀j w ρ h,ws[j]?=↥w->A0 j ρ h->∃CT h1,g w ρ h=.ok (.AP CT,h1)/\Ends (b CT h1) (ND (A0 (j+1)) T))(fin:∀ρ h,A0 ⇑ws ρ h->T (.AP ρ) h):Ends (SE mi g b ρ h) T:=by
 refine aw ⇑ws Ae (λj ρ h=>j<=⇑ws/\A0 j ρ h) AA ⟨IM _,F0⟩ λj ρ h⟨l,i⟩=>?_;have DF:=hit j ρ h l i;by_cases An:j< ⇑ws
 .obtain⟨CT,h1,e,t⟩:=DO j ws[j] ρ h (C3 An) i;exact .inr ⟨_,by rw[DF,C3 An],An,CT,h1,e,t.mono λf h' q=>by cases f<;>first|exact⟨An,q⟩|exact q⟩
 .have:j=⇑ws:=δ
  subst this;exact .inl ⟨by rw[DF];simp,fin ρ h i⟩
theorem eF{c:DY}{b:Ap}(A0:Nat->Ay->A5->Prop)(T:F7->A5->Prop)(DO:∀n ρ h,A0 n ρ h->∃k h1,c ρ h=.ok (k,h1)/\(k=false->T (.AP ρ) h1)/\(k=true->Ends (b ρ h1) (ND (λEh h'=>∃m,m<n/\A0 m Eh h') T))):∀f n ρ h,A0 n ρ h->n<f->Ends (QT c b f ρ h) T
 |0,n,ρ,h,i,l=>δ
 |f+1,n,ρ,h,i,l=>by
  unfold QT;obtain⟨k,h1,e,t1,Cn⟩:=DO n ρ h i;erw[H0,e,J];cases k with
  |false=>simpa using t1 rfl
  |true=>
   obtain⟨CH,h2,B4,t⟩:=Cn rfl;erw[if_true,B4,J];cases CH with
   |AP Dx=>obtain⟨m,hm,t⟩:=t;exact eF A0 T DO f m Dx h2 t δ
   |D7 Dx=>obtain⟨m,hm,t⟩:=t;exact eF A0 T DO f m Dx h2 t δ
   |Bv Dx=>exact⟨_,_,rfl,t⟩
   |Dp w=>exact⟨_,_,rfl,t⟩
def uc{c:DY}{b:Ap}{ρ:Ay}{h:A5}(A0:Nat->Ay->A5->Prop){T:F7->A5->Prop}{n:Nat}(Ae:n<1000)(F0:A0 n ρ h)(DO:∀n ρ h,A0 n ρ h->∃k h1,c ρ h=.ok (k,h1)/\(k=false->T (.AP ρ) h1)/\(k=true->Ends (b ρ h1) (ND (λEh h'=>∃m,m<n/\A0 m Eh h') T))):Ends (a7 c b ρ h) T:=
 eF A0 T DO 1000 n ρ h F0 Ae
theorem b9{it:Gn}{g:DR}{t:DY}{e:B8}{h:A5}(ws:↑W)(p:W->Bool)(f:W->W)(Bl:Ay->Prop)(AI:⇑ws<1000)(hit:∀j acc,j<=⇑ws->it j (h++[⟨.lst,acc⟩])=↥ws[j]?)(DO:∀w∈ws,∀ρ acc,Bl ρ->∃CT,g w ρ (h++[⟨.lst,acc⟩])=.ok (.AP CT,h++[⟨.lst,acc⟩])/\Bl CT/\t CT (h++[⟨.lst,acc⟩])=.ok (p w,h++[⟨.lst,acc⟩])/\(p w=true->e CT (h++[⟨.lst,acc⟩])=.ok (f w,h++[⟨.lst,acc⟩]))) :
  ∀k j ρ acc,j<=⇑ws->⇑ws-j<k->⇑acc<=j->Bl ρ->KY it g t e ⇑h k j ρ (h++[⟨.lst,acc⟩])=.ok (h++[⟨.lst,acc++((ws.drop j).filter p).map f⟩])
 |0,j,ρ,acc,An,l,Ju,i=>δ
 |k+1,j,ρ,acc,An,l,Ju,i=>by
  unfold KY;rw[hit _ _ An];by_cases Dc:j< ⇑ws
  .have Bc:=fS Dc;rw[C3 Dc];obtain⟨CT,A9,Cs,AG,DS⟩:=DO ws[j] (J9 Dc) ρ acc i;erw[A9,J,AG];cases AX:p ws[j]with
   |false=>rw[if_neg γ,b9 ws p f Bl AI hit DO k (j+1) CT acc Dc δ δ Cs,Bc];erw[Q_,AX,Kn,if_false]
   |true=>rw[if_pos rfl,DS AX];erw[J,C9,Gl,PC,List.set_cons_zero];rw[if_pos (show⇑acc<Bi by unfold Bi;lia),b9 ws p f Bl AI hit DO k (j+1) CT (acc++[f ws[j]]) Dc δ (by simp;lia) Cs,Bc];erw[Q_,AX,if_true,EM,EZ,Ij,UV]
  .have:j=⇑ws:=δ
   subst this;simp
def Mm{mi:G6}{it:Gn}{g:DR}{t:DY}{e:B8}{ρ:Ay}{h h0:A5}{nl:Nat}{caps:↑Nat}(ws:↑W)(p:W->Bool)(f:W->W)(Bl:Ay->Prop)(AI:⇑ws<1000)(AA:mi ρ h0=.ok (it,h))(F0:Bl (Pk nl caps ρ))(hit:∀j acc,j<=⇑ws->it j (h++[⟨.lst,acc⟩])=↥ws[j]?)(DO:∀w∈ws,∀ρ acc,Bl ρ->∃CT,g w ρ (h++[⟨.lst,acc⟩])=.ok (.AP CT,h++[⟨.lst,acc⟩])/\Bl CT/\t CT (h++[⟨.lst,acc⟩])=.ok (p w,h++[⟨.lst,acc⟩])/\(p w=true->e CT (h++[⟨.lst,acc⟩])=.ok (f w,h++[⟨.lst,acc⟩]))) :
  CW nl caps mi g t e ρ h0=.ok (.ref ⇑h,h++[⟨.lst,(ws.filter p).map f⟩]):=by
 unfold CW;erw[H0,AA,J];rw[b9 ws p f Bl AI hit DO L0 0 _ [] (IM _) (by unfold L0;lia) (CB _) F0];simp
def ZA{mi:G6}{e:B8}{ρ:Ay}{h h0:A5}{caps:↑Nat}(lo:Int)(n:Nat)(f:Nat->W)(AI:n<1000)(AA:mi ρ h0=.ok (KJ lo n,h))(DO:∀j,j<n->∀acc,e (↥(.int (lo+j))::caps.map λj=>ρ.getD j none) (h++[⟨.lst,acc⟩])=.ok (f j,h++[⟨.lst,acc⟩])) :
  CW 1 caps mi (AB 0) ac e ρ h0=.ok (.ref ⇑h,h++[⟨.lst,(Cg n).map f⟩]):=by
 let DG:W->Nat:=λw=>match w with
  |.int i=>(i-lo).toNat
  |_=>0
 have AM:∀j:Nat,(lo+(j:Int)-lo).toNat=j:=λj=>δ
 have:=Mm (mi:=mi) (g:=AB 0) (t:=pu true) (e:=e) (ρ:=ρ) (nl:=1) (caps:=caps) ((Cg n).map λj:Nat=>W.int (lo+(j:Int))) (λ_=>true) (λw=>f (DG w)) (λEh=>∃x,Eh=x::caps.map λj=>ρ.getD j none) (AI:) AA ⟨none,rfl⟩ (λj acc _=>by
  erw[KJ,Dl,Ny];by_cases An:j<n
  .simp[An]
  .simp[An]) λw hw Eh acc⟨x,AM⟩=>by obtain⟨j,An,rfl⟩:=List.mem_map.mp hw;subst AM;refine⟨↥(.int (lo+j))::caps.map λj=>ρ.getD j none,γ,⟨_,rfl⟩,rfl,λ_=>?_⟩;rw[DO j (List.mem_range.mp An) acc];simp[DG,AM]
 rw[this];simp[DG,AM,List.filter_eq_self.mpr,Sc]
@[simp] theorem qb(ma:DQ)(ρ:Ay)(h:A5):Dj ma ρ h=(ma ρ h).bind λp=>match p.1 with
  |[.int j]=>if-(2^62)<=j/\j<2^62 then .ok (KJ 0 j.toNat,p.2)else .bad
  |_=>.bad:=by
  unfold Dj bd;congr;funext p;obtain⟨ws,g⟩:=p;rcases ws with _|⟨w,_|⟨u,r⟩⟩
  .rfl
  .cases w<;>first|rfl|(dsimp only;split<;>rfl)
  .cases w<;>rfl
def adT{n:Nat}(Ae:n<1000): -(2^62)<=(n:Int)/\(n:Int)<2^62:=by
 have:(2:Int)^62=4611686018427387904:=ε
 rw[this];lia
def LD{ma:DQ}{ρ:Ay}{h h0:A5}{n:Nat}(e:ma ρ h0=.ok ([.int (n:Int)],h))(Ae:n<1000):Dj ma ρ h0=.ok (KJ 0 n,h):=by rw[qb,e,J];exact if_pos (adT Ae)
def aY{P:↑A8->Prop}(h:P []):∀us:↑A8,⇑us=0->P us
 |[],_=>h
def aZ{P:↑A8->Prop}{n:Nat}(h:∀a us,⇑us=n->P (a::us)):∀us:↑A8,⇑us=n+1->P us
 |a::us,e=>h a us (Nat.succ.inj e)
noncomputable def WQ:A8->Option W
 |.int i _=>↥(.int i)
 |.str x _=>↥(.str x)
 |_=>none
theorem rJ{K:Ao}:∀{us:↑A8}{ws:↑W},us.mapM WQ=↥ws->∃xs,Vals xs us/\∀φ H,Al K φ H ws xs
 |[],ws,e=>by simp at e;subst e;exact⟨[],.nil,λ_ _=>.nil⟩
 |u::us,ws,e=>by
  rw[O0]at e;cases Er:WQ u with
  |none=>rw[Er]at e;cases e
  |some w=>
   cases B5:us.mapM WQ with
   |none=>rw[Er,B5]at e;cases e
   |some r=>
    rw[Er,B5]at e;cases e;obtain⟨xs,v,a⟩:=rJ (K:=K) B5;cases u<;>erw[WQ]at Er<;>first|(cases Er;done)|skip
    .cases Er;exact⟨.int _::xs,.cons ⟨_,rfl⟩ v,λφ H=>.cons (by erw[AV]) (a φ H)⟩
    .cases Er;exact⟨.str _::xs,.cons ⟨_,rfl⟩ v,λφ H=>.cons (by erw[AV]) (a φ H)⟩
section
variable{K:Ao}{h:BG}{mg:Str->Option A8}{x qual E0:Str}{C f:A6}{st:BO}{ps BA:↑Str}{EB an:Option A6}{CP:Array (Option A8)}{GN D0 I_ pm cd D7:A8}
abbrev YB(x qual:Str)(st:BO)(ps:↑Str):Prop:=∀(D0 doc pm:A8)(an:Option A6)(FT D7:A8)(us:↑A8),⇑us=⇑ps->bindArgs (K3 x qual (Lf st) (K_ st) (Bs st) .none D0 doc pm an FT D7) ⟨us,[]⟩=pure (ps.zip us)
def w6(X:K.In h)(G:h.Ns FQ mg)(a:J8 K FQ x=↥↥(.ref f))(l:K.lookup f=↥⟨GN,EB,.func (K3 x x (Lf st) (K_ st) (Bs st) .none D0 I_ pm an cd D7),CP⟩)(c:Mz K cd x=true)(k:K1 K (.ref f)=true)(b:YB x x st ps:=by intro _ _ _ _ _ _;(repeat refine aZ λ_=>?_);exact aY rfl):DM K mg x st ps:=⟨⟨f,_,RN (st:=st) l c k,Qg X G a,(RN (st:=st) l c k).binds b⟩⟩
def aaa(n:J8 K FQ E0=↥↥(.ref C))(g1:Se K C Str.empty=true)(g2:Ud K C=true)(g3:X4 K C=true)(g4:JY K (.ref C) "__setattr__"=↥↥(.builtin "object.__setattr__"))(a:JY K (.ref C) x=↥↥(.ref f))(l:K.lookup f=↥⟨GN,EB,.func (K3 x qual (Lf st) (K_ st) (Bs st) .none D0 I_ pm an cd D7),CP⟩)(c:Mz K cd qual=true)(k:K1 K (.ref f)=true)(i:Ug K (.ref f)=true)(b:YB x qual st ps:=by intro _ _ _ _ _ _;(repeat refine aZ λ_=>?_);exact aY rfl):Iv K E0 x qual st ps:=⟨⟨C,f,_,n,⟨g1,g2,g3,g4⟩,⟨a,i,k⟩,RN (st:=st) l c k,(RN (st:=st) l c k).binds b⟩⟩
def abI(X:K.In h)(G:h.Ns FQ mg)(n:J8 K FQ E0=↥↥(.ref C))(mk:fu K C=true)(kc:K1 K (.ref C)=true)(a:JY K (.ref C) "__init__"=↥↥(.ref f))(l:K.lookup f=↥⟨GN,EB,.func (K3 "__init__" qual (Lf st) (K_ st) (Bs st) .none D0 I_ pm an cd D7),CP⟩)(c:Mz K cd qual=true)(k:K1 K (.ref f)=true)(i:Ug K (.ref f)=true)(b:YB "__init__" qual st ps:=by intro _ _ _ _ _ _;(repeat refine aZ λ_=>?_);exact aY rfl):InK K mg E0 qual st ps:=⟨⟨C,f,_,n,⟨mk,a,i,kc⟩,RN (st:=st) l c k,Qg X G n,(RN (st:=st) l c k).binds b⟩⟩
def tq(n:J8 K FQ E0=↥↥(.ref C))(g1:Se K C Str.empty=true)(g2:Ud K C=true)(g3:X4 K C=true)(g4:JY K (.ref C) "__setattr__"=↥↥(.builtin "object.__setattr__"))(u:∀f∈BA,JY K (.ref C) f=↥none):Q8 K E0 BA:=⟨⟨C,n,⟨g1,g2,g3,g4⟩,u⟩⟩
def uj(X:K.In h)(G:h.Ns FQ mg)(n:J8 K FQ E0=↥↥(.ref C))(e:Uk K C [.type "ValueError",.type "Exception",.type "BaseException",.type "object"] "ValueError.__new__"=true):RV K mg E0:=⟨⟨C,n,Qg X G n,e⟩⟩
def ajo{c:Str}{C D:A6}(a:J8 K FQ c=↥↥(.ref D))(e:XH K (.ref D) (.ref C)=↥true):∃D,J8 K FQ c=↥↥(.ref D)/\XH K (.ref D) (.ref C)=↥true:=⟨D,a,e⟩
def ajp{cs:↑Str}(X:K.In h)(G:h.Ns FQ mg)(n:J8 K FQ x=↥↥(.ref C))(u:∀c∈cs,∃D,J8 K FQ c=↥↥(.ref D)/\XH K (.ref D) (.ref C)=↥true):s_ K mg x cs:=⟨⟨C,Qg X G n,u⟩⟩
def ts{i:Int}{t:Tok}(X:K.In h)(G:h.Ns FQ mg)(z:J8 K FQ x=↥↥(.int i t)):M1 K mg x (.int i):=⟨⟨.int i,_,Qg X G z,⟨t,rfl⟩,λ_ _=>by erw[AV]⟩⟩
def u2{its:Array A8}{m:Nat}{ws:↑W}(X:K.In h)(G:h.Ns FQ mg)(z:J8 K FQ x=↥↥(.ref C))(y:K.lookup C=↥⟨.type "tuple",EB,.seq its m,CP⟩)(hz:its.size<=CU)(e:its.toList.mapM WQ=↥ws):M1 K mg x (.Ho ws):=by obtain⟨xs,v,a⟩:=rJ (K:=K) e;refine⟨⟨.ref C,_,Qg X G z,rfl,λφ H=>?_⟩⟩;erw[AV];exact⟨C,xs,rfl,.inr ⟨_,its,m,y,rfl,rfl,hz,v⟩,a φ H⟩
end
def fC(ns:↑Int):W:=.D1 (ns.map W.int)
theorem qE{K:Ao}{φ:↑A6}{H:AE}:∀ns:↑Int,Al K φ H (ns.map W.int) (ns.map V.int)
 |[]=>.nil
 |_::ns=>.cons (by erw[AV]) (qE ns)
def tU{P:CD}{w:Bq}{H:AE}{s:AR}{e:A8}{s':AR}(h:JL P w [] H s (λ_ _ _=>False) e s'):False:=by obtain⟨a,C,Gj,B,AC,_,_,z⟩:=h;exact z
def afe{l:fw}{q:CD}{loose:↑Str}{L3:(Str->Option A8)->BG->Prop}{Mi:Bq->BG->Prop}{d:DefRec}{K:Params->Ao}{st:BO}{x p:Str}{N:↑Str}{k:Nat}{m:Ap}(Ae:l.most=↥63)(Qv:d.params.defaults=[])(BZ:DE (k+1) PV)(S:C6 N [p] (Bs st))(hd:d.name=x)(Qr:∀(w:Bq)(h:BG),Mi w h->(K w.params).In h)(T:∀(w:Bq)(mg:Str->Option A8)(h:BG),(K w.params).In h->h.Ns FQ mg->(∃(f:A6)(GN:A8)(EB an:Option A6)(D0 I_ pm cd D7:A8)(CP:Array (Option A8)),J8 (K w.params) FQ x=↥↥(.ref f)/\(K w.params).lookup f=↥⟨GN,EB,.func (K3 x x (Lf st) (K_ st) (Bs st) .none D0 I_ pm an cd D7),CP⟩/\Mz (K w.params) cd x=true/\K1 (K w.params) (.ref f)=true)/\∀base:BG,CF l.prog w (K w.params) mg base x st N k m)(BY:∀ns:↑Int,⇑ns<=63->Ends (FL ⇑N m [fC ns] []) λw _=>w=.AL true)(b:YB x x st [p]:=by intro _ _ _ _ _ _;(repeat refine aZ λ_=>?_);exact aY rfl) :
  gM q loose L3 Mi l.row.toRowW d [] (λf vs=>Xa f vs):=by
 refine BN.afg (n:=63) (k:=k+1) (x:=p) (CX:=λw=>JL l.prog w) (sp:=λw=>LV (K w.params) 1 (FL ⇑N m)) Ae ε Qv BZ Qr (λw mg Jo h IY G jD=>?_) (λw H a ns AI T4 Mp=>?_) λw H s e s' z=>tU z
 .obtain⟨⟨f,GN,EB,an,D0,I_,pm,cd,D7,CP,BX,lk,c,DH⟩,A4⟩:=T w mg h IY G;rw[hd]at jD;have e:=jD.symm.trans (Qg IY G BX);cases e;exact⟨_,λs v=>.of_eq (b D0 I_ pm an cd D7 [v] rfl),λbase _ _=>VH (RN (st:=st) lk c DH) S (A4 base)⟩
 .obtain⟨v,h',e,rfl⟩:=BY ns AI;refine⟨[],[],[fC ns],⟨Qk,rfl,(λn o a e=>by cases e)⟩,.cons ?_ .nil,rfl,?_⟩
  .unfold fC;erw[AV];refine⟨a,ns.map V.int,rfl,?_,qE ns⟩;rcases Mp with(z|z)|z
   .rcases T4 a with y|⟨o,xs,y⟩
    .rw[z]at y;cases y
    .rw[z]at y;cases y
   .exact .inl z
   .exact .inr z
  .rw[e];intro v Bb AC _ _ E5;simpa only[AV]using E5
end BJ
namespace Ds
noncomputable def top(i:Nat):BO:=PySem.Challenge.pw_nohalfway_k64_whole_both_kept.main.body.getD i (.Pass ⟨0,0,0,0⟩)
abbrev n_:BO:=top 58
abbrev nC:BO:=top 60
abbrev nZ:BO:=top 57
abbrev nT:BO:=top 8
abbrev nU:BO:=top 9
abbrev o5:BO:=top 13
abbrev nL:BO:=top 14
abbrev nJ:BO:=top 15
abbrev nV:BO:=top 16
abbrev o9:BO:=top 17
abbrev nh:BO:=inClass (top 18) 0
abbrev nd:BO:=top 62
abbrev nX:BO:=top 63
abbrev nY:BO:=top 64
abbrev nA:BO:=top 59
abbrev nD:BO:=top 65
abbrev nM:BO:=top 25
abbrev nK:BO:=top 30
abbrev nO:BO:=top 31
abbrev oC:BO:=top 32
abbrev ng:BO:=inClass (top 18) 1
abbrev nI:BO:=top 33
abbrev ox:BO:=top 34
abbrev nS:BO:=top 42
abbrev nN:BO:=top 43
abbrev oy:BO:=top 44
abbrev nk:BO:=inClass (top 18) 2
abbrev o8:BO:=top 19
abbrev o7:BO:=top 47
abbrev nu:BO:=inClass (top 49) 0
abbrev oq:BO:=top 71
abbrev nG:BO:=top 72
abbrev o2:BO:=inClass (top 49) 8
abbrev nz:BO:=inClass (top 49) 7
abbrev ny:BO:=inClass (top 49) 11
abbrev oB:BO:=top 24
abbrev ni:BO:=inClass (top 18) 5
abbrev nj:BO:=inClass (top 18) 6
abbrev mZ:BO:=inClass (top 48) 0
abbrev nq:BO:=inClass (top 49) 2
abbrev nx:BO:=inClass (top 49) 5
abbrev oA:BO:=top 26
abbrev oz:BO:=top 35
abbrev nf:BO:=inClass (top 18) 3
abbrev ow:BO:=top 37
abbrev o1:BO:=inClass (top 49) 4
abbrev nr:BO:=inClass (top 49) 3
abbrev o3:BO:=inClass (top 49) 6
abbrev o0:BO:=inClass (top 49) 1
abbrev nB:BO:=top 73
abbrev nF:BO:=top 61
abbrev nv:BO:=inClass (top 49) 10
abbrev ot:BO:=top 67
abbrev nc:BO:=top 68
abbrev nE:BO:=top 69
abbrev nW:BO:=top 66
abbrev nH:BO:=top 70
abbrev n8:BO:=top 74
abbrev nP:BO:=top 51
abbrev o4:BO:=top 27
abbrev p0:BO:=top 38
abbrev nR:BO:=top 52
abbrev nQ:BO:=top 53
abbrev ov:BO:=top 54
abbrev o6:BO:=top 55
abbrev n9:BO:=top 75
abbrev Jd:BO:=top 76
def P3:W:=.int 15
def Tb:W:=.int 4
def Tc:W:=.int 6
def Vo:W:=.int 12
def Td:W:=.int 40
noncomputable def R8:W:=.Ho [.str (AO "0"),.str (AO "1"),.str (AO "x")]
def Go:W:=.Ho [.str (AO "step")]
def Ml:W:=.Ho [.str (AO "wait")]
def P4:W:=.Ho [.int 8,.int 4,.int 2,.int 1]
structure Dt(K:Ao)(mg:Str->Option A8):Prop where
 wX:DM K mg "_law_draws" n_ ["_law_cell","_law_many"]
 vn:DM K mg "_law_net" nC ["_law_cell"]
 wW:DM K mg "_law_cell_at" nZ ["_law_script","_law_k"]
 wQ:DM K mg "is_whole" nT ["thing"]
 wR:DM K mg "is_whole_within" nU ["thing","least","greatest"]
 uZ:DM K mg "are_counts" o5 ["thing"]
 wI:DM K mg "is_pair" nL ["thing"]
 wG:DM K mg "is_door_among" nJ ["counts","thing"]
 wS:DM K mg "is_wire_among" nV ["counts","thing"]
 wB:DM K mg "far_doors" o9 ["counts","wires"]
 uv:InK K mg "Net" "Net.__init__" nh ["self","counts","wires"]
 vu:DM K mg "_law_row" nd ["_law_draws_here","_law_count"]
 wU:DM K mg "_law_book" nX ["_law_cell","_law_count"]
 wV:DM K mg "_law_books" nY ["_law_script","_law_start","_law_counts"]
 vl:DM K mg "_law_mixed" nA ["_law_cell","_law_k"]
 vo:DM K mg "_law_new_books" nD ["_law_script","_law_old","_law_counts"]
 wJ:DM K mg "is_pattern" nM ["thing"]
 wH:DM K mg "is_number_or_none" nK ["thing","doors"]
 wL:DM K mg "is_row" nO ["thing","doors"]
 wE:DM K mg "is_book" oC ["thing","doors"]
 uu:Iv K "Net" "count" "Net.count" ng ["self","house"]
 wF:DM K mg "is_books" nI ["thing","net"]
 vz:DM K mg "refuse_unless_books" ox ["thing","net"]
 wP:DM K mg "is_step" nS ["thing","net"]
 wK:DM K mg "is_plan" nN ["thing","net"]
 w0:DM K mg "refuse_unless_plan" oy ["net","old","new","plan"]
 uy:Iv K "Net" "wires" "Net.wires" nk ["self"]
 v9:DM K mg "copied_net" o8 ["net"]
 ua:DM K mg "copied_books" o7 ["books"]
 v5:InK K mg "Run" "Run.__init__" nu ["self","net","old","new","plan"]
 vv:DM K mg "_law_shuffled" oq ["_law_word","_law_many","_law_cell"]
 vr:DM K mg "_law_plan" nG ["_law_many","_law_cell"]
 uW:Iv K "Run" "place" "Run.place" o2 ["self"]
 uT:Iv K "Run" "may_step" "Run.may_step" nz ["self"]
 uS:Iv K "Run" "may" "Run.may" ny ["self"]
 wD:DM K mg "is_address" oB ["thing"]
 uw:Iv K "Net" "is_door" "Net.is_door" ni ["self","thing"]
 ux:Iv K "Net" "is_outer" "Net.is_outer" nj ["self","thing"]
 ur:InK K mg "Letter" "Letter.__init__" mZ ["self","mark","door","address"]
 uz:Iv K "Run" "come" "Run.come" nq ["self","door","address"]
 v8:Iv K "Run" "knows" "Run.knows" nx ["self","house","mark"]
 wC:DM K mg "fits" oA ["pattern","address"]
 w1:DM K mg "taken" oz ["book","door","address"]
 ut:Iv K "Net" "beyond" "Net.beyond" nf ["self","door"]
 vy:DM K mg "onward" ow ["net","book","door","address"]
 uV:Iv K "Run" "next_of" "Run.next_of" o1 ["self","letter"]
 v3:Iv K "Run" "go" "Run.go" nr ["self","number"]
 uX:Iv K "Run" "step" "Run.step" o3 ["self"]
 uU:Iv K "Run" "move" "Run.move" o0 ["self","move"]
 vm:DM K mg "_law_moved" nB ["_law_run","_law_outer_here","_law_cell"]
 vq:DM K mg "_law_outer" nF ["_law_parts"]
 v7:Iv K "Run" "journal" "Run.journal" nv ["self"]
 vw:DM K mg "_law_signs" ot ["_law_address"]
 wY:DM K mg "_law_is_like" nc ["_law_pattern","_law_signs_here"]
 vp:DM K mg "_law_out" nE ["_law_book_here","_law_door","_law_signs_here"]
 wT:DM K mg "_law_beyond" nW ["_law_parts","_law_door"]
 vt:DM K mg "_law_road" nH ["_law_parts","_law_books_here","_law_door","_law_address"]
 vj:DM K mg "_law_is_so" n8 ["_law_saying","_law_road_here","_law_end"]
 wM:DM K mg "is_saying" nP ["thing","net"]
 uY:DM K mg "addresses" o4 ["pattern"]
 w2:DM K mg "walked" p0 ["net","books","door","address"]
 wO:DM K mg "is_so_of" nR ["saying","doors","end"]
 wN:DM K mg "is_so" nQ ["net","books","saying","address"]
 vx:DM K mg "least_broken" ov ["net","books","saying"]
 u_:DM K mg "broken" o6 ["net","books","saying"]
 vk:DM K mg "_law_kept" n9 ["_law_net_here","_law_old","_law_new","_law_entry","_law_parts"]
 aj9:DM K mg "law" Jd ["_law_script"]
 kq:Q8 K "Letter" ["address","doors","mark"]
 kr:Q8 K "Net" ["counts","far","joined","many"]
 ks:Q8 K "Run" ["books","came","done","ended","letters","net","plan"]
 sU:mg "all"=none
 sV:mg "bool"=none
 sW:mg "enumerate"=none
 hW:mg "int"=none
 Vk:mg "isinstance"=none
 gx:mg "len"=none
 bh:mg "list"=none
 bi:mg "range"=none
 sX:mg "set"=none
 gy:mg "str"=none
 h3:mg "tuple"=none
 sY:mg "zip"=none
 P3:M1 K mg "GREATEST_ADDRESS" P3
 Tb:M1 K mg "MOST_DOORS" Tb
 Tc:M1 K mg "MOST_HOUSES" Tc
 Vo:M1 K mg "MOST_ROWS" Vo
 Td:M1 K mg "MOST_STEPS" Td
 R8:M1 K mg "SIGNS" R8
 Go:M1 K mg "STEP" Go
 Ml:M1 K mg "WAIT" Ml
 P4:M1 K mg "WORTHS" P4
 afl:RV K mg "NoBooks"
 afm:RV K mg "NoMove"
 afn:RV K mg "NoNet"
 afo:RV K mg "NoPlan"
 afp:RV K mg "NoSaying"
def oJ:C6 ["_law_cell","_law_many","_law_draws_here","_law_rest","_law_k","_law_prime","_law_factor"] ["_law_cell","_law_many"] (Bs n_):=Cb
def Xi:Ap:=
    (AT (Am (Be A2) (AB 2))
    (AT (Am (A1 EQ π υ) (AB 3))
    (AT (Em (Dj Cl) (AB 4) (C8 (Ad (A1 Φ (A1 Bf π υ) ζ)) (AT (Am (CI (A1 A7 (Be (Z (pu (.int 2147483647)) (Z (pu (.int 2147483629)) (Z (pu (.int 2147483587)) (Z (pu (.int 2147483579)) A2))))) (A1 Bf (A1 EQ (I 4) Γ) Γ))) (AB 5))
    (AT (Am (CI (A1 A7 (Be (Z (pu (.int 48271)) (Z (pu (.int 69621)) (Z (pu (.int 16807)) (Z (pu (.int 39373)) A2))))) (A1 Bf (I 4) Γ))) (AB 6))
    (Di (EA Ej ψ (Z (A1 EQ (A1 Bf (A1 F3 (A1 addW (A1 addW (A1 Bf Ψ (A1 Gd (pu (.int 10)) (pu (.int 30)))) (A1 F3 (pu (.int 7919)) (I 4))) ζ) (I 6)) (I 5)) (pu (.int 7))) A2))))) (AT (Di (EA Ej ψ (Z (A1 Bf Ψ (A1 Gd (pu (.int 10)) (pu (.int 6)))) A2)))
    (Am (A1 EQ Ψ (A1 Gd (pu (.int 10)) (pu (.int 6)))) (AB 3)))))
    (B1 ψ))))
def Kt:Br:=D2 7 Xi
def q1:C6 ["_law_cell","_law_draws_here","_law_many","_law_counts","_law_free","_law_house","_law_wires","_law_k","_law_one"] ["_law_cell"] (Bs nC):=Cb
def YA:Ap:=
    (AT (Am (Aa 2 Kt (Z π (Z (pu (.int 40)) A2))) (AB 1))
    (AT (Am (A1 addW ζ (A1 Bf (A1 A7 τ η) (pu (.int 6)))) (AB 2))
    (AT (Am (CW 1 [1,2] (Dj (Z ψ A2)) (AB 0) ac (CI (A1 addW ζ (A1 Bf (A1 A7 τ (A1 addW ζ π)) (A1 A7 (Be (Z Γ (Z Γ (Z Γ (Z Fr (Z υ (Z υ A2))))))) (A1 J4 ψ ζ)))))) (AB 3))
    (AT (Am (Be A2) (AB 4))
    (AT (Em (Dj (Z (BI Bh (Z Ψ A2)) A2)) (AB 5) (Di (NQ (I 4) (Z (CW 1 [5] (Dj (Z (A1 A7 Ψ (I 5)) A2)) (AB 0) ac (BE (Z τ Ω))) A2))))
    (AT (Am (Be A2) (AB 6))
    (AT (Em (Dj (Z (A1 J4 (A1 EQ (A1 J4 (BI Bh XL) ζ) υ) (A1 Bf (A1 A7 τ (pu (.int 7))) υ)) A2)) (AB 7) (AT (Am (EA K0 (I 4) (Z (A1 Bf (A1 A7 τ (A1 addW (pu (.int 8)) (A1 F3 υ (I 7)))) (BI Bh XL)) A2)) (AB 8))
    (Di (EA Ej (I 6) (Z (BE (Z (I 8) (Z (EA K0 (I 4) (Z (A1 Bf (A1 A7 τ (A1 addW (pu (.int 9)) (A1 F3 υ (I 7)))) (BI Bh XL)) A2)) A2))) A2)))))
    (B1 (BE (Z Ψ (Z (I 6) A2)))))))))))
def UF:Br:=FL 9 YA
def oI:C6 ["_law_script","_law_k"] ["_law_script","_law_k"] (Bs nZ):=Cb
def Xh:Ap:=
    (AT (C8 (Ad (A1 NO τ (BI Bh Ω))) (B1 (A1 A7 π τ)) C5)
    (B1 η))
def H9:Br:=D2 2 Xh
def oj:C6 ["thing"] ["thing"] (Bs nT):=Cb
def bc:Ap:=
    (B1 (Ie (BD (DT "int") π) (VE (BD (DT "bool") π))))
def UD:Br:=D2 1 bc
def om:C6 ["thing","least","greatest"] ["thing","least","greatest"] (Bs nU):=Cb
def Xf:Ap:=
    (B1 (Ie (Aa 1 UD Ω) (Of Ls Ls τ π ψ)))
def LB:Br:=D2 3 Xf
def oQ:C6 ["thing"] ["thing"] (Bs o5):=Cb
def bU:Ap:=
    (AT (C8 (F2 (D8 (Ad (BD (DT "list") π))) (D8 (Ad (Of Ls Ls ζ (BI Bh Ω) (pu Tc))))) (B1 (pu (.AL false))) C5)
    (B1 (CI (BI (Hs true) (Z (CW 1 [] (CN π) (AB 0) ac (Aa 3 LB (Z π (Z ζ (Z (pu Tb) A2))))) A2)))))
def WX:Br:=D2 1 bU
def oa:C6 ["thing"] ["thing"] (Bs nL):=Cb
def b_:Ap:=
    (B1 (Ie (BD (DT "tuple") π) (A1 Φ (BI Bh Ω) υ)))
def SN:Br:=D2 1 b_
def oZ:C6 ["counts","thing"] ["counts","thing"] (Bs nJ):=Cb
def bZ:Ap:=
    (AT (C8 (F2 (D8 (Ad (Aa 1 SN Cl))) (D8 (Ad (Aa 3 LB (Z (A1 A7 τ η) (Z η (Z (A1 J4 (BI Bh Ω) ζ) A2))))))) (B1 (pu (.AL false))) C5)
    (B1 (Aa 3 LB (Z (A1 A7 τ ζ) (Z η (Z (A1 J4 (A1 A7 π (A1 A7 τ η)) ζ) A2))))))
def UA:Br:=D2 2 bZ
def oD:C6 ["counts","thing","both"] ["counts","thing"] (Bs nV):=Cb
def bf:Ap:=
    (AT (C8 (D8 (Ad (Aa 1 SN Cl))) (B1 (pu (.AL false))) C5)
    (AT (Am (Ie (Aa 2 UA (Z π (Z (A1 A7 τ η) A2))) (Aa 2 UA (Z π (Z (A1 A7 τ ζ) A2)))) (AB 2))
    (B1 (Ie ψ (A1 (BC false) (A1 A7 τ η) (A1 A7 τ ζ))))))
def UE:Br:=D2 3 bf
def oU:C6 ["counts","wires","far","wire"] ["counts","wires"] (Bs o9):=Cb
def hV:Ap:=
    (AT (Am (NP true) (AB 2))
    (AT (Em (CN τ) (AB 3) (AT (C8 (D8 (Ad (Aa 2 UE (Z π (Z Ψ A2))))) (λ_ _=>.bad) C5)
    (AT (C8 (F2 (Ad (A1 (Ce true) (A1 A7 Ψ η) ψ)) (Ad (A1 (Ce true) (A1 A7 Ψ ζ) ψ))) (λ_ _=>.bad) C5)
    (AT (Og ψ (A1 A7 Ψ η) (A1 A7 Ψ ζ))
    (Og ψ (A1 A7 Ψ ζ) (A1 A7 Ψ η))))))
    (B1 ψ)))
def WZ:Br:=FL 4 hV
def p5:C6 ["self","counts","wires"] ["self","counts","wires"] (Bs nh):=Cb
def Xt:Ap:=
    (AT (C8 (D8 (Ad (Aa 1 WX Cl))) (MO "NoNet") C5)
    (AT (C8 (D8 (Ad (BD (DT "list") ψ))) (MO "NoNet") C5)
    (AT (F1 "Net" "many" π (BI Bh Cl))
    (AT (F1 "Net" "counts" π (BI OV Cl))
    (AT (F1 "Net" "joined" π (BI OV (Z ψ A2)))
    (F1 "Net" "far" π (Aa 2 WZ (Z (BD (B6 "Net" "counts") π) (Z (BD (B6 "Net" "joined") π) A2)))))))))
def Oj:Br:=FL 3 Xt
def q7:C6 ["_law_draws_here","_law_count","_law_pattern","_law_begin","_law_end"] ["_law_draws_here","_law_count"] (Bs nd):=Cb
def Z1:Ap:=
    (AT (Am (CI (SF (AO "") (Z (CW 1 [0] (Dj (Z Γ A2)) (AB 0) ac (A1 A7 (pu (.str (AO "01xxx"))) (A1 Bf (A1 A7 τ π) (pu (.int 5))))) A2))) (AB 2))
    (AT (Am (CI (A1 A7 (Be (Z Tm (Z Tm (Z Tm (Z (A1 Bf (A1 A7 π (pu (.int 5))) τ) A2))))) (A1 Bf (A1 A7 π Γ) Γ))) (AB 3))
    (AT (Am (CI (A1 A7 (Be (Z (A1 Bf (A1 A7 π (pu (.int 7))) τ) (Z Tm A2))) (A1 EQ (A1 Bf (A1 A7 π (pu (.int 6))) (pu (.int 7))) (pu (.int 6))))) (AB 4))
    (B1 (BE (Z ψ (Z Ψ XL)))))))
def Rh:Br:=D2 5 Z1
def oG:C6 ["_law_cell","_law_count","_law_draws_here","_law_many","_law_book_here"] ["_law_cell","_law_count"] (Bs nX):=Cb
def Xg:Ap:=
    (AT (Am (Aa 2 Kt (Z π (Z (pu (.int 104)) A2))) (AB 2))
    (AT (Am (CI (A1 A7 (Be (Z (A1 Bf Ty (pu (.int 5))) (Z (A1 Bf Ty (pu (.int 13))) A2))) (A1 EQ (A1 Bf (A1 A7 ψ ζ) Γ) Fr))) (AB 3))
    (AT (Am (CW 1 [1,2] (Dj (Z Ψ A2)) (AB 0) ac (CI (Aa 2 Rh (Z (CI (Hq ψ (FM (A1 addW Γ (A1 F3 (pu (.int 8)) π))) (FM (A1 addW (pu (.int 12)) (A1 F3 (pu (.int 8)) π))))) Cl)))) (AB 4))
    (AT (C8 (Ad (A1 Kd (A1 Bf (A1 A7 ψ υ) Fr) η)) (Am (CI (A1 addW (Hq (I 4) (pu none) (FM (pu (.int 11)))) (Be (Z (BE (Z (pu (.str (AO "xxxx"))) (Z Tm (Z (A1 Bf (A1 A7 ψ Fr) τ) A2)))) A2)))) (AB 4)) C5)
    (B1 (I 4))))))
def Rf:Br:=D2 5 Xg
def oH:C6 ["_law_script","_law_start","_law_counts"] ["_law_script","_law_start","_law_counts"] (Bs nY):=Cb
def hX:Ap:=
    (B1 (CW 2 [0,1] (Lw (Z ψ A2)) (Dh [(AB 0),(AB 1)]) ac (Aa 2 Rf (Z (Aa 2 H9 (Z ψ (Z (A1 addW Ψ π) A2))) Cl))))
def NS:Br:=FL 3 hX
def oo:C6 ["_law_cell","_law_k"] ["_law_cell","_law_k"] (Bs nA):=Cb
def Xm:Ap:=
    (B1 (A1 A7 (Aa 2 Kt (Z π (Z (A1 addW τ ζ) A2))) τ))
def Ig:Br:=D2 2 Xm
def q2:C6 ["_law_script","_law_old","_law_counts","_law_fresh","_law_first","_law_found","_law_house"] ["_law_script","_law_old","_law_counts"] (Bs nD):=Cb
def Yx:Ap:=
    (AT (Am (Aa 3 NS (Z π (Z (pu (.int 7)) (Z ψ A2)))) (AB 3))
    (AT (Am (Aa 2 Ig (Z (Aa 2 H9 (Z π (Z η A2))) (Z (pu (.int 50)) A2))) (AB 4))
    (AT (Am (Be A2) (AB 5))
    (AT (Em (Dj (Z (BI Bh (Z ψ A2)) A2)) (AB 6) (Di (EA Ej (I 5) (Z (CI (A1 A7 (Be (Z (A1 A7 τ (I 6)) (Z (A1 A7 Ψ (I 6)) A2))) (BI Rv (Z (A1 Kd (A1 Bf (A1 EQ (I 4) (A1 addW (I 6) ζ)) Γ) η) A2)))) A2))))
    (B1 (I 5))))))
def We:Br:=FL 7 Yx
def ob:C6 ["thing"] ["thing"] (Bs nM):=Cb
def ba:Ap:=
    (AT (C8 (F2 (D8 (Ad (BD (DT "str") π))) (Ad (A1 (BC false) (BI Bh Ω) (BI Bh (Z (pu P4) A2))))) (B1 (pu (.AL false))) C5)
    (B1 (CI (BI (Hs true) (Z (CW 1 [] (CN π) (AB 0) ac (A1 (Ce true) π (pu R8))) A2)))))
def Pa:Br:=D2 1 ba
def o_:C6 ["thing","doors"] ["thing","doors"] (Bs nK):=Cb
def Y5:Ap:=
    (B1 (PZ (A1 (El true) π Tm) (Aa 3 LB (Z π (Z η (Z (A1 J4 τ ζ) A2))))))
def UB:Br:=D2 2 Y5
def od:C6 ["thing","doors"] ["thing","doors"] (Bs nO):=Cb
def bb:Ap:=
    (AT (C8 (F2 (D8 (Ad (BD (DT "tuple") π))) (Ad (A1 (BC false) (BI Bh Ω) Fr))) (B1 (pu (.AL false))) C5)
    (AT (C8 (D8 (Ad (Aa 1 Pa (Z (A1 A7 π η) A2)))) (B1 (pu (.AL false))) C5)
    (B1 (Ie (Aa 2 UB (Z (A1 A7 π ζ) Cl)) (Aa 2 UB (Z (A1 A7 π υ) Cl))))))
def Wa:Br:=D2 2 bb
def oX:C6 ["thing","doors"] ["thing","doors"] (Bs oC):=Cb
def bX:Ap:=
    (AT (C8 (F2 (D8 (Ad (BD (DT "list") π))) (Ad (A1 Kd (BI Bh Ω) (pu Vo)))) (B1 (pu (.AL false))) C5)
    (B1 (CI (BI (Hs true) (Z (CW 1 [1] (CN π) (AB 0) ac (Aa 2 Wa (Z π Cl))) A2)))))
def W_:Br:=D2 2 bX
def p4:C6 ["self","house"] ["self","house"] (Bs ng):=Cb
def gX:Ap:=
    (B1 (KB (Ad (Of Ls NO η τ (BD (B6 "Net" "many") π))) (A1 A7 (BD (B6 "Net" "counts") π) τ) η))
def Sz:Br:=D2 2 gX
def oY:C6 ["thing","net"] ["thing","net"] (Bs nI):=Cb
def bY:Ap:=
    (AT (C8 (F2 (D8 (Ad (BD (DT "list") π))) (Ad (A1 (BC false) (BI Bh Ω) (BD (B6 "Net" "many") τ)))) (B1 (pu (.AL false))) C5)
    (B1 (CI (BI (Hs true) (Z (CW 2 [1] (Lw Ω) (Dh [(AB 0),(AB 1)]) ac (Aa 2 W_ (Z τ (Z (CO "Net" "count" 1 Sz ψ Ω) A2)))) A2)))))
def a8:Br:=D2 2 bY
def qC:C6 ["thing","net"] ["thing","net"] (Bs ox):=Cb
def bj:Ap:=
    (C8 (D8 (Ad (Aa 2 a8 (Z π Cl)))) (MO "NoBooks") C5)
def UG:Br:=D2 2 bj
def oi:C6 ["thing","net"] ["thing","net"] (Bs nS):=Cb
def Xe:Ap:=
    (AT (C8 (F2 (D8 (Ad (BD (DT "tuple") π))) (F2 (Ad (A1 (Ce false) (BI Bh Ω) (BE (Z ζ (Z υ A2))))) (D8 (Ad (BD (DT "str") (A1 A7 π η)))))) (B1 (pu (.AL false))) C5)
    (AT (C8 (Ad (A1 Φ (BI Bh Ω) ζ)) (B1 (A1 Φ (A1 A7 π η) (pu (.str (AO "wait"))))) C5)
    (B1 (Ie (A1 (Ce true) (A1 A7 π η) (BE (Z (pu (.str (AO "teach"))) (Z (pu (.str (AO "turn"))) (Z (pu (.str (AO "forget"))) A2))))) (Aa 3 LB (Z (A1 A7 π ζ) (Z η (Z (A1 J4 (BD (B6 "Net" "many") τ) ζ) A2))))))))
def Rd:Br:=D2 2 Xe
def oc:C6 ["thing","net","once"] ["thing","net"] (Bs nN):=Cb
def Y6:Ap:=
    (AT (C8 (F2 (D8 (Ad (BD (DT "list") π))) (Ad (A1 Kd (BI Bh Ω) (pu Td)))) (B1 (pu (.AL false))) C5)
    (AT (C8 (MP (D8 (Ad (BI (Hs true) (Z (CW 1 [1] (CN π) (AB 0) ac (Aa 2 Rd (Z π Cl))) A2))))) (B1 (pu (.AL false))) C5)
    (AT (Am (CW 1 [] (CN π) (AB 0) (Ad (A1 (BC false) π (pu Ml))) π) (AB 2))
    (B1 (A1 Φ (BI V8 (Z ψ A2)) (BI Bh (Z ψ A2)))))))
def a9:Br:=D2 3 Y6
def qD:C6 ["net","old","new","plan"] ["net","old","new","plan"] (Bs oy):=Cb
def bk:Ap:=
    (AT (Di (Aa 2 UG (Z τ Ω)))
    (AT (Di (Aa 2 UG (Z ψ Ω)))
    (C8 (D8 (Ad (Aa 2 a9 (Z Ψ Ω)))) (MO "NoPlan") C5)))
def Wf:Br:=D2 4 bk
def p8:C6 ["self"] ["self"] (Bs nk):=Cb
def gw:Ap:=
    (B1 (BI FD (Z (BD (B6 "Net" "joined") π) A2)))
def P_:Br:=D2 1 gw
def oT:C6 ["net"] ["net"] (Bs o8):=Cb
def hU:Ap:=
    (B1 (KC "Net" 2 Oj (Z (BI FD (Z (BD (B6 "Net" "counts") π) A2)) (Z (CO "Net" "wires" 0 P_ π A2) A2))))
def WY:Br:=FL 1 hU
def oS:C6 ["books"] ["books"] (Bs o7):=Cb
def hT:Ap:=
    (B1 (CW 1 [] (CN π) (AB 0) ac (CI (BI FD Ω))))
def SM:Br:=FL 1 hT
def pB:C6 ["self","net","old","new","plan"] ["self","net","old","new","plan"] (Bs nu):=Cb
def Xw:Ap:=
    (AT (Di (Aa 4 Wf (Z τ (Z ψ (Z Ψ XL)))))
    (AT (F1 "Run" "net" π (Aa 1 WY Cl))
    (AT (F1 "Run" "books" π (BE (Z (Aa 1 SM (Z ψ A2)) (Z (Aa 1 SM (Z Ψ A2)) A2))))
    (AT (F1 "Run" "plan" π (BI FD XL))
    (AT (F1 "Run" "done" π (Be A2))
    (AT (F1 "Run" "came" π η)
    (AT (F1 "Run" "letters" π (NP false))
    (F1 "Run" "ended" π (Be A2)))))))))
def SI:Br:=FL 5 Xw
def q8:C6 ["_law_word","_law_many","_law_cell","_law_found","_law_house"] ["_law_word","_law_many","_law_cell"] (Bs oq):=Cb
def Z2:Ap:=
    (AT (Am (Be A2) (AB 3))
    (AT (Em (Dj Cl) (AB 4) (Di (EA Q1 Ψ (Z (A1 Bf (Aa 2 Ig (Z ψ XL)) (A1 addW (BI Bh (Z Ψ A2)) ζ)) (Z (BE (Z π XL)) A2)))))
    (B1 Ψ)))
def Lx:Br:=D2 5 Z2
def q5:C6 ["_law_many","_law_cell","_law_plan_here"] ["_law_many","_law_cell"] (Bs nG):=Cb
def Yz:Ap:=
    (AT (Am (A1 addW (Aa 3 Lx (Z (pu (.str (AO "teach"))) (Z π Cl))) (Aa 3 Lx (Z (pu (.str (AO "turn"))) (Z π (Z (A1 addW (A1 EQ τ Fr) ζ) A2))))) (AB 2))
    (B1 (CI (A1 addW (A1 addW ψ (Be (Z (BE (Z (pu (.str (AO "wait"))) A2)) A2))) (Aa 3 Lx (Z (pu (.str (AO "forget"))) (Z π (Z (A1 addW (A1 EQ τ (pu (.int 7))) υ) A2))))))))
def Rg:Br:=D2 3 Yz
def oN:C6 ["self"] ["self"] (Bs o2):=Cb
def bT:Ap:=
    (B1 (BI Bh (Z (BD (B6 "Run" "done") π) A2)))
def MR:Br:=D2 1 bT
def pF:C6 ["self"] ["self"] (Bs nz):=Cb
def Y0:Ap:=
    (AT (C8 (Ad (A1 Φ (CO "Run" "place" 0 MR π A2) (BI Bh (Z (BD (B6 "Run" "plan") π) A2)))) (B1 (pu (.AL false))) C5)
    (AT (C8 (Ad (A1 (BC false) (A1 A7 (BD (B6 "Run" "plan") π) (CO "Run" "place" 0 MR π A2)) (pu Ml))) (B1 (pu (.AL true))) C5)
    (B1 (CI (BI (Hs true) (Z (Lv OX 1 [] (BD (B6 "Run" "letters") π) (AB 0) ac (A1 Φ (BD (B6 "Letter" "mark") π) ζ)) A2))))))
def Ol:Br:=D2 1 Y0
def pE:C6 ["self","goes"] ["self"] (Bs ny):=Cb
def Xz:Ap:=
    (AT (Am (Lv (λAZ _=>Oc AZ) 1 [] (BD (B6 "Run" "letters") π) (AB 0) ac (BE (Z (pu (.str (AO "go"))) Ω))) (AB 1))
    (B1 (CI (A1 addW τ (KB (Ad (CO "Run" "may_step" 0 Ol π A2)) (Be (Z (pu Go) A2)) (Be A2))))))
def NR:Br:=D2 2 Xz
def oW:C6 ["thing"] ["thing"] (Bs oB):=Cb
def bW:Ap:=
    (B1 (Aa 3 LB (Z π (Z η (Z (pu P3) A2)))))
def U9:Br:=D2 1 bW
def p6:C6 ["self","thing"] ["self","thing"] (Bs ni):=Cb
def gY:Ap:=
    (B1 (Aa 2 UA (Z (BD (B6 "Net" "counts") π) Cl)))
def WW:Br:=D2 2 gY
def p7:C6 ["self","thing"] ["self","thing"] (Bs nj):=Cb
def gZ:Ap:=
    (B1 (Ie (CO "Net" "is_door" 1 WW π Cl) (A1 (Ce false) τ (BD (B6 "Net" "far") π))))
def MQ:Br:=D2 2 gZ
def p2:C6 ["self","mark","door","address"] ["self","mark","door","address"] (Bs mZ):=Cb
def Xs:Ap:=
    (AT (F1 "Letter" "mark" π τ)
    (AT (F1 "Letter" "address" π Ψ)
    (F1 "Letter" "doors" π (Be (Z ψ A2)))))
def Ve:Br:=FL 4 Xs
def p9:C6 ["self","door","address","number","mark"] ["self","door","address"] (Bs nq):=Cb
def Xu:Ap:=
    (AT (C8 (F2 (D8 (Ad (CO "Net" "is_outer" 1 MQ (BD (B6 "Run" "net") π) Cl))) (D8 (Ad (Aa 1 U9 (Z ψ A2))))) (MO "NoMove") C5)
    (AT (Am (BD (B6 "Run" "came") π) (AB 3))
    (AT (Am (KB (Ad (A1 (Ce true) (BE (Z (pu (.str (AO "turn"))) (Z (A1 A7 τ η) A2))) (BD (B6 "Run" "done") π))) ζ η) (AB 4))
    (AT (Og (BD (B6 "Run" "letters") π) Ψ (KC "Letter" 3 Ve (Z (I 4) (Z τ (Z ψ A2)))))
    (AT (F1 "Run" "came" π (A1 addW Ψ ζ))
    (B1 Ψ))))))
def T0:Br:=FL 5 Xu
def pD:C6 ["self","house","mark"] ["self","house","mark"] (Bs nx):=Cb
def Xy:Ap:=
    (AT (C8 (Ad (A1 Φ ψ ζ)) (B1 (A1 (Ce true) (BE (Z (pu (.str (AO "teach"))) Cl)) (BD (B6 "Run" "done") π))) C5)
    (B1 (A1 (Ce false) (BE (Z (pu (.str (AO "forget"))) Cl)) (BD (B6 "Run" "done") π))))
def U6:Br:=D2 3 Xy
def oV:C6 ["pattern","address"] ["pattern","address"] (Bs oA):=Cb
def bV:Ap:=
    (AT (C8 (F2 (D8 (Ad (Aa 1 Pa Ω))) (D8 (Ad (Aa 1 U9 Cl)))) (B1 (pu (.AL false))) C5)
    (B1 (CI (BI (Hs true) (Z (CW 2 [1] (Oi (Z π (Z (pu P4) A2))) (Dh [(AB 0),(AB 1)]) ac (A1 (Ce true) π (BE (Z (pu (.str (AO "x"))) (Z (BI LX (Z (A1 Bf (A1 EQ ψ τ) υ) A2)) A2))))) A2)))))
def Om:Br:=D2 2 bV
def qF:C6 ["book","door","address","number","row"] ["book","door","address"] (Bs oz):=Cb
def gz:Ap:=
    (AT (Em (Lw Ω) (Dh [(AB 3),(AB 4)]) (C8 (JX (F2 (Ad (A1 (El true) (A1 A7 (I 4) ζ) Tm)) (Ad (A1 Φ (A1 A7 (I 4) ζ) τ))) (Ad (Aa 2 Om (Z (A1 A7 (I 4) η) (Z ψ A2))))) (B1 Ψ) C5))
    (B1 Tm))
def Wg:Br:=D2 5 gz
def p3:C6 ["self","door"] ["self","door"] (Bs nf):=Cb
def gW:Ap:=
    (B1 (VB (BD (B6 "Net" "far") π) τ))
def SH:Br:=D2 2 gW
def qB:C6 ["net","book","door","address","number","out","far"] ["net","book","door","address"] (Bs ow):=Cb
def Z4:Ap:=
    (AT (Am (Aa 3 Wg (Z τ (Z (A1 A7 ψ ζ) (Z Ψ A2)))) (AB 4))
    (AT (Am (KB (Ad (A1 (El true) (I 4) Tm)) Tm (A1 A7 (A1 A7 τ (I 4)) υ)) (AB 5))
    (AT (C8 (Ad (A1 (El true) (I 5) Tm)) (B1 (BE (Z (pu (.str (AO "drop"))) (Z Ty A2)))) C5)
    (AT (Am (CO "Net" "beyond" 1 SH π (Z (BE (Z Ty (Z (I 5) A2))) A2)) (AB 6))
    (AT (C8 (Ad (A1 (El true) (I 6) Tm)) (B1 (BE (Z (pu (.str (AO "out"))) (Z Ty (Z (I 5) A2))))) C5)
    (B1 (BE (Z (pu (.str (AO "at"))) (Z (A1 A7 (I 6) η) (Z (A1 A7 (I 6) ζ) A2))))))))))
def NT:Br:=D2 7 Z4
def pH:C6 ["self","letter","door"] ["self","letter"] (Bs o1):=Cb
def Y1:Ap:=
    (AT (Am (A1 A7 (BD (B6 "Letter" "doors") τ) (BD Os ζ)) (AB 2))
    (AT (C8 (D8 (Ad (CO "Run" "knows" 2 U6 π (Z Ty (Z (BD (B6 "Letter" "mark") τ) A2))))) (B1 (BE (Z (pu (.str (AO "lost"))) (Z Ty A2)))) C5)
    (B1 (Aa 4 NT (Z (BD (B6 "Run" "net") π) (Z (A1 A7 (A1 A7 (BD (B6 "Run" "books") π) (BD (B6 "Letter" "mark") τ)) Ty) (Z ψ (Z (BD (B6 "Letter" "address") τ) A2))))))))
def U7:Br:=D2 3 Y1
def pA:C6 ["self","number","letter","told"] ["self","number"] (Bs nr):=Cb
def Xv:Ap:=
    (AT (C8 (F2 (D8 (Ad (Aa 1 UD Cl))) (Ad (A1 (Ce false) τ (BD (B6 "Run" "letters") π)))) (MO "NoMove") C5)
    (AT (Am (A1 A7 (BD (B6 "Run" "letters") π) τ) (AB 2))
    (AT (Am (CO "Run" "next_of" 1 U7 π (Z ψ A2)) (AB 3))
    (AT (C8 (Ad (A1 Φ (A1 A7 Ψ η) (pu (.str (AO "at"))))) (Di (EA Ej (BD (B6 "Letter" "doors") ψ) (Z (BE (Z (A1 A7 Ψ ζ) (Z (A1 A7 Ψ υ) A2))) A2))) (AT (Di (VC (BD (B6 "Run" "letters") π) τ))
    (Di (EA Ej (BD (B6 "Run" "ended") π) (Z (BE (Z τ (Z ψ (Z Ψ A2)))) A2)))))
    (B1 Ψ)))))
def TR:Br:=FL 4 Xv
def oO:C6 ["self"] ["self"] (Bs o3):=Cb
def Y2:Ap:=
    (AT (C8 (D8 (Ad (CO "Run" "may_step" 0 Ol π A2))) (MO "NoMove") C5)
    (AT (Di (EA Ej (BD (B6 "Run" "done") π) (Z (A1 A7 (BD (B6 "Run" "plan") π) (CO "Run" "place" 0 MR π A2)) A2)))
    (B1 (A1 A7 (BD (B6 "Run" "done") π) (BD Os ζ)))))
def SK:Br:=FL 1 Y2
def pG:C6 ["self","move"] ["self","move"] (Bs o0):=Cb
def R5:Ap:=
    (AT (C8 (JX (Ad (BD (DT "tuple") τ)) (JX (Ad (A1 Kd (BI Bh Cl) η)) (Ad (BD (DT "str") (A1 A7 τ η))))) (AT (C8 (JX (Ad (A1 Φ (A1 A7 τ η) (pu (.str (AO "come"))))) (Ad (A1 Φ (BI Bh Cl) Fr))) (B1 (CO "Run" "come" 2 T0 π (Z (A1 A7 τ ζ) (Z (A1 A7 τ υ) A2)))) C5)
    (AT (C8 (JX (Ad (A1 Φ (A1 A7 τ η) (pu (.str (AO "go"))))) (Ad (A1 Φ (BI Bh Cl) υ))) (B1 (CO "Run" "go" 1 TR π (Z (A1 A7 τ ζ) A2))) C5)
    (C8 (Ad (A1 Φ τ (pu Go))) (B1 (CO "Run" "step" 0 SK π A2)) C5))) C5)
    (MO "NoMove"))
def Gr:Br:=FL 2 R5
def q0:C6 ["_law_run","_law_outer_here","_law_cell","_law_kind","_law_number","_law_some"] ["_law_run","_law_outer_here","_law_cell"] (Bs nB):=Cb
def Xn:Ap:=
    (AT (Am (A1 Bf (Aa 2 Ig (Z ψ (Z η A2))) (pu (.int 9))) (AB 3))
    (AT (Am (Aa 2 Ig (Z ψ (Z ζ A2))) (AB 4))
    (AT (Am (CO "Run" "may" 0 NR π A2) (AB 5))
    (C8 (MP (F2 (Ad (A1 NO Ψ υ)) (Ad (A1 Φ (I 5) (Be A2))))) (Di (CO "Run" "move" 1 Gr π (Z (BE (Z (pu (.str (AO "come"))) (Z (A1 A7 τ (A1 Bf (I 4) (BI Bh Cl))) (Z (A1 Bf (A1 EQ (I 4) (pu (.int 50))) (pu (.int 16))) A2)))) A2))) (C8 (JX (Ad (A1 Φ Ψ υ)) (Ad (A1 Φ (A1 A7 (I 5) (BD Os ζ)) (BE (Z (pu (.str (AO "step"))) A2))))) (Di (CO "Run" "move" 1 Gr π (Z (BE (Z (pu (.str (AO "step"))) A2)) A2))) (Di (CO "Run" "move" 1 Gr π (Z (A1 A7 (I 5) (A1 Bf (I 4) (BI Bh (Z (I 5) A2)))) A2))))))))
def Pb:Br:=FL 6 Xn
def q4:C6 ["_law_parts","_law_used","_law_found","_law_house"] ["_law_parts"] (Bs nF):=Cb
def Yy:Ap:=
    (AT (Am (CI (A1 addW (CW 2 [] (CN (A1 A7 π ζ)) (Dh [(AB 0),(AB 1)]) ac π) (CW 2 [] (CN (A1 A7 π ζ)) (Dh [(AB 0),(AB 1)]) ac τ))) (AB 1))
    (AT (Am (Be A2) (AB 2))
    (AT (Em (Dj (Z (BI Bh (Z (A1 A7 π η) A2)) A2)) (AB 3) (Di (NQ ψ (Z (CW 1 [3,1] (Dj (Z (A1 A7 (A1 A7 π η) Ψ) A2)) (AB 0) (Ad (A1 (Ce false) (BE (Z τ Ω)) ψ)) (BE (Z τ Ω))) A2))))
    (B1 ψ))))
def Jx:Br:=D2 4 Yy
def pC:C6 ["self","told","number","letter","end"] ["self"] (Bs nv):=Cb
def Xx:Ap:=
    (AT (Am (Be A2) (AB 1))
    (AT (Em (CN (BD (B6 "Run" "ended") π)) (Dh [(AB 2),(AB 3),(AB 4)]) (Di (EA Ej τ (Z (CI (BE (Z ψ (Z (BD (B6 "Letter" "mark") Ψ) (Z (A1 A7 (BD (B6 "Letter" "doors") Ψ) η) (Z (BD (B6 "Letter" "address") Ψ) (Z (BI FD (Z (BD (B6 "Letter" "doors") Ψ) A2)) XL))))))) A2))))
    (B1 τ)))
def SJ:Br:=FL 5 Xx
def q9:C6 ["_law_address"] ["_law_address"] (Bs ot):=Cb
def Z3:Ap:=
    (B1 (CI (SF (AO "") (Z (CW 1 [0] (CN (Be (Z (pu (.int 8)) (Z Γ (Z υ (Z ζ A2)))))) (AB 0) ac (BI LX (Z (A1 Bf (A1 EQ τ π) υ) A2))) A2))))
def Oo:Br:=D2 1 Z3
def oK:C6 ["_law_pattern","_law_signs_here"] ["_law_pattern","_law_signs_here"] (Bs nc):=Cb
def Xj:Ap:=
    (B1 (CI (BI (Hs true) (Z (CW 2 [] (Oi (Z π Cl)) (Dh [(AB 0),(AB 1)]) ac (PZ (A1 Φ π (pu (.str (AO "x")))) (A1 Φ π τ))) A2))))
def Wc:Br:=D2 2 Xj
def q3:C6 ["_law_book_here","_law_door","_law_signs_here","_law_pattern","_law_begin","_law_end"] ["_law_book_here","_law_door","_law_signs_here"] (Bs nE):=Cb
def hY:Ap:=
    (AT (Em (CN π) (Dh [(AB 3),(AB 4),(AB 5)]) (C8 (JX (Ad (Aa 2 Wc (Z Ψ (Z ψ A2)))) (F2 (Ad (A1 (El true) (I 4) Tm)) (Ad (A1 Φ (I 4) τ)))) (B1 (I 5)) C5))
    (B1 Tm))
def Pc:Br:=D2 6 hY
def oF:C6 ["_law_parts","_law_door","_law_one","_law_other"] ["_law_parts","_law_door"] (Bs nW):=Cb
def bg:Ap:=
    (AT (Em (CN (A1 A7 π ζ)) (Dh [(AB 2),(AB 3)]) (AT (C8 (Ad (A1 Φ ψ τ)) (B1 Ψ) C5)
    (C8 (Ad (A1 Φ Ψ τ)) (B1 ψ) C5)))
    (B1 Tm))
def Re:Br:=D2 4 bg
def q6:C6 ["_law_parts","_law_books_here","_law_door","_law_address","_law_signs_here","_law_road_here","_law_end","_law_behind"] ["_law_parts","_law_books_here","_law_door","_law_address"] (Bs nH):=Cb
def Z0:Ap:=
    (AT (Am (Aa 1 Oo (Z Ψ A2)) (AB 4))
    (AT (Am (Be A2) (AB 5))
    (AT (SG (Ad (A1 (Ce false) ψ (I 5))) (AT (Di (EA Ej (I 5) (Z ψ A2)))
    (AT (Am (Aa 3 Pc (Z (A1 A7 τ Ty) (Z (A1 A7 ψ ζ) XL))) (AB 6))
    (AT (C8 (Ad (A1 (El true) (I 6) Tm)) (B1 (BE (Z (I 5) (Z (BE (Z (pu (.str (AO "drop"))) (Z Ty A2))) A2)))) C5)
    (AT (Am (Aa 2 Re (Z π (Z (BE (Z Ty (Z (I 6) A2))) A2))) (AB 7))
    (AT (C8 (Ad (A1 (El true) (I 7) Tm)) (B1 (BE (Z (I 5) (Z (BE (Z (pu (.str (AO "out"))) (Z Ty (Z (I 6) A2)))) A2)))) C5)
    (Am (I 7) (AB 2))))))))
    (B1 (BE (Z (I 5) (Z (BE (Z (pu (.str (AO "ring"))) (Z (Oh (I 5) (Z ψ A2)) A2))) A2)))))))
def On:Br:=FL 8 Z0
def oL:C6 ["_law_saying","_law_road_here","_law_end","_law_houses"] ["_law_saying","_law_road_here","_law_end"] (Bs n8):=Cb
def Xk:Ap:=
    (AT (Am (CW 2 [] (CN τ) (Dh [(AB 0),(AB 1)]) ac π) (AB 3))
    (AT (C8 (Ad (A1 Φ (A1 A7 π η) (pu (.str (AO "comes"))))) (B1 (A1 Φ ψ (A1 addW (BE (Z (pu (.str (AO "out"))) A2)) (A1 A7 π Fr)))) C5)
    (AT (C8 (Ad (A1 Φ (A1 A7 π η) (pu (.str (AO "leaves"))))) (B1 (A1 Φ Ty (pu (.str (AO "out"))))) C5)
    (AT (C8 (Ad (A1 Φ (A1 A7 π η) (pu (.str (AO "by"))))) (B1 (A1 (Ce true) (A1 A7 π Fr) Ψ)) C5)
    (B1 (A1 (Ce false) (A1 A7 π Fr) Ψ))))))
def JD:Br:=D2 4 Xk
def oe:C6 ["thing","net"] ["thing","net"] (Bs nP):=Cb
def Y7:Ap:=
    (AT (C8 (F2 (D8 (Ad (BD (DT "tuple") π))) (Ad (A1 (Ce false) (BI Bh Ω) (BE (Z Fr (Z Γ A2)))))) (B1 (pu (.AL false))) C5)
    (AT (C8 (F2 (D8 (Ad (BD (DT "str") (A1 A7 π η)))) (F2 (D8 (Ad (Aa 1 Pa (Z (A1 A7 π ζ) A2)))) (D8 (Ad (CO "Net" "is_outer" 1 MQ τ (Z (A1 A7 π υ) A2)))))) (B1 (pu (.AL false))) C5)
    (AT (C8 (Ad (A1 Φ (BI Bh Ω) Fr)) (B1 (A1 (Ce true) (A1 A7 π η) (BE (Z (pu (.str (AO "leaves"))) (Z (pu (.str (AO "noring"))) A2))))) C5)
    (AT (C8 (Ad (A1 Φ (A1 A7 π η) (pu (.str (AO "comes"))))) (B1 (CO "Net" "is_outer" 1 MQ τ (Z (A1 A7 π Fr) A2))) C5)
    (B1 (Ie (A1 (Ce true) (A1 A7 π η) (BE (Z (pu (.str (AO "by"))) (Z (pu (.str (AO "never"))) A2)))) (Aa 3 LB (Z (A1 A7 π Fr) (Z η (Z (A1 J4 (BD (B6 "Net" "many") τ) ζ) A2))))))))))
def aA:Br:=D2 2 Y7
def oP:C6 ["pattern"] ["pattern"] (Bs o4):=Cb
def Y3:Ap:=
    (B1 (CW 1 [0] (Dj (Z (A1 addW (pu P3) ζ) A2)) (AB 0) (Ad (Aa 2 Om (Z τ Ω))) π))
def SL:Br:=D2 1 Y3
def qG:C6 ["net","books","door","address","doors","told"] ["net","books","door","address"] (Bs p0):=Cb
def Z5:Ap:=
    (AT (Am (Be A2) (AB 4))
    (AT (SG (Ad (A1 (Ce false) ψ (I 4))) (AT (Di (EA Ej (I 4) (Z ψ A2)))
    (AT (Am (Aa 4 NT (Z π (Z (A1 A7 τ Ty) (Z ψ (Z Ψ A2))))) (AB 5))
    (AT (C8 (Ad (A1 (BC false) (A1 A7 (I 5) η) (pu (.str (AO "at"))))) (B1 (BE (Z (I 4) (Z (I 5) A2)))) C5)
    (Am (BE (Z (A1 A7 (I 5) ζ) (Z (A1 A7 (I 5) υ) A2))) (AB 2))))))
    (B1 (BE (Z (I 4) (Z (BE (Z (pu (.str (AO "ring"))) (Z (Oh (I 4) (Z ψ A2)) A2))) A2))))))
def Ri:Br:=FL 6 Z5
def oh:C6 ["saying","doors","end","word","comes_by"] ["saying","doors","end"] (Bs nR):=Cb
def Y9:Ap:=
    (AT (Am (A1 A7 π η) (AB 3))
    (AT (C8 (Ad (A1 Φ Ψ (pu (.str (AO "comes"))))) (B1 (A1 Φ ψ (BE (Z (pu (.str (AO "out"))) (Z (A1 A7 (A1 A7 π Fr) η) (Z (A1 A7 (A1 A7 π Fr) ζ) A2)))))) C5)
    (AT (C8 (Ad (A1 Φ Ψ (pu (.str (AO "leaves"))))) (B1 (A1 Φ Ty (pu (.str (AO "out"))))) C5)
    (AT (C8 (Ad (A1 Φ Ψ (pu (.str (AO "noring"))))) (B1 (A1 (BC false) Ty (pu (.str (AO "ring"))))) C5)
    (AT (Am (CI (A1 (Ce true) (A1 A7 π Fr) (CW 1 [] (CN τ) (AB 0) ac (A1 A7 π η)))) (AB 4))
    (B1 (A1 Φ (I 4) (A1 Φ Ψ (pu (.str (AO "by")))))))))))
def Wb:Br:=D2 5 Y9
def og:C6 ["net","books","saying","address","told"] ["net","books","saying","address"] (Bs nQ):=Cb
def Y8:Ap:=
    (AT (Am (Aa 4 Ri (Z π (Z τ (Z (A1 A7 ψ υ) (Z Ψ A2))))) (AB 4))
    (B1 (Aa 3 Wb (Z ψ (Z (A1 A7 (I 4) η) (Z (A1 A7 (I 4) ζ) A2))))))
def UC:Br:=D2 5 Y8
def qA:C6 ["net","books","saying","address"] ["net","books","saying"] (Bs ov):=Cb
def hZ:Ap:=
    (AT (Em (CN (Aa 1 SL (Z (A1 A7 ψ ζ) A2))) (AB 3) (C8 (D8 (Ad (Aa 4 UC (Z π (Z τ (Z ψ (Z Ψ A2))))))) (B1 Ψ) C5))
    (B1 Tm))
def aB:Br:=D2 4 hZ
def oR:C6 ["net","books","saying"] ["net","books","saying"] (Bs o6):=Cb
def Y4:Ap:=
    (AT (Di (Aa 2 UG (Z τ Ω)))
    (AT (C8 (D8 (Ad (Aa 2 aA (Z ψ Ω)))) (MO "NoSaying") C5)
    (B1 (Aa 3 aB (Z π (Z τ (Z ψ A2)))))))
def U8:Br:=D2 3 Y4
def oM:C6 ["_law_net_here","_law_old","_law_new","_law_entry","_law_parts","_law_number","_law_mark","_law_door","_law_address","_law_road_here","_law_end","_law_pattern","_law_sayings","_law_house","_law_before","_law_behind","_law_saying","_law_both"] ["_law_net_here","_law_old","_law_new","_law_entry","_law_parts"] (Bs n9):=Cb
def Xl:Ap:=
    (AT (a6 Ψ (Dh [(AB 5),(AB 6),(AB 7),(AB 8),(AB 9),(AB 10)]))
    (AT (Am (Aa 1 Oo (Z (I 8) A2)) (AB 11))
    (AT (Am (Be (Z (BE (Z (pu (.str (AO "leaves"))) (Z (I 11) (Z (I 7) A2)))) A2)) (AB 12))
    (AT (Di (NQ (I 12) (Z (CW 1 [11,7] (CN (Aa 1 Jx XL)) (AB 0) ac (BE (Z (pu (.str (AO "comes"))) (Z τ (Z ψ Ω))))) A2)))
    (AT (Em (Dj (Z (BD (B6 "Net" "many") π) A2)) (AB 13) (Am (CI (A1 addW (I 12) (Be (Z (BE (Z (pu (.str (AO "by"))) (Z (I 11) (Z (I 7) (Z (I 13) A2))))) (Z (BE (Z (pu (.str (AO "never"))) (Z (I 11) (Z (I 7) (Z (I 13) A2))))) A2))))) (AB 12)))
    (AT (Am (Aa 4 On (Z (I 4) (Z τ (Z (I 7) (Z (I 8) A2))))) (AB 14))
    (AT (Am (Aa 4 On (Z (I 4) (Z ψ (Z (I 7) (Z (I 8) A2))))) (AB 15))
    (AT (Em (CN (I 12)) (AB 16) (AT (Am (Ie (Aa 3 JD (Z (I 16) (Z (A1 A7 (I 14) η) (Z (A1 A7 (I 14) ζ) A2)))) (Aa 3 JD (Z (I 16) (Z (A1 A7 (I 15) η) (Z (A1 A7 (I 15) ζ) A2))))) (AB 17))
    (C8 (JX (Ad (I 17)) (D8 (Ad (Aa 3 JD (Z (I 16) (Z (I 9) (Z (I 10) A2))))))) (B1 (pu (.AL false))) C5)))
    (AT (Am (A1 A7 (I 12) (A1 Bf (I 5) (BI Bh (Z (I 12) A2)))) (AB 16))
    (AT (C8 (Ad (A1 (BC false) (A1 (El true) (Aa 3 U8 (Z π (Z τ (Z (I 16) A2)))) Tm) (Aa 3 JD (Z (I 16) (Z (A1 A7 (I 14) η) (Z (A1 A7 (I 14) ζ) A2)))))) (B1 (pu (.AL false))) C5)
    (B1 (CI (Ie (A1 (BC false) (A1 A7 (I 10) η) (pu (.str (AO "lost")))) (A1 Φ (BE (Z (I 9) (Z (I 10) A2))) (A1 A7 (Be (Z (I 14) (Z (I 15) A2))) (I 6))))))))))))))))
def Wd:Br:=D2 18 Xl
def oE:C6 ["_law_script","_law_parts","_law_net_here","_law_old","_law_new","_law_run","_law_cell","_law_k","_law_some","_law_entry"] ["_law_script"] (Bs Jd):=Cb
def R6:Ap:=
    (AT (Am (Aa 1 UF (Z (Aa 2 H9 (Z π (Z η A2))) A2)) (AB 1))
    (AT (Am (KC "Net" 2 Oj (Z (BI FD (Z (A1 A7 τ η) A2)) (Z (BI FD (Z (A1 A7 τ ζ) A2)) A2))) (AB 2))
    (AT (Am (Aa 3 NS (Z π (Z ζ (Z (A1 A7 τ η) A2)))) (AB 3))
    (AT (Am (Aa 3 We (Z π (Z Ψ (Z (A1 A7 τ η) A2)))) (AB 4))
    (AT (Am (KC "Run" 4 SI (Z ψ (Z Ψ (Z (I 4) (Z (Aa 2 Rg (Z (BD (B6 "Net" "many") ψ) (Z (A1 Bf (Aa 2 H9 (Z π (Z (pu (.int 13)) A2))) (A1 Gd (pu (.int 10)) (pu (.int 20)))) A2))) A2))))) (AB 5))
    (AT (Em (CN (CI (A1 addW (Be (Z υ (Z (pu (.int 5)) (Z (pu (.int 9)) A2)))) (Hq π (pu none) (FM (pu (.int 63))))))) (AB 6) (AT (Di (Aa 3 Pb (Z (I 5) (Z (Aa 1 Jx Cl) (Z (A1 Bf (I 6) (A1 Gd (pu (.int 10)) (pu (.int 20)))) A2)))))
    (Di (Aa 3 Pb (Z (I 5) (Z (Aa 1 Jx Cl) (Z (A1 addW (A1 EQ (A1 Bf (I 6) (A1 Gd (pu (.int 10)) (pu (.int 20)))) Fr) (pu (.int 5))) A2)))))))
    (AT (Em (Dj (Z (pu (.int 60)) A2)) (AB 7) (AT (Am (CO "Run" "may" 0 NR (I 5) A2) (AB 8))
    (C8 (MP (Ad (A1 (BC false) (I 8) (Be A2)))) (Di (CO "Run" "move" 1 Gr (I 5) (Z (A1 A7 (I 8) (A1 Bf (I 7) (BI Bh (Z (I 8) A2)))) A2))) C5)))
    (AT (Em (CN (CO "Run" "journal" 0 SJ (I 5) A2)) (AB 9) (C8 (D8 (Ad (Aa 5 Wd (Z ψ (Z Ψ (Z (I 4) (Z (I 9) Cl))))))) (B1 (pu (.AL false))) C5))
    (B1 (pu (.AL true)))))))))))
def jx:Br:=FL 10 R6
section
variable(P:CD)(w:Bq){K:Ao}{mg:Str->Option A8}(base:BG)(T:Dt K mg)
include T
set_option maxHeartbeats 4000000
def dt:DP P w K mg base "_law_draws" 2 1 Kt:=by exists 0,Xi,T.wX,oJ;ac_nf
def zg:DP P w K mg base "_law_net" 1 2 UF:=by have h:=PI (P:=P) (w:=w) (base:=base) (k:=1) (m:=YA) T.vn q1;exact h (by have:=q1;have:=dt P w base T;ac_nf)
def dr:DP P w K mg base "_law_cell_at" 2 1 H9:=by exists 0,Xh,T.wW,oI;ac_nf
def kC:DP P w K mg base "is_whole" 1 1 UD:=by exists 0,bc,T.wQ,oj;ac_nf
def TN:DP P w K mg base "is_whole_within" 3 2 LB:=by exists 1,Xf,T.wR,om;exists kC;ac_nf
def aaC:DP P w K mg base "are_counts" 1 3 WX:=by exists 2,bU,T.uZ,oQ;exists TN;ac_nf
def kB:DP P w K mg base "is_pair" 1 1 SN:=by exists 0,b_,T.wI,oa;ac_nf
def kA:DP P w K mg base "is_door_among" 2 3 UA:=by exists 2,bZ,T.wG,oZ;exists kB;exists TN;ac_nf
def z_:DP P w K mg base "is_wire_among" 2 4 UE:=by exists 3,bf,T.wS,oD;exists kA;exists kB;ac_nf
def aaG:DP P w K mg base "far_doors" 2 5 WZ:=by have h:=PI (P:=P) (w:=w) (base:=base) (k:=4) (m:=hV) T.wB oU;exact h (by have:=oU;have:=z_ P w base T;ac_nf)
def ku:V2 P w K mg base "Net" 2 6 Oj:=by have h:=fE (P:=P) (w:=w) (base:=base) (k:=5) (m:=Xt) T.uv p5;exact h (by have:=p5;have:=aaC P w base T;have:=aaG P w base T;ac_nf)
def zl:DP P w K mg base "_law_row" 2 1 Rh:=by exists 0,Z1,T.vu,q7;ac_nf
def zb:DP P w K mg base "_law_book" 2 2 Rf:=by exists 1,Xg,T.wU,oG;exists dt;exists zl;ac_nf
def kD:DP P w K mg base "_law_books" 3 3 NS:=by have h:=PI (P:=P) (w:=w) (base:=base) (k:=2) (m:=hX) T.wV oH;exact h (by have:=oH;have:=zb P w base T;have:=dr P w base T;ac_nf)
def du:DP P w K mg base "_law_mixed" 2 2 Ig:=by exists 1,Xm,T.vl,oo;exists dt;ac_nf
def zh:DP P w K mg base "_law_new_books" 3 4 We:=by have h:=PI (P:=P) (w:=w) (base:=base) (k:=3) (m:=Yx) T.vo q2;exact h (by have:=q2;have:=kD P w base T;have:=dr P w base T;have:=du P w base T;ac_nf)
def dq:DP P w K mg base "is_pattern" 1 1 Pa:=by exists 0,ba,T.wJ,ob;ac_nf
def aaJ:DP P w K mg base "is_number_or_none" 2 3 UB:=by exists 2,Y5,T.wH,o_;exists TN;ac_nf
def aaL:DP P w K mg base "is_row" 2 4 Wa:=by exists 3,bb,T.wL,od;exists aaJ;exists dq;ac_nf
def aaH:DP P w K mg base "is_book" 2 5 W_:=by exists 4,bX,T.wE,oX;exists aaL;ac_nf
def aa1:HJ P w K mg base "Net" "count" 1 1 Sz:=by have h:=Jh (P:=P) (w:=w) (mg:=mg) (base:=base) (k:=0) (m:=gX) T.uu p4;exact(h (by have:=p4;ac_nf)).st
def aaI:DP P w K mg base "is_books" 2 6 a8:=by exists 5,bY,T.wF,oY;exists aa1;exists aaH;ac_nf
def kH:DP P w K mg base "refuse_unless_books" 2 7 UG:=by exists 6,bj,T.vz,qC;exists aaI;ac_nf
def zZ:DP P w K mg base "is_step" 2 3 Rd:=by exists 2,Xe,T.wP,oi;exists TN;ac_nf
def aaK:DP P w K mg base "is_plan" 2 4 a9:=by exists 3,Y6,T.wK,oc;exists zZ;ac_nf
def zo:DP P w K mg base "refuse_unless_plan" 4 8 Wf:=by exists 7,bk,T.w0,qD;exists aaK;exists kH;ac_nf
def aa3:HJ P w K mg base "Net" "wires" 0 1 P_:=by have h:=Jh (P:=P) (w:=w) (mg:=mg) (base:=base) (k:=0) (m:=gw) T.uy p8;exact(h (by have:=p8;ac_nf)).st
def aaF:DP P w K mg base "copied_net" 1 8 WY:=by have h:=PI (P:=P) (w:=w) (base:=base) (k:=7) (m:=hU) T.v9 oT;exact h (by have:=oT;have:=ku P w base T;have:=aa3 P w base T;ac_nf)
def aaE:DP P w K mg base "copied_books" 1 1 SM:=by have h:=PI (P:=P) (w:=w) (base:=base) (k:=0) (m:=hT) T.ua oS;exact h (by have:=oS;ac_nf)
def aa6:V2 P w K mg base "Run" 4 9 SI:=by have h:=fE (P:=P) (w:=w) (base:=base) (k:=8) (m:=Xw) T.v5 pB;exact h (by have:=pB;have:=aaE P w base T;have:=aaF P w base T;have:=zo P w base T;ac_nf)
def zm:DP P w K mg base "_law_shuffled" 3 3 Lx:=by exists 2,Z2,T.vv,q8;exists du;ac_nf
def zj:DP P w K mg base "_law_plan" 2 4 Rg:=by exists 3,Yz,T.vr,q5;exists zm;ac_nf
def k7:HJ P w K mg base "Run" "place" 0 1 MR:=by have h:=Jh (P:=P) (w:=w) (mg:=mg) (base:=base) (k:=0) (m:=bT) T.uW oN;exact(h (by have:=oN;ac_nf)).st
def k4:HJ P w K mg base "Run" "may_step" 0 2 Ol:=by have h:=Jh (P:=P) (w:=w) (mg:=mg) (base:=base) (k:=1) (m:=Y0) T.uT pF;exact(h (by have:=pF;have:=k7 P w base T;ac_nf)).st
def jz:HJ P w K mg base "Run" "may" 0 3 NR:=by have h:=Jh (P:=P) (w:=w) (mg:=mg) (base:=base) (k:=2) (m:=Xz) T.uS pE;exact(h (by have:=pE;have:=k4 P w base T;ac_nf)).st
def k9:DP P w K mg base "is_address" 1 3 U9:=by exists 2,bW,T.wD,oW;exists TN;ac_nf
def aa2:HJ P w K mg base "Net" "is_door" 1 4 WW:=by have h:=Jh (P:=P) (w:=w) (mg:=mg) (base:=base) (k:=3) (m:=gY) T.uw p6;exact(h (by have:=p6;have:=kA P w base T;ac_nf)).st
def jy:HJ P w K mg base "Net" "is_outer" 1 5 MQ:=by have h:=Jh (P:=P) (w:=w) (mg:=mg) (base:=base) (k:=4) (m:=gZ) T.ux p7;exact(h (by have:=p7;have:=aa2 P w base T;ac_nf)).st
def zz:V2 P w K mg base "Letter" 3 1 Ve:=by have h:=fE (P:=P) (w:=w) (base:=base) (k:=0) (m:=Xs) T.ur p2;exact h (by have:=p2;ac_nf)
def aa4:HJ P w K mg base "Run" "come" 2 6 T0:=by have h:=Jh (P:=P) (w:=w) (mg:=mg) (base:=base) (k:=5) (m:=Xu) T.uz p9;exact(h (by have:=p9;have:=zz P w base T;have:=jy P w base T;have:=k9 P w base T;ac_nf))
def aa8:HJ P w K mg base "Run" "knows" 2 1 U6:=by have h:=Jh (P:=P) (w:=w) (mg:=mg) (base:=base) (k:=0) (m:=Xy) T.v8 pD;exact(h (by have:=pD;ac_nf)).st
def k8:DP P w K mg base "fits" 2 4 Om:=by exists 3,bV,T.wC,oV;exists k9;exists dq;ac_nf
def zp:DP P w K mg base "taken" 3 5 Wg:=by exists 4,gz,T.w1,qF;exists k8;ac_nf
def aa0:HJ P w K mg base "Net" "beyond" 1 1 SH:=by have h:=Jh (P:=P) (w:=w) (mg:=mg) (base:=base) (k:=0) (m:=gW) T.ut p3;exact(h (by have:=p3;ac_nf)).st
def kG:DP P w K mg base "onward" 4 6 NT:=by exists 5,Z4,T.vy,qB;exists aa0;exists zp;ac_nf
def aa9:HJ P w K mg base "Run" "next_of" 1 7 U7:=by have h:=Jh (P:=P) (w:=w) (mg:=mg) (base:=base) (k:=6) (m:=Y1) T.uV pH;exact(h (by have:=pH;have:=aa8 P w base T;have:=kG P w base T;ac_nf)).st
def aa5:HJ P w K mg base "Run" "go" 1 8 TR:=by have h:=Jh (P:=P) (w:=w) (mg:=mg) (base:=base) (k:=7) (m:=Xv) T.v3 pA;exact(h (by have:=pA;have:=aa9 P w base T;have:=kC P w base T;ac_nf))
def aaA:HJ P w K mg base "Run" "step" 0 3 SK:=by have h:=Jh (P:=P) (w:=w) (mg:=mg) (base:=base) (k:=2) (m:=Y2) T.uX oO;exact(h (by have:=oO;have:=k4 P w base T;have:=k7 P w base T;ac_nf))
def k6:HJ P w K mg base "Run" "move" 1 9 Gr:=by have h:=Jh (P:=P) (w:=w) (mg:=mg) (base:=base) (k:=8) (m:=R5) T.uU pG;exact(h (by have:=pG;have:=aa4 P w base T;have:=aa5 P w base T;have:=aaA P w base T;ac_nf))
def zf:DP P w K mg base "_law_moved" 3 10 Pb:=by have h:=PI (P:=P) (w:=w) (base:=base) (k:=9) (m:=Xn) T.vm q0;exact h (by have:=q0;have:=jz P w base T;have:=k6 P w base T;have:=du P w base T;ac_nf)
def kE:DP P w K mg base "_law_outer" 1 1 Jx:=by exists 0,Yy,T.vq,q4;ac_nf
def aa7:HJ P w K mg base "Run" "journal" 0 1 SJ:=by have h:=Jh (P:=P) (w:=w) (mg:=mg) (base:=base) (k:=0) (m:=Xx) T.v7 pC;exact(h (by have:=pC;ac_nf))
def kF:DP P w K mg base "_law_signs" 1 1 Oo:=by exists 0,Z3,T.vw,q9;ac_nf
def zc:DP P w K mg base "_law_is_like" 2 1 Wc:=by exists 0,Xj,T.wY,oK;ac_nf
def zi:DP P w K mg base "_law_out" 3 2 Pc:=by exists 1,hY,T.vp,q3;exists zc;ac_nf
def za:DP P w K mg base "_law_beyond" 2 1 Re:=by exists 0,bg,T.wT,oF;ac_nf
def zk:DP P w K mg base "_law_road" 4 3 On:=by have h:=PI (P:=P) (w:=w) (base:=base) (k:=2) (m:=Z0) T.vt q6;exact h (by have:=q6;have:=za P w base T;have:=zi P w base T;have:=kF P w base T;ac_nf)
def zd:DP P w K mg base "_law_is_so" 3 1 JD:=by exists 0,Xk,T.vj,oL;ac_nf
def aaM:DP P w K mg base "is_saying" 2 6 aA:=by exists 5,Y7,T.wM,oe;exists jy;exists dq;exists TN;ac_nf
def aaB:DP P w K mg base "addresses" 1 5 SL:=by exists 4,Y3,T.uY,oP;exists k8;ac_nf
def zq:DP P w K mg base "walked" 4 7 Ri:=by have h:=PI (P:=P) (w:=w) (base:=base) (k:=6) (m:=Z5) T.w2 qG;exact h (by have:=qG;have:=kG P w base T;ac_nf)
def zY:DP P w K mg base "is_so_of" 3 1 Wb:=by exists 0,Y9,T.wO,oh;ac_nf
def aaN:DP P w K mg base "is_so" 4 8 UC:=by exists 7,Y8,T.wN,og;exists zY;exists zq;ac_nf
def zn:DP P w K mg base "least_broken" 3 9 aB:=by exists 8,hZ,T.vx,qA;exists aaB;exists aaN;ac_nf
def aaD:DP P w K mg base "broken" 3 10 U8:=by exists 9,Y4,T.u_,oR;exists aaM;exists zn;exists kH;ac_nf
def ze:DP P w K mg base "_law_kept" 5 11 Wd:=by exists 10,Xl,T.vk,oM;exists zd;exists kE;exists zk;exists kF;exists aaD;ac_nf
def uF:CF P w K mg base "law" Jd ["_law_script","_law_parts","_law_net_here","_law_old","_law_new","_law_run","_law_cell","_law_k","_law_some","_law_entry"] 11 R6:=by have:=oE;have:=ku P w base T;have:=aa6 P w base T;have:=aa7 P w base T;have:=jz P w base T;have:=k6 P w base T;have:=kD P w base T;have:=dr P w base T;have:=ze P w base T;have:=zf P w base T;have:=zg P w base T;have:=zh P w base T;have:=kE P w base T;have:=zj P w base T;ac_nf
end
def J2(x:Int){n:Nat}(h:0<n):∃j:Nat,j<n/\x%(n:Int)=(j:Int):=by have h1:=Int.emod_nonneg x (show(n:Int)≠0 by lia);have h2:=Int.emod_lt_of_pos x (show(0:Int)<n by lia);exact⟨(x%(n:Int)).toNat,δ,δ⟩
def B3(AZ:↑Int):↑W:=AZ.map W.int
def mb(l:↑Int)(x:Int){n:Nat}(Ae:⇑l=n)(h0:0<n):∃f∈l,∀h g:A5,g[0]?=↥⟨.lst,B3 l⟩->A7 (.ref ⇑h) (.int (x%(n:Int))) (h++g)=.ok (.int f,h++g):=by obtain⟨j,An,e⟩:=J2 x h0;rw[e];exact⟨l[j],J9 _,λh g eg=>YX _ (Gf _ (by rw[C9];exact eg)) (by simp[B3,Ae,An])⟩
noncomputable def Bw(cs:↑Nat):↑W:=cs.map λ(c:Nat)=>W.int (c:Int)
abbrev AN:=Nat×Nat
noncomputable def AJ(d:AN):W:=.tup [.int (d.1:Nat),.int (d.2:Nat)]
def CJ(w:AN×AN):W:=.tup [AJ w.1,AJ w.2]
noncomputable def ends(ws:ν):↑AN:=(ws.map λw=>[w.1,w.2]).flatten
theorem cX{α:Type}:∀(l:↑α)(i:Nat)(h:i< ⇑l),List.Perm (l[i]::l.eraseIdx i) l
 |x::l,0,_=>fq _
 |x::l,i+1,h=>by have CC:=cX l i (h:);erw[List.getElem_cons_succ,rx];exact(List.Perm.swap x _ _).trans (CC.cons x)
noncomputable def I6(cs:↑Nat)(h:Nat):↑AN:=(Cg (cs.getD h 0)).map λk=>(h,k)
def Dz(cs:↑Nat)(n:Nat):↑AN:=(Cg n).flatMap (I6 cs)
def Vh(cs:↑Nat)(n:Nat):Dz cs (n+1)=Dz cs n++I6 cs n:=by unfold Dz;rw[XM,List.flatMap_append];simp
def dP{cs:↑Nat}{h:Nat}{d:AN}:d∈I6 cs h↔d.1=h/\d.2<cs.getD h 0:=by
 unfold I6;rw[Ui];constructor
 .rintro⟨k,AQ,rfl⟩;exact⟨rfl,List.mem_range.mp AQ⟩
 .rintro⟨rfl,h2⟩;exact⟨d.2,List.mem_range.mpr h2,rfl⟩
def Pd{cs:↑Nat}{n:Nat}{d:AN}:d∈Dz cs n↔d.1<n/\d.2<cs.getD d.1 0:=by
 unfold Dz;rw[List.mem_flatMap];constructor
 .rintro⟨h,hh,hd⟩;obtain⟨rfl,h2⟩:=dP.mp hd;exact⟨List.mem_range.mp hh,h2⟩
 .rintro⟨h1,h2⟩;exact⟨d.1,List.mem_range.mpr h1,dP.mpr ⟨rfl,h2⟩⟩
def vK(cs:↑Nat)(h:Nat):(I6 cs h).Nodup:=by unfold I6;rw[X1,X5];exact List.nodup_range.imp λVM z=>VM (Prod.mk.inj z).2
theorem hM(cs:↑Nat):∀n,(Dz cs n).Nodup
 |0=>Qk
 |n+1=>by rw[Vh];refine List.nodup_append.mpr ⟨hM cs n,vK cs n,λa AF b A4 z=>?_⟩;subst z;have h1:=(Pd.mp AF).1;have h2:=(dP.mp A4).1;lia
def cw{cs:↑Nat}(h:∀c∈cs,c<=4)(k:Nat):cs.getD k 0<=4:=by
 rw[Fg];cases e:cs[k]? with
 |none=>simp
 |some c=>simpa using h c (Ik e)
def vJ{cs:↑Nat}(h:∀c∈cs,1<=c/\c<=4)(k:Nat):⇑(I6 cs k)<=4:=by unfold I6;rw[Cd,Sd];exact cw (λc AK=>(h c AK).2) k
theorem Vg{cs:↑Nat}(h:∀c∈cs,1<=c/\c<=4):∀n,⇑(Dz cs n)<=4*n
 |0=>by simp[Dz]
 |n+1=>by rw[Vh,EL];have:=Vg h n;have:=vJ h n;lia
def ik{cs:↑Nat}{h:Nat}(hh:h< ⇑cs):(Bw cs)[h]?=↥(.int (cs.getD h 0:Nat)):=by simp[Bw,C3 hh,Fg]
structure IK(cs:↑Nat)(ws:ν):Prop where
 h1:1<=⇑cs
 Ez:⇑cs<=6
 c:∀c∈cs,1<=c/\c<=4
 Bj:(ends ws).Nodup
 sub:∀d∈ends ws,d∈Dz cs ⇑cs
 few:⇑ws<100
def head_mem{cs:↑Nat}(h1:1<=⇑cs)(c:∀c∈cs,1<=c/\c<=4):((0,0):AN)∈Dz cs ⇑cs:=by
 refine Pd.mpr ⟨h1,?_⟩;cases cs with
 |nil=>simp at h1
 |cons x r=>exact(c x (I0 ..)).1
@[simp] theorem air(cs:↑Nat):Fu (Bw cs)=true:=Rk.mpr λw hw=>by obtain⟨c,_,rfl⟩:=List.mem_map.mp hw;simp
@[simp] theorem aiH(d:AN):DU (AJ d)=true:=by simp[AJ]
@[simp] theorem aan(w:AN×AN):DU (CJ w)=true:=by simp[CJ]
def NU{α:Type}(f:α->W)(l:↑α)(e:∀a,DU (f a)=true):Fu (l.map f)=true:=Rk.mpr λw hw=>by obtain⟨c,_,rfl⟩:=List.mem_map.mp hw;exact e c
end Ds
namespace BJ
def JE{h g:A5}(p:h<+: g):FO h g=true:=by obtain⟨r,rfl⟩:=p;simp
def Fv{h g:A5}(p:h<+: g)(r:A5):h<+: g++r:=p.trans (Eu _ _)
def NY{h:A5}{i j:Nat}{a b:↑W}(A9:h[i]?=↥⟨.lst,a⟩)(AG:h[j]?=↥⟨.lst,b⟩)(l:⇑a+⇑b<=Bi):addW (.ref i) (.ref j) h=.ok (.ref ⇑h,h++[⟨.lst,a++b⟩]):=by have f1:=Kl h A9;have f2:=Kl h AG;unfold addW;erw[f1,f2];exact NX h (l:)
def Ic{h:A5}{n:Nat}{ws:↑W}(e:h[n]?=↥⟨.lst,ws⟩):Bh [.ref n] h=.ok (.int ⇑ws,h):=by simp[Bh,Gf h e]
def EW{h:A5}{n k:Nat}{ws:↑W}{w:W}(e:h[n]?=↥⟨.lst,ws⟩)(x:ws[k]?=↥w):A7 KK (.int (k:Int)) h=.ok (w,h):=YX h (Gf h e) x
end BJ
namespace Ds
end Ds
namespace BJ
def J0{h:A5}{n:Nat}{ws:↑W}{m:B8}{ρ:Ay}{h0:A5}(e:h[n]?=↥⟨.lst,ws⟩)(em:m ρ h0=.ok (.ref n,h)):CN m ρ h0=.ok (Fd KK,h):=by unfold CN;erw[H0,em,J,Gf h e]
def Kk{h:A5}{n:Nat}{ws:↑W}(e:h[n]?=↥⟨.lst,ws⟩)(j:Nat):Fd KK j h=↥ws[j]?:=by erw[Fd,Gf h e]
@[simp] theorem aju(f g:DR)(x y:W)(ρ:Ay)(h:A5):Dh [f,g] (.tup [x,y]) ρ h=(f x ρ h).bind (QL λρ h=>(g y ρ h).bind (QL C5)):=by
  erw[Dh,Tq,FF,JB,Tw,Az];rw[if_pos trivial]
  congr
end BJ
namespace Ds
def Zr(h:A5)(d:AN):Bu 8 h (AJ d)=↥(.CZ true [.int (d.1:Nat),.int (d.2:Nat)]):=by simp[AJ,Bu]
def YZ(h:A5)(a b:AN):BC true (AJ a) (AJ b) h=.ok (.AL (decide (a=b)),h):=by
 unfold BC;rw[Zr,Zr];erw[eqT,GJ]
 congr 3
 obtain⟨a1,a2⟩:=a;obtain⟨b1,Ey⟩:=b;by_cases h1:a1=b1<;>by_cases h2:a2=Ey<;>simp[h1,h2]
 all_goals lia
noncomputable def EF:ν->AN->Option AN
 |[],_=>none
 |w::ws,d=>if w.1=d then↥w.2 else if w.2=d then↥w.1 else EF ws d
def IR:Option AN->W
 |none=>.non
 |some d=>AJ d
@[simp] theorem aiM(o:Option AN):DU (IR o)=true:=by cases o<;>simp[IR]
end Ds
namespace BJ
theorem hx{α β:Type}(f:α->β):∀(l:↑α)(k:Nat),(l.map f).eraseIdx k=(l.eraseIdx k).map f
 |[],_=>γ
 |x::l,0=>γ
 |x::l,k+1=>by simp[hx f l k]
def acS:(2:Int)^63=9223372036854775808:=ε
def acQ{ws:↑W}{k:Nat}(AQ:k< ⇑ws)(AI:⇑ws<1000):K0 ws [.int (k:Int)]=↥(ws[k],ws.eraseIdx k):=by
 have c: -(2^63)<=(k:Int)/\(k:Int)<2^63:=by rw[acS];lia
 have e:Sj (k:Int) ⇑ws=↥k:=by unfold Sj;simp[show¬(k:Int)<0 by lia,AQ]
 erw[K0,if_pos c,e,C3 AQ,LH]
def MN{f:M4}{m:B8}{a:DQ}{ρ:Ay}{h h1 h2:A5}{n:Nat}{ws ws2 ws' us:↑W}{r:W}(em:m ρ h=.ok (.ref n,h1))(A9:h1[n]?=↥⟨.lst,ws⟩)(BX:a ρ h1=.ok (us,h2))(AG:h2[n]?=↥⟨.lst,ws2⟩)(C2:f ws2 us=↥(r,ws'))(AI:⇑ws'<=Bi) :
  EA f m a ρ h=.ok (r,h2.set n ⟨.lst,ws'⟩):=by
 rw[agH,em];erw[J,Ms,Kl h1 A9,H0,BX,SD,Kl h2 AG,C2];exact if_pos AI
def WC{h g:A5}(p:h<+: g){n:Nat}(l:⇑h<=n)(o:O):h<+: g.set n o:=by obtain⟨r,rfl⟩:=p;rw[ro _ _ l];exact Eu _ _
def IE{h:A5}{i j:Nat}(ne:i≠j)(o:O):(h.set i o)[j]?=h[j]?:=PL ne
def LS{h:A5}{i:Nat}{o o':O}(e:h[i]?=↥o'):(h.set i o)[i]?=↥o:=LJ (List.getElem?_eq_some_iff.mp e).1
def HN{h:A5}{i:Nat}{o:O}(e:h[i]?=↥o):i< ⇑h:=(List.getElem?_eq_some_iff.mp e).1
end BJ
namespace Ds
def ub(ws:ν)(w:AN×AN):ends (ws++[w])=ends ws++[w.1,w.2]:=by simp[ends]
def ax(ws:ν):⇑(ends ws)=2*⇑ws:=by
 induction ws with
 |nil=>rfl
 |cons w ws CC=>simp[ends]at CC |-;lia
structure TY(h:A5)(a b:Nat)(R:↑AN)(ws:ν)(h':A5):Prop where
 BX:h'[a]?=↥⟨.lst,R.map AJ⟩
 B4:h'[b]?=↥⟨.lst,ws.map CJ⟩
 ne:a≠b
 Ju:⇑h<=a
 Jv:⇑h<=b
 pr:h<+: h'
def Mh(c:Nat):Prop:=c=48\/c=49\/c=120
structure QF(x:Str):Prop where
 l:⇑x.cps.toList=4
 s:∀c∈x.cps.toList,Mh c
structure CY where
 p:Str
 a:Option Nat
 b:Option Nat
noncomputable def Cw:Option Nat->W
 |none=>.non
 |some k=>.int (k:Int)
def Dd(r:CY):W:=.tup [.str r.p,Cw r.a,Cw r.b]
@[simp] theorem dT(o:Option Nat):DU (Cw o)=true:=by cases o<;>simp[Cw]
@[simp] theorem UL(r:CY):DU (Dd r)=true:=by simp[Dd]
structure TU(c:Nat)(r:CY):Prop where
 p:QF r.p
 a:∀k,r.a=↥k->k<c
 b:∀k,r.b=↥k->k<c
def Ky(c:Nat)(b:↑CY):Prop:=⇑b<=12/\∀r∈b,TU c r
def x9{cs:↑Nat}(h:∀c∈cs,1<=c/\c<=4){k:Nat}(AQ:k< ⇑cs):1<=cs.getD k 0/\cs.getD k 0<=4:=by have:=h (cs[k]) (J9 _);simpa[AQ]using this
def pt(q:Int)(LU:Int->Nat):Nat->Int->Str×Int
 |0,y=>(AO "",y)
 |j+1,y=>((pt q LU j y).1++(⟨#[LU (pt q LU j y).2]⟩:Str),(pt q LU j y).2/q)
def qo(i:Int)(h:A5):UD [.int i] h=.ok ω:=by have A9:DT "int" (.int i) h=.ok ω:=rfl;have AG:DT "bool" (.int i) h=.ok (.AL false,h):=rfl;simp[UD,bc,A9,AG]
def ag(f g:Iq)(a b c:B8)(ρ:Ay)(h:A5):Of f g a b c ρ h=(a ρ h).bind λp=>(b ρ p.2).bind λq=>(f p.1 q.1 q.2).bind λr=>Mj (λk=>if k=true then bd c λz _ h=>g q.1 z h else pu (.AL false)) r.1 ρ r.2:=rfl
def Rz(i a b:Int)(h:A5):LB [.int i,.int a,.int b] h=.ok (.AL (decide (a<=i)&&decide (i<=b)),h):=by
 have e:=qo i h;by_cases AF:a<=i
 .simp[LB,Xf,e,ag,Mj,AF]
 .simp[LB,Xf,e,ag,Mj,AF]
end Ds
namespace BJ
theorem mapM_some{α β Nh:Type}(f:α->Option β)(g:Nh->α)(k:Nh->β)(e:∀c,f (g c)=↥(k c)):∀l:↑Nh,(l.map g).mapM f=↥(l.map k)
 |[]=>rfl
 |c::l=>by simp[e,mapM_some f g k e l]
def adu{h:A5}{n:Nat}{l:↑Int}(k:Nat)(e:h[n]?=↥⟨.lst,l.map W.int⟩):Bu (k+1) h KK=↥(.CZ false (l.map C_.int)):=by have es:=Gf h e;erw[Bu,es];rw[mapM_some (Bu k h) W.int C_.int (λc=>by cases k<;>rfl) l];rfl
end BJ
namespace Ds
def IZ(b:↑CY):O:=⟨.lst,b.map Dd⟩
noncomputable def MW(a n:Nat):↑W:=(Cg n).map λi=>.ref (a+i)
def mY(a n:Nat):MW a (n+1)=MW a n++[.ref (a+n)]:=by simp[MW,XM]
def mX(a n:Nat):⇑(MW a n)=n:=by simp[MW]
structure EE(h:A5)(n:Nat)(B:↑↑CY):Prop where
 ex:∃rs:↑Nat,h[n]?=↥⟨.lst,rs.map W.ref⟩/\ ⇑rs=⇑B/\∀(i r:Nat),rs[i]?=↥r->h[r]?=↥(IZ (B.getD i []))
def Gh(cs:↑Nat)(B:↑↑CY):Prop:=⇑B=⇑cs/\∀i,i< ⇑cs->Ky (cs.getD i 0) (B.getD i [])
def EE.more{h:A5}{n:Nat}{B:↑↑CY}(b:EE h n B)(g:A5):EE (h++g) n B:=by obtain⟨rs,e,l,r⟩:=b.ex;exact⟨rs,CE h e g,l,λi q Ac=>CE h (r i q Ac) g⟩
def uD{B:↑↑CY}{m:Nat}(AI:⇑B=m)(h:A5):EE (h++(⟨.lst,MW (⇑h+1) m⟩::B.map IZ)) ⇑h B:=by
 refine⟨(Cg m).map λi=>⇑h+1+i,by simp[MW,Sc],by simp[AI],λi r e=>?_⟩;rw[Dl]at e;by_cases AA:i<m
 .rw[Ny AA]at e;cases e;show(h++_)[⇑h+1+i]?=_;rw[show⇑h+1+i=⇑h+(i+1)by lia,Qs];simp[Fg,show i< ⇑B by lia]
 .rw[J_ (AA:)]at e;cases e
def im(ns:↑Int)(lo AA:Option Int):∃l,HO (B3 ns) lo AA=B3 l:=by unfold HO B3;exact⟨_,by rw[<-List.map_drop,<-gP]⟩
def ip(ws:↑W)(lo AA:Option Int):⇑(HO ws lo AA)<=⇑ws:=by unfold HO;simp;lia
@[simp] theorem dU(ns:↑Int):Fu (B3 ns)=true:=NU _ _ λa=>γ
def WR(m:B8)(lo AA:RY)(ρ:Ay)(h:A5):Hq m lo AA ρ h=(m ρ h).bind λp=>(lo ρ p.2).bind λl=>(AA ρ l.2).bind λu=>Tp p.1 l.1 u.1 ρ u.2:=rfl
def q_(i:Int)(ρ:Ay)(h:A5):FM (pu (.int i)) ρ h=.ok (↥i,h):=rfl
end Ds
namespace BJ
theorem bq{α:Type}(p:α->Bool):∀l:↑α,bools (l.map λa=>W.AL (p a))=↥(l.map p)
 |[]=>rfl
 |a::l=>by simp[bools,bq p l]
def Xq{mi:G6}{it:Gn}{g:DR}{e:B8}{ρ:Ay}{h:A5}{nl:Nat}{caps:↑Nat}(ws:↑W)(p:W->Bool)(Bl:Ay->Prop)(AI:⇑ws<1000)(AA:mi ρ h=.ok (it,h))(F0:Bl (Pk nl caps ρ))(hit:∀j acc,j<=⇑ws->it j (h++[⟨.lst,acc⟩])=↥ws[j]?)(DO:∀w∈ws,∀ρ acc,Bl ρ->∃CT,g w ρ (h++[⟨.lst,acc⟩])=.ok (.AP CT,h++[⟨.lst,acc⟩])/\Bl CT/\e CT (h++[⟨.lst,acc⟩])=.ok (.AL (p w),h++[⟨.lst,acc⟩])) :
  BI (Hs true) (Z (CW nl caps mi g ac e) A2) ρ h=.ok (.AL (ws.all p),h++[⟨.lst,ws.map λw=>.AL (p w)⟩]):=by
 have c:=Mm (mi:=mi) (it:=it) (g:=g) (t:=pu true) (e:=e) (ρ:=ρ) (h:=h) (h0:=h) (nl:=nl) (caps:=caps) ws (λ_=>true) (λw=>.AL (p w)) Bl AI AA F0 hit λw hw ρ acc j=>by obtain⟨CT,A9,Js,AG⟩:=DO w hw ρ acc j;exact⟨CT,A9,Js,rfl,λ_=>AG⟩
 rw[List.filter_eq_self.mpr (λ_ _=>rfl)]at c;have q:Dw (h++[⟨.lst,ws.map λw=>W.AL (p w)⟩]) (.ref ⇑h)=↥(false,ws.map λw=>W.AL (p w)):=Gf _ γ;erw[Fx,AW,BH,c,J,Hs,q,bq p ws,if_true];rw[Si];rfl
def am{mi:G6}{it:Gn}{g:DR}{e:B8}{ρ:Ay}{h:A5}{nl:Nat}{caps:↑Nat}(ws:↑W)(Bl:Ay->Prop)(AI:⇑ws<1000)(AA:mi ρ h=.ok (it,h))(F0:Bl (Pk nl caps ρ))(hit:∀j acc,j<=⇑ws->it j (h++[⟨.lst,acc⟩])=↥ws[j]?)(DO:∀w∈ws,∀ρ acc,Bl ρ->∃CT,g w ρ (h++[⟨.lst,acc⟩])=.ok (.AP CT,h++[⟨.lst,acc⟩])/\Bl CT/\e CT (h++[⟨.lst,acc⟩])=.ok (.AL true,h++[⟨.lst,acc⟩])) :
  CI (BI (Hs true) (Z (CW nl caps mi g ac e) A2)) ρ h=.ok ω:=by
 rw[FV,Xq ws (λ_=>true) Bl AI AA F0 hit DO,List.all_eq_true.mpr (λ_ _=>rfl)];simp
def aef{x:Str}{j:Nat}(h:A5)(An:j<=⇑x.cps.toList):Rt x j h=↥(x.cps.toList.map λc=>W.str ⟨#[c]⟩)[j]?:=by
 unfold Rt;rw[SU]at An;by_cases e:j=x.cps.size
 .rw[if_pos e,Dl,J_ (by simp;lia)];rfl
 .rw[if_neg e,Dl,UT];have:j<x.cps.size:=δ
  rw[LL this];rfl
def Lr{h:A5}{x y:W}{d:C_}{t:Bool}{ds:↑C_}(Af:GT h y x=none)(A9:Bu 7 h x=↥d)(AG:Bu 8 h y=↥(.CZ t ds))(b:Bool):Ce b x y h=.ok (.AL (if b then ds.any (λy=>eqT y d)else !ds.any λy=>eqT y d),h):=by unfold Ce;rw[Af];unfold YT;rw[A9,AG]
end BJ
namespace Ds
def afE{c:Nat}(s:Mh c)(h:A5):Ce true (.str ⟨#[c]⟩) R8 h=.ok ω:=by rw[Lr (d:=.str ⟨#[c]⟩) (t:=true) (ds:=[.str (AO "0"),.str (AO "1"),.str (AO "x")]) rfl (by simp[Bu]) (by simp[R8,Bu,Dw])];rcases s with rfl|rfl|rfl<;>rfl
def str_len(x:Str):⇑x=⇑x.cps.toList:=rfl
def dB{x:Str}(p:QF x)(h:A5):Pa [.str x] h=.ok ω:=by
 have a:=am (mi:=CN π) (it:=Rt x) (g:=AB 0) (e:=A1 (Ce true) π (pu R8)) (ρ:=[↥(.str x)]) (h:=h) (nl:=1) (caps:=[]) (x.cps.toList.map λc=>W.str ⟨#[c]⟩) (λρ=>∃s,ρ=[s]) (by rw[Cd,p.l];lia) (by simp[CN]) ⟨none,rfl⟩ (λj acc An=>aef _ (An:)) (by rintro w hw ρ acc ⟨s,rfl⟩;obtain⟨c,AK,rfl⟩:=List.mem_map.mp hw;exact⟨[↥(.str ⟨#[c]⟩)],γ,⟨_,rfl⟩,by simp[afE (p.s c AK)]⟩)
 have DI:Bh [.str x] h=.ok (.int 4,h):=by unfold Bh;dsimp only;rw[str_len,p.l];rfl
 have Ct:Bh [P4] h=.ok (.int 4,h):=rfl;have Cs:DT "str" (.str x) h=.ok ω:=rfl;simp[-FV,Pa,ba,Cs,DI,Ct,a]
def lC{o:Option Nat}{c:Nat}(AK:∀k,o=↥k->k<c)(h:A5):UB [Cw o,.int (c:Int)] h=.ok ω:=by
 cases o with
 |none=>simp[UB,Y5,Cw,El,Q2]
 |some k=>have:=AK k rfl;have w:=Rz (k:Int) 0 ((c:Int)-1) h;rw[decide_eq_true (show(0:Int)<=(k:Int)by lia),decide_eq_true (show(k:Int)<=(c:Int)-1 by lia)]at w;simp[UB,Y5,Cw,El,Q2,w]
def S8{ws:↑W}{k:Nat}{w:W}(h:A5)(e:ws[k]?=↥w):A7 (.tup ws) (.int (k:Int)) h=.ok (w,h):=YX h (Tq h ws) e
def GF(h:A5)(x:W)(ws:↑W):A7 (.tup (x::ws)) (.int 0) h=.ok (x,h):=S8 (k:=0) h rfl
def I9(h:A5)(x y:W)(ws:↑W):A7 (.tup (x::y::ws)) (.int 1) h=.ok (y,h):=S8 (k:=1) h rfl
def S7(h:A5)(x y z:W)(ws:↑W):A7 (.tup (x::y::z::ws)) (.int 2) h=.ok (z,h):=S8 (k:=2) h rfl
def PX(h:A5)(ws:↑W):Bh [.tup ws] h=.ok (.int ⇑ws,h):=by simp[Bh]
def adV{r:CY}{c:Nat}(ok:TU c r)(h:A5):Wa [Dd r,.int (c:Int)] h=.ok ω:=by have Cs:DT "tuple" (Dd r) h=.ok ω:=rfl;have DI:Bh [Dd r] h=.ok (.int 3,h):=PX h _;have DF:A7 (Dd r) (.int 0) h=.ok (.str r.p,h):=GF h _ _;have A9:A7 (Dd r) (.int 1) h=.ok (Cw r.a,h):=I9 h _ _ _;have AG:A7 (Dd r) (.int 2) h=.ok (Cw r.b,h):=S7 h _ _ _ _;simp[Wa,bb,Cs,DI,DF,A9,AG,dB ok.p,lC ok.a,lC ok.b]
def a5{h:A5}{n:Nat}{ws:↑W}(e:h[n]?=↥⟨.lst,ws⟩)(g:A5)(j:Nat):Fd KK j (h++g)=↥ws[j]?:=Kk (CE h e g) j
def uJ{b:↑CY}{c:Nat}(ok:Ky c b){h:A5}{n:Nat}(B2:h[n]?=↥(IZ b)):W_ [.ref n,.int (c:Int)] h=.ok ω:=by
 have a:=am (mi:=CN π) (it:=Fd KK) (g:=AB 0) (e:=Aa 2 Wa (Z π Cl)) (ρ:=[Ξ,↥(.int (c:Int))]) (h:=h) (nl:=1) (caps:=[1]) (b.map Dd) (λρ=>∃s,ρ=[s,↥(.int (c:Int))]) (by rw[Cd];have:=ok.1;lia) (J0 B2 γ) ⟨none,rfl⟩ (λj acc _=>a5 B2 _ j) (by rintro w hw ρ acc ⟨s,rfl⟩;obtain⟨r,BZ,rfl⟩:=List.mem_map.mp hw;exact⟨[↥(Dd r),↥(.int (c:Int))],γ,⟨_,rfl⟩,by simp[adV (ok.2 r BZ)]⟩)
 have Cs:DT "list" KK h=.ok ω:=by erw[DT,Ma,B2,IZ];rfl
 have DI:Bh [.ref n] h=.ok (.int ⇑b,h):=by rw[Ic B2];simp
 have:=ok.1;have g1:Kd (.int (⇑b:Int)) Vo h=.ok (.AL false,h):=by show Kd (.int (⇑b:Int)) (.int 12) h=_;rw[db,decide_eq_false δ]
 simp[-FV,W_,bX,Cs,DI,g1,a]
end Ds
namespace BJ
def c1{h:A5}{n:Nat}{c:Str}{ns:↑Str}{ws:↑W}(e:h[n]?=↥⟨.ins c ns,ws⟩):S4 h c KK=↥(n,ns,ws):=by erw[S4,e,if_true]
def EV{h:A5}{n:Nat}{c f:Str}{ns:↑Str}{ws:↑W}{u:W}(e:h[n]?=↥⟨.ins c ns,ws⟩)(v:E3 ns ws f=↥u):B6 c f KK h=.ok (u,h):=by unfold B6;rw[c1 e];dsimp only;rw[v]
def T1{h:A5}{n:Nat}{c f:Str}{ns ns':↑Str}{ws ws':↑W}{v:W}{ρ:Ay}(e:h[n]?=↥⟨.ins c ns,ws⟩)(l:⇑ns<1000)(A9:Tk ns f=ns')(AG:RL ns ws f v=ws'):VG c f KK v ρ h=.ok (.AP ρ,h.set n ⟨.ins c ns',ws'⟩):=by unfold VG;rw[c1 e];dsimp only;rw[if_pos l,A9,AG]
def Tx(c f:Str)(o v:B8)(ρ:Ay)(h:A5):F1 c f o v ρ h=(v ρ h).bind λp=>(o ρ p.2).bind λq=>VG c f q.1 p.1 ρ q.2:=rfl
def agI(c x:Str)(n:Nat)(mf:Br)(o:B8)(ma:DQ)(ρ:Ay)(h:A5):CO c x n mf o ma ρ h=(o ρ h).bind λp=>VZ c x p.1 (bd ma λws _ h=>if ⇑ws=n then mf (p.1::ws) h else .bad) ρ p.2:=rfl
def yg{α:Type}{h:A5}{n:Nat}{c x:Str}{ns:↑Str}{ws:↑W}{m:M α}{ρ:Ay}(e:h[n]?=↥⟨.ins c ns,ws⟩)(v:E3 ns ws x=none):VZ c x KK m ρ h=m ρ h:=by unfold VZ;rw[c1 e];dsimp only;rw[v]
def KD{h h1:A5}{n k:Nat}{c x:Str}{ns:↑Str}{ws us:↑W}{mf:Br}{o:B8}{ma:DQ}{ρ:Ay}{r:R (W×A5)}(GB:o ρ h=.ok (.ref n,h))(e:h[n]?=↥⟨.ins c ns,ws⟩)(v:E3 ns ws x=none)(BX:ma ρ h=.ok (us,h1))(l:⇑us=k)(B5:mf (.ref n::us) h1=r):CO c x k mf o ma ρ h=r:=by rw[agI,GB,J,yg e v,H0,BX,J,if_pos l,B5]
def aC{h h1 h2:A5}{c:Str}{k:Nat}{mf:Br}{ma:DQ}{ρ:Ay}{us:↑W}(BX:ma ρ h=.ok (us,h1))(l:⇑us=k)(B5:mf (.ref ⇑h1::us) (h1++[⟨.ins c [],[]⟩])=.ok (.non,h2)):KC c k mf ma ρ h=.ok (.ref ⇑h1,h2):=by unfold KC;rw[H0,BX,J];dsimp only;rw[if_pos l,B5];rfl
def i9{h:A5}{n:Nat}{AZ:↑Ex}{vs:↑W}{k v:W}{GM:Ex}{ρ:Ay}(e:h[n]?=↥⟨.ED AZ,vs⟩)(EP:NW k=↥GM)(dX:GM∉AZ)(l:⇑vs<Bi):RE KK k v ρ h=.ok (.AP ρ,h.set n ⟨.ED (AZ++[GM]),vs++[v]⟩):=by unfold RE;erw[e,EP,if_pos l,Ox,if_neg dX]
def qZ(d k v:B8)(ρ:Ay)(h:A5):Og d k v ρ h=(v ρ h).bind λp=>(d ρ p.2).bind λq=>(k ρ q.2).bind λr=>RE q.1 r.1 p.1 ρ r.2:=rfl
end BJ
namespace Ds
def aaQ(h:A5)(a b:AN):BC false (AJ a) (AJ b) h=.ok (.AL (!decide (a=b)),h):=by
 have:=YZ h a b;unfold BC at this |-;rw[Zr,Zr]at this |-;erw[if_true,Kn,if_false]at this |-;have:eqT (C_.CZ true [C_.int (a.1:Int),C_.int (a.2:Int)]) (C_.CZ true [C_.int (b.1:Int),C_.int (b.2:Int)])=decide (a=b):=by injection this with this;injection this with this _;injection this
 rw[this]
def l0(h:A5)(x y:W):SN [.tup [x,y]] h=.ok ω:=by have Cs:DT "tuple" (.tup [x,y]) h=.ok ω:=rfl;simp[SN,b_,Cs,PX]
def zX(h:A5)(cs:↑Nat):Bh [.tup (Bw cs)] h=.ok (.int ⇑cs,h):=by rw[PX];simp[Bw]
def bE{cs:↑Nat}{d:AN}(hd:d∈Dz cs ⇑cs)(h:A5):UA [.tup (Bw cs),AJ d] h=.ok ω:=by obtain⟨h1,h2⟩:=Pd.mp hd;have p:SN [AJ d] h=.ok ω:=l0 h _ _;have DF:A7 (AJ d) (.int 0) h=.ok (.int (d.1:Int),h):=GF h _ _;have A9:A7 (AJ d) (.int 1) h=.ok (.int (d.2:Int),h):=I9 h _ _ _;have AG:A7 (.tup (Bw cs)) (.int (d.1:Int)) h=.ok (.int (cs.getD d.1 0:Nat),h):=S8 h (ik h1);have FW:=Rz (d.1:Int) 0 ((⇑cs:Int)-1) h;have G3:=Rz (d.2:Int) 0 ((cs.getD d.1 0:Nat)-1:Int) h;rw[decide_eq_true (show(0:Int)<=(d.1:Int)by lia),decide_eq_true (show(d.1:Int)<=(⇑cs:Int)-1 by lia)]at FW;rw[decide_eq_true (show(0:Int)<=(d.2:Int)by lia),decide_eq_true (show(d.2:Int)<=((cs.getD d.1 0:Nat):Int)-1 by lia)]at G3;simp[UA,bZ,p,DF,A9,AG,zX,FW,G3,-Fg]
def afi{cs:↑Nat}{w:AN×AN}(h1:w.1∈Dz cs ⇑cs)(h2:w.2∈Dz cs ⇑cs)(ne:w.1≠w.2)(h:A5):UE [.tup (Bw cs),CJ w] h=.ok ω:=by have p:SN [CJ w] h=.ok ω:=l0 h _ _;have DF:A7 (CJ w) (.int 0) h=.ok (AJ w.1,h):=GF h _ _;have A9:A7 (CJ w) (.int 1) h=.ok (AJ w.2,h):=I9 h _ _ _;simp[UE,bf,p,DF,A9,bE h1,bE h2,aaQ,ne]
def J1(d:AN):Ex:=[.inl (d.1:Int),.inl (d.2:Int)]
def dZ(d:AN):NW (AJ d)=↥(J1 d):=rfl
def Yw{a b:AN}(h:J1 a=J1 b):a=b:=by obtain⟨a1,a2⟩:=a;obtain⟨b1,Ey⟩:=b;erw[J1,sD,X_,and_true]at h;obtain⟨h1,h2⟩:=h;rw[Prod.mk.injEq];lia
def L5(ws:ν):↑Ex:=(ends ws).map J1
def L6(ws:ν):↑W:=(ws.map λw=>[AJ w.2,AJ w.1]).flatten
def HS(ws:ν):O:=⟨.ED (L5 ws),L6 ws⟩
def va(ws:ν)(w:AN×AN):L5 (ws++[w])=L5 ws++[J1 w.1]++[J1 w.2]:=by simp[L5,ends]
def x8(ws:ν)(w:AN×AN):L6 (ws++[w])=L6 ws++[AJ w.2]++[AJ w.1]:=by simp[L6]
def wA(ws:ν):⇑(L6 ws)=2*⇑ws:=by
 induction ws with
 |nil=>rfl
 |cons w ws CC=>simp[L6]at CC |-;lia
def la{ws:ν}{d:AN}:J1 d∈L5 ws↔d∈ends ws:=by unfold L5;rw[Ui];exact⟨λ⟨a,h,e⟩=>Yw e▸h,λh=>⟨d,h,rfl⟩⟩
theorem qg(d:AN):∀ws:ν,E3 (L5 ws) (L6 ws) (J1 d)=(EF ws d).map AJ
 |[]=>rfl
 |w::ws=>by
  have A9:L5 (w::ws)=J1 w.1::J1 w.2::L5 ws:=by simp[L5,ends]
  have AG:L6 (w::ws)=AJ w.2::AJ w.1::L6 ws:=by simp[L6]
  rw[A9,AG];erw[E3,EF];by_cases h1:w.1=d
  .rw[if_pos (by rw[h1]),if_pos h1];rfl
  .rw[if_neg (λz=>h1 (Yw z)),if_neg h1];by_cases h2:w.2=d
   .rw[if_pos (by rw[h2]),if_pos h2];rfl
   .rw[if_neg (λz=>h2 (Yw z)),if_neg h2];exact qg d ws
def bB{h:A5}{f:Nat}{ws:ν}(e:h[f]?=↥(HS ws))(d:AN):GT h (.ref f) (AJ d)=↥((EF ws d).map AJ):=by unfold GT;erw[e,HS,dZ,LH,qg]
def aiw{ws:ν}{d:AN}(h:EF ws d=none):d∉ends ws:=by
 induction ws with
 |nil=>simp[ends]
 |cons w ws CC=>
  erw[EF]at h
  split at h
  .cases h
  .split at h
   .cases h
   .rename_i h1 h2;have:=CC h;erw[ends,EM,PP,Hf,He,My,or_false]at this |-;rintro((rfl|rfl)|z)
    .exact h1 rfl
    .exact h2 rfl
    .exact this z
def bn{ws:ν}{d e:AN}(h:EF ws d=↥e):d∈ends ws/\e∈ends ws:=by
 induction ws with
 |nil=>simp[EF]at h
 |cons w ws CC=>
  erw[EF]at h;erw[ends,EM,PP,Hf,He,My,or_false]
  split at h
  .rename_i h1;cases h;exact⟨.inl (.inl h1.symm),.inl (.inr rfl)⟩
  .split at h
   .rename_i h1 h2;cases h;exact⟨.inl (.inr h2.symm),.inl (.inl rfl)⟩
   .have:=CC h;exact⟨.inr this.1,.inr this.2⟩
def cj:Ap:=AT (C8 (D8 (Ad (Aa 2 UE (Z π (Z Ψ A2))))) (λ_ _=>.bad) C5)
    (AT (C8 (F2 (Ad (A1 (Ce true) (A1 A7 Ψ η) ψ)) (Ad (A1 (Ce true) (A1 A7 Ψ ζ) ψ))) (λ_ _=>.bad) C5)
    (AT (Og ψ (A1 A7 Ψ η) (A1 A7 Ψ ζ))
    (Og ψ (A1 A7 Ψ ζ) (A1 A7 Ψ η))))
def dL(ws:↑W)(j:Nat)(h:A5):Fd (.tup ws) j h=↥ws[j]?:=by simp[Fd]
def w3{cs:↑Nat}{ws:ν}(N:IK cs ws)(h:A5):WZ [.tup (Bw cs),.tup (ws.map CJ)] h=.ok (.ref ⇑h,h++[HS ws]):=by
 have few:=N.few
 have BU:=Th (mi:=CN τ) (it:=Fd (.tup (ws.map CJ))) (g:=AB 3) (b:=cj) (ρ:=[↥(.tup (Bw cs)),↥(.tup (ws.map CJ)),χ,none]) (h:=h++[⟨.ED [],[]⟩]) (h0:=h++[⟨.ED [],[]⟩]) (ws.map CJ) (by simp;lia)
  (λj ρ h'=>(∃s3,ρ=[↥(.tup (Bw cs)),↥(.tup (ws.map CJ)),χ,s3])/\h'=h++[HS (ws.take j)])
  (T:=λf h'=>(∃s3,f=.AP [↥(.tup (Bw cs)),↥(.tup (ws.map CJ)),χ,s3])/\h'=h++[HS ws])
  (by simp[CN]) (λj ρ h' _ _=>dL _ j h') ⟨⟨none,rfl⟩,by simp[HS,L5,L6,ends]⟩ ?_ ?_
 .obtain⟨f,h',C2,⟨s3,rfl⟩,rfl⟩:=BU.HB;have e:WZ [.tup (Bw cs),.tup (ws.map CJ)] h=(AT (Am (NP true) (AB 2)) (AT (Em (CN τ) (AB 3) cj) (B1 ψ)) [↥(.tup (Bw cs)),↥(.tup (ws.map CJ)),none,none] h).bind outF:=rfl;have s1:Am (NP true) (AB 2) [↥(.tup (Bw cs)),↥(.tup (ws.map CJ)),none,none] h=.ok (.AP [↥(.tup (Bw cs)),↥(.tup (ws.map CJ)),χ,none],h++[⟨.ED [],[]⟩]):=rfl;rw[e,Az,s1,J,B0,Az,KO,C2,J,B0];rfl
 .rintro j w _ _ Ck ⟨⟨s3,rfl⟩,rfl⟩;rw[Dl]at Ck;cases Bc:ws[j]? with
  |none=>rw[Bc]at Ck;cases Ck
  |some p=>
   rw[Bc]at Ck;cases Ck;have An:j< ⇑ws:=(List.getElem?_eq_some_iff.mp Bc).1;have md:ws[j]=p:=(List.getElem?_eq_some_iff.mp Bc).2;have Yr:ws.take (j+1)=ws.take j++[p]:=by rw[fP An,md]
   have Lq:ends ws=ends (ws.take j)++([p.1,p.2]++ends (ws.drop (j+1))):=by
    have:ws=ws.take j++p::ws.drop (j+1):=by rw[<-md,<-fS An,SY]
    conv=>lhs;rw[this]
    simp[ends]
   have Bj:=N.Bj;rw[Lq]at Bj;have dV:=List.nodup_append.mp Bj;have aat:=List.nodup_append.mp dV.2.1;have lp:p.1≠p.2:=λz=>by have:=aat.1;rw[z]at this;simp at this
   have F4:p.1∉ends (ws.take j):=λz=>dV.2.2 _ z _ γ rfl;have FU:p.2∉ends (ws.take j):=λz=>dV.2.2 _ z _ γ rfl;have Hp:p.1∈Dz cs ⇑cs:=N.sub _ (by rw[Lq];simp);have H8:p.2∈Dz cs ⇑cs:=N.sub _ (by rw[Lq];simp);obtain⟨H,B_⟩:∃H,H=h++[HS (ws.take j)]:=ο;have C2:H[⇑h]?=↥(HS (ws.take j)):=by rw[B_];simp
   refine⟨[↥(.tup (Bw cs)),↥(.tup (ws.map CJ)),χ,↥(CJ p)],H,by rw[B_];simp,?_⟩;have DF:∀h,A7 (CJ p) (.int 0) h=.ok (AJ p.1,h):=λh=>GF h _ _;have A9:∀h,A7 (CJ p) (.int 1) h=.ok (AJ p.2,h):=λh=>I9 h _ _ _;have b1:∀d,d∉ends (ws.take j)->Ce true (AJ d) (.ref ⇑h) H=.ok (.AL false,H):=λd hd=>by
    unfold Ce;rw[bB C2];cases q:EF (ws.take j) d with
    |none=>rfl
    |some x=>exact absurd (bn q).1 hd
   have H7:=wA (ws.take j);rw[LK]at H7;have Dk:=i9 (v:=AJ p.2) (ρ:=[↥(.tup (Bw cs)),↥(.tup (ws.map CJ)),χ,↥(CJ p)]) C2 (dZ p.1) (λz=>F4 (la.mp z)) (by unfold Bi;lia);have vW:(H.set ⇑h ⟨.ED (L5 (ws.take j)++[J1 p.1]),L6 (ws.take j)++[AJ p.2]⟩)[⇑h]?=↥⟨.ED (L5 (ws.take j)++[J1 p.1]),L6 (ws.take j)++[AJ p.2]⟩:=LS C2;have Cm:=i9 (v:=AJ p.1) (ρ:=[↥(.tup (Bw cs)),↥(.tup (ws.map CJ)),χ,↥(CJ p)]) vW (dZ p.2) (λz=>by
    rcases List.mem_append.mp z with z|z
    .exact FU (la.mp z)
    .exact lp (Yw (List.mem_singleton.mp z)).symm) (by rw[EL];unfold Bi;simp;lia)
   have t1:D8 (Ad (Aa 2 UE (Z π (Z Ψ A2)))) [↥(.tup (Bw cs)),↥(.tup (ws.map CJ)),χ,↥(CJ p)] H=.ok (false,H):=by simp[afi Hp H8 lp]
   have Cn:F2 (Ad (A1 (Ce true) (A1 A7 Ψ η) ψ)) (Ad (A1 (Ce true) (A1 A7 Ψ ζ) ψ)) [↥(.tup (Bw cs)),↥(.tup (ws.map CJ)),χ,↥(CJ p)] H=.ok (false,H):=by simp[DF,A9,b1 _ F4,b1 _ FU]
   unfold cj;rw[Az,DL,t1,J,if_neg γ,E9,J,B0,Az,DL,Cn,J,if_neg γ,E9,J,B0,Az];erw[qZ,AU,v_var,Ag,Gl,IP,Fq,J,DF,A9,Dk,B0,Cm,ay,hc];refine⟨⟨_,rfl⟩,?_⟩;rw[Yr,B_];simp[HS,va,x8]
 .rintro _ _ ⟨⟨s3,rfl⟩,rfl⟩;refine⟨⟨_,rfl⟩,?_⟩;rw[Cd,List.take_length]
def u1{cs:↑Nat}(h1:1<=⇑cs)(Ez:⇑cs<=6)(F_:∀c∈cs,1<=c/\c<=4){h:A5}{n:Nat}(B2:h[n]?=↥⟨.lst,Bw cs⟩):WX [.ref n] h=.ok ω:=by
 have lcs:⇑(Bw cs)=⇑cs:=by simp[Bw]
 have a:=am (mi:=CN π) (it:=Fd KK) (g:=AB 0) (e:=Aa 3 LB (Z π (Z ζ (Z (pu Tb) A2)))) (ρ:=[Ξ]) (h:=h) (nl:=1) (caps:=[]) (Bw cs) (λρ=>∃s,ρ=[s]) δ (J0 B2 γ) ⟨none,rfl⟩ (λj acc _=>a5 B2 _ j) (by rintro w hw ρ acc ⟨s,rfl⟩;obtain⟨c,AK,rfl⟩:=List.mem_map.mp hw;have AK:=F_ c AK;have w:=Rz (c:Int) 1 4 (h++[⟨.lst,acc⟩]);rw[decide_eq_true (show(1:Int)<=(c:Int)by lia),decide_eq_true (show(c:Int)<=4 by lia)]at w;exact⟨[↥(.int (c:Int))],γ,⟨_,rfl⟩,by simp[Tb,w]⟩)
 have Cs:DT "list" KK h=.ok ω:=by erw[DT,Ma,B2];rfl
 have DI:Bh [.ref n] h=.ok (.int ⇑cs,h):=by rw[Ic B2,lcs]
 have C7:Of Ls Ls ζ (BI Bh Ω) (pu Tc) [Ξ] h=.ok ω:=by erw[ag,Ag,Fx,AW,BH,v_var,Gl,Fq,J,DI,lD,decide_eq_true (show(1:Int)<=(⇑cs:Int)by lia),Mj,if_true,H0,Tc,decide_eq_true (show(⇑cs:Int)<=6 by lia)]
 simp[-FV,WX,bU,Cs,C7,a]
def MS(cs:↑Nat)(ws:ν)(f:Nat):O:=⟨.ins "Net" ["many","counts","joined","far"],[.int ⇑cs,.tup (Bw cs),.tup (ws.map CJ),.ref f]⟩
def l6{cs:↑Nat}{ws:ν}(N:IK cs ws){h:A5}{a b:Nat}(BX:h[a]?=↥⟨.lst,Bw cs⟩)(B4:h[b]?=↥⟨.lst,ws.map CJ⟩) :
  Oj [.ref ⇑h,.ref a,.ref b] (h++[⟨.ins "Net" [],[]⟩])=.ok (.non,h++[MS cs ws (⇑h+1),HS ws]):=by
 have lcs:⇑(Bw cs)=⇑cs:=by simp[Bw]
 have e:Oj [.ref ⇑h,.ref a,.ref b] (h++[⟨.ins "Net" [],[]⟩])=(Xt [χ,↥(.ref a),ST] (h++[⟨.ins "Net" [],[]⟩])).bind outF:=rfl;rw[e];obtain⟨ρ,Ab⟩:∃ρ:Ay,ρ=[χ,↥(.ref a),ST]:=ο;rw[<-Ab];have v0:I 0 ρ=λh'=>.ok (.ref ⇑h,h'):=by rw[Ab];rfl
 have v1:I 1 ρ=λh'=>.ok (.ref a,h'):=by rw[Ab];rfl
 have v2:I 2 ρ=λh'=>.ok (.ref b,h'):=by rw[Ab];rfl
 have A:∀o:O,(h++[o])[a]?=↥⟨.lst,Bw cs⟩:=λo=>CE h BX _;have B:∀o:O,(h++[o])[b]?=↥⟨.lst,ws.map CJ⟩:=λo=>CE h B4 _;have t1:D8 (Ad (Aa 1 WX Cl)) ρ (h++[⟨.ins "Net" [],[]⟩])=.ok (false,h++[⟨.ins "Net" [],[]⟩]):=by simp[-v_var,v1,u1 N.h1 N.Ez N.c (A _)]
 have Cs:DT "list" (.ref b) (h++[⟨.ins "Net" [],[]⟩])=.ok (.AL true,h++[⟨.ins "Net" [],[]⟩]):=by erw[DT,Ma,B];rfl
 have Cn:D8 (Ad (BD (DT "list") ψ)) ρ (h++[⟨.ins "Net" [],[]⟩])=.ok (false,h++[⟨.ins "Net" [],[]⟩]):=by simp[-v_var,v2,Cs]
 have s3:F1 "Net" "many" π (BI Bh Cl) ρ (h++[⟨.ins "Net" [],[]⟩])=.ok (.AP ρ,h++[⟨.ins "Net" ["many"],[.int ⇑cs]⟩]):=by rw[Tx];erw[Fx,AW,BH,v1,v0,J,Ic (A _),lcs];rw[T1 (ns':=["many"]) (ws':=[.int ⇑cs]) (C9 h _) ε rfl rfl];simp
 have rA:∀(h':A5)(n:Nat)(us:↑W),h'[n]?=↥⟨.lst,us⟩->OV [.ref n] h'=.ok (.tup us,h'):=λh' n us q=>by erw[OV,Gf h' q]
 have s4:F1 "Net" "counts" π (BI OV Cl) ρ (h++[⟨.ins "Net" ["many"],[.int ⇑cs]⟩])=.ok (.AP ρ,h++[⟨.ins "Net" ["many","counts"],[.int ⇑cs,.tup (Bw cs)]⟩]):=by rw[Tx];erw[Fx,AW,BH,v1,v0,J,rA _ _ _ (A _)];rw[T1 (ns':=["many","counts"]) (ws':=[.int ⇑cs,.tup (Bw cs)]) (C9 h _) ε rfl rfl];simp
 have s5:F1 "Net" "joined" π (BI OV (Z ψ A2)) ρ (h++[⟨.ins "Net" ["many","counts"],[.int ⇑cs,.tup (Bw cs)]⟩])=.ok (.AP ρ,h++[⟨.ins "Net" ["many","counts","joined"],[.int ⇑cs,.tup (Bw cs),.tup (ws.map CJ)]⟩]):=by rw[Tx];erw[Fx,AW,BH,v2,v0,J,rA _ _ _ (B _)];rw[T1 (ns':=["many","counts","joined"]) (ws':=[.int ⇑cs,.tup (Bw cs),.tup (ws.map CJ)]) (C9 h _) ε rfl rfl];simp
 have CQ:F1 "Net" "far" π (Aa 2 WZ (Z (BD (B6 "Net" "counts") π) (Z (BD (B6 "Net" "joined") π) A2))) ρ (h++[⟨.ins "Net" ["many","counts","joined"],[.int ⇑cs,.tup (Bw cs),.tup (ws.map CJ)]⟩])=.ok (.AP ρ,h++[MS cs ws (⇑h+1),HS ws]):=by rw[Tx];have f1:B6 "Net" "counts" (.ref ⇑h) (h++[⟨.ins "Net" ["many","counts","joined"],[.int ⇑cs,.tup (Bw cs),.tup (ws.map CJ)]⟩])=.ok (.tup (Bw cs),_):=EV (C9 h _) rfl;have f2:B6 "Net" "joined" (.ref ⇑h) (h++[⟨.ins "Net" ["many","counts","joined"],[.int ⇑cs,.tup (Bw cs),.tup (ws.map CJ)]⟩])=.ok (.tup (ws.map CJ),_):=EV (C9 h _) rfl;erw[EH,AW,BH,H2,v0,J,f1,f2,FF,JB,Mx,if_true,w3 N];rw[T1 (ns':=["many","counts","joined","far"]) (ws':=[.int ⇑cs,.tup (Bw cs),.tup (ws.map CJ),.ref (⇑h+1)]) (CE _ (C9 h _) _) ε rfl (by simp[EL];rfl)];rw[EZ,PC];rfl
 unfold Xt;rw[Az,DL,t1,J,if_neg γ,E9,J,B0,Az,DL,Cn,J,if_neg γ,E9,J,B0,Az,s3,J,B0,Az,s4,J,B0,Az,s5,J,B0,CQ];rfl
structure FI(h:A5)(n:Nat)(cs:↑Nat)(ws:ν):Prop where
 ex:∃f,h[n]?=↥(MS cs ws f)/\h[f]?=↥(HS ws)
def FI.more{h:A5}{n:Nat}{cs:↑Nat}{ws:ν}(b:FI h n cs ws)(g:A5):FI (h++g) n cs ws:=by obtain⟨f,e,r⟩:=b.ex;exact⟨f,CE h e g,CE h r g⟩
def SC{h:A5}{w:W}{t:Bool}{us:↑W}(e:Dw h w=↥(t,us))(l:⇑us<=Bi):FD [w] h=.ok (.ref ⇑h,h++[⟨.lst,us⟩]):=by erw[FD,e];exact NX h l
def aaT{cs:↑Nat}{ws:ν}(N:IK cs ws){h:A5}{n:Nat}(A:FI h n cs ws):WY [.ref n] h=.ok (.ref (⇑h+2),h++[⟨.lst,Bw cs⟩,⟨.lst,ws.map CJ⟩,MS cs ws (⇑h+3),HS ws]):=by
 obtain⟨f,A9,AG⟩:=A.ex;have few:=N.few;have Zy:=N.Ez;have f1:B6 "Net" "counts" KK h=.ok (.tup (Bw cs),h):=EV A9 rfl;have f2:B6 "Net" "joined" KK (h++[⟨.lst,Bw cs⟩])=.ok (.tup (ws.map CJ),_):=EV (CE h A9 _) rfl;have DI:FD [.tup (Bw cs)] h=.ok (.ref ⇑h,h++[⟨.lst,Bw cs⟩]):=SC (Tq _ _) (by simp[Bw,Bi];lia);have Ct:FD [.tup (ws.map CJ)] (h++[⟨.lst,Bw cs⟩])=.ok (.ref (⇑h+1),h++[⟨.lst,Bw cs⟩,⟨.lst,ws.map CJ⟩]):=by rw[SC (Tq _ _) (by simp[Bi];lia)];simp
 have FW:P_ [.ref n] (h++[⟨.lst,Bw cs⟩])=.ok (.ref (⇑h+1),h++[⟨.lst,Bw cs⟩,⟨.lst,ws.map CJ⟩]):=by erw[P_,rK,gw,EC,Fx,AW,BH,H2,v_var,kY,EM,LP,FF,JB,Ij,UV,Mx,Nat.reduceSub,Gy,O4,Gl,Fq,J,f2,Ct,Fm];have:=WH (h++[⟨.lst,Bw cs⟩]) [⟨.lst,ws.map CJ⟩] rfl (NU _ _ aan);rw[EZ]at this;simpa using this
 have ma:Z (BI FD (Z (BD (B6 "Net" "counts") π) A2)) (Z (CO "Net" "wires" 0 P_ π A2) A2) [Ξ] h=.ok ([.ref ⇑h,.ref (⇑h+1)],h++[⟨.lst,Bw cs⟩,⟨.lst,ws.map CJ⟩]):=by have GW:CO "Net" "wires" 0 P_ π A2 [Ξ] (h++[⟨.lst,Bw cs⟩])=.ok (.ref (⇑h+1),h++[⟨.lst,Bw cs⟩,⟨.lst,ws.map CJ⟩]):=KD (us:=[]) rfl (CE h A9 _) rfl rfl rfl FW;erw[AW,Fx,H2,BH,v_var,Gl,Fq,J,f1,DI,GW]
 obtain⟨H,B_⟩:∃H:A5,H=h++[⟨.lst,Bw cs⟩,⟨.lst,ws.map CJ⟩]:=ο;have nm:=l6 N (h:=H) (a:=⇑h) (b:=⇑h+1) (by rw[B_];simp) (by rw[B_];simp);rw[<-B_]at ma;have mk:KC "Net" 2 Oj (Z (BI FD (Z (BD (B6 "Net" "counts") π) A2)) (Z (CO "Net" "wires" 0 P_ π A2) A2)) [Ξ] h=.ok (.ref ⇑H,H++[MS cs ws (⇑H+1),HS ws]):=aC ma rfl nm;have e:WY [.ref n] h=((B1 (KC "Net" 2 Oj (Z (BI FD (Z (BD (B6 "Net" "counts") π) A2)) (Z (CO "Net" "wires" 0 P_ π A2) A2)))) [Ξ] h).bind outF:=rfl;rw[e,EC,mk,J,J,Fm,B_,EZ,EL];rfl
def u0{cs:↑Nat}{ws:ν}{h:A5}{n:Nat}(A:FI h n cs ws){k:Nat}(AQ:k< ⇑cs):Sz [.ref n,.int (k:Int)] h=.ok (.int (cs.getD k 0:Nat),h):=by
 obtain⟨f,A9,AG⟩:=A.ex;have f1:B6 "Net" "counts" KK h=.ok (.tup (Bw cs),h):=EV A9 rfl;have f2:B6 "Net" "many" KK h=.ok (.int ⇑cs,h):=EV A9 rfl;have DG:A7 (.tup (Bw cs)) (.int (k:Int)) h=.ok (.int (cs.getD k 0:Nat),h):=S8 h (ik AQ);have C7:Of Ls NO η τ (BD (B6 "Net" "many") π) [Ξ,↥(.int (k:Int))] h=.ok ω:=by erw[ag,Ag,H2,v_var,Gl,IP,Fq,J,lD,decide_eq_true (show(0:Int)<=(k:Int)by lia),Mj,if_true,H0,f2,acD,decide_eq_true (show(k:Int)<(⇑cs:Int)by lia)]
 simp[Sz,gX,C7,f1,DG,-Fg]
def bp{cs:↑Nat}{ws:ν}(Ez:⇑cs<=6){B:↑↑CY}(ok:Gh cs B){h:A5}{n b:Nat}(A:FI h n cs ws)(Ux:EE h b B):UG [.ref b,.ref n] h=.ok (.non,h):=by
 obtain⟨f,A9,AG⟩:=A.ex;obtain⟨rs,B4,NM,B5⟩:=Ux.ex;have TO:=ok.1
 have a:=am (mi:=Lw Ω) (it:=P8 (.ref b)) (g:=Dh [(AB 0),(AB 1)]) (e:=Aa 2 W_ (Z τ (Z (CO "Net" "count" 1 Sz ψ Ω) A2))) (ρ:=[ST,Ξ]) (h:=h) (nl:=2) (caps:=[1])
  (rs.mapIdx λi r=>.tup [.int (i:Int),.ref r]) (λρ=>∃s t,ρ=[s,t,Ξ]) (by rw[fg];lia) (by simp[Lw,Kl h B4]) ⟨none,none,rfl⟩ (λj acc An=>by
    rw[fg]at An;erw[P8,Kl _ (CE h B4 _),Cd];by_cases q:j=⇑rs
    .rw[if_pos q,J_ (by rw[fg];lia)]
    .have:j< ⇑rs:=δ
     rw[if_neg q,Dl,List.getElem?_mapIdx,C3 this];rfl) (by
  rintro w hw ρ acc ⟨s,t,rfl⟩;obtain⟨i,AA,rfl⟩:=List.mem_mapIdx.mp hw;refine⟨[↥(.int (i:Int)),↥(.ref rs[i]),Ξ],γ,⟨_,_,rfl⟩,?_⟩;have c:=u0 (A.more [⟨.lst,acc⟩]) (k:=i) δ;have y:=uJ (ok.2 i δ) (CE h (B5 i rs[i] (C3 AA)) [⟨.lst,acc⟩]);have GW:CO "Net" "count" 1 Sz ψ Ω [↥(.int (i:Int)),↥(.ref rs[i]),Ξ] (h++[⟨.lst,acc⟩])=.ok (.int (cs.getD i 0:Nat),h++[⟨.lst,acc⟩]):=KD (us:=[.int (i:Int)]) rfl (CE h A9 _) rfl rfl rfl c;erw[EH,AW,BH,v_var,Gl,IP,Fq,J,GW,FF,JB,Mx,if_true,y])
 have Cs:DT "list" (.ref b) h=.ok ω:=by erw[DT,Ma,B4];rfl
 have DI:Bh [.ref b] h=.ok (.int ⇑cs,h):=by rw[Ic B4,Cd,NM,TO]
 have f2:B6 "Net" "many" KK h=.ok (.int ⇑cs,h):=EV A9 rfl;have q:a8 [.ref b,.ref n] h=.ok ω:=by simp[-FV,a8,bY,Cs,DI,f2,a]
 simp[UG,bj,q]
end Ds
namespace BJ
@[simp] theorem IS(b:Bool)(x y:Str)(h:A5):BC b (.str x) (.str y) h=.ok (.AL (if b then x==y else !(x==y)),h):=by simp[BC,Bu,eqT]
theorem ic{it:Gn}{g:DR}{e:B8}{h:A5}(GY:Nat->Nat->↑W)(Yo:∀a n,GY a (n+1)=GY a n++[.ref (a+n)])(Yp:∀a n,⇑(GY a n)=n)(ws:↑W)(f:W->O)(Bl:Ay->Prop)(AI:⇑ws<1000)(hit:∀j H,h<+: H->j<=⇑ws->it j H=↥ws[j]?)(DO:∀w∈ws,∀ρ H,Bl ρ->h<+: H->∃CT,g w ρ H=.ok (.AP CT,H)/\Bl CT/\e CT H=.ok (.ref ⇑H,H++[f w])) :
  ∀k j ρ,j<=⇑ws->⇑ws-j<k->Bl ρ->KY it g ac e ⇑h k j ρ (h++(⟨.lst,GY (⇑h+1) j⟩::(ws.take j).map f))=.ok (h++(⟨.lst,GY (⇑h+1) ⇑ws⟩::ws.map f))
 |0,j,ρ,An,l,i=>δ
 |k+1,j,ρ,An,l,i=>by
  unfold KY;rw[hit _ _ (Eu _ _) An];by_cases Dc:j< ⇑ws
  .rw[C3 Dc];obtain⟨CT,A9,Cs,AG⟩:=DO ws[j] (J9 Dc) ρ _ i (Eu h (⟨.lst,GY (⇑h+1) j⟩::(ws.take j).map f));erw[A9,J,Ag,if_true,AG];rw[EZ,C9,Ij,Gl];have BZ:=Yp (⇑h+1) j;erw[BZ,if_pos (show j<Bi by unfold Bi;lia),PC,List.set_cons_zero];have:=ic GY Yo Yp ws f Bl AI hit DO k (j+1) CT Dc δ Cs;rw[Yo,fP Dc,Hg]at this;have GE:⇑(h++(⟨.lst,GY (⇑h+1) j⟩::(ws.take j).map f))=⇑h+1+j:=by simp;lia
   rw[GE];exact this
  .have:j=⇑ws:=δ
   subst this;simp
def ih{mi:G6}{it:Gn}{g:DR}{e:B8}{ρ:Ay}{h h0:A5}{nl:Nat}{caps:↑Nat}(GY:Nat->Nat->↑W)(y8:∀a,GY a 0=[])(Yo:∀a n,GY a (n+1)=GY a n++[.ref (a+n)])(Yp:∀a n,⇑(GY a n)=n)(ws:↑W)(f:W->O)(Bl:Ay->Prop)(AI:⇑ws<1000)(AA:mi ρ h0=.ok (it,h))(F0:Bl (Pk nl caps ρ))(hit:∀j H,h<+: H->j<=⇑ws->it j H=↥ws[j]?)(DO:∀w∈ws,∀ρ H,Bl ρ->h<+: H->∃CT,g w ρ H=.ok (.AP CT,H)/\Bl CT/\e CT H=.ok (.ref ⇑H,H++[f w])) :
  CW nl caps mi g ac e ρ h0=.ok (.ref ⇑h,h++(⟨.lst,GY (⇑h+1) ⇑ws⟩::ws.map f)):=by
 unfold CW;erw[H0,AA,J];have:=ic GY Yo Yp ws f Bl AI hit DO L0 0 _ (IM _) (by unfold L0;lia) F0;rw[y8]at this;erw[List.take_zero,LP]at this;rw[this]
end BJ
namespace Ds
variable{kw:Bool}
def Gb(a:Nat)(B:↑↑CY):A5:=⟨.lst,MW (a+1) ⇑B⟩::B.map IZ
def NA(a:Nat)(B:↑↑CY):⇑(Gb a B)=⇑B+1:=by simp[Gb]
def tz{cs:↑Nat}{B:↑↑CY}(Ez:⇑cs<=6)(ok:Gh cs B){h:A5}{b i:Nat}(Ux:EE h b B){ρ:Ay}(AA:ρ[i]?=↥↥(.ref b)):CW 1 [] (CN (I i)) (AB 0) ac (CI (BI FD Ω)) ρ h=.ok (.ref ⇑h,h++Gb ⇑h B):=by
 obtain⟨rs,B4,NM,B5⟩:=Ux.ex;have TO:=ok.1;have c:=ih (mi:=CN (I i)) (it:=Fd (.ref b)) (g:=AB 0) (e:=CI (BI FD Ω)) (ρ:=ρ) (h:=h) (h0:=h) (nl:=1) (caps:=[]) MW (λa=>rfl) mY mX (rs.map W.ref) (λw=>match w with
  |.ref r=>(h[r]?).getD ⟨.lst,[]⟩
  |_=>⟨.lst,[]⟩) (λρ=>∃s,ρ=[s]) (by rw[Cd];lia) (J0 B4 (by rw[v_var,AA];rfl)) ⟨none,rfl⟩ (λj H p _=>Kk (Ea p B4) j) (by
   rintro w hw ρ H ⟨s,rfl⟩ p;obtain⟨r,BZ,rfl⟩:=List.mem_map.mp hw;obtain⟨k,AQ⟩:=SZ BZ;have q:=B5 k r AQ;have Qw:k< ⇑cs:=by have:=(List.getElem?_eq_some_iff.mp AQ).1;lia
   have H7:=(ok.2 k Qw).1;refine⟨[↥(.ref r)],γ,⟨_,rfl⟩,?_⟩;have lw:FD [.ref r] H=.ok (.ref ⇑H,H++[IZ (B.getD k [])]):=SC (Gf _ (Ea p q)) (by rw[Cd];unfold Bi;lia);erw[FV,Fx,AW,BH,v_var,Gl,Fq,J,lw,q,Sf];exact WH H _ rfl (NU _ _ UL))
 rw[c];have:(rs.map W.ref).map (λw=>match w with
  |.ref r=>(h[r]?).getD ⟨.lst,[]⟩
  |_=>⟨.lst,[]⟩)=B.map IZ:=by
  apply List.ext_getElem?;intro k;erw[Dl];by_cases AQ:k< ⇑rs
  .rw[C3 AQ,C3 δ];have q:=B5 k rs[k] (C3 AQ);erw[LH,q,Sf];rw[Fg,C3 δ];rfl
  .rw[J_ δ,J_ δ];rfl
 rw[this,Cd,NM];rfl
def iS{B:↑↑CY}(h:A5):EE (h++Gb ⇑h B) ⇑h B:=uD rfl h
def iU{cs:↑Nat}{B:↑↑CY}(Ez:⇑cs<=6)(ok:Gh cs B){h:A5}{b:Nat}(Ux:EE h b B):SM [.ref b] h=.ok (.ref ⇑h,h++Gb ⇑h B):=by have c:=tz (i:=0) Ez ok Ux (ρ:=[ST]) rfl;have e:SM [.ref b] h=(B1 (CW 1 [] (CN π) (AB 0) ac (CI (BI FD Ω))) [ST] h).bind outF:=rfl;rw[e,EC,c];rfl
abbrev Co:=Option (Nat×Nat)
noncomputable def FX(k:Nat):Str:=if k=0 then AO "teach" else if k=1 then AO "turn" else AO "forget"
def Bx(kw:Bool):Co->W
 |none=>if kw=true then .Ho [.str (AO "wait")]else .tup [.str (AO "wait")]
 |some p=>.tup [.str (FX p.1),.int (p.2:Int)]
@[simp] theorem lq(s:Co):DU ((Bx kw) s)=true:=by cases s<;>cases kw<;>rfl
structure TS(n:Nat)(ps:↑Co):Prop where
 l:⇑ps<=40
 k:∀p,↥p∈ps->p.1<3/\p.2<n
 Bj:(ps.filterMap id).Nodup
def kX(h:A5)(k:Int)(AQ:k=1\/k=2):Ce false (.int k) (.tup [.int 1,.int 2]) h=.ok (.AL false,h):=by rw[Lr (d:=.int k) (t:=true) (ds:=[.int 1,.int 2]) rfl (by simp[Bu]) (by simp[Bu])];rcases AQ with rfl|rfl<;>rfl
def aed{n:Nat}{cs:↑Nat}{ws:ν}{h:A5}{m:Nat}(A:FI h m cs ws){s:Co}(AS:∀p,s=↥p->p.1<3/\p.2< ⇑cs):Rd [(Bx kw) s,.ref m] h=.ok ω:=by
 obtain⟨f,A9,AG⟩:=A.ex;have f2:B6 "Net" "many" (.ref m) h=.ok (.int ⇑cs,h):=EV A9 rfl;have is:∀x,DT "str" (.str x) h=.ok ω:=λx=>rfl;cases s with
 |none=>
  have Cs:DT "tuple" ((Bx kw) none) h=.ok ω:=by cases kw<;>rfl
  have DI:Bh [(Bx kw) none] h=.ok (.int 1,h):=by cases kw<;>rfl
  have x0:A7 ((Bx kw) none) (.int 0) h=.ok (.str (AO "wait"),h):=by cases kw<;>rfl
  simp[Rd,Xe,Cs,DI,x0,kX,is,Bi]
 |some p=>
  have AX:=AS p rfl;have Cs:DT "tuple" ((Bx kw) ↥p) h=.ok ω:=rfl;have DI:Bh [(Bx kw) ↥p] h=.ok (.int 2,h):=PX h _;have x0:A7 ((Bx kw) ↥p) (.int 0) h=.ok (.str (FX p.1),h):=GF h _ _;have Cc:A7 ((Bx kw) ↥p) (.int 1) h=.ok (.int (p.2:Int),h):=I9 h _ _ _;have w:=Rz (p.2:Int) 0 ((⇑cs:Int)-1) h;rw[decide_eq_true (show(0:Int)<=(p.2:Int)by lia),decide_eq_true (show(p.2:Int)<=(⇑cs:Int)-1 by lia)]at w;have HH:Ce true (.str (FX p.1)) (.tup [.str (AO "teach"),.str (AO "turn"),.str (AO "forget")]) h=.ok ω:=by
   rw[Lr (d:=.str (FX p.1)) (t:=true) (ds:=[.str (AO "teach"),.str (AO "turn"),.str (AO "forget")]) rfl (by simp[Bu]) (by simp[Bu])];have:p.1=0\/p.1=1\/p.1=2:=δ
   rcases this with e|e|e<;>rw[e]<;>rfl
  simp[Rd,Xe,Cs,DI,x0,Cc,kX,is,Bi,f2,w,HH]
def Mt:W->Bool
 |.tup [_,_]=>true
 |_=>false
def lx(h:A5)(s:Co):BC false ((Bx kw) s) Ml h=.ok (.AL (Mt ((Bx kw) s)),h):=by
 cases s with
 |none=>cases kw<;>simp[BC,Bx,Ml,Bu,eqT,GJ,Mt]
 |some p=>simp[BC,Bx,Ml,Bu,eqT,GJ,Mt]
def qm{a b:Nat}(AF:a<3)(A4:b<3)(h:FX a=FX b):a=b:=by
 have a1:a=0\/a=1\/a=2:=δ
 have b1:b=0\/b=1\/b=2:=δ
 rcases a1 with rfl|rfl|rfl<;>rcases b1 with rfl|rfl|rfl<;>first|rfl|exact absurd h ε
def stK(p:Nat×Nat):↑Key:=[.inr (FX p.1),.inl (p.2:Int)]
theorem rB:∀l:↑(Nat×Nat),(l.map λp=>(Bx kw) ↥p).mapM NW=↥(l.map stK)
 |[]=>rfl
 |p::l=>by rw[EM,O0,rB l];rfl
theorem eN:∀ps:↑Co,(ps.map (Bx kw)).filter Mt=(ps.filterMap id).map λp=>(Bx kw) ↥p
 |[]=>rfl
 |none::ps=>by rw[EM,Q_,if_neg (by cases kw<;>simp[Bx,Mt]),eN ps];rfl
 |some p::ps=>by rw[EM,Q_,if_pos (by simp[Bx,Mt]),eN ps];rfl
def acM{cs:↑Nat}{ws:ν}{h:A5}{m q:Nat}(A:FI h m cs ws){ps:↑Co}(P:TS ⇑cs ps)(eq:h[q]?=↥⟨.lst,ps.map (Bx kw)⟩):a9 [.ref q,.ref m] h=.ok ω:=by
 have kL:=P.l;have Cs:DT "list" (.ref q) h=.ok ω:=by erw[DT,Ma,eq];rfl
 have DI:Bh [.ref q] h=.ok (.int ⇑ps,h):=by rw[Ic eq,Cd]
 have a:=Xq (mi:=CN π) (it:=Fd (.ref q)) (g:=AB 0) (e:=Aa 2 Rd (Z π Cl)) (ρ:=[↥(.ref q),↥(.ref m),none]) (h:=h) (nl:=1) (caps:=[1]) (ps.map (Bx kw)) (λ_=>true) (λρ=>∃s,ρ=[s,↥(.ref m)]) (by rw[Cd];lia) (J0 eq γ) ⟨none,rfl⟩ (λj acc _=>a5 eq _ j) (by rintro w hw ρ acc ⟨s,rfl⟩;obtain⟨c,AK,rfl⟩:=List.mem_map.mp hw;exact⟨[↥((Bx kw) c),↥(.ref m)],γ,⟨_,rfl⟩,by simp[aed (n:=0) (A.more [⟨.lst,acc⟩]) (λp e=>P.k p (e▸AK))]⟩)
 rw[List.all_eq_true.mpr (λ_ _=>rfl)]at a;have c:=Mm (mi:=CN π) (it:=Fd (.ref q)) (g:=AB 0) (t:=Ad (A1 (BC false) π (pu Ml))) (e:=I 0) (ρ:=[↥(.ref q),↥(.ref m),none]) (h:=h) (h0:=h) (nl:=1) (caps:=[]) (ps.map (Bx kw)) Mt id (λρ=>∃s,ρ=[s]) (by rw[Cd];lia) (J0 eq γ) ⟨none,rfl⟩ (λj acc _=>a5 eq _ j) (by rintro w hw ρ acc ⟨s,rfl⟩;obtain⟨c,AK,rfl⟩:=List.mem_map.mp hw;exact⟨[↥((Bx kw) c)],γ,⟨_,rfl⟩,by simp[lx],λ_=>γ⟩)
 rw[List.map_id,eN]at c;have Bj:((ps.filterMap id).map stK).Nodup:=by rw[X1,X5];refine List.Pairwise.imp_of_mem ?_ P.Bj;intro x y AM Af ne z;obtain⟨u,BS,Er⟩:=List.mem_filterMap.mp AM;obtain⟨v,CL,ev⟩:=List.mem_filterMap.mp Af;erw[id]at Er ev;subst Er ev;have zt:=P.k _ BS;have Vc:=P.k _ CL;erw[stK,sD,Sum.inr.injEq,X_,and_true]at z;exact ne (Prod.ext (qm zt.1 Vc.1 z.1) δ)
 have lf:⇑(ps.filterMap id)<=⇑ps:=List.length_filterMap_le ..;have CZ:Dw (h++[⟨.lst,(ps.filterMap id).map λp=>(Bx kw) ↥p⟩]) (.ref ⇑h)=↥(false,(ps.filterMap id).map λp=>(Bx kw) ↥p):=Gf _ γ;have ls:V8 [.ref ⇑h] (h++[⟨.lst,(ps.filterMap id).map λp=>(Bx kw) ↥p⟩])=.ok (.int ⇑(ps.filterMap id),h++[⟨.lst,(ps.filterMap id).map λp=>(Bx kw) ↥p⟩]):=by unfold V8;erw[CZ,Cd];rw[if_pos δ];erw[rB,if_pos Bj,Cd]
 have H7:Bh [.ref ⇑h] (h++[⟨.lst,(ps.filterMap id).map λp=>(Bx kw) ↥p⟩])=.ok (.int ⇑(ps.filterMap id),h++[⟨.lst,(ps.filterMap id).map λp=>(Bx kw) ↥p⟩]):=by rw[Ic (C9 h _)];simp
 have t1:F2 (D8 (Ad (BD (DT "list") π))) (Ad (A1 Kd (BI Bh Ω) (pu Td))) [↥(.ref q),↥(.ref m),none] h=.ok (false,h):=by simp[Cs,DI,Td];lia
 have Cn:MP (D8 (Ad (BI (Hs true) (Z (CW 1 [1] (CN π) (AB 0) ac (Aa 2 Rd (Z π Cl))) A2)))) [↥(.ref q),↥(.ref m),none] h=.ok (false,h):=by rw[e9,v_not,D_,a];simp
 have s3:Am (CW 1 [] (CN π) (AB 0) (Ad (A1 (BC false) π (pu Ml))) π) (AB 2) [↥(.ref q),↥(.ref m),none] h=.ok (.AP [↥(.ref q),↥(.ref m),χ],h++[⟨.lst,(ps.filterMap id).map λp=>(Bx kw) ↥p⟩]):=by rw[DV,c];rfl
 have e:a9 [.ref q,.ref m] h=((Y6 [↥(.ref q),↥(.ref m),none] h).bind outF).bind λp=>settle h p.1 p.2:=rfl;rw[e];unfold Y6;rw[Az,DL,t1,J,if_neg γ,E9,J,B0,Az,DL,Cn,J,if_neg γ,E9,J,B0,Az,s3,J,B0];erw[EC,AU,Fx,AW,BH,v_var,Gl,IP,Fq,J,ls,H7,ZX,Fm];simp
def acK{cs:↑Nat}{ws:ν}(Ez:⇑cs<=6){B C:↑↑CY}(HW:Gh cs B)(abX:Gh cs C){h:A5}{m q b c:Nat}(A:FI h m cs ws)(Ke:EE h b B)(VJ:EE h c C){ps:↑Co}(P:TS ⇑cs ps)(eq:h[q]?=↥⟨.lst,ps.map (Bx kw)⟩):Wf [.ref m,.ref b,.ref c,.ref q] h=.ok (.non,h):=by simp[Wf,bk,bp Ez HW A Ke,bp Ez abX A VJ,acM A P eq]
end Ds
namespace Ds
noncomputable def m1:↑Str:=["net","books","plan","done","came","letters","ended"]
def OR(nt Ep b1 pl M CS:Nat):O:=⟨.ins "Run" m1,[.ref nt,.tup [.ref Ep,.ref b1],.ref pl,.ref M,.int (CS:Int),.ref (M+1),.ref (M+2)]⟩
def Nq{c f:Str}{ns ns':↑Str}{us rH:↑W}{v:B8}{ρ:Ay}{h X Y:A5}{w:W}(h0:ρ[0]?=↥↥(.ref ⇑h))(ev:v ρ (h++(⟨.ins c ns,us⟩::X))=.ok (w,h++(⟨.ins c ns,us⟩::(X++Y))))(l:⇑ns<1000)(A9:Tk ns f=ns')(AG:RL ns us f w=rH):F1 c f π v ρ (h++(⟨.ins c ns,us⟩::X))=.ok (.AP ρ,h++(⟨.ins c ns',rH⟩::(X++Y))):=by rw[Tx,ev,J,v_var,h0,Fq,J];rw[T1 (C9 h _) l A9 AG,PC];rfl
def IV(L:Nat)(cs:↑Nat)(ws:ν)(A B:↑↑CY)(ps:↑Co):A5:=[⟨.lst,Bw cs⟩,⟨.lst,ws.map CJ⟩,MS cs ws (L+4),HS ws]++Gb (L+5) A++Gb (L+6+⇑A) B++[⟨.lst,ps.map (Bx false)⟩]
def WE(L:Nat)(cs:↑Nat)(ws:ν)(A B:↑↑CY)(ps:↑Co):⇑(IV L cs ws A B ps)=⇑A+⇑B+7:=by simp[IV,NA];lia
def adW{cs:↑Nat}{ws:ν}(N:IK cs ws){A B:↑↑CY}(HV:Gh cs A)(HW:Gh cs B){ps:↑Co}(P:TS ⇑cs ps){h:A5}{m a b q:Nat}(Uq:FI h m cs ws)(Ln:EE h a A)(Ke:EE h b B)(Ac:h[q]?=↥⟨.lst,ps.map (Bx false)⟩) :
  SI [.ref ⇑h,.ref m,.ref a,.ref b,.ref q] (h++[⟨.ins "Run" [],[]⟩])=.ok (.non,h++(OR (⇑h+3) (⇑h+5) (⇑h+6+⇑A) (⇑h+7+⇑A+⇑B) (⇑h+8+⇑A+⇑B) 0::(IV ⇑h cs ws A B ps++[⟨.lst,[]⟩,⟨.BM [],[]⟩,⟨.lst,[]⟩]))):=by
 have e:SI [.ref ⇑h,.ref m,.ref a,.ref b,.ref q] (h++[⟨.ins "Run" [],[]⟩])=(Xw [χ,↥(.ref m),↥(.ref a),ST,↥(.ref q)] (h++[⟨.ins "Run" [],[]⟩])).bind outF:=rfl;rw[e];obtain⟨ρ,Ab⟩:∃ρ:Ay,ρ=[χ,↥(.ref m),↥(.ref a),ST,↥(.ref q)]:=ο;rw[<-Ab];have RO:ρ[0]?=↥↥(.ref ⇑h):=by rw[Ab];rfl
 have v1:∀h',I 1 ρ h'=.ok (.ref m,h'):=by rw[Ab];exact λ_=>rfl
 have v2:∀h',I 2 ρ h'=.ok (.ref a,h'):=by rw[Ab];exact λ_=>rfl
 have E2:∀h',I 3 ρ h'=.ok (.ref b,h'):=by rw[Ab];exact λ_=>rfl
 have v4:∀h',I 4 ρ h'=.ok (.ref q,h'):=by rw[Ab];exact λ_=>rfl
 have kL:=P.l;have Q4:=HV.1;have TO:=HW.1;have s0:Di (Aa 4 Wf (Z τ (Z ψ (Z Ψ XL)))) ρ (h++[⟨.ins "Run" [],[]⟩])=.ok (.AP ρ,h++[⟨.ins "Run" [],[]⟩]):=by erw[IG,EH,AW,BH,v1,v2,E2,v4,J,FF,JB,Mx,if_true,acK N.Ez HV HW (Uq.more _) (Ln.more _) (Ke.more _) P (CE h Ac _)]
 have s1:F1 "Run" "net" π (Aa 1 WY Cl) ρ (h++[⟨.ins "Run" [],[]⟩])=.ok (.AP ρ,h++(⟨.ins "Run" ["net"],[.ref (⇑h+3)]⟩::([]++[⟨.lst,Bw cs⟩,⟨.lst,ws.map CJ⟩,MS cs ws (⇑h+4),HS ws]))):=by refine Nq RO ?_ ε rfl rfl;erw[EH,AW,BH,v1,J,FF,JB,Mx,if_true,aaT N (Uq.more _)];rw[EZ,EL];rfl
 obtain⟨Ph,Cc⟩:∃X:A5,X=[]++[⟨.lst,Bw cs⟩,⟨.lst,ws.map CJ⟩,MS cs ws (⇑h+4),HS ws]:=ο;have DI:⇑Ph=4:=by rw[Cc];rfl
 rw[<-Cc]at s1;have s2:F1 "Run" "books" π (BE (Z (Aa 1 SM (Z ψ A2)) (Z (Aa 1 SM (Z Ψ A2)) A2))) ρ (h++(⟨.ins "Run" ["net"],[.ref (⇑h+3)]⟩::Ph))=.ok (.AP ρ,h++(⟨.ins "Run" ["net","books"],[.ref (⇑h+3),.tup [.ref (⇑h+5),.ref (⇑h+6+⇑A)]]⟩::(Ph++(Gb (⇑h+5) A++Gb (⇑h+6+⇑A) B)))):=by
  refine Nq RO ?_ ε rfl rfl;have C7:=iU N.Ez HV (Ln.more (⟨.ins "Run" ["net"],[.ref (⇑h+3)]⟩::Ph));have EI:⇑(h++(⟨.ins "Run" ["net"],[.ref (⇑h+3)]⟩::Ph))=⇑h+5:=by simp[DI]
  rw[EI,EZ]at C7;have Cz:=iU N.Ez HW (Ke.more ((⟨.ins "Run" ["net"],[.ref (⇑h+3)]⟩::Ph)++Gb (⇑h+5) A));have BN:⇑(h++((⟨.ins "Run" ["net"],[.ref (⇑h+3)]⟩::Ph)++Gb (⇑h+5) A))=⇑h+6+⇑A:=by simp[DI,NA];lia
  rw[BN]at Cz;erw[HF,EH,AW,BH,v2,E2,J,FF,JB,Mx,if_true,C7,Cz];rw[if_pos ε];simp
 obtain⟨TZ,CK⟩:∃X:A5,X=Ph++(Gb (⇑h+5) A++Gb (⇑h+6+⇑A) B):=ο;have Ct:⇑TZ=6+⇑A+⇑B:=by rw[CK];simp[DI,NA];lia
 rw[<-CK]at s2;have s3:F1 "Run" "plan" π (BI FD XL) ρ (h++(⟨.ins "Run" ["net","books"],[.ref (⇑h+3),.tup [.ref (⇑h+5),.ref (⇑h+6+⇑A)]]⟩::TZ))=.ok (.AP ρ,h++(⟨.ins "Run" ["net","books","plan"],[.ref (⇑h+3),.tup [.ref (⇑h+5),.ref (⇑h+6+⇑A)],.ref (⇑h+7+⇑A+⇑B)]⟩::(TZ++[⟨.lst,ps.map (Bx false)⟩]))):=by
  refine Nq RO ?_ ε rfl rfl;have C7:FD [.ref q] (h++(⟨.ins "Run" ["net","books"],[.ref (⇑h+3),.tup [.ref (⇑h+5),.ref (⇑h+6+⇑A)]]⟩::TZ))=_:=SC (Gf _ (CE h Ac _)) (by rw[Cd];unfold Bi;lia);erw[Fx,AW,BH,v4,J,C7];have:⇑(h++(⟨.ins "Run" ["net","books"],[.ref (⇑h+3),.tup [.ref (⇑h+5),.ref (⇑h+6+⇑A)]]⟩::TZ))=⇑h+7+⇑A+⇑B:=by simp[Ct];lia
  rw[this,EZ];rfl
 obtain⟨P0,Dq⟩:∃X:A5,X=TZ++[⟨.lst,ps.map (Bx false)⟩]:=ο;have Vd:⇑P0=7+⇑A+⇑B:=by rw[Dq];simp[Ct];lia
 rw[<-Dq]at s3;obtain⟨us,Er⟩:∃us:↑W,us=[.ref (⇑h+3),.tup [.ref (⇑h+5),.ref (⇑h+6+⇑A)],.ref (⇑h+7+⇑A+⇑B)]:=ο;have s4:F1 "Run" "done" π (Be A2) ρ (h++(⟨.ins "Run" ["net","books","plan"],[.ref (⇑h+3),.tup [.ref (⇑h+5),.ref (⇑h+6+⇑A)],.ref (⇑h+7+⇑A+⇑B)]⟩::P0))=.ok (.AP ρ,h++(⟨.ins "Run" ["net","books","plan","done"],[.ref (⇑h+3),.tup [.ref (⇑h+5),.ref (⇑h+6+⇑A)],.ref (⇑h+7+⇑A+⇑B),.ref (⇑h+8+⇑A+⇑B)]⟩::(P0++[⟨.lst,[]⟩]))):=by refine Nq RO ?_ ε rfl rfl;rw[Mc,BH,J,NX _ γ];simp[Vd];lia
 have s5:F1 "Run" "came" π η ρ (h++(⟨.ins "Run" ["net","books","plan","done"],[.ref (⇑h+3),.tup [.ref (⇑h+5),.ref (⇑h+6+⇑A)],.ref (⇑h+7+⇑A+⇑B),.ref (⇑h+8+⇑A+⇑B)]⟩::(P0++[⟨.lst,[]⟩])))=.ok (.AP ρ,h++(⟨.ins "Run" ["net","books","plan","done","came"],[.ref (⇑h+3),.tup [.ref (⇑h+5),.ref (⇑h+6+⇑A)],.ref (⇑h+7+⇑A+⇑B),.ref (⇑h+8+⇑A+⇑B),.int 0]⟩::(P0++[⟨.lst,[]⟩]++[]))):=by refine Nq RO ?_ ε rfl rfl;rw[O4];rfl
 rw[O4]at s5;have CQ:F1 "Run" "letters" π (NP false) ρ (h++(⟨.ins "Run" ["net","books","plan","done","came"],[.ref (⇑h+3),.tup [.ref (⇑h+5),.ref (⇑h+6+⇑A)],.ref (⇑h+7+⇑A+⇑B),.ref (⇑h+8+⇑A+⇑B),.int 0]⟩::(P0++[⟨.lst,[]⟩])))=.ok (.AP ρ,h++(⟨.ins "Run" ["net","books","plan","done","came","letters"],[.ref (⇑h+3),.tup [.ref (⇑h+5),.ref (⇑h+6+⇑A)],.ref (⇑h+7+⇑A+⇑B),.ref (⇑h+8+⇑A+⇑B),.int 0,.ref (⇑h+8+⇑A+⇑B+1)]⟩::(P0++[⟨.lst,[]⟩]++[⟨.BM [],[]⟩]))):=by refine Nq RO ?_ ε rfl rfl;have:∀h':A5,NP false ρ h'=.ok (.ref ⇑h',h'++[⟨.BM [],[]⟩]):=λh'=>rfl;rw[this];simp[Vd];lia
 have D9:F1 "Run" "ended" π (Be A2) ρ (h++(⟨.ins "Run" ["net","books","plan","done","came","letters"],[.ref (⇑h+3),.tup [.ref (⇑h+5),.ref (⇑h+6+⇑A)],.ref (⇑h+7+⇑A+⇑B),.ref (⇑h+8+⇑A+⇑B),.int 0,.ref (⇑h+8+⇑A+⇑B+1)]⟩::(P0++[⟨.lst,[]⟩]++[⟨.BM [],[]⟩])))=.ok (.AP ρ,h++(OR (⇑h+3) (⇑h+5) (⇑h+6+⇑A) (⇑h+7+⇑A+⇑B) (⇑h+8+⇑A+⇑B) 0::(P0++[⟨.lst,[]⟩]++[⟨.BM [],[]⟩]++[⟨.lst,[]⟩]))):=by refine Nq RO ?_ ε rfl rfl (w:=.ref (⇑h+8+⇑A+⇑B+2));rw[Mc,BH,J,NX _ γ];simp[Vd];lia
 unfold Xw;rw[Az,s0,J,B0,Az,s1,J,B0,Az,s2,J,B0,Az,s3,J,B0,Az,s4,J,B0,Az,s5,J,B0,Az,CQ,J,B0,D9,J,lS];rw[Dq,CK,Cc,IV];simp
end Ds
namespace BJ
noncomputable def Jp(o:Option W)(ρ:Ay):F7:=match o with
 |some v=>.Dp v
 |none=>.AP ρ
theorem ck{α β:Type}(p:α->Bool)(f:α->β):∀l:↑α,l.findSome? (λa=>if p a=true then↥(f a)else none)=(l.find? p).map f
 |[]=>rfl
 |a::l=>by
  rw[List.findSome?_cons,Qa];cases h:p a
  .simpa using ck p f l
  .rfl
def az{mi:G6}{it:Gn}{g:DR}{b:Ap}{ρ:Ay}{h h0:A5}(n:Nat)(Ae:n<1000)(wf:Nat->W)(Bl:Ay->Prop)(q:Nat->Option W)(AA:mi ρ h0=.ok (it,h))(hit:∀j,j<=n->it j h=↥(if j<n then↥(wf j)else none))(yv:Bl ρ)(DO:∀j,j<n->∀ρ,Bl ρ->∃CT Dx,g (wf j) ρ h=.ok (.AP CT,h)/\Bl Dx/\b CT h=.ok (Jp (q j) Dx,h)) :
  ∃Eh,Bl Eh/\Em mi g b ρ h0=.ok (Jp ((Cg n).findSome? q) Eh,h):=by
 have:=aw (mi:=mi) (it:=it) (g:=g) (b:=b) (ρ:=ρ) (h:=h0) (h0:=h) n Ae (λj ρ h'=>j<=n/\Bl ρ/\h'=h/\(Cg j).findSome? q=none)
  (T:=λf h'=>h'=h/\∃Eh,Bl Eh/\f=Jp ((Cg n).findSome? q) Eh) AA ⟨IM _,yv,rfl,rfl⟩ (by
  rintro j ρ _ ⟨An,i,rfl,e⟩;rw[hit j An];by_cases Dc:j<n
  .obtain⟨CT,Dx,A9,Ft,AG⟩:=DO j Dc ρ i;refine .inr ⟨wf j,by rw[if_pos Dc],Dc,CT,_,A9,?_⟩;rw[AG];cases eq:q j with
   |none=>erw[Jp,ay,hc];refine⟨Dc,Ft,trivial,?_⟩;rw[XM,rp,e];simp[eq]
   |some v=>
    erw[Jp,ay,sO];refine⟨trivial,Dx,Ft,?_⟩;have:(Cg n).findSome? q=↥v:=by
     have h2:Cg n=Cg j++(j::(List.range' (j+1) (n-(j+1)))):=by have:=List.range'_append_1 (s:=0) (m:=j) (n:=n-j);rw[Nat.zero_add,<-rr,show j+(n-j)=n by lia,<-rr]at this;rw[<-this,show n-j=(n-(j+1))+1 by lia,List.range'_succ]
     rw[h2,rp,e];simp[eq]
    rw[this]
  .have:j=n:=δ
   subst this;refine .inl ⟨by rw[if_neg Dc],rfl,ρ,i,?_⟩;rw[e];rfl)
 obtain⟨f,h',C2,rfl,Eh,yu,rfl⟩:=this.HB;exact⟨Eh,yu,C2⟩
def ab3{h:A5}{n:Nat}{α:Type}{f:α->W}{l:↑α}{d:α}(e:h[n]?=↥⟨.lst,l.map f⟩)(j:Nat):Fd KK j h=↥(if j< ⇑l then↥(f (l.getD j d))else none):=by
 rw[Kk e,Dl];by_cases An:j< ⇑l
 .rw[if_pos An,C3 An,Fg,C3 An];rfl
 .rw[if_neg An,J_ δ];rfl
def iK{h:A5}{n:Nat}{α:Type}{f:α->W}{l:↑α}{d:α}(e:h[n]?=↥⟨.lst,l.map f⟩)(j:Nat)(An:j<=⇑l):P8 KK j h=↥(if j< ⇑l then↥(.tup [.int (j:Int),f (l.getD j d)])else none):=by
 erw[P8,Kl h e,Cd];by_cases Dc:j< ⇑l
 .rw[if_neg δ,if_pos Dc,Dl,C3 Dc,Fg,C3 Dc];rfl
 .rw[if_pos δ,if_neg Dc]
@[simp] theorem ajv(f g k:DR)(x y z:W)(ρ:Ay)(h:A5):Dh [f,g,k] (.tup [x,y,z]) ρ h=(f x ρ h).bind (QL λρ h=>(g y ρ h).bind (QL λρ h=>(k z ρ h).bind (QL C5))):=by
  erw[Dh,Tq,FF,JB,Tw,Az];rw[if_pos trivial]
  congr
end BJ
namespace Ds
def Gg(k:Nat):Nat:=[8,4,2,1].getD k 1
noncomputable def v_(x:Str)(a k:Nat):Bool:=x.cps.toList.getD k 0==120||x.cps.toList.getD k 0==48+a/Gg k%2
def JS(x:Str)(a:Nat):Bool:=(Cg 4).all (v_ x a)
def afk(k:Nat):0<Gg k:=by
 unfold Gg;by_cases h:k<4
 .rcases(by lia:k=0\/k=1\/k=2\/k=3)with rfl|rfl|rfl|rfl<;>decide
 .rw[Fg,J_ (by simp;lia)];decide
def afC{c:Nat}(s:Mh c)(b:Nat)(A4:b<2)(h:A5):Ce true (.str ⟨#[c]⟩) (.tup [.str (AO "x"),.str (toString ((b:Nat):Int))]) h=.ok (.AL (c==120||c==48+b),h):=by
 rw[Lr (d:=.str ⟨#[c]⟩) (t:=true) (ds:=[.str (AO "x"),.str (toString ((b:Nat):Int))]) rfl (by simp[Bu]) (by simp[Bu])];have:b=0\/b=1:=δ
 rcases this with rfl|rfl<;>rcases s with rfl|rfl|rfl<;>rfl
def ad8{x:Str}(p:QF x){k:Nat}(AQ:k<4):Mh (x.cps.toList.getD k 0):=by have Cp:=p.l;rw[Fg,C3 δ];exact p.s _ (J9 _)
def afj(k:Nat):Gg k<=8:=by
 unfold Gg;by_cases h:k<4
 .rcases(by lia:k=0\/k=1\/k=2\/k=3)with rfl|rfl|rfl|rfl<;>decide
 .rw[Fg,J_ (by simp;lia)];decide
noncomputable def Wv(x:Str)(k:Nat):W:=.tup [.str ⟨#[x.cps.toList.getD k 0]⟩,.int (Gg k:Nat)]
noncomputable def cn(a:Nat):W->Bool
 |.tup [.str s,.int v]=>s.cps.toList.getD 0 0==120||s.cps.toList.getD 0 0==48+a/v.toNat%2
 |_=>false
def hJ{a:Nat}(AF:a<16)(h:A5):U9 [.int (a:Int)] h=.ok ω:=by have w:=Rz (a:Int) 0 15 h;rw[decide_eq_true (show(0:Int)<=(a:Int)by lia),decide_eq_true (show(a:Int)<=15 by lia)]at w;simp[U9,bW,P3,w]
def jW{x:Str}(p:QF x){a:Nat}(AF:a<16)(h:A5):Om [.str x,.int (a:Int)] h=.ok (.AL (JS x a),h):=by
 have Cp:=p.l;have al:=Xq (mi:=Oi (Z π (Z (pu P4) A2))) (it:=Rb x [.int 8,.int 4,.int 2,.int 1]) (g:=Dh [(AB 0),(AB 1)]) (e:=A1 (Ce true) π (BE (Z (pu (.str (AO "x"))) (Z (BI LX (Z (A1 Bf (A1 EQ ψ τ) υ) A2)) A2)))) (ρ:=[↥(.str x),ς]) (h:=h) (nl:=2) (caps:=[1]) ((Cg 4).map (Wv x)) (cn a) (λρ=>∃s t,ρ=[s,t,ς]) γ (by simp[Oi,aM,P4]) ⟨none,none,rfl⟩ (λj acc An=>by
   erw[Cd,Sd]at An;have AS:x.cps.size=4:=Cp;unfold Rb;erw[AS,FF,JB];by_cases Dc:j<4
   .rw[if_neg δ];rw[Dl,Ny Dc,LL δ];rcases(by lia:j=0\/j=1\/j=2\/j=3)with rfl|rfl|rfl|rfl<;>simp[Wv,Gg,AS]
   .have:j=4:=δ
    subst this;rfl) (by
  rintro w hw ρ acc ⟨s,t,rfl⟩;obtain⟨k,AQ,rfl⟩:=List.mem_map.mp hw;have AQ:=List.mem_range.mp AQ;have q:=afk k;have n2:=afj k;have Ey:a/Gg k%2<2:=Xb _ δ;refine⟨[↥(.str ⟨#[x.cps.toList.getD k 0]⟩),↥(.int (Gg k:Nat)),ς],by simp[Wv],⟨_,_,rfl⟩,?_⟩;have C7:(0:Int)<(Gg k:Int)/\(Gg k:Int)<1073741824:=δ
  have AG:(a:Int)/(Gg k:Int)%2=((a/Gg k%2:Nat):Int):=γ
  have st:∀g:A5,LX [.int ((a/Gg k%2:Nat):Int)] g=.ok (.str (toString ((a/Gg k%2:Nat):Int)),g):=λg=>by unfold LX;dsimp only;rw[if_pos];rcases(by lia:a/Gg k%2=0\/a/Gg k%2=1)with e|e<;>rw[e]<;>decide
  erw[AU,HF,AW,BH,Fx,v_var,Ag,Gl,IP,Fq,J,Kw,if_pos C7,F5,if_pos (show(0:Int)<2 by decide),AG,st];rw[if_pos (by simp[Bi]),J,afC (ad8 p AQ) _ Ey];simp[cn,Wv])
 have BX:((Cg 4).map (Wv x)).all (cn a)=JS x a:=by
  unfold JS;rw[Si]
  congr 1
 rw[BX]at al;have gT:CI (BI (Hs true) (Z (CW 2 [1] (Oi (Z π (Z (pu P4) A2))) (Dh [(AB 0),(AB 1)]) ac (A1 (Ce true) π (BE (Z (pu (.str (AO "x"))) (Z (BI LX (Z (A1 Bf (A1 EQ ψ τ) υ) A2)) A2))))) A2)) [↥(.str x),ς] h=.ok (.AL (JS x a),h):=by rw[FV,al];simp
 simp[-FV,Om,bV,dB p,hJ AF,gT]
end Ds
namespace BJ
def w9{n:Nat}{p:Nat->Bool}{k:Nat}(h:(Cg n).find? p=↥k):k<n/\p k=true:=⟨List.mem_range.mp (rQ h),List.find?_some h⟩
end BJ
namespace Ds
def I5:CY:=⟨AO "",none,none⟩
def OQ(i a:Nat)(r:CY):Bool:=(r.a.isNone||r.a==↥i)&&JS r.p a
def Pu(Bv:↑CY)(i a:Nat):Option Nat:=(Cg ⇑Bv).find? λj=>OQ i a (Bv.getD j I5)
inductive Tl where
 |at (d:AN)|drop (h:Nat)|out (d:AN)|Jw (h:Nat)
noncomputable def EK:Tl->W
 |.at d=>.tup [.str (AO "at"),.int (d.1:Int),.int (d.2:Int)]
 |.drop h=>.tup [.str (AO "drop"),.int (h:Int)]
 |.out d=>.tup [.str (AO "out"),.int (d.1:Int),.int (d.2:Int)]
 |.Jw h=>.tup [.str (AO "lost"),.int (h:Int)]
@[simp] theorem aiO(t:Tl):DU (EK t)=true:=by cases t<;>simp[EK]
def Jy(ws:ν)(h:Nat):Option Nat->Tl
 |none=>.drop h
 |some o=>match EF ws (h,o)with
  |none=>.out (h,o)
  |some e=>.at e
def ID(ws:ν)(Bv:↑CY)(d:AN)(a:Nat):Tl:=match Pu Bv d.2 a with
 |none=>.drop d.1
 |some k=>Jy ws d.1 (Bv.getD k I5).b
def c6(h:A5)(o:Option Nat):El true (Cw o) .non h=.ok (.AL o.isNone,h):=by cases o<;>rfl
def iO(h:A5)(o:Option Nat)(i:Nat)(ho:o.isNone=false):BC true (Cw o) (.int (i:Int)) h=.ok (.AL (o==↥i),h):=by
 cases o with
 |none=>cases ho
 |some k=>
  rw[Cw,ZX]
  congr 3
  by_cases e:k=i
  .subst e;simp
  .have:¬(k:Int)=(i:Int):=δ
   simp[e,this]
def getD_mem{α:Type}{l:↑α}{k:Nat}{d:α}(h:k< ⇑l):l.getD k d∈l:=by rw[Fg,C3 h];exact J9 _
def e_:Ap:=C8 (JX (F2 (Ad (A1 (El true) (A1 A7 (I 4) ζ) Tm)) (Ad (A1 Φ (A1 A7 (I 4) ζ) τ))) (Ad (Aa 2 Om (Z (A1 A7 (I 4) η) (Z ψ A2))))) (B1 Ψ) C5
def aet{c:Nat}{Bv:↑CY}(ok:Ky c Bv){h:A5}{b i a:Nat}(AF:a<16)(B4:h[b]?=↥(IZ Bv)):Wg [.ref b,.int (i:Int),.int (a:Int)] h=.ok (Cw (Pu Bv i a),h):=by
 have zu:=ok.1;obtain⟨Eh,_,e⟩:=az (mi:=Lw Ω) (it:=P8 (.ref b)) (g:=Dh [(AB 3),(AB 4)]) (b:=e_) (ρ:=[ST,↥(.int (i:Int)),ς,none,none]) (h:=h) (h0:=h) ⇑Bv δ (λj=>.tup [.int (j:Int),Dd (Bv.getD j I5)]) (λρ=>∃s t,ρ=[ST,↥(.int (i:Int)),ς,s,t]) (λj=>if OQ i a (Bv.getD j I5)=true then↥(.int (j:Int))else none) (by simp[Lw,Kl h B4]) (λj An=>iK B4 j An) ⟨none,none,rfl⟩ (by
  rintro j An _ ⟨s,t,rfl⟩;obtain⟨r,B5⟩:∃r,r=Bv.getD j I5:=ο;have f6:=ok.2 r (B5▸getD_mem An);rw[<-B5];refine⟨[ST,↥(.int (i:Int)),ς,↥(.int (j:Int)),↥(Dd r)],[ST,↥(.int (i:Int)),ς,↥(.int (j:Int)),↥(Dd r)],γ,⟨_,_,rfl⟩,?_⟩;have x0:A7 (Dd r) (.int 0) h=.ok (.str r.p,h):=GF h _ _;have Cc:A7 (Dd r) (.int 1) h=.ok (Cw r.a,h):=I9 h _ _ _;have VF:=jW f6.p AF h;unfold e_;rw[DL];erw[v_and,v_or,D_,AU,EH,AW,BH,v_var,Ag,Gl,IP,Fq,J,x0,Cc,c6,Db,VF,FF,JB,Mx,if_true];unfold OQ;cases h1:r.a.isNone
  .erw[Kn,if_false,iO h _ i h1,J,Db,gL];cases h2:r.a==↥i<;>cases BF:JS r.p a<;>simp[Jp,x0,VF,BF]
  .cases BF:JS r.p a<;>simp[Jp,x0,VF,BF])
 rw[ck (λj=>OQ i a (Bv.getD j I5)) (λj:Nat=>W.int (j:Int))]at e;have Bc:Wg [.ref b,.int (i:Int),.int (a:Int)] h=((AT (Em (Lw Ω) (Dh [(AB 3),(AB 4)]) e_) (B1 Tm) [ST,↥(.int (i:Int)),ς,none,none] h).bind outF).bind λp=>settle h p.1 p.2:=rfl;rw[Bc,Az,e];unfold Pu;cases(Cg ⇑Bv).find? λj=>OQ i a (Bv.getD j I5)<;>simp[Jp,Cw]
def aar{cs:↑Nat}{ws:ν}{h:A5}{n:Nat}(A:FI h n cs ws)(d:AN):SH [.ref n,AJ d] h=.ok (IR (EF ws d),h):=by
 obtain⟨f,A9,AG⟩:=A.ex;have f1:B6 "Net" "far" KK h=.ok (.ref f,h):=EV A9 rfl;have vA:S6 h (.ref f)=true:=by unfold S6;erw[AG,HS]
 have q:VB (BD (B6 "Net" "far") π) τ [Ξ,↥(AJ d)] h=.ok (IR (EF ws d),h):=by unfold VB;erw[H0,H2,v_var,Gl,Fq,J,f1,S5,vA,if_true,IP,bB AG];cases EF ws d<;>rfl
 simp[SH,gW,q]
def lK{cs:↑Nat}{ws:ν}{h:A5}{n b a c:Nat}{Bv:↑CY}(A:FI h n cs ws)(ok:Ky c Bv)(B4:h[b]?=↥(IZ Bv))(AF:a<16)(d:AN):NT [.ref n,.ref b,AJ d,.int (a:Int)] h=.ok (EK (ID ws Bv d a),h):=by
 obtain⟨f,A9,AG⟩:=A.ex;have x0:A7 (AJ d) (.int 0) h=.ok (.int (d.1:Int),h):=GF h _ _;have Cc:A7 (AJ d) (.int 1) h=.ok (.int (d.2:Int),h):=I9 h _ _ _;have DJ:=aet ok (i:=d.2) AF B4;have s1:Am (Aa 3 Wg (Z τ (Z (A1 A7 ψ ζ) (Z Ψ A2)))) (AB 4) [Ξ,ST,↥(AJ d),ς,none,none,none] h=.ok (.AP [Ξ,ST,↥(AJ d),ς,↥(Cw (Pu Bv d.2 a)),none,none],h):=by erw[DV,EH,AW,BH,AU,v_var,Ag,Gl,IP,Fq,J,Cc,FF,JB,Mx,if_true,DJ];rfl
 have Bc:NT [.ref n,.ref b,AJ d,.int (a:Int)] h=((Z4 [Ξ,ST,↥(AJ d),ς,none,none,none] h).bind outF).bind λp=>settle h p.1 p.2:=rfl;rw[Bc];unfold Z4;rw[Az,s1,J,B0]
 have tail:∀(t:Option Nat)(s4:Option W),((AT (C8 (Ad (A1 (El true) (I 5) Tm)) (B1 (BE (Z (pu (.str (AO "drop"))) (Z Ty A2)))) C5)
  (AT (Am (CO "Net" "beyond" 1 SH π (Z (BE (Z Ty (Z (I 5) A2))) A2)) (AB 6))
  (AT (C8 (Ad (A1 (El true) (I 6) Tm)) (B1 (BE (Z (pu (.str (AO "out"))) (Z Ty (Z (I 5) A2))))) C5)
  (B1 (BE (Z (pu (.str (AO "at"))) (Z (A1 A7 (I 6) η) (Z (A1 A7 (I 6) ζ) A2)))))))) [Ξ,ST,↥(AJ d),ς,s4,↥(Cw t),none] h)=.ok (.Dp (EK (Jy ws d.1 t)),h):=by
  intro t s4;cases t with
  |none=>simp[Cw,El,Q2,x0,Bi,Jy,EK]
  |some o=>
   have nb:=aar A (d.1,o);have GW:CO "Net" "beyond" 1 SH π (Z (BE (Z Ty (Z (I 5) A2))) A2) [Ξ,ST,↥(AJ d),ς,s4,↥(Cw ↥o),none] h=.ok (IR (EF ws (d.1,o)),h):=KD (us:=[AJ (d.1,o)]) rfl A9 rfl (by rw[show AJ (d.1,o)=.tup [.int (d.1:Int),.int (o:Int)]from rfl];simp[x0,Bi,Cw]) rfl nb;have CQ:Am (CO "Net" "beyond" 1 SH π (Z (BE (Z Ty (Z (I 5) A2))) A2)) (AB 6) [Ξ,ST,↥(AJ d),ς,s4,↥(Cw ↥o),none] h=.ok (.AP [Ξ,ST,↥(AJ d),ς,s4,↥(Cw ↥o),↥(IR (EF ws (d.1,o)))],h):=by rw[DV,GW];rfl
   have QR:Ad (A1 (El true) (I 5) Tm) [Ξ,ST,↥(AJ d),ς,s4,↥(Cw ↥o),none] h=.ok (false,h):=rfl;rw[Az,DL,QR,J,if_neg γ,E9,J,B0,Az,CQ,J,B0];cases B4:EF ws (d.1,o)with
   |none=>simp[IR,El,Q2,x0,Bi,Jy,B4,EK,Cw]
   |some e=>have Hx:A7 (AJ e) (.int 0) h=.ok (.int (e.1:Int),h):=GF h _ _;have Hy:A7 (AJ e) (.int 1) h=.ok (.int (e.2:Int),h):=I9 h _ _ _;have Ts:Ad (A1 (El true) (I 6) Tm) [Ξ,ST,↥(AJ d),ς,s4,↥(Cw ↥o),↥(IR ↥e)] h=.ok (false,h):=rfl;rw[Az,DL,Ts,J,if_neg γ,E9,J,B0];simp[IR,Hx,Hy,Bi,Jy,B4,EK]
 unfold ID;cases C2:Pu Bv d.2 a with
 |none=>have s2:Am (KB (Ad (A1 (El true) (I 4) Tm)) Tm (A1 A7 (A1 A7 τ (I 4)) υ)) (AB 5) [Ξ,ST,↥(AJ d),ς,↥(Cw none),none,none] h=.ok (.AP [Ξ,ST,↥(AJ d),ς,↥(Cw none),↥(Cw none),none],h):=rfl;rw[Az,s2,J,B0,tail none];simp[Jy]
 |some k=>
  have AQ:=(w9 C2).1;have FP:A7 (.ref b) (.int (k:Int)) h=.ok (Dd (Bv.getD k I5),h):=EW B4 (by rw[Dl,C3 AQ,Fg,C3 AQ];rfl);have FE:A7 (Dd (Bv.getD k I5)) (.int 2) h=.ok (Cw (Bv.getD k I5).b,h):=S7 h _ _ _ _;have Ru:Ad (A1 (El true) (I 4) Tm) [Ξ,ST,↥(AJ d),ς,↥(Cw ↥k),none,none] h=.ok (false,h):=rfl;have s2:Am (KB (Ad (A1 (El true) (I 4) Tm)) Tm (A1 A7 (A1 A7 τ (I 4)) υ)) (AB 5) [Ξ,ST,↥(AJ d),ς,↥(Cw ↥k),none,none] h=.ok (.AP [Ξ,ST,↥(AJ d),ς,↥(Cw ↥k),↥(Cw (Bv.getD k I5).b),none],h):=by rw[DV,agG,Ru,J,if_neg γ];erw[AU,v_var,Ag,Gl,IP,Fq,J,Cw,FP,FE];rfl
  rw[Az,s2,J,B0,tail];simp
end Ds
namespace BJ
section
variable{Bp:Type}[DecidableEq Bp]
theorem eA{k:Bp}{bs:↑Bp}{w:W}{vs:↑W}:∀{as:↑Bp}{us:↑W},k∉as->⇑as=⇑us->E3 (as++k::bs) (us++w::vs) k=↥w
 |[],[],_,_=>by simp[E3]
 |a::as,u::us,n,l=>by have E1:a≠k:=λz=>n (z▸I0 ..);erw[Ij,E3,if_neg E1];exact eA (λz=>n (Gw _ z)) (l:)
theorem iC{k:Bp}:∀{as:↑Bp}{us:↑W},k∉as->⇑as=⇑us->Nj as us k=us
 |[],[],_,_=>rfl
 |a::as,u::us,n,l=>by have E1:a≠k:=λz=>n (z▸I0 ..);erw[Nj,if_neg E1];rw[iC (λz=>n (Gw _ z)) (l:)]
theorem iB{k:Bp}{bs:↑Bp}{w:W}{vs:↑W}(nb:k∉bs)(Jv:⇑bs=⇑vs):∀{as:↑Bp}{us:↑W},k∉as->⇑as=⇑us->Nj (as++k::bs) (us++w::vs) k=us++vs
 |[],[],_,_=>by simp[Nj,iC nb Jv]
 |a::as,u::us,n,l=>by have E1:a≠k:=λz=>n (z▸I0 ..);erw[Ij,Nj,if_neg E1];rw[iB nb Jv (λz=>n (Gw _ z)) (l:)]
def vc{k:Bp}{as bs:↑Bp}(na:k∉as)(nb:k∉bs):(as++k::bs).filter (λx=>decide (x≠k))=as++bs:=by
 rw[List.filter_append,Q_,if_neg γ,List.filter_eq_self.mpr,List.filter_eq_self.mpr]
 .exact λa h=>(λz:a=k=>nb (z▸h):)
 .exact λa h=>(λz:a=k=>na (z▸h):)
end
def df{h:A5}{n:Nat}{us:↑W}{w:W}(e:h[n]?=↥⟨.lst,us++[w]⟩):A7 KK (.int (-1)) h=.ok (w,h):=by
 have DF:GT h KK (.int (-1))=none:=by erw[GT,e]
 have A9:KV (us++[w]) (-1)=↥w:=by
  unfold KV Oa;rw[if_neg δ,if_pos (by simp;lia)];have:(-1+(⇑(us++[w]):Int)).toNat=⇑us:=by simp;lia
  erw[g8,this];simp
 unfold A7;rw[DF];unfold TJ;erw[Gf h e,A9]
def u3{h:A5}{n:Nat}{AZ:↑Key}{vs:↑W}(e:h[n]?=↥⟨.BM AZ,vs⟩)(i:Int):GT h KK (.int i)=↥(E3 AZ vs (.inl i)):=by erw[GT,e,keyOf,LH]
def vD{h:A5}{n:Nat}{AZ:↑Key}{vs:↑W}{i:Int}{v:W}{ρ:Ay}(e:h[n]?=↥⟨.BM AZ,vs⟩)(dX: .inl i∉AZ)(l:⇑vs<Bi):RE KK (.int i) v ρ h=.ok (.AP ρ,h.set n ⟨.BM (AZ++[.inl i]),vs++[v]⟩):=by unfold RE;erw[e,keyOf,if_pos l,Ox,if_neg dX]
def vC{h:A5}{n:Nat}{as bs:↑Key}{us vs:↑W}{i:Int}{w:W}{ρ:Ay}(e:h[n]?=↥⟨.BM (as++.inl i::bs),us++w::vs⟩)(na: .inl i∉as)(nb: .inl i∉bs)(Ju:⇑as=⇑us)(Jv:⇑bs=⇑vs):Vr KK (.int i) ρ h=.ok (w,h.set n ⟨.BM (as++bs),us++vs⟩):=by unfold Vr;erw[e,keyOf];rw[eA na Ju,vc na nb,iB nb Jv na Ju]
def agE(d k:B8)(ρ:Ay)(h:A5):VC d k ρ h=(d ρ h).bind λp=>S5 p.1 (bd k λkw=>Vr p.1 kw) ρ p.2:=rfl
end BJ
namespace Ds
def QM:Co->C_
 |none=>.CZ true [.str (AO "wait")]
 |some p=>.CZ true [.str (FX p.1),.int (p.2:Int)]
def adw{kw:Bool}(k:Nat)(h:A5)(s:Co):Bu (k+2) h ((Bx kw) s)=↥(QM s):=by cases s<;>cases kw<;>simp[Bx,Bu,QM]
def iQ{s:Co}{k hh:Nat}(AQ:k<3)(AS:∀p,s=↥p->p.1<3):eqT (QM s) (.CZ true [.str (FX k),.int (hh:Int)])=decide (s=↥(k,hh)):=by
 cases s with
 |none=>simp[QM,eqT,GJ]
 |some p=>
  have BF:=AS p rfl;erw[QM,eqT,GJ,List.isEmpty_nil,XZ,beq_self_eq_true,XY];by_cases e:p=(k,hh)
  .subst e;simp
  .rw[decide_eq_false (e:)];by_cases A9:p.1=k
   .have AG:p.2≠hh:=λz=>e (Prod.ext A9 z);have:((p.2:Int)==(hh:Int))=false:=by simp;lia
    rw[this,S_]
   .have:(FX p.1==FX k)=false:=by
      rw[beq_eq_false_iff_ne];exact λz=>A9 (qm BF AQ z)
    rw[this,g0]
def c0{kw:Bool}{h:A5}{n k hh:Nat}{HP:↑Co}(b:Bool)(e:h[n]?=↥⟨.lst,HP.map (Bx kw)⟩)(AQ:k<3)(hd:∀p,↥p∈HP->p.1<3):Ce b (.tup [.str (FX k),.int (hh:Int)]) KK h=.ok (.AL (if b then decide (↥(k,hh)∈HP)else !decide (↥(k,hh)∈HP)),h):=by
 have Du:GT h KK (.tup [.str (FX k),.int (hh:Int)])=none:=by erw[GT,e]
 have r:Bu 8 h KK=↥(.CZ false (HP.map QM)):=by erw[Bu,Gf h e];rw[mapM_some (Bu 7 h) (Bx kw) QM (λs=>adw 5 h s) HP];rfl
 rw[Lr (d:=.CZ true [.str (FX k),.int (hh:Int)]) Du (by simp[Bu]) r];have:(HP.map QM).any (λy=>eqT y (.CZ true [.str (FX k),.int (hh:Int)]))=decide (↥(k,hh)∈HP):=by
  rw[XX];rw[Qj,XS,decide_eq_true_eq];constructor
  .rintro⟨s,AS,q⟩;erw[O2]at q;rw[iQ AQ (λp e=>hd p (e▸AS)),decide_eq_true_eq]at q;exact q▸AS
  .intro AS;refine⟨_,AS,?_⟩;erw[O2];rw[iQ AQ (λp e=>hd p (e▸AS))];simp
 rw[this]
structure Lt where
 n:Nat
 m:Nat
 a:Nat
 pre:↑AN
 d:AN
 BU:Nat
 Fa:Nat
noncomputable def PY(l:Lt):O:=⟨.ins "Letter" ["mark","address","doors"],[.int (l.m:Int),.int (l.a:Int),.ref l.Fa]⟩
def Lh(l:Lt):O:=⟨.lst,(l.pre++[l.d]).map AJ⟩
structure FR where
 cs:↑Nat
 ws:ν
 A:↑↑CY
 B:↑↑CY
 ps:↑Co
 r:Nat
 M:Nat
 T:Nat
 nt:Nat
 Ep:Nat
 b1:Nat
 pl:Nat
 K:A5
def P6:O:=⟨.G9 [],[]⟩
structure GQ(C:FR):Prop where
 N:IK C.cs C.ws
 HV:Gh C.cs C.A
 HW:Gh C.cs C.B
 P:TS ⇑C.cs C.ps
 Wm:FI C.K C.nt C.cs C.ws
 P2:EE C.K C.Ep C.A
 Pj:EE C.K C.b1 C.B
 pp:C.K[C.pl]?=↥⟨.lst,C.ps.map (Bx false)⟩
 kI:C.K[C.r]?=↥P6
 Ee:⇑C.K<=C.M
 D4:C.M+3<=C.T
structure OI(C:FR)(h:A5)(l:Lt):Prop where
 GB:h[l.BU]?=↥(PY l)
 Bc:h[l.Fa]?=↥(Lh l)
 m:l.m<2
 a:l.a<16
 d:l.d∈Dz C.cs ⇑C.cs
 t1:C.T<=l.BU
 Cn:C.T<=l.Fa
structure Eo where
 done:↑Co
 CS:Nat
 lets:↑Lt
 ended:↑(Lt×Tl)
 Cx:Nat
def Cr(S:Eo):↑Lt:=S.lets++S.ended.map (·.1)
def Nm(e:Lt×Tl):W:=.tup [.int (e.1.n:Int),.ref e.1.BU,EK e.2]
def JU(l:Lt):Key:=.inl (l.n:Int)
structure F9(C:FR)(h:A5)(S:Eo):Prop where
 DH:∀(n:Nat) o,C.K[n]?=↥o->o≠P6->h[n]?=↥o
 B5:h[C.r]?=↥(OR C.nt C.Ep C.b1 C.pl C.M S.CS)
 Bc:h[C.M]?=↥⟨.lst,S.done.map (Bx false)⟩
 el:h[C.M+1]?=↥⟨.BM (S.lets.map JU),S.lets.map λl=>.ref l.BU⟩
 Gc:h[C.M+2]?=↥⟨.lst,S.ended.map Nm⟩
 lt:∀l∈Cr S,OI C h l
 Bj:((Cr S).map (·.Fa)).Nodup
 nn:(S.lets.map (·.n)).Nodup
 IB:∀l∈S.lets,l.n<S.CS
 Ni:∀p,↥p∈S.done->p.1<3
 few:S.CS<1000
 le:⇑S.ended+⇑S.lets<=S.CS
 AI:C.T<=⇑h
 pr:∀l∈Cr S,⇑l.pre<=S.Cx
section
variable{C:FR}{h h':A5}{S:Eo}
def OI.to{l:Lt}(x:OI C h l)(A9:h'[l.BU]?=h[l.BU]?)(AG:h'[l.Fa]?=h[l.Fa]?):OI C h' l:=⟨A9.trans x.GB,AG.trans x.Bc,x.m,x.a,x.d,x.t1,x.Cn⟩
def GQ.KI(c:GQ C):C.r<C.M:=GH (HN c.kI) c.Ee
theorem F9.set(c:GQ C)(R:F9 C h S){p:Nat}(o:O)(h1:C.M+3<=p)(h2:p<C.T):F9 C (h.set p o) S:=by
 have q:=c.Ee;have KI:=c.KI;have e:∀n,n≠p->(h.set p o)[n]?=h[n]?:=λn Ae=>IE (λz=>Ae z.symm) o;refine⟨λn o' k ne=>?_,?_,?_,?_,?_,λl AI=>?_,R.Bj,R.nn,R.IB,R.Ni,R.few,R.le,(R.AI:),R.pr⟩
 .rw[e n (by have:=HN k;lia)];exact R.DH n o' k ne
 .rw[e _ δ];exact R.B5
 .rw[e _ δ];exact R.Bc
 .rw[e _ δ];exact R.el
 .rw[e _ δ];exact R.Gc
 .have x:=R.lt l AI;have:=x.t1;have:=x.Cn;exact x.to (e _ δ) (e _ δ)
def F9.app(R:F9 C h S)(g:A5):F9 C (h++g) S:=by refine⟨λn o' k ne=>CE h (R.DH n o' k ne) g,CE h R.B5 g,CE h R.Bc g,CE h R.el g,CE h R.Gc g,λl AI=>?_,R.Bj,R.nn,R.IB,R.Ni,R.few,R.le,by have:=R.AI;simp;lia,R.pr⟩;have x:=R.lt l AI;exact⟨CE h x.GB g,CE h x.Bc g,x.m,x.a,x.d,x.t1,x.Cn⟩
theorem F9.Wm(c:GQ C)(R:F9 C h S):FI h C.nt C.cs C.ws:=by obtain⟨f,A9,AG⟩:=c.Wm.ex;exact⟨f,R.DH _ _ A9 (λz=>by cases z),R.DH _ _ AG (λz=>by cases z)⟩
def Z6{K:A5}(DH:∀(n:Nat) o,K[n]?=↥o->o≠P6->h[n]?=↥o){b:Nat}{B:↑↑CY}(x:EE K b B):EE h b B:=by obtain⟨rs,e,l,r⟩:=x.ex;exact⟨rs,DH _ _ e (λz=>by cases z),l,λi q Ac=>DH _ _ (r i q Ac) (λz=>by cases z)⟩
end
section
variable{C:FR}{h:A5}{S:Eo}
noncomputable def Od(HP:↑Co)(hh m:Nat):Bool:=if m=1 then decide (↥(0,hh)∈HP)else !decide (↥(2,hh)∈HP)
def zr(c:GQ C)(R:F9 C h S){hh m:Nat}(hm:m<2):U6 [.ref C.r,.int (hh:Int),.int (m:Int)] h=.ok (.AL (Od S.done hh m),h):=by
 have fd:B6 "Run" "done" (.ref C.r) h=.ok (.ref C.M,h):=EV R.B5 rfl;have F0:=c0 (hh:=hh) (k:=0) true R.Bc δ R.Ni;have Ft:=c0 (hh:=hh) (k:=2) false R.Bc δ R.Ni;rw[show FX 0=AO "teach" from rfl]at F0;rw[show FX 2=AO "forget" from rfl]at Ft;have:m=0\/m=1:=δ
 rcases this with rfl|rfl
 .simp[U6,Xy,fd,Ft,Bi,Od]
 .simp[U6,Xy,fd,F0,Bi,Od]
noncomputable def Mk(C:FR)(m hh:Nat):↑CY:=(if m=1 then C.B else C.A).getD hh []
def IC(C:FR)(HP:↑Co)(l:Lt):Tl:=if Od HP l.d.1 l.m=true then ID C.ws (Mk C l.m l.d.1) l.d l.a else .Jw l.d.1
def abw(c:GQ C)(R:F9 C h S){l:Lt}(x:OI C h l):U7 [.ref C.r,.ref l.BU] h=.ok (EK (IC C S.done l),h):=by
 have jT:B6 "Run" "books" (.ref C.r) h=.ok (.tup [.ref C.Ep,.ref C.b1],h):=EV R.B5 rfl;have fn:B6 "Run" "net" (.ref C.r) h=.ok (.ref C.nt,h):=EV R.B5 rfl;have Qp:B6 "Letter" "mark" (.ref l.BU) h=.ok (.int (l.m:Int),h):=EV x.GB rfl;have ga:B6 "Letter" "address" (.ref l.BU) h=.ok (.int (l.a:Int),h):=EV x.GB rfl;have VI:B6 "Letter" "doors" (.ref l.BU) h=.ok (.ref l.Fa,h):=EV x.GB rfl;have H7:A7 (.ref l.Fa) (.int (-1)) h=.ok (AJ l.d,h):=df (us:=l.pre.map AJ) (by rw[x.Bc];simp[Lh]);have x0:A7 (AJ l.d) (.int 0) h=.ok (.int (l.d.1:Int),h):=GF h _ _;have hd:=(Pd.mp x.d).1;have k:=zr c R (hh:=l.d.1) x.m;have s1:Am (A1 A7 (BD (B6 "Letter" "doors") τ) (BD Os ζ)) (AB 2) [ι,↥(.ref l.BU),none] h=.ok (.AP [ι,↥(.ref l.BU),↥(AJ l.d)],h):=by have Wn:Os (.int 1) h=.ok (.int (-1),h):=rfl;erw[DV,AU,H2,v_var,Ag,Gl,IP,Fq,J,VI,Wn,H7];rfl
 have GW:CO "Run" "knows" 2 U6 π (Z Ty (Z (BD (B6 "Letter" "mark") τ) A2)) [ι,↥(.ref l.BU),↥(AJ l.d)] h=.ok (.AL (Od S.done l.d.1 l.m),h):=KD (us:=[.int (l.d.1:Int),.int (l.m:Int)]) rfl R.B5 rfl (by simp[x0,Qp]) rfl k;have Bc:U7 [.ref C.r,.ref l.BU] h=((Y1 [ι,↥(.ref l.BU),none] h).bind outF).bind λp=>settle h p.1 p.2:=rfl;rw[Bc];unfold Y1;rw[Az,s1,J,B0,Az,DL,v_not,D_,GW,J,Db,J,J];unfold IC;cases AQ:Od S.done l.d.1 l.m
 .simp[x0,Bi,EK]
 .have on:∀(b:Nat)(B:↑↑CY),Gh C.cs B->EE h b B->∃q,A7 (.ref b) (.int (l.d.1:Int)) h=.ok (.ref q,h)/\NT [.ref C.nt,.ref q,AJ l.d,.int (l.a:Int)] h=.ok (EK (ID C.ws (B.getD l.d.1 []) l.d l.a),h):=λb B ok at'=>by
    obtain⟨rs,e,NM,r⟩:=at'.ex;have BZ:l.d.1< ⇑rs:=by rw[NM,ok.1];exact hd
    exact⟨rs[l.d.1],EW e (by rw[Dl,C3 BZ];rfl),lK (R.Wm c) (ok.2 _ hd) (r _ _ (C3 BZ)) x.a l.d⟩
  have:l.m=0\/l.m=1:=by have:=x.m;lia
  rcases this with e|e
  .obtain⟨q,A9,AG⟩:=on C.Ep C.A c.HV (Z6 R.DH c.P2);simp[fn,jT,Qp,GF,I9,x0,A9,ga,AG,Mk,e,-Fg]
  .obtain⟨q,A9,AG⟩:=on C.b1 C.B c.HW (Z6 R.DH c.Pj);simp[fn,jT,Qp,GF,I9,x0,A9,ga,AG,Mk,e,-Fg]
def d8{cs:↑Nat}{ws:ν}{n:Nat}(A:FI h n cs ws){d:AN}(hd:d∈Dz cs ⇑cs)(A4:EF ws d=none):MQ [.ref n,AJ d] h=.ok ω:=by
 obtain⟨f,A9,AG⟩:=A.ex;have f1:B6 "Net" "far" KK h=.ok (.ref f,h):=EV A9 rfl;have f2:B6 "Net" "counts" KK h=.ok (.tup (Bw cs),h):=EV A9 rfl;have vM:WW [.ref n,AJ d] h=.ok ω:=by simp[WW,gY,f2,bE hd]
 have GW:CO "Net" "is_door" 1 WW π Cl [Ξ,↥(AJ d)] h=.ok ω:=KD (us:=[AJ d]) rfl A9 rfl rfl rfl vM;have Cs:Ce false (AJ d) (.ref f) h=.ok ω:=by unfold Ce;rw[bB AG,A4];rfl
 simp[MQ,gZ,GW,f1,Cs]
noncomputable def Fe(HP:↑Co)(hh:Nat):Nat:=if ↥(1,hh)∈HP then 1 else 0
def Ot(S:Eo)(L:Nat)(d:AN)(a:Nat):Lt:=⟨S.CS,Fe S.done d.1,a,[],d,L,L+1⟩
def yV(R:F9 C h S):(.inl (S.CS:Int):Key)∉S.lets.map JU:=λz=>by obtain⟨l,AI,e⟩:=List.mem_map.mp z;have:=R.IB l AI;erw[JU,X_]at e;lia
theorem tw(c:GQ C)(R:F9 C h S)(AK:S.CS<900){d:AN}(hd:d∈Dz C.cs ⇑C.cs)(A4:EF C.ws d=none){a:Nat}(AF:a<16) :
  ∃h',T0 [.ref C.r,AJ d,.int (a:Int)] h=.ok (.int (S.CS:Int),h')/\F9 C h' { S with CS:=S.CS+1,lets:=S.lets++[Ot S ⇑h d a] }/\
   ⇑h<=⇑h'/\∀n,n< ⇑h->n≠C.r->n≠C.M+1->h'[n]?=h[n]?:=by
 have q:=c.Ee;have KI:=c.KI;have D4:=c.D4;have AI:=R.AI;have fn:B6 "Run" "net" (.ref C.r) h=.ok (.ref C.nt,h):=EV R.B5 rfl;have w4:B6 "Run" "came" (.ref C.r) h=.ok (.int (S.CS:Int),h):=EV R.B5 rfl;have fd:B6 "Run" "done" (.ref C.r) h=.ok (.ref C.M,h):=EV R.B5 rfl;obtain⟨f,B2,_⟩:=(R.Wm c).ex;have x0:A7 (AJ d) (.int 0) h=.ok (.int (d.1:Int),h):=GF h _ _;have mo:CO "Net" "is_outer" 1 MQ (BD (B6 "Run" "net") π) Cl [ι,↥(AJ d),ς,none,none] h=.ok ω:=KD (us:=[AJ d]) (by simp[fn]) B2 rfl rfl rfl (d8 (R.Wm c) hd A4);have t1:F2 (D8 (Ad (CO "Net" "is_outer" 1 MQ (BD (B6 "Run" "net") π) Cl))) (D8 (Ad (Aa 1 U9 (Z ψ A2)))) [ι,↥(AJ d),ς,none,none] h=.ok (false,h):=by rw[v_or,v_not,D_,mo];simp[hJ AF]
 have s2:Am (BD (B6 "Run" "came") π) (AB 3) [ι,↥(AJ d),ς,none,none] h=.ok (.AP [ι,↥(AJ d),ς,↥(.int (S.CS:Int)),none],h):=by erw[DV,H2,v_var,Gl,Fq,J,w4];rfl
 have Cs:=c0 (hh:=d.1) (k:=1) true R.Bc δ R.Ni;rw[show FX 1=AO "turn" from rfl]at Cs;have s3:Am (KB (Ad (A1 (Ce true) (BE (Z (pu (.str (AO "turn"))) (Z (A1 A7 τ η) A2))) (BD (B6 "Run" "done") π))) ζ η) (AB 4) [ι,↥(AJ d),ς,↥(.int (S.CS:Int)),none] h=.ok (.AP [ι,↥(AJ d),ς,↥(.int (S.CS:Int)),↥(.int (Fe S.done d.1:Nat))],h):=by
  unfold Fe;by_cases BY:↥(1,d.1)∈S.done
  .simp[x0,fd,Cs,Bi,BY]
  .simp[x0,fd,Cs,Bi,BY]
 obtain⟨l,el⟩:∃l,l=Ot S ⇑h d a:=ο;have mk:KC "Letter" 3 Ve (Z (I 4) (Z τ (Z ψ A2))) [ι,↥(AJ d),ς,↥(.int (S.CS:Int)),↥(.int (Fe S.done d.1:Nat))] h=.ok (.ref ⇑h,h++[PY l,Lh l]):=by
  refine aC (us:=[.int (Fe S.done d.1:Nat),AJ d,.int (a:Int)]) (h1:=h) γ rfl ?_;have e:Ve [.ref ⇑h,.int (Fe S.done d.1:Nat),AJ d,.int (a:Int)] (h++[⟨.ins "Letter" [],[]⟩])=(Xs [χ,↥(.int (Fe S.done d.1:Nat)),↥(AJ d),ς] (h++[⟨.ins "Letter" [],[]⟩])).bind outF:=rfl;have a1:F1 "Letter" "mark" π τ [χ,↥(.int (Fe S.done d.1:Nat)),↥(AJ d),ς] (h++[⟨.ins "Letter" [],[]⟩])=.ok (.AP [χ,↥(.int (Fe S.done d.1:Nat)),↥(AJ d),ς],h++(⟨.ins "Letter" ["mark"],[.int (Fe S.done d.1:Nat)]⟩::([]++[]))):=Nq rfl rfl ε rfl rfl;have a2:F1 "Letter" "address" π Ψ [χ,↥(.int (Fe S.done d.1:Nat)),↥(AJ d),ς] (h++(⟨.ins "Letter" ["mark"],[.int (Fe S.done d.1:Nat)]⟩::([]++[])))=.ok (.AP [χ,↥(.int (Fe S.done d.1:Nat)),↥(AJ d),ς],h++(⟨.ins "Letter" ["mark","address"],[.int (Fe S.done d.1:Nat),.int (a:Int)]⟩::([]++[]++[]))):=Nq rfl rfl ε rfl rfl;have JO:F1 "Letter" "doors" π (Be (Z ψ A2)) [χ,↥(.int (Fe S.done d.1:Nat)),↥(AJ d),ς] (h++(⟨.ins "Letter" ["mark","address"],[.int (Fe S.done d.1:Nat),.int (a:Int)]⟩::([]++[]++[])))=.ok (.AP [χ,↥(.int (Fe S.done d.1:Nat)),↥(AJ d),ς],h++(⟨.ins "Letter" ["mark","address","doors"],[.int (Fe S.done d.1:Nat),.int (a:Int),.ref (⇑h+1)]⟩::([]++[]++[]++[⟨.lst,[AJ d]⟩]))):=by refine Nq rfl ?_ ε rfl rfl;simp[nw,Bi]
  rw[e];unfold Xs;rw[Az,a1,J,B0,Az,a2,J,B0,JO,J,lS,el];rfl
 obtain⟨h1,A9⟩:∃h1,h1=h++[PY l,Lh l]:=ο;rw[<-A9]at mk;have DI:⇑h1=⇑h+2:=by rw[A9];simp
 have FY:F9 C h1 S:=by rw[A9];exact R.app _
 have g1:B6 "Run" "letters" (.ref C.r) h1=.ok (.ref (C.M+1),h1):=EV FY.B5 rfl;have few:=R.few;have le:=R.le;have pt:=vD (v:=.ref ⇑h) (ρ:=[ι,↥(AJ d),ς,↥(.int (S.CS:Int)),↥(.int (Fe S.done d.1:Nat))]) FY.el (yV R) (by rw[Cd];unfold Bi;lia);obtain⟨h2,AG⟩:∃h2,h2=h1.set (C.M+1) ⟨.BM (S.lets.map JU++[.inl (S.CS:Int)]),(S.lets.map λl=>.ref l.BU)++[.ref ⇑h]⟩:=⟨_,rfl⟩;rw[<-AG]at pt;have hv:h2[C.r]?=↥(OR C.nt C.Ep C.b1 C.pl C.M S.CS):=by rw[AG,IE δ];exact FY.B5
 have s4:Og (BD (B6 "Run" "letters") π) Ψ (KC "Letter" 3 Ve (Z (I 4) (Z τ (Z ψ A2)))) [ι,↥(AJ d),ς,↥(.int (S.CS:Int)),↥(.int (Fe S.done d.1:Nat))] h=.ok (.AP [ι,↥(AJ d),ς,↥(.int (S.CS:Int)),↥(.int (Fe S.done d.1:Nat))],h2):=by rw[qZ,mk,J];erw[H2,v_var,Gl,IP,Fq,J,g1,pt]
 obtain⟨BF,DS⟩:∃BF,BF=h2.set C.r (OR C.nt C.Ep C.b1 C.pl C.M (S.CS+1)):=ο;have s5:F1 "Run" "came" π (A1 addW Ψ ζ) [ι,↥(AJ d),ς,↥(.int (S.CS:Int)),↥(.int (Fe S.done d.1:Nat))] h2=.ok (.AP [ι,↥(AJ d),ς,↥(.int (S.CS:Int)),↥(.int (Fe S.done d.1:Nat))],BF):=by rw[Tx];erw[AU,v_var,Ag,Gl,IP,Fq,J,Kv];rw[T1 (ns':=m1) (ws':=[.ref C.nt,.tup [.ref C.Ep,.ref C.b1],.ref C.pl,.ref C.M,.int ((S.CS:Int)+1),.ref (C.M+1),.ref (C.M+2)]) hv ε rfl rfl,DS];rfl
 have Ct:⇑h2=⇑h+2:=by rw[AG];simpa using DI
 have Vd:⇑BF=⇑h+2:=by rw[DS];simpa using Ct
 have keep:∀n,n≠C.r->n≠C.M+1->BF[n]?=h1[n]?:=λn E1 FN=>by rw[DS,IE (λz=>E1 z.symm),AG,IE (λz=>FN z.symm)]
 refine⟨BF,?_,?_,δ,λn Ae E1 FN=>?_⟩
 .have e:T0 [.ref C.r,AJ d,.int (a:Int)] h=(Xu [ι,↥(AJ d),ς,none,none] h).bind outF:=rfl;rw[e];unfold Xu;rw[Az,DL,t1,J,if_neg γ,E9,J,B0,Az,s2,J,B0,Az,s3,J,B0,Az,s4,J,B0,Az,s5,J,B0];rfl
 .have ln:l.BU=⇑h/\l.Fa=⇑h+1/\l.n=S.CS:=by rw[el];exact⟨rfl,rfl,rfl⟩
  have e0:OI C BF l:=by
   refine⟨?_,?_,?_,?_,?_,δ,δ⟩
   .rw[keep _ δ δ,ln.1,A9];simp
   .rw[keep _ δ δ,ln.2.1,A9];simp
   .rw[el];erw[Ot,Fe];split<;>lia
   .rw[el];exact AF
   .rw[el];exact hd
  rw[<-el];have old:∀x∈Cr S,OI C BF x:=λx AM=>by have y:=FY.lt x AM;have:=y.t1;have:=y.Cn;exact y.to (keep _ δ δ) (keep _ δ δ)
  refine⟨λn o' k ne=>?_,?_,?_,?_,?_,λx AM=>?_,?_,?_,λx AM=>?_,R.Ni,?_,?_,δ,λx AM=>?_⟩
  .rw[keep n (λz=>by subst z;rw[c.kI]at k;cases k;exact ne rfl) (by have:=HN k;lia)];exact FY.DH n o' k ne
  .rw[DS];exact LS hv
  .rw[keep _ δ δ];exact FY.Bc
  .rw[DS,IE δ,AG,LS FY.el];simp[JU,ln.1,ln.2.2]
  .rw[keep _ δ δ];exact FY.Gc
  .erw[Cr,EZ,Hf,MC]at AM;rcases AM with AM|rfl|AM
   .exact old x (Gx _ AM)
   .exact e0
   .exact old x (Hz _ AM)
  .erw[Cr,EZ,Hg,EM,LP];have Bj:=R.Bj;erw[Cr,Hg]at Bj;have fr:∀x∈Cr S,x.Fa≠l.Fa:=λx AM z=>by
    have:=HN (R.lt x AM).Bc;lia
   obtain⟨E1,FN,Rj⟩:=List.nodup_append.mp Bj;refine List.nodup_append.mpr ⟨E1,?_,λu BS v CL=>?_⟩
   .rw[rq,List.nodup_cons];refine⟨λz=>?_,FN⟩;obtain⟨x,AM,e⟩:=List.mem_map.mp z;exact fr x (Hz _ AM) e
   .rw[rq,He]at CL;rcases CL with rfl|CL
    .obtain⟨x,AM,e⟩:=List.mem_map.mp BS;subst e;exact fr x (Gx _ AM)
    .exact Rj u BS v CL
  .erw[Hg,EM,LP];refine List.nodup_append.mpr ⟨R.nn,γ,λu BS v CL=>?_⟩;obtain⟨x,AM,e⟩:=List.mem_map.mp BS;have:=R.IB x AM;have CL:=List.mem_singleton.mp CL;lia
  .rcases List.mem_append.mp AM with AM|AM
   .have:=R.IB x AM;show x.n<S.CS+1;lia
   .have:=List.mem_singleton.mp AM;subst this;show x.n<S.CS+1;lia
  .show S.CS+1<1000;lia
  .show⇑S.ended+⇑(S.lets++[l])<=S.CS+1;simp;lia
  .erw[Cr,EZ,Hf,MC]at AM;rcases AM with AM|rfl|AM
   .exact R.pr x (Gx _ AM)
   .rw[el];exact IM _
   .exact R.pr x (Hz _ AM)
 .rw[keep n E1 FN,A9,Fz Ae]
end
section
variable{C:FR}{h:A5}{S:Eo}
noncomputable def Lm(l:Lt)(e:AN):Lt:={ l with pre:=l.pre++[l.d],d:=e }
def Hm(S:Eo)(EI:↑Lt)(l:Lt)(BN:↑Lt):Tl->Eo
 |.at e=>{ S with lets:=EI++Lm l e::BN,Cx:=S.Cx+1 }
 |t=>{ S with lets:=EI++BN,ended:=S.ended++[(l,t)],Cx:=S.Cx+1 }
def isAt:Tl->Bool
 |.at _=>true
 |_=>false
def u6{cs:↑Nat}{ws:ν}(N:IK cs ws){d e:AN}(h:EF ws d=↥e):e∈Dz cs ⇑cs:=N.sub _ (bn h).2
def abq{cs:↑Nat}{ws:ν}(N:IK cs ws){hh:Nat}{o:Option Nat}{e:AN}(h:Jy ws hh o=.at e):e∈Dz cs ⇑cs:=by
 unfold Jy at h
 split at h
 .cases h
 .split at h
  .cases h
  .rename_i q;cases h;exact u6 N q
def Wq{cs:↑Nat}{ws:ν}(N:IK cs ws){Bv:↑CY}{d:AN}{a:Nat}{e:AN}(h:ID ws Bv d a=.at e):e∈Dz cs ⇑cs:=by
 unfold ID at h
 split at h
 .cases h
 .exact abq N h
def acB(c:GQ C){HP:↑Co}{l:Lt}{e:AN}(h:IC C HP l=.at e):e∈Dz C.cs ⇑C.cs:=by
 unfold IC at h
 split at h
 .exact Wq c.N h
 .cases h
def kn{L:↑Lt}{l:Lt}(h:l.n∉L.map (·.n)):JU l∉L.map JU:=λz=>by obtain⟨x,AM,e⟩:=List.mem_map.mp z;erw[JU,X_]at e;exact h (List.mem_map.mpr ⟨x,AM,δ⟩)
def aaO{EI BN:↑Lt}{l:Lt}(h:((EI++l::BN).map (·.n)).Nodup):l.n∉EI.map (·.n)/\l.n∉BN.map (·.n):=by erw[Hg,EM]at h;obtain⟨_,h2,BF⟩:=List.nodup_append.mp h;exact⟨λz=>BF _ z _ (I0 ..) rfl,(List.nodup_cons.mp h2).1⟩
def xF(c:GQ C)(R:F9 C h S)(hm:S.Cx<900000){EI BN:↑Lt}{l:Lt}(es:S.lets=EI++l::BN) :
  ∃h',TR [.ref C.r,.int (l.n:Int)] h=.ok (EK (IC C S.done l),h')/\F9 C h' (Hm S EI l BN (IC C S.done l))/\ ⇑h'=⇑h/\∀n,n≠C.M+1->n≠C.M+2->n≠l.Fa->h'[n]?=h[n]?:=by
 have q:=c.Ee;have KI:=c.KI;have D4:=c.D4;have AI:=R.AI;have Ih:l∈Cr S:=Gx _ (by rw[es];simp);have x:=R.lt l Ih;have ajV:=x.t1;have ajW:=x.Cn;have nn:=R.nn;rw[es]at nn;obtain⟨E1,FN⟩:=aaO nn;have k1:=kn E1;have k2:=kn FN;have el:h[C.M+1]?=↥⟨.BM (EI.map JU++JU l::BN.map JU),(EI.map λl=>.ref l.BU)++.ref l.BU::BN.map λl=>.ref l.BU⟩:=by rw[R.el,es];simp
 have CH:B6 "Run" "letters" (.ref C.r) h=.ok (.ref (C.M+1),h):=EV R.B5 rfl;have gl:GT h (.ref (C.M+1)) (.int (l.n:Int))=↥↥(.ref l.BU):=by rw[u3 el];show↥(E3 _ _ (JU l))=_;rw[eA k1 γ]
 have F0:Ce false (.int (l.n:Int)) (.ref (C.M+1)) h=.ok (.AL false,h):=by unfold Ce;rw[gl];rfl
 have DG:A7 (.ref (C.M+1)) (.int (l.n:Int)) h=.ok (.ref l.BU,h):=by unfold A7;rw[gl]
 obtain⟨t,Hl⟩:∃t,t=IC C S.done l:=ο;have AP:=abw c R x;rw[<-Hl]at AP |-;have t1:F2 (D8 (Ad (Aa 1 UD Cl))) (Ad (A1 (Ce false) τ (BD (B6 "Run" "letters") π))) [ι,↥(.int (l.n:Int)),none,none] h=.ok (false,h):=by simp[qo,CH,F0]
 have s2:Am (A1 A7 (BD (B6 "Run" "letters") π) τ) (AB 2) [ι,↥(.int (l.n:Int)),none,none] h=.ok (.AP [ι,↥(.int (l.n:Int)),↥(.ref l.BU),none],h):=by simp[CH,DG]
 have GW:CO "Run" "next_of" 1 U7 π (Z ψ A2) [ι,↥(.int (l.n:Int)),↥(.ref l.BU),none] h=.ok (EK t,h):=KD (us:=[.ref l.BU]) rfl R.B5 rfl rfl rfl AP;have s3:Am (CO "Run" "next_of" 1 U7 π (Z ψ A2)) (AB 3) [ι,↥(.int (l.n:Int)),↥(.ref l.BU),none] h=.ok (.AP [ι,↥(.int (l.n:Int)),↥(.ref l.BU),↥(EK t)],h):=by rw[DV,GW];rfl
 have Bc:TR [.ref C.r,.int (l.n:Int)] h=(Xv [ι,↥(.int (l.n:Int)),none,none] h).bind outF:=rfl;rw[Bc];unfold Xv;rw[Az,DL,t1,J,if_neg γ,E9,J,B0,Az,s2,J,B0,Az,s3,J,B0,Az,DL];have pl:=R.pr l Ih;have dl:⇑(l.pre.map AJ++[AJ l.d])<=900001:=by simp;lia
 by_cases AF:isAt t=true
 .obtain⟨e,E8⟩:∃e,t=.at e:=by cases t<;>first|exact⟨_,rfl⟩|cases AF
  subst E8;have he:=acB c Hl.symm;have tt:Ad (A1 Φ (A1 A7 Ψ η) (pu (.str (AO "at")))) [ι,↥(.int (l.n:Int)),↥(.ref l.BU),↥(EK (.at e))] h=.ok (true,h):=by simp[EK,GF]
  rw[tt,J,if_pos rfl];have VI:B6 "Letter" "doors" (.ref l.BU) h=.ok (.ref l.Fa,h):=EV x.GB rfl;obtain⟨h',HR⟩:∃h',h'=h.set l.Fa (Lh (Lm l e)):=ο;have ap:EA Ej (BD (B6 "Letter" "doors") ψ) (Z (BE (Z (A1 A7 Ψ ζ) (Z (A1 A7 Ψ υ) A2))) A2) [ι,↥(.int (l.n:Int)),↥(.ref l.BU),↥(EK (.at e))] h=.ok (.non,h'):=by rw[HR];refine MN (ws:=(l.pre++[l.d]).map AJ) (ws2:=(l.pre++[l.d]).map AJ) (us:=[AJ e]) (ws':=(l.pre++[l.d]++[e]).map AJ) (h1:=h) (h2:=h) (by simp[VI]) x.Bc ?_ x.Bc (by simp[Ej]) (by simp[Bi];lia);simp[EK,I9,S7,Bi,AJ]
  refine⟨h',?_,?_,by rw[HR];simp,λn _ _ Ae=>by rw[HR,IE (λz=>Ae z.symm)]⟩
  .rw[IG,ap];rfl
  .have keep:∀n,n≠l.Fa->h'[n]?=h[n]?:=λn Ae=>by rw[HR,IE (λz=>Ae z.symm)]
   have Bj:=R.Bj;have jt:∀y∈Cr S,y.BU≠l.Fa:=λy Af z=>by have A9:=(R.lt y Af).GB;have AG:=x.Bc;rw[z,AG]at A9;cases A9
   have abr:∀y,y∈EI++(BN++S.ended.map (·.1))->y.Fa≠l.Fa:=λy Af z=>by
    erw[Cr,es,EZ,Ij,Hg,EM]at Bj;obtain⟨a1,a2,JO⟩:=List.nodup_append.mp Bj;have R4:=(List.nodup_cons.mp a2).1;rcases List.mem_append.mp Af with Af|Af
    .exact JO _ (List.mem_map.mpr ⟨y,Af,rfl⟩) _ (I0 ..) z
    .apply R4;rw[<-Hg];exact List.mem_map.mpr ⟨y,Af,z⟩
   have lR:∀y,y∈EI++(BN++S.ended.map (·.1))->OI C h' y:=λy Af=>by
    have ll:y∈Cr S:=by
     erw[Cr,es,EZ,Ij,Hf,He]at Af |-;rcases Af with Af|Af
     .exact .inl Af
     .exact .inr (.inr Af)
    exact(R.lt y ll).to (keep _ (jt y ll)) (keep _ (abr y Af))
   have e0:OI C h' (Lm l e):=⟨by show h'[l.BU]?=_;rw[keep _ (jt l Ih)];exact x.GB,by show h'[l.Fa]?=_;rw[HR];exact LS x.Bc,x.m,x.a,he,x.t1,x.Cn⟩;refine⟨λn o' k ne=>?_,?_,?_,?_,?_,λy Af=>?_,?_,?_,λy Af=>?_,R.Ni,R.few,?_,by rw[HR];simpa using AI,λy Af=>?_⟩
   .rw[keep n (by have:=HN k;lia)];exact R.DH n o' k ne
   .rw[keep _ δ];exact R.B5
   .rw[keep _ δ];exact R.Bc
   .rw[keep _ δ,el];simp[Hm,Lm,JU]
   .rw[keep _ δ];exact R.Gc
   .erw[Cr,Hm,EZ,Ij,Hf,He]at Af;rcases Af with Af|rfl|Af
    .exact lR y (Gx _ Af)
    .exact e0
    .exact lR y (Hz _ (List.mem_append.mpr Af))
   .have:(Cr (Hm S EI l BN (.at e))).map (·.Fa)=(Cr S).map (·.Fa):=by simp[Cr,Hm,es,Lm]
    rw[this];exact Bj
   .have:(Hm S EI l BN (.at e)).lets.map (·.n)=S.lets.map (·.n):=by simp[Hm,es,Lm]
    rw[this];exact R.nn
   .erw[Hm,Hf,He]at Af;rcases Af with Af|rfl|Af
    .exact R.IB y (by rw[es];simp[Af])
    .exact R.IB l (by rw[es];simp)
    .exact R.IB y (by rw[es];simp[Af])
   .have:=R.le;rw[es]at this;simpa[Hm]using this
   .erw[Cr,Hm,EZ,Ij,Hf,He]at Af;show⇑y.pre<=S.Cx+1;have old:∀z∈Cr S,⇑z.pre<=S.Cx:=R.pr;erw[Cr,es,EZ,Ij,Hf,He]at old;rcases Af with Af|rfl|Af
    .have:=old y (.inl Af);lia
    .erw[Lm,EL,FF,JB];lia
    .have:=old y (.inr (.inr Af));lia
 .have tt:Ad (A1 Φ (A1 A7 Ψ η) (pu (.str (AO "at")))) [ι,↥(.int (l.n:Int)),↥(.ref l.BU),↥(EK t)] h=.ok (false,h):=by
    cases t<;>first|exact absurd rfl AF|(simp[EK,GF];decide)
  rw[tt,J,if_neg γ];have GD:Hm S EI l BN t={ S with lets:=EI++BN,ended:=S.ended++[(l,t)],Cx:=S.Cx+1 }:=by cases t<;>first|exact absurd rfl AF|rfl
  obtain⟨h1,A9⟩:∃h1,h1=h.set (C.M+1) ⟨.BM (EI.map JU++BN.map JU),(EI.map λl=>.ref l.BU)++BN.map λl=>.ref l.BU⟩:=⟨_,rfl⟩;have yi:S6 h (.ref (C.M+1))=true:=by unfold S6;erw[el]
  have pp:VC (BD (B6 "Run" "letters") π) τ [ι,↥(.int (l.n:Int)),↥(.ref l.BU),↥(EK t)] h=.ok (.ref l.BU,h1):=by rw[agE];erw[H2,v_var,Gl,IP,Fq,J,CH,S5,yi,if_true,H0];rw[A9];exact vC (i:=(l.n:Int)) el k1 k2 γ γ
  have uh:h1[C.r]?=↥(OR C.nt C.Ep C.b1 C.pl C.M S.CS):=by rw[A9,IE δ];exact R.B5
  have w7:B6 "Run" "ended" (.ref C.r) h1=.ok (.ref (C.M+2),h1):=EV uh rfl;have bR:h1[C.M+2]?=↥⟨.lst,S.ended.map Nm⟩:=by rw[A9,IE δ];exact R.Gc
  have le:=R.le;have few:=R.few;obtain⟨h',HR⟩:∃h',h'=h1.set (C.M+2) ⟨.lst,(S.ended++[(l,t)]).map Nm⟩:=⟨_,rfl⟩;have ap:EA Ej (BD (B6 "Run" "ended") π) (Z (BE (Z τ (Z ψ (Z Ψ A2)))) A2) [ι,↥(.int (l.n:Int)),↥(.ref l.BU),↥(EK t)] h1=.ok (.non,h'):=by rw[HR];refine MN (ws:=S.ended.map Nm) (ws2:=S.ended.map Nm) (us:=[Nm (l,t)]) (h1:=h1) (h2:=h1) (by simp[w7]) bR ?_ bR (by simp[Ej]) (by simp[Bi];lia);simp[Bi,Nm]
  have keep:∀n,n≠C.M+1->n≠C.M+2->h'[n]?=h[n]?:=λn a b=>by rw[HR,IE (λz=>b z.symm),A9,IE (λz=>a z.symm)]
  refine⟨h',?_,?_,by rw[HR,A9];simp,λn a b _=>keep n a b⟩
  .rw[Az,IG,pp,J,J,B0,IG,ap];rfl
  .rw[GD];have ej:(Cr { S with lets:=EI++BN,ended:=S.ended++[(l,t)],Cx:=S.Cx+1 }).Perm (Cr S):=by
    erw[Cr,es,Hg,EM,LP,EZ,Ij];refine fk _ ?_;rw[<-EZ];exact rX l (BN++S.ended.map (·.1))
   refine⟨λn o' k ne=>?_,?_,?_,?_,?_,λy Af=>?_,?_,?_,λy Af=>?_,R.Ni,R.few,?_,by rw[HR,A9];simpa using AI,λy Af=>?_⟩
   .rw[keep n (by have:=HN k;lia) (by have:=HN k;lia)];exact R.DH n o' k ne
   .rw[keep _ δ δ];exact R.B5
   .rw[keep _ δ δ];exact R.Bc
   .rw[HR,IE δ,A9,LS el];simp
   .rw[HR,LS bR]
   .have z:=R.lt y (ej.mem_iff.mp Af);have:=z.t1;have:=z.Cn;exact z.to (keep _ δ δ) (keep _ δ δ)
   .exact(ej.map _).nodup_iff.mpr R.Bj
   .erw[Hg,EM]at nn |-;obtain⟨a1,a2,JO⟩:=List.nodup_append.mp nn;exact List.nodup_append.mpr ⟨a1,(List.nodup_cons.mp a2).2,λu BS v CL=>JO u BS v (Gw _ CL)⟩
   .refine R.IB y ?_;rw[es];rcases List.mem_append.mp Af with Af|Af<;>simp[Af]
   .rw[es]at le;erw[EL,FF,JB]at le |-;lia
   .have:=R.pr y (ej.mem_iff.mp Af);show⇑y.pre<=S.Cx+1;lia
def aab(R:F9 C h S){x y w:W}{h':A5}(e:T0 [.ref C.r,x,y] h=.ok (w,h')):Gr [.ref C.r,.tup [.str (AO "come"),x,y]] h=.ok (w,h'):=by have Cs:DT "tuple" (.tup [.str (AO "come"),x,y]) h=.ok ω:=rfl;have Ft:DT "str" (.str (AO "come")) h=.ok ω:=rfl;have GW:CO "Run" "come" 2 T0 π (Z (A1 A7 τ ζ) (Z (A1 A7 τ υ) A2)) [ι,↥(.tup [.str (AO "come"),x,y])] h=.ok (w,h'):=KD (us:=[x,y]) rfl R.B5 rfl (by simp[I9,S7]) rfl e;simp[Gr,R5,Cs,Ft,PX,GF,GW]
def aac(R:F9 C h S){x w:W}{h':A5}(e:TR [.ref C.r,x] h=.ok (w,h')):Gr [.ref C.r,.tup [.str (AO "go"),x]] h=.ok (w,h'):=by have Cs:DT "tuple" (.tup [.str (AO "go"),x]) h=.ok ω:=rfl;have Ft:DT "str" (.str (AO "go")) h=.ok ω:=rfl;have GW:CO "Run" "go" 1 TR π (Z (A1 A7 τ ζ) A2) [ι,↥(.tup [.str (AO "go"),x])] h=.ok (w,h'):=KD (us:=[x]) rfl R.B5 rfl (by simp[I9]) rfl e;have q:(AO "go"==AO "come")=false:=rfl;simp[Gr,R5,Cs,Ft,PX,GF,q,GW]
end
def tT{ws:↑W}(k:Nat)(AQ:k<=⇑ws):HO ws none ↥(k:Int)=ws.take k:=by unfold HO;rw[Ei.fB,Ei.WG];simp[UX AQ]
def tS{ws:↑W}(k:Nat)(AQ:k<=⇑ws):HO ws ↥(k:Int) none=ws.drop k:=by unfold HO;rw[Ei.fB,Ei.WG,UX AQ];rw[Nz γ]
def ZO{h:A5}{n:Nat}{ws:↑W}(e:h[n]?=↥⟨.lst,ws⟩)(l:⇑ws<=1000)(lo AA:Option Int)(ρ:Ay):Tp KK lo AA ρ h=.ok (.ref ⇑h,h++[⟨.lst,HO ws lo AA⟩]):=by unfold Tp;rw[Gf h e];dsimp only;exact NX h (by have:=ip ws lo AA;unfold Bi;lia)
def qa{ρ:Ay}{i:Nat}{k:Int}(h:A5)(e:ρ[i]?=↥↥(.int k)):FM (I i) ρ h=.ok (↥k,h):=by unfold FM;rw[H0,v_var,e];rfl
def aia{h:A5}{n i k:Nat}{ws:↑W}{w:W}{ρ:Ay}{dS:B8}(AG:ρ[2]?=↥↥(.ref n))(Fb:ρ[i]?=↥↥(.int (k:Int)))(B2:h[n]?=↥⟨.lst,ws⟩)(l:⇑ws<=100)(AQ:k<=⇑ws)(hw:∀h',dS ρ h'=.ok (w,h'))(KG:Fu ws=true)(ac8:DU w=true) :
  CI (A1 addW (A1 addW (Hq ψ (pu none) (FM (I i))) (Be (Z dS A2))) (Hq ψ (FM (I i)) (pu none))) ρ h=.ok (.ref ⇑h,h++[⟨.lst,ws.take k++[w]++ws.drop k⟩]):=by
 have s1:Hq ψ (pu none) (FM (I i)) ρ h=.ok (.ref ⇑h,h++[⟨.lst,ws.take k⟩]):=by rw[WR,v_var,AG,Fq,J,Ag,J,qa _ Fb,J,ZO B2 δ,tT k AQ]
 have s2:Be (Z dS A2) ρ (h++[⟨.lst,ws.take k⟩])=.ok (.ref (⇑h+1),h++[⟨.lst,ws.take k⟩,⟨.lst,[w]⟩]):=by rw[Mc,AW,hw,J,BH,J,J,NX _ (by simp[Bi])];simp
 have a1:=NY (h:=h++[⟨.lst,ws.take k⟩,⟨.lst,[w]⟩]) (i:=⇑h) (j:=⇑h+1) (a:=ws.take k) (b:=[w]) γ γ (by simp[Bi];lia);obtain⟨H,B_⟩:∃H:A5,H=h++[⟨.lst,ws.take k⟩,⟨.lst,[w]⟩]++[⟨.lst,ws.take k++[w]⟩]:=ο;rw[<-B_]at a1;have Q5:⇑H=⇑h+3:=by rw[B_];simp
 have kz:h<+: H:=by rw[B_];exact Fv (Eu _ _) _
 have s3:Hq ψ (FM (I i)) (pu none) ρ H=.ok (.ref (⇑h+3),H++[⟨.lst,ws.drop k⟩]):=by rw[WR,v_var,AG,Fq,J,qa _ Fb,J,Ag,J,ZO (Ea kz B2) δ,tS k AQ,Q5]
 have h2:H[⇑h+2]?=↥⟨.lst,ws.take k++[w]⟩:=by rw[B_,EZ,Qs];rfl
 have a2:=NY (h:=H++[⟨.lst,ws.drop k⟩]) (i:=⇑h+2) (j:=⇑h+3) (a:=ws.take k++[w]) (b:=ws.drop k) (CE H h2 _) (by rw[<-Q5];simp) (by simp[Bi];lia);rw[FV,AU,AU,s1,J,s2,J,a1,J];have ab7:⇑(h++[⟨.lst,ws.take k⟩,⟨.lst,[w]⟩]:A5)=⇑h+2:=γ
 rw[ab7,s3,J,a2,J];have:⇑(H++[⟨.lst,ws.drop k⟩]:A5)=⇑h+4:=by rw[EL,Q5];rfl
 rw[this];refine LF (ws:=ws.take k++[w]++ws.drop k) h _ (JE (Fv (Fv kz _) _)) δ (by rw[<-this];simp) (Rk.mpr λx AM=>?_);have KG:=Rk.mp KG;erw[Hf,MC]at AM;rcases AM with(AM|rfl)|AM
 .exact KG x (fm AM)
 .exact ac8
 .exact KG x (fl AM)
structure Sw(n:Nat)(ps:↑Co):Prop where
 k:∀p,↥p∈ps->p.1<3/\p.2<n
 Bj:(ps.filterMap id).Nodup
def Sw.perm{n:Nat}{ps IT:↑Co}(h:Sw n ps)(p:IT.Perm ps):Sw n IT:=⟨λx AM=>h.k x (p.mem_iff.mp AM),(p.filterMap id).nodup_iff.mpr h.Bj⟩
noncomputable def GZ(c:Nat)(n:Nat):↑Co:=(Cg n).map λi=>↥(c,i)
def Rs(c n:Nat):⇑(GZ c n)=n:=by simp[GZ]
def plain(n:Nat):↑Co:=GZ 0 n++GZ 1 n++[none]++GZ 2 n
def acu(n:Nat):Sw n (plain n):=by
 refine⟨λp AX=>?_,?_⟩
 .erw[plain,GZ,Hf,Ui,List.mem_range,MC]at AX;rcases AX with((⟨i,AA,e⟩|⟨i,AA,e⟩)|e)|⟨i,AA,e⟩
  .cases e;exact⟨γ,AA⟩
  .cases e;exact⟨γ,AA⟩
  .cases e
  .cases e;exact⟨γ,AA⟩
 .have Nn:∀c,(GZ c n).filterMap id=(Cg n).map λi=>(c,i):=λc=>by
    unfold GZ;rw[List.filterMap_map];induction Cg n with
    |nil=>rfl
    |cons x l CC=>simp[CC]
  have Bj:∀c:Nat,((Cg n).map λi=>(c,i)).Nodup:=λc=>by rw[X1,X5];exact List.nodup_range.imp λh z=>h (Prod.mk.inj z).2
  have e:(plain n).filterMap id=((Cg n).map λi=>(0,i))++((Cg n).map λi=>(1,i))++((Cg n).map λi=>(2,i)):=by erw[plain,List.filterMap_append,Nn];simp
  rw[e];refine List.nodup_append.mpr ⟨List.nodup_append.mpr ⟨Bj 0,Bj 1,λa AF b A4 z=>?_⟩,Bj 2,λa AF b A4 z=>?_⟩
  .obtain⟨i,_,rfl⟩:=List.mem_map.mp AF;obtain⟨j,_,rfl⟩:=List.mem_map.mp A4;cases z
  .obtain⟨j,_,rfl⟩:=List.mem_map.mp A4;rcases List.mem_append.mp AF with AF|AF
   .obtain⟨i,_,rfl⟩:=List.mem_map.mp AF;cases z
   .obtain⟨i,_,rfl⟩:=List.mem_map.mp AF;cases z
structure gr(h:A5)(n p:Nat)(ps:↑Co)(H:A5):Prop where
 pr:h<+: H
 BU:⇑h<=p
 e:H[p]?=↥⟨.lst,ps.map (Bx false)⟩
 i:Sw n ps
section
variable{h H:A5}{a n p:Nat}{ps:↑Co}{y:Int}{k:Nat}{s3 CQ D9:Option W}
def gr.new{IT:↑Co}{H1:A5}(x:gr h n p ps H1)(q:Sw n IT):gr h n ⇑H1 IT (H1++[⟨.lst,IT.map (Bx false)⟩]):=⟨Fv x.pr _,x.pr.length_le,γ,q⟩
end
def L4{h h1:A5}{k:Nat}{mf:Br}{ma:DQ}{ρ:Ay}{us:↑W}{r:R (W×A5)}(BX:ma ρ h=.ok (us,h1))(l:⇑us=k)(B5:mf us h1=r):Aa k mf ma ρ h=r:=by rw[EH,BX,J,if_pos l,B5]
end Ds
namespace BJ
def qI{h:A5}{n:Nat}{o F4:O}(e:h[n]?=↥o)(g:A5):(h.set n F4++g).set n o=h++g:=by have Ae:n< ⇑h:=(List.getElem?_eq_some_iff.mp e).1;have B2:h[n]=o:=(List.getElem?_eq_some_iff.mp e).2;rw[List.set_append_left _ _ (Ae:),List.set_set,<-B2,List.set_getElem_self]
def sr{m e:B8}{ρ:Ay}{h:A5}{n:Nat}{AZ:↑Key}{ws:↑W}(p:W->Bool)(AI:⇑ws<1000)(em:m ρ h=.ok (.ref n,h))(B2:h[n]?=↥⟨.BM AZ,ws⟩)(DO:∀w∈ws,∀acc,e [↥w] (h.set n ⟨.G9 AZ,ws⟩++[⟨.lst,acc⟩])=.ok (.AL (p w),h.set n ⟨.G9 AZ,ws⟩++[⟨.lst,acc⟩])) :
  CI (BI (Hs true) (Z (Lv OX 1 [] m (AB 0) ac e) A2)) ρ h=.ok (.AL (ws.all p),h):=by
 have Ae:n< ⇑h:=(List.getElem?_eq_some_iff.mp B2).1;obtain⟨H,B_⟩:∃H:A5,H=h.set n ⟨.G9 AZ,ws⟩:=⟨_,rfl⟩;rw[<-B_]at DO;have Q5:⇑H=⇑h:=by rw[B_];simp
 have Et:H[n]?=↥⟨.G9 AZ,ws⟩:=by rw[B_];exact LJ Ae
 have c:=Mm (mi:=pu (OX AZ ws)) (it:=OX AZ ws) (g:=AB 0) (t:=pu true) (e:=e) (ρ:=ρ) (h:=H) (h0:=H) (nl:=1) (caps:=[]) ws (λ_=>true) (λw=>.AL (p w)) (λρ=>∃s,ρ=[s]) AI rfl ⟨none,rfl⟩ (λj acc An=>by
   unfold OX;by_cases q:j=⇑ws
   .rw[if_pos q,J_ δ]
   .rw[if_neg q,C3 δ];rfl) (by
   rintro w hw ρ acc ⟨s,rfl⟩;exact⟨[↥w],rfl,⟨_,rfl⟩,rfl,λ_=>DO w hw acc⟩)
 rw[List.filter_eq_self.mpr (λ_ _=>rfl)]at c;have z:Lv OX 1 [] m (AB 0) ac e ρ h=.ok (.ref ⇑h,h++[⟨.lst,ws.map λw=>.AL (p w)⟩]):=by unfold Lv;rw[H0,em,J];erw[B2];rw[<-B_,c];unfold eX;erw[Fz (show n< ⇑H by lia),Et];rw[B_,qI B2];simp
 have q:Dw (h++[⟨.lst,ws.map λw=>W.AL (p w)⟩]) (.ref ⇑h)=↥(false,ws.map λw=>W.AL (p w)):=Gf _ γ;have adZ:Hs true [.ref ⇑h] (h++[⟨.lst,ws.map λw=>W.AL (p w)⟩])=.ok (.AL (ws.all p),h++[⟨.lst,ws.map λw=>W.AL (p w)⟩]):=by erw[Hs,q,bq p ws,if_true];rw[Si];rfl
 rw[FV,Fx,AW,z,J,BH,J,J,adZ,J];exact Nd _ _ _ rfl
end BJ
namespace Ds
section
variable{C:FR}{h:A5}{S:Eo}
structure RR(C:FR)(S:Eo):Prop where
 le:⇑S.done<=⇑C.ps
 e:S.done=C.ps.take ⇑S.done
def mj(R:F9 C h S):MR [.ref C.r] h=.ok (.int (⇑S.done:Int),h):=by
 have fd:B6 "Run" "done" (.ref C.r) h=.ok (.ref C.M,h):=EV R.B5 rfl;have lw:Bh [.ref C.M] h=.ok (.int ⇑S.done,h):=by rw[Ic R.Bc,Cd]
 simp[MR,bT,fd,lw]
def allM(S:Eo):Bool:=S.lets.all λl=>l.m==1
noncomputable def IA(C:FR)(S:Eo):Bool:=if ⇑S.done=⇑C.ps then false else if(C.ps.getD ⇑S.done none).isSome then true else allM S
noncomputable def UJ(h:A5):W->Bool
 |.ref n=>match h[n]? with
  |some ⟨.ins _ _,.int m::_⟩=>m==1
  |_=>false
 |_=>false
def Oq{h h1:A5}{n:Nat}{c x:Str}{ns:↑Str}{ws:↑W}{mf:Br}{o:B8}{ρ:Ay}{r:BJ.R (W×A5)}(GB:o ρ h=.ok (.ref n,h))(e:h[n]?=↥⟨.ins c ns,ws⟩)(v:E3 ns ws x=none)(B5:mf [.ref n] h=r):CO c x 0 mf o A2 ρ h=r:=KD (us:=[]) GB e v rfl rfl B5
def me(c:GQ C)(R:F9 C h S):h[C.pl]?=↥⟨.lst,C.ps.map (Bx false)⟩:=R.DH _ _ c.pp (λz=>by cases z)
def mh(c:GQ C)(R:F9 C h S){k:Nat}(AQ:k< ⇑C.ps):A7 (.ref C.pl) (.int (k:Int)) h=.ok ((Bx false) (C.ps.getD k none),h):=EW (me c R) (by rw[Dl,C3 AQ,Fg,C3 AQ];rfl)
def lY(c:GQ C)(R:F9 C h S)(D:RR C S):Ol [.ref C.r] h=.ok (.AL (IA C S),h):=by
 have BR:B6 "Run" "plan" (.ref C.r) h=.ok (.ref C.pl,h):=EV R.B5 rfl;have CH:B6 "Run" "letters" (.ref C.r) h=.ok (.ref (C.M+1),h):=EV R.B5 rfl;have lw:Bh [.ref C.pl] h=.ok (.int ⇑C.ps,h):=by rw[Ic (me c R),Cd]
 have mp:CO "Run" "place" 0 MR π A2 [ι] h=.ok (.int (⇑S.done:Int),h):=Oq (h1:=h) rfl R.B5 rfl (mj R);have le:=R.le;have few:=R.few;have aj1:=D.le;have al:=sr (m:=BD (B6 "Run" "letters") π) (e:=A1 Φ (BD (B6 "Letter" "mark") π) ζ) (ρ:=[ι]) (UJ h) (by rw[Cd];lia) (by simp[CH]) R.el (by
  intro w hw acc;obtain⟨l,AI,rfl⟩:=List.mem_map.mp hw;have x:=R.lt l (Gx _ AI);have t1:=x.t1;have D4:=c.D4;obtain⟨H,B_⟩:∃H:A5,H=h.set (C.M+1) ⟨.G9 (S.lets.map JU),S.lets.map λl=>.ref l.BU⟩++[⟨.lst,acc⟩]:=ο;have z:H[l.BU]?=↥(PY l):=by rw[B_];exact CE _ (by rw[IE δ];exact x.GB) _
  rw[<-B_];have Qp:B6 "Letter" "mark" (.ref l.BU) H=.ok (.int (l.m:Int),H):=EV z rfl;have pm:UJ h (.ref l.BU)=decide ((l.m:Int)=1):=by erw[UJ,x.GB,PY];by_cases q:(l.m:Int)=1<;>simp[q]
  rw[pm];simp[Qp])
 have BX:(S.lets.map λl=>W.ref l.BU).all (UJ h)=allM S:=by
  unfold allM;rw[Si,Qj,UU,UU];refine forall_congr' λl=>⟨λq AI=>?_,λq AI=>?_⟩
  .have:=q AI;erw[O2,UJ,(R.lt l (Gx _ AI)).GB,PY,beq_iff_eq]at this |-;lia
  .have:=q AI;erw[O2,UJ,(R.lt l (Gx _ AI)).GB,PY,beq_iff_eq]at this |-;lia
 rw[BX]at al;have t1:Ad (A1 Φ (CO "Run" "place" 0 MR π A2) (BI Bh (Z (BD (B6 "Run" "plan") π) A2))) [ι] h=.ok (decide (⇑S.done=⇑C.ps),h):=by
  rw[D_,AU,mp,J];erw[Fx,AW,BH,H2,v_var,Gl,Fq,J,BR,lw,ZX,Db]
  congr 2
  exact decide_eq_decide.mpr δ
 have e:Ol [.ref C.r] h=((Y0 [ι] h).bind outF).bind λp=>settle h p.1 p.2:=rfl;rw[e];unfold Y0 IA;rw[Az,DL,t1,J];by_cases hd:⇑S.done=⇑C.ps
 .rw[if_pos (decide_eq_true hd),if_pos hd,EC,Ag,J,J,MZ,J,Fm,J];exact Nf h _ rfl
 .rw[if_neg (hd:),if_neg hd,E9,J,B0];have DG:=mh c R (k:=⇑S.done) δ;have Cn:Ad (A1 (BC false) (A1 A7 (BD (B6 "Run" "plan") π) (CO "Run" "place" 0 MR π A2)) (pu Ml)) [ι] h=.ok (Mt ((Bx false) (C.ps.getD ⇑S.done none)),h):=by
   rw[D_,AU,AU,H2,v_var];rw[show([ι]:Ay)[0]?=↥ι from rfl,Fq,J,BR,J,mp,J,DG,J,Ag,J,lx,J,Db]
  rw[Az,DL,Cn,J];cases B9:C.ps.getD ⇑S.done none with
  |some q=>rw[if_pos (show Mt ((Bx false) ↥q)=true from rfl),if_pos (show(↥q).isSome=true from rfl),EC,Ag,J,J,MZ,J,Fm,J];exact Nf h _ rfl
  |none=>rw[if_neg (show¬Mt ((Bx false) none)=true by simp[Mt,Bx]),if_neg (show¬(none:Option (Nat×Nat)).isSome=true by simp),E9,J,B0,EC,al,J,J,Fm,J];exact Nf h _ rfl
def lW(D:RR C S)(hm:IA C S=true):⇑S.done< ⇑C.ps:=by
 unfold IA at hm;have:=D.le
 split at hm
 .cases hm
 .lia
noncomputable def M_(C:FR)(S:Eo):Eo:={ S with done:=S.done++[C.ps.getD ⇑S.done none] }
def aec(D:RR C S)(Dc:⇑S.done< ⇑C.ps):RR C (M_ C S):=by refine⟨by simp[M_];lia,?_⟩;show S.done++[_]=C.ps.take ⇑(S.done++[_]);rw[EL,MB,fP Dc,<-D.e,Fg,C3 Dc];rfl
def aee(c:GQ C)(R:F9 C h S)(D:RR C S)(hm:IA C S=true):∃h',SK [.ref C.r] h=.ok ((Bx false) (C.ps.getD ⇑S.done none),h')/\F9 C h' (M_ C S)/\ ⇑h'=⇑h/\∀n,n≠C.M->h'[n]?=h[n]?:=by
 have Dc:=lW D hm;have kL:=c.P.l;have KI:=c.KI;have D4:=c.D4;have GW:CO "Run" "may_step" 0 Ol π A2 [ι] h=.ok (.AL (IA C S),h):=Oq (h1:=h) rfl R.B5 rfl (lY c R D);rw[hm]at GW;have BR:B6 "Run" "plan" (.ref C.r) h=.ok (.ref C.pl,h):=EV R.B5 rfl;have fd:B6 "Run" "done" (.ref C.r) h=.ok (.ref C.M,h):=EV R.B5 rfl;have mp:CO "Run" "place" 0 MR π A2 [ι] h=.ok (.int (⇑S.done:Int),h):=Oq (h1:=h) rfl R.B5 rfl (mj R);obtain⟨s,es⟩:∃s,s=C.ps.getD ⇑S.done none:=ο;have DG:=mh c R Dc;rw[<-es]at DG |-;obtain⟨h',HR⟩:∃h':A5,h'=h.set C.M ⟨.lst,(S.done++[s]).map (Bx false)⟩:=⟨_,rfl⟩;have ap:EA Ej (BD (B6 "Run" "done") π) (Z (A1 A7 (BD (B6 "Run" "plan") π) (CO "Run" "place" 0 MR π A2)) A2) [ι] h=.ok (.non,h'):=by rw[HR];refine MN (ws:=S.done.map (Bx false)) (ws2:=S.done.map (Bx false)) (us:=[(Bx false) s]) (h1:=h) (h2:=h) (by simp[fd]) R.Bc ?_ R.Bc (by simp[Ej]) (by simp[Bi];lia);rw[AW,AU,H2,v_var,show([ι]:Ay)[0]?=↥ι from rfl,Fq,J,BR,J,mp,J,DG,J];rfl
 have keep:∀n,n≠C.M->h'[n]?=h[n]?:=λn Ae=>by rw[HR,IE (λz=>Ae z.symm)]
 have ZI:h'[C.M]?=↥⟨.lst,(S.done++[s]).map (Bx false)⟩:=by rw[HR];exact LS R.Bc
 have hu:h'[C.r]?=↥(OR C.nt C.Ep C.b1 C.pl C.M S.CS):=by rw[keep _ δ];exact R.B5
 have w5:B6 "Run" "done" (.ref C.r) h'=.ok (.ref C.M,h'):=EV hu rfl;have zM:A7 (.ref C.M) (.int (-1)) h'=.ok ((Bx false) s,h'):=df (us:=S.done.map (Bx false)) (by rw[ZI];simp);have q:=c.Ee;refine⟨h',?_,?_,by rw[HR];simp,keep⟩
 .have e:SK [.ref C.r] h=(Y2 [ι] h).bind outF:=rfl;rw[e];unfold Y2;rw[Az,DL,v_not,D_,GW,J,Db,J,J,if_neg γ,E9,J,B0,Az,IG,ap,J,J,B0,EC,AU,H2,v_var];rw[show([ι]:Ay)[0]?=↥ι from rfl,Fq,J,w5,J,H2,Ag,J];have Wn:Os (.int 1) h'=.ok (.int (-1),h'):=rfl;rw[Wn,J,zM,J,J,Fm]
 .refine⟨λn o' k ne=>?_,hu,by rw[ZI];simp[M_,es],by rw[keep _ δ];exact R.el,by rw[keep _ δ];exact R.Gc,λl AI=>?_,R.Bj,R.nn,R.IB,λp AX=>?_,R.few,R.le,by rw[HR];simpa using R.AI,R.pr⟩
  .rw[keep n (by have:=HN k;lia)];exact R.DH n o' k ne
  .have x:=R.lt l AI;have:=x.t1;have:=x.Cn;exact x.to (keep _ δ) (keep _ δ)
  .erw[M_,Hf,MC]at AX;rcases AX with AX|AX
   .exact R.Ni p AX
   .refine(c.P.k p ?_).1;rw[AX,Fg,C3 Dc];exact J9 _
def aad(R:F9 C h S){r:BJ.R (W×A5)}(e:SK [.ref C.r] h=r)(BZ:r=.exc "NoMove" h\/∃p,r=.ok p):Gr [.ref C.r,.tup [.str (AO "step")]] h=r:=by
 have Cs:DT "tuple" (.tup [.str (AO "step")]) h=.ok ω:=rfl;have Ft:DT "str" (.str (AO "step")) h=.ok ω:=rfl;have GW:CO "Run" "step" 0 SK π A2 [ι,↥(.tup [.str (AO "step")])] h=r:=Oq (h1:=h) rfl R.B5 rfl e;have Aq:(AO "step"==AO "come")=false:=rfl;have BV:(AO "step"==AO "go")=false:=rfl;have Do:BC true (.tup [.str (AO "step")]) Go h=.ok ω:=by simp[BC,Go,Bu,eqT,GJ]
 rcases BZ with BZ|⟨⟨w,h'⟩,BZ⟩
 .rw[BZ]at GW |-;simp[Gr,R5,Cs,Ft,PX,GF,Aq,BV,Do,GW]
 .rw[BZ]at GW |-;simp[Gr,R5,Cs,Ft,PX,GF,Aq,BV,Do,GW]
end
def Te:Ap:=(C8 (Ad (A1 Φ (A1 Bf π υ) ζ)) (AT (Am (CI (A1 A7 (Be (Z (pu (.int 2147483647)) (Z (pu (.int 2147483629)) (Z (pu (.int 2147483587)) (Z (pu (.int 2147483579)) A2))))) (A1 Bf (A1 EQ (I 4) Γ) Γ))) (AB 5))
    (AT (Am (CI (A1 A7 (Be (Z (pu (.int 48271)) (Z (pu (.int 69621)) (Z (pu (.int 16807)) (Z (pu (.int 39373)) A2))))) (A1 Bf (I 4) Γ))) (AB 6))
    (Di (EA Ej ψ (Z (A1 EQ (A1 Bf (A1 F3 (A1 addW (A1 addW (A1 Bf Ψ (A1 Gd (pu (.int 10)) (pu (.int 30)))) (A1 F3 (pu (.int 7919)) (I 4))) ζ) (I 6)) (I 5)) (pu (.int 7))) A2))))) (AT (Di (EA Ej ψ (Z (A1 Bf Ψ (A1 Gd (pu (.int 10)) (pu (.int 6)))) A2)))
    (Am (A1 EQ Ψ (A1 Gd (pu (.int 10)) (pu (.int 6)))) (AB 3))))
noncomputable def KA(c n:Int)(p:Nat)(r:Int)(s4 s5 CQ:Option W):Ay:=[↥(.int c),↥(.int n),↥(.ref p),↥(.int r),s4,s5,CQ]
def vF(c:Int)(k:Nat)(AQ:k<1000)(r:Int):∃z:Int×Int,∀(h:A5)(l:↑Int)(n:Int)(s5 CQ:Option W),⇑l<=300->∃QR Ts,Te (KA c n ⇑h r ↥(.int (k:Int)) s5 CQ) (h++[⟨.lst,B3 l⟩])=.ok (.AP (KA c n ⇑h z.2 ↥(.int (k:Int)) QR Ts),h++[⟨.lst,B3 (l++[z.1])⟩]):=by
 have ad4:NF 10 30:=ε
 have MT:NF 10 6:=ε
 have Cz:NE 7919 (k:Int):=.inl ε;have afb:∀ρ H,A1 Gd (pu (.int 10)) (pu (.int 30)) ρ H=.ok (.int (10^30),H):=λ_ _=>by rw[AU,Ag,J,Ag,J,dc,if_pos ad4];rfl
 have qk:∀ρ H,A1 Gd (pu (.int 10)) (pu (.int 6)) ρ H=.ok (.int (10^6),H):=λ_ _=>by rw[AU,Ag,J,Ag,J,dc,if_pos MT];rfl
 have ap:∀(h:A5)(l:↑Int)(ρ:Ay)(m:B8)(y:Int),⇑l<=300->I 2 ρ (h++[⟨.lst,B3 l⟩])=.ok (.ref ⇑h,h++[⟨.lst,B3 l⟩])->m ρ (h++[⟨.lst,B3 l⟩])=.ok (.int y,h++[⟨.lst,B3 l⟩])->Di (EA Ej ψ (Z m A2)) ρ (h++[⟨.lst,B3 l⟩])=.ok (.AP ρ,h++[⟨.lst,B3 (l++[y])⟩]):=λh l ρ m y AI AG e=>by
  have z:(h++[(⟨.lst,B3 l⟩:O)])[⇑h]?=↥⟨.lst,B3 l⟩:=by rw[C9];rfl
  rw[IG,MN (us:=[.int y]) (ws':=B3 (l++[y])) (r:=.non) AG z (by rw[AW,e,J,BH];rfl) z (by simp[Ej,B3]) (by simp[B3,Bi];lia),J,PC];rfl
 by_cases odd:c%2=1
 .obtain⟨p,AX,B9⟩:=mb [2147483647,2147483629,2147483587,2147483579] ((k:Int)/4) (n:=4) rfl ε;obtain⟨f,hf,C2⟩:=mb [48271,69621,16807,39373] k (n:=4) rfl ε;have f0:0<f/\f<18446744073709551616:=(by decide:∀f∈([48271,69621,16807,39373]:↑Int),0<f/\f<18446744073709551616) f hf;have GX:0<p:=(by decide:∀p∈([2147483647,2147483629,2147483587,2147483579]:↑Int),0<p) p AX;have C7:∀x:Int,NE x f:=λx=>.inr (by constructor<;>lia);refine⟨(((r%10^30+7919*k+1)*f%p)/7,r),λh l n s5 CQ AI=>⟨↥(.int p),↥(.int f),?_⟩⟩;obtain⟨H,B_⟩:∃H:A5,H=h++[⟨.lst,B3 l⟩]:=ο;have B9:=B9 H [⟨.lst,B3 [2147483647,2147483629,2147483587,2147483579]⟩] rfl;have C2:=C2 H [⟨.lst,B3 [48271,69621,16807,39373]⟩] rfl;erw[Int.cast_ofNat_Int]at B9 C2;have DI:∀ρ,Be (Z (pu (.int 2147483647)) (Z (pu (.int 2147483629)) (Z (pu (.int 2147483587)) (Z (pu (.int 2147483579)) A2)))) ρ H=.ok (.ref ⇑H,H++[⟨.lst,B3 [2147483647,2147483629,2147483587,2147483579]⟩]):=λ_=>rfl;have Ct:∀ρ,Be (Z (pu (.int 48271)) (Z (pu (.int 69621)) (Z (pu (.int 16807)) (Z (pu (.int 39373)) A2)))) ρ H=.ok (.ref ⇑H,H++[⟨.lst,B3 [48271,69621,16807,39373]⟩]):=λ_=>rfl;obtain⟨ρ,Ab⟩:∃ρ:Option W->Option W->Ay,ρ=λa b=>KA c n ⇑h r ↥(.int (k:Int)) a b:=ο;have v0:∀a b H,I 0 (ρ a b) H=.ok (.int c,H):=by rw[Ab];exact λ_ _ _=>rfl
  have v2:∀a b H,I 2 (ρ a b) H=.ok (.ref ⇑h,H):=by rw[Ab];exact λ_ _ _=>rfl
  have E2:∀a b H,I 3 (ρ a b) H=.ok (.int r,H):=by rw[Ab];exact λ_ _ _=>rfl
  have v4:∀a b H,I 4 (ρ a b) H=.ok (.int (k:Int),H):=by rw[Ab];exact λ_ _ _=>rfl
  have Fp:∀a b H,I 5 (ρ ↥a b) H=.ok (a,H):=by rw[Ab];exact λ_ _ _=>rfl
  have v6:∀a b H,I 6 (ρ a ↥b) H=.ok (b,H):=by rw[Ab];exact λ_ _ _=>rfl
  have Tz:∀w a b H,AB 5 w (ρ a b) H=.ok (.AP (ρ ↥w b),H):=by rw[Ab];exact λ_ _ _ _=>rfl
  have eC:∀w a b H,AB 6 w (ρ a b) H=.ok (.AP (ρ a ↥w),H):=by rw[Ab];exact λ_ _ _ _=>rfl
  have t0:Ad (A1 Φ (A1 Bf π υ) ζ) (ρ s5 CQ) H=.ok (true,H):=by rw[D_,AU,AU,v0,J,Ag,J,F5,if_pos (show(0:Int)<2 by decide),J,Ag,J,odd];rfl
  have s1:Am (CI (A1 A7 (Be (Z (pu (.int 2147483647)) (Z (pu (.int 2147483629)) (Z (pu (.int 2147483587)) (Z (pu (.int 2147483579)) A2))))) (A1 Bf (A1 EQ (I 4) Γ) Γ))) (AB 5) (ρ s5 CQ) H=.ok (.AP (ρ ↥(.int p) CQ),H):=by rw[DV,FV,AU,DI,J,AU,AU,v4,J,Ag,J,Kw,if_pos (show(0:Int)<4/\(4:Int)<1073741824 by decide),J,Ag,J,F5,if_pos (show(0:Int)<4 by decide),J,B9,J,Nd _ _ _ (by rfl),J,Tz]
  have s2:Am (CI (A1 A7 (Be (Z (pu (.int 48271)) (Z (pu (.int 69621)) (Z (pu (.int 16807)) (Z (pu (.int 39373)) A2))))) (A1 Bf (I 4) Γ))) (AB 6) (ρ ↥(.int p) CQ) H=.ok (.AP (ρ ↥(.int p) ↥(.int f)),H):=by rw[DV,FV,AU,Ct,J,AU,v4,J,Ag,J,F5,if_pos (show(0:Int)<4 by decide),J,C2,J,Nd _ _ _ (by rfl),J,eC]
  have E3:(A1 EQ (A1 Bf (A1 F3 (A1 addW (A1 addW (A1 Bf Ψ (A1 Gd (pu (.int 10)) (pu (.int 30)))) (A1 F3 (pu (.int 7919)) (I 4))) ζ) (I 6)) (I 5)) (pu (.int 7))) (ρ ↥(.int p) ↥(.int f)) H=.ok (.int (((r%10^30+7919*k+1)*f%p)/7),H):=by rw[AU,AU,AU,AU,AU,AU,E2,J,afb,J,F5,if_pos ε,J,AU,Ag,J,v4,J,lE,if_pos Cz,J,Kv,J,Ag,J,Kv,J,v6,J,lE,if_pos (C7 _),J,Fp,J,F5,if_pos GX,J,Ag,J,Kw,if_pos ε]
  have s3:=ap h l (ρ ↥(.int p) ↥(.int f)) _ _ AI (v2 _ _ _) (by rw[<-B_];exact E3);have A9:KA c n ⇑h r ↥(.int (k:Int)) s5 CQ=ρ s5 CQ:=by rw[Ab]
  rw[A9,<-B_];rw[<-B_]at s3;unfold Te;rw[DL,t0,J,if_pos rfl,Az,s1,J,B0,Az,s2,J,B0,s3,Ab]
 .refine⟨(r%10^6,r/10^6),λh l n s5 CQ AI=>⟨s5,CQ,?_⟩⟩;obtain⟨H,B_⟩:∃H:A5,H=h++[⟨.lst,B3 l⟩]:=ο;obtain⟨ρ,Ab⟩:∃ρ:Int->Ay,ρ=λr=>KA c n ⇑h r ↥(.int (k:Int)) s5 CQ:=ο;have v0:∀a H,I 0 (ρ a) H=.ok (.int c,H):=by rw[Ab];exact λ_ _=>rfl
  have v2:∀a H,I 2 (ρ a) H=.ok (.ref ⇑h,H):=by rw[Ab];exact λ_ _=>rfl
  have E2:∀a H,I 3 (ρ a) H=.ok (.int a,H):=by rw[Ab];exact λ_ _=>rfl
  have Md:∀w a H,AB 3 (.int w) (ρ a) H=.ok (.AP (ρ w),H):=by rw[Ab];exact λ_ _ _=>rfl
  have t0:Ad (A1 Φ (A1 Bf π υ) ζ) (ρ r) H=.ok (false,H):=by
   have:(c%2==1)=false:=(odd:)
   rw[D_,AU,AU,v0,J,Ag,J,F5,if_pos (show(0:Int)<2 by decide),J,Ag,J];simp[BC,Bu,eqT,this]
  have E3:(A1 Bf Ψ (A1 Gd (pu (.int 10)) (pu (.int 6)))) (ρ r) H=.ok (.int (r%10^6),H):=by rw[AU,E2,J,qk,J,F5,if_pos ε]
  have s1:=ap h l (ρ r) _ _ AI (v2 _ _) (by rw[<-B_];exact E3);have s2:∀G,Am (A1 EQ Ψ (A1 Gd (pu (.int 10)) (pu (.int 6)))) (AB 3) (ρ r) G=.ok (.AP (ρ (r/10^6)),G):=λG=>by rw[DV,AU,E2,J,qk,J,Kw,if_pos ε,J,Md]
  have A9:KA c n ⇑h r ↥(.int (k:Int)) s5 CQ=ρ r:=by rw[Ab]
  rw[A9,<-B_];rw[<-B_]at s1;unfold Te;rw[DL,t0,J,if_neg γ,Az,s1,J,B0,s2,Ab]
noncomputable def Lg(f:Nat×Int->Int×Int)(N_:Int):Nat->↑Int×Int
 |0=>([],N_)
 |k+1=>((Lg f N_ k).1++[(f (k,(Lg f N_ k).2)).1],(f (k,(Lg f N_ k).2)).2)
theorem bF(f:Nat×Int->Int×Int)(N_:Int):∀k,(Lg f N_ k).1.length=k
 |0=>rfl
 |k+1=>by simp[Lg,bF f N_ k]
def bG(c:Int){n:Nat}(Ae:n<=200):∃l:↑Int,⇑l=n/\∀h,Kt [.int c,.int (n:Int)] h=.ok (.ref ⇑h,h++[⟨.lst,B3 l⟩]):=by
 obtain⟨f,hf⟩:=XC (r:=λ(x:Nat×Int)(z:Int×Int)=>x.1<1000->∀(h:A5)(l:↑Int)(n:Int)(s5 CQ:Option W),⇑l<=300->∃QR Ts,Te (KA c n ⇑h x.2 ↥(.int (x.1:Int)) s5 CQ) (h++[⟨.lst,B3 l⟩])=.ok (.AP (KA c n ⇑h z.2 ↥(.int (x.1:Int)) QR Ts),h++[⟨.lst,B3 (l++[z.1])⟩])) (λx=>by
  by_cases AM:x.1<1000
  .obtain⟨z,hz⟩:=vF c x.1 AM x.2;exact⟨z,λ_=>hz⟩
  .exact⟨(0,0),λy=>absurd y AM⟩)
 refine⟨(Lg f (c/2) n).1,bF _ _ _,λh=>?_⟩;have BU:=Ends.HB (Pq (mi:=Dj Cl) (g:=AB 4) (b:=Te) (ρ:=KA c n ⇑h (c/2) none none none) (h:=h++[⟨.lst,[]⟩]) (h0:=h++[⟨.lst,[]⟩]) 0 n δ (λj ρ H=>(∃s4 s5 CQ,ρ=KA c n ⇑h (Lg f (c/2) j).2 s4 s5 CQ)/\H=h++[⟨.lst,B3 (Lg f (c/2) j).1⟩]) (T:=λCH H=>(∃ρ,CH=.AP ρ/\I 2 ρ H=.ok (.ref ⇑h,H))/\H=h++[⟨.lst,B3 (Lg f (c/2) n).1⟩]) (LD (by
  have v1:I 1 (KA c n ⇑h (c/2) none none none) (h++[⟨.lst,[]⟩])=.ok (.int (n:Int),h++[⟨.lst,[]⟩]):=rfl;rw[AW,v1,J,BH];rfl) δ) ⟨⟨_,_,_,rfl⟩,rfl⟩ (by
  rintro j _ _ An ⟨⟨s4,s5,CQ,rfl⟩,rfl⟩;obtain⟨QR,Ts,e⟩:=hf (j,(Lg f (c/2) j).2) (by show j<1000;lia) h (Lg f (c/2) j).1 n s5 CQ (by rw[bF];lia);exact⟨_,_,by simp[KA],_,_,e,⟨_,_,_,rfl⟩,rfl⟩) (by
  rintro _ _ ⟨⟨s4,s5,CQ,rfl⟩,rfl⟩;exact⟨⟨_,rfl,rfl⟩,rfl⟩))
 obtain⟨_,_,Jn,⟨ρ,rfl,v2⟩,rfl⟩:=BU;have Bc:Kt [.int c,.int (n:Int)] h=((Xi [↥(.int c),↥(.int (n:Int)),none,none,none,none,none] h).bind outF).bind λp=>BJ.settle h p.1 p.2:=rfl;have s0:Am (Be A2) (AB 2) [↥(.int c),↥(.int (n:Int)),none,none,none,none,none] h=.ok (.AP [↥(.int c),↥(.int (n:Int)),χ,none,none,none,none],h++[⟨.lst,[]⟩]):=by simp[nw,Bi]
 have s1:Am (A1 EQ π υ) (AB 3) [↥(.int c),↥(.int (n:Int)),χ,none,none,none,none] (h++[⟨.lst,[]⟩])=.ok (.AP (KA c n ⇑h (c/2) none none none),h++[⟨.lst,[]⟩]):=by simp[KA]
 have B4:Xi=AT (Am (Be A2) (AB 2)) (AT (Am (A1 EQ π υ) (AB 3)) (AT (Em (Dj Cl) (AB 4) Te) (B1 ψ))):=rfl;rw[Bc,B4,Az,s0,J,B0,Az,s1,J,B0,Az,KO,Jn,J,B0,EC,v2,J,J,Fm,J];exact LF (ws:=B3 (Lg f (c/2) n).1) h _ (JE (Eu _ _)) (CB _) (by rw[C9];rfl) (dU _)
def aE(c:Int){k:Nat}(AQ:k<200):∃y:Int,∀h,Ig [.int c,.int (k:Int)] h=.ok (.int y,h):=by obtain⟨l,AI,e⟩:=bG c (n:=k+1) δ;refine⟨l[k],λh=>?_⟩;have a1:Z π (Z (A1 addW τ ζ) A2) [↥(.int c),↥(.int (k:Int))] h=.ok ([.int c,.int ((k+1:Nat):Int)],h):=rfl;have Bc:Ig [.int c,.int (k:Int)] h=((Xm [↥(.int c),↥(.int (k:Int))] h).bind outF).bind λp=>BJ.settle h p.1 p.2:=rfl;have v1:∀H,I 1 [↥(.int c),↥(.int (k:Int))] H=.ok (.int (k:Int),H):=λ_=>rfl;have DG:A7 (.ref ⇑h) (.int (k:Int)) (h++[⟨.lst,B3 l⟩])=.ok (.int l[k],h++[⟨.lst,B3 l⟩]):=EW (ws:=B3 l) (by rw[C9];rfl) (by simp[B3,AI]);rw[Bc];unfold Xm;rw[EC,AU,EH,a1,J,if_pos (by rfl),e,J,v1,J,DG,J,J,Fm,J];exact Nd h _ _ rfl
end Ds
namespace BJ
def adS{ma:DQ}{ρ:Ay}{h h0:A5}{z:Int}(e:ma ρ h0=.ok ([.int z],h))(h1: -1000<z)(h2:z<1000):Dj ma ρ h0=.ok (KJ 0 z.toNat,h):=by
 rw[qb,e,J];refine if_pos ⟨?_,?_⟩
 .have:(-(2^62):Int)<=-1000:=ε
  lia
 .have:(1000:Int)<=2^62:=ε
  lia
def c_{o:B8}{ma:DQ}{ρ:Ay}{h h1 h2:A5}{p q:Nat}{Gj a b:↑W}(GB:o ρ h=.ok (.ref p,h1))(A9:h1[p]?=↥⟨.lst,Gj⟩)(em:ma ρ h1=.ok ([.ref q],h2))(AG:h2[p]?=↥⟨.lst,a⟩)(DS:h2[q]?=↥⟨.lst,b⟩)(l:⇑(a++b)<=Bi):NQ o ma ρ h=.ok (.non,h2.set p ⟨.lst,a++b⟩):=by unfold NQ;rw[H0,GB];erw[J,Ms,Kl h1 A9,H0,em,SD,Kl h2 AG,cZ,Kl h2 DS,LH];exact if_pos l
end BJ
namespace Ds
def mm{h H:A5}{a b p:Nat}{R:↑AN}{ws:ν}(w:TY h a b R ws H){l:↑Int}(B9:H[p]?=↥⟨.lst,B3 l⟩){k:Nat}(AQ:k< ⇑l)(DI:1<=⇑R)(Ib:⇑R<=24){ρ:Ay}{m:B8}(v4:∀H,I 4 ρ H=.ok (.ref a,H))(v1:∀H,I 1 ρ H=.ok (.ref p,H))(em:∀H,m ρ H=.ok (.int (k:Int),H)) :
  ∃i,∃AA:i< ⇑R,EA K0 (I 4) (Z (A1 Bf (A1 A7 τ m) (BI Bh XL)) A2) ρ H=.ok (AJ R[i],H.set a ⟨.lst,(R.eraseIdx i).map AJ⟩):=by
 obtain⟨i,AA,Fb⟩:=J2 l[k] (n:=⇑R) DI;have DG:A7 (.ref p) (.int (k:Int)) H=.ok (.int l[k],H):=EW B9 (by simp[B3,AQ]);have ln:Bh [.ref a] H=.ok (.int (⇑R:Int),H):=by rw[Ic w.BX,Cd]
 refine⟨i,AA,?_⟩;have Iw:Z (A1 Bf (A1 A7 τ m) (BI Bh XL)) A2 ρ H=.ok ([.int (i:Int)],H):=by rw[AW,AU,AU,v1,J,em,J,DG,J,Fx,AW,v4,J,BH,J,J,ln,J,F5,if_pos δ,J,Fb,BH,J]
 have Yj:i< ⇑(R.map AJ):=by rw[Cd];exact AA
 have po:=acQ (ws:=R.map AJ) Yj (by rw[Cd];lia);rw[MN (us:=[.int (i:Int)]) (ws:=R.map AJ) (ws':=(R.eraseIdx i).map AJ) (r:=AJ R[i]) (v4 H) w.BX Iw w.BX (by rw[po,hx,List.getElem_map]) (by rw[Cd,fQ AA];unfold Bi;lia)]
def ZV:Ap:=(AT (Am (EA K0 (I 4) (Z (A1 Bf (A1 A7 τ (A1 addW (pu (.int 8)) (A1 F3 υ (I 7)))) (BI Bh XL)) A2)) (AB 8))
    (Di (EA Ej (I 6) (Z (BE (Z (I 8) (Z (EA K0 (I 4) (Z (A1 Bf (A1 A7 τ (A1 addW (pu (.int 9)) (A1 F3 υ (I 7)))) (BI Bh XL)) A2)) A2))) A2))))
noncomputable def MK(c m:Int)(p n a b:Nat)(s5 D9 D5:Option W):Ay:=[↥(.int c),↥(.ref p),↥(.int m),Ξ,↥(.ref a),s5,ST,D9,D5]
def ac9{h H:A5}{c m:Int}{a b p n:Nat}{al R:↑AN}{ws:ν}(w:TY h a b R ws H)(pm:(ends ws++R).Perm al)(Ib:⇑al<=24)(Ct:2<=⇑R){l:↑Int}(B9:H[p]?=↥⟨.lst,B3 l⟩)(QI:p≠a)(l3:p≠b){k:Nat}(AQ:9+2*k< ⇑l)(s5 D5:Option W) :
  ∃pe Ut x,ZV (MK c m p n a b s5 ↥(.int (k:Int)) D5) H=.ok (.AP (MK c m p n a b s5 ↥(.int (k:Int)) pe),(H.set a ⟨.lst,Ut.map AJ⟩).set b ⟨.lst,(ws++[x]).map CJ⟩)/\(ends (ws++[x])++Ut).Perm al/\ ⇑Ut+2=⇑R:=by
 have H7:⇑(ends ws)+⇑R=⇑al:=by have:=pm.length_eq;simpa using this
 rw[ax]at H7;obtain⟨ρ,Ab⟩:∃ρ:Option W->Ay,ρ=λs=>MK c m p n a b s5 ↥(.int (k:Int)) s:=ο;have v1:∀s H,I 1 (ρ s) H=.ok (.ref p,H):=by rw[Ab];exact λ_ _=>rfl
 have v4:∀s H,I 4 (ρ s) H=.ok (.ref a,H):=by rw[Ab];exact λ_ _=>rfl
 have v6:∀s H,I 6 (ρ s) H=.ok (.ref b,H):=by rw[Ab];exact λ_ _=>rfl
 have L_:∀s H,I 7 (ρ s) H=.ok (.int (k:Int),H):=by rw[Ab];exact λ_ _=>rfl
 have QS:∀s H,I 8 (ρ ↥s) H=.ok (s,H):=by rw[Ab];exact λ_ _=>rfl
 have afc:∀w s H,AB 8 w (ρ s) H=.ok (.AP (ρ ↥w),H):=by rw[Ab];exact λ_ _ _=>rfl
 have ex:∀(z:Nat) s H,A1 addW (pu (.int (z:Int))) (A1 F3 υ (I 7)) (ρ s) H=.ok (.int ((z+2*k:Nat):Int),H):=λz s H=>by have Ii:F3 (.int 2) (.int (k:Int)) H=.ok (.int (2*(k:Int)),H):=rfl;rw[AU,Ag,J,AU,Ag,J,L_,J,Ii,J,Kv,show(z:Int)+2*(k:Int)=((z+2*k:Nat):Int)by lia]
 obtain⟨i,AA,A9⟩:=mm w B9 (k:=8+2*k) δ δ δ (v4 D5) (v1 D5) (ex 8 D5);obtain⟨Cc,i2⟩:∃x,x=R[i]:=ο;obtain⟨FY,RI⟩:∃FY,FY=R.eraseIdx i:=ο;have aii:⇑FY+1=⇑R:=by rw[RI,fQ AA];lia
 rw[<-i2,<-RI]at A9;obtain⟨H1,ZF⟩:∃H1,H1=H.set a ⟨.lst,FY.map AJ⟩:=⟨_,rfl⟩;rw[<-ZF]at A9;have FW:TY h a b FY ws H1:=by rw[ZF];exact⟨LS w.BX,by rw[IE w.ne];exact w.B4,w.ne,w.Ju,w.Jv,WC w.pr w.Ju _⟩
 have ue:H1[p]?=↥⟨.lst,B3 l⟩:=by rw[ZF,IE (K6 QI)];exact B9
 obtain⟨j,An,AG⟩:=mm FW ue (k:=9+2*k) AQ δ δ (v4 ↥(AJ Cc)) (v1 _) (ex 9 _);obtain⟨CK,i3⟩:∃x,x=FY[j]:=ο;obtain⟨D6,Po⟩:∃D6,D6=FY.eraseIdx j:=ο;have aij:⇑D6+1=⇑FY:=by rw[Po,fQ An];lia
 rw[<-i3,<-Po]at AG;obtain⟨AH,bJ⟩:∃AH,AH=H1.set a ⟨.lst,D6.map AJ⟩:=⟨_,rfl⟩;rw[<-bJ]at AG;have vU:AH[b]?=↥⟨.lst,ws.map CJ⟩:=by rw[bJ,IE w.ne];exact FW.B4
 have Iw:Z (BE (Z (I 8) (Z (EA K0 (I 4) (Z (A1 Bf (A1 A7 τ (A1 addW (pu (.int 9)) (A1 F3 υ (I 7)))) (BI Bh XL)) A2)) A2))) A2 (ρ ↥(AJ Cc)) H1=.ok ([CJ (Cc,CK)],AH):=by have AG:EA K0 (I 4) (Z (A1 Bf (A1 A7 τ (A1 addW (pu (.int 9)) (A1 F3 υ (I 7)))) (BI Bh XL)) A2) (ρ ↥(AJ Cc)) H1=.ok (AJ CK,AH):=AG;rw[AW,HF,AW,QS,J,AW,AG,J,BH];rfl
 have s2:=MN (f:=Ej) (m:=I 6) (us:=[CJ (Cc,CK)]) (ws':=(ws++[(Cc,CK)]).map CJ) (r:=.non) (v6 ↥(AJ Cc) H1) FW.B4 Iw vU (by simp[Ej]) (by rw[Cd,EL,MB];unfold Bi;lia);refine⟨↥(AJ Cc),D6,(Cc,CK),?_,?_,δ⟩
 .have vN:Am (EA K0 (I 4) (Z (A1 Bf (A1 A7 τ (A1 addW (pu (.int 8)) (A1 F3 υ (I 7)))) (BI Bh XL)) A2)) (AB 8) (ρ D5) H=.ok (.AP (ρ ↥(AJ Cc)),H1):=by
    have A9:EA K0 (I 4) (Z (A1 Bf (A1 A7 τ (A1 addW (pu (.int 8)) (A1 F3 υ (I 7)))) (BI Bh XL)) A2) (ρ D5) H=.ok (AJ Cc,H1):=A9;rw[DV,A9,J,afc]
  have B5:MK c m p n a b s5 ↥(.int (k:Int)) D5=ρ D5:=by rw[Ab]
  rw[B5];unfold ZV;rw[Az,vN,J,B0,IG,s2,J,Ab,bJ,ZF,List.set_set]
 .have Aq:(Cc::FY).Perm R:=by rw[i2,RI];exact cX R i AA
  have BV:(CK::D6).Perm FY:=by rw[i3,Po];exact cX FY j An
  rw[ub,EZ];refine List.Perm.trans (fk _ ?_) pm;show(Cc::CK::D6).Perm R;exact(BV.cons Cc).trans Aq
def Yc:Ap:=(Di (NQ (I 4) (Z (CW 1 [5] (Dj (Z (A1 A7 Ψ (I 5)) A2)) (AB 0) ac (BE (Z τ Ω))) A2)))
noncomputable def M5(c m:Int)(p n a:Nat)(s5:Option W):Ay:=[↥(.int c),↥(.ref p),↥(.int m),Ξ,↥(.ref a),s5,none,none,none]
def vg{H:A5}{c m:Int}{p n a j:Nat}{cs:↑Nat}(Ez:⇑cs<=6)(F_:∀c∈cs,1<=c/\c<=4)(An:j< ⇑cs)(B2:H[n]?=↥⟨.lst,Bw cs⟩)(BX:H[a]?=↥⟨.lst,(Dz cs j).map AJ⟩) :
  Yc (M5 c m p n a ↥(.int (j:Int))) H=.ok (.AP (M5 c m p n a ↥(.int (j:Int))),(H++[(⟨.lst,(I6 cs j).map AJ⟩:O)]).set a ⟨.lst,(Dz cs (j+1)).map AJ⟩):=by
 obtain⟨ρ,Ab⟩:∃ρ,ρ=M5 c m p n a ↥(.int (j:Int)):=ο;have E2:∀H,I 3 ρ H=.ok (.ref n,H):=by rw[Ab];exact λ_=>rfl
 have v4:∀H,I 4 ρ H=.ok (.ref a,H):=by rw[Ab];exact λ_=>rfl
 have Fp:∀H,I 5 ρ H=.ok (.int (j:Int),H):=by rw[Ab];exact λ_=>rfl
 have KX:cs.getD j 0<=4:=cw (λc AK=>(F_ c AK).2) j;have DG:A7 KK (.int (j:Int)) H=.ok (.int (cs.getD j 0:Nat),H):=EW B2 (by simp[Bw,An]);have Ed:=ZA (mi:=Dj (Z (A1 A7 Ψ (I 5)) A2)) (e:=BE (Z τ Ω)) (ρ:=ρ) (h:=H) (h0:=H) (caps:=[5]) 0 (cs.getD j 0) (λk=>AJ (j,k)) δ (LD (by rw[AW,AU,E2,J,Fp,J,DG,J,BH,J]) δ) (λk AQ acc=>by rw[Ab];simp[M5,Bi,AJ]);have Bc:(Cg (cs.getD j 0)).map (λk=>AJ (j,k))=(I6 cs j).map AJ:=by simp[I6,Sc]
 rw[Bc]at Ed;have Q4:=Vg F_ (j+1);have Ju:=HN BX;have dM:⇑((Dz cs j).map AJ++(I6 cs j).map AJ)<=Bi:=by have:=Q4;rw[Vh]at this;rw[EL]at this |-;rw[Cd,Cd];unfold Bi;lia
 have ex:=c_ (v4 H) BX (show Z (CW 1 [5] (Dj (Z (A1 A7 Ψ (I 5)) A2)) (AB 0) ac (BE (Z τ Ω))) A2 ρ H=.ok ([.ref ⇑H],H++[⟨.lst,(I6 cs j).map AJ⟩])by rw[AW,Ed,J,BH,J]) (CE _ BX _) (by rw[C9];rfl) dM;rw[<-Ab];unfold Yc;rw[IG,ex,J,Vh,Hg]
def six(m:Nat)(hm:m<6):∃v:Nat,2<=v/\v<=4/\∀H:A5,A7 (.ref ⇑H) (.int (m:Int)) (H++[⟨.lst,[.int 4,.int 4,.int 4,.int 3,.int 2,.int 2]⟩])=.ok (.int (v:Int),H++[⟨.lst,[.int 4,.int 4,.int 4,.int 3,.int 2,.int 2]⟩]):=by
 have z:∀H:A5,(H++[(⟨.lst,[.int 4,.int 4,.int 4,.int 3,.int 2,.int 2]⟩:O)])[⇑H]?=↥⟨.lst,[.int 4,.int 4,.int 4,.int 3,.int 2,.int 2]⟩:=λH=>by rw[C9];rfl
 rcases(by lia:m=0\/m=1\/m=2\/m=3\/m=4\/m=5)with rfl|rfl|rfl|rfl|rfl|rfl
 .exact⟨4,ε,ε,λH=>EW (z H) rfl⟩
 .exact⟨4,ε,ε,λH=>EW (z H) rfl⟩
 .exact⟨4,ε,ε,λH=>EW (z H) rfl⟩
 .exact⟨3,ε,ε,λH=>EW (z H) rfl⟩
 .exact⟨2,ε,ε,λH=>EW (z H) rfl⟩
 .exact⟨2,ε,ε,λH=>EW (z H) rfl⟩
def aaU(c:Int)(h:A5):∃(cs:↑Nat)(ws:ν)(a b:Nat)(H:A5),IK cs ws/\(∃Du∈Dz cs ⇑cs,Du∉ends ws)/\h<+: H/\H[a]?=↥⟨.lst,Bw cs⟩/\H[b]?=↥⟨.lst,ws.map CJ⟩/\UF [.int c] h=.ok (.tup [.ref a,.ref b],H):=by
 obtain⟨l,AI,el⟩:=bG c (n:=40) ε;have el:∀h,Kt [.int c,.int 40] h=.ok (.ref ⇑h,h++[⟨.lst,B3 l⟩]):=el;obtain⟨m0,wc,em⟩:=J2 l[0] (n:=6) ε;have em:l[0]%6=(m0:Int):=em;obtain⟨m,bK⟩:∃m,m=1+m0:=ο;obtain⟨v,v2,ajw,ev⟩:=six m0 wc;obtain⟨f,C2⟩:∃f:Nat->Nat,∀k,(1<=f k/\f k<=4)/\1+l.getD (1+k) 0%(v:Int)=(f k:Int):=by refine⟨λk=>(1+l.getD (1+k) 0%(v:Int)).toNat,λk=>?_⟩;obtain⟨x,AM,e⟩:=J2 (l.getD (1+k) 0) (n:=v) δ;dsimp only;rw[e];constructor<;>lia
 obtain⟨cs,bQ⟩:∃cs,cs=(Cg m).map f:=ο;have lcs:⇑cs=m:=by rw[bQ];simp
 have F_:∀c∈cs,1<=c/\c<=4:=λc AK=>by rw[bQ]at AK;obtain⟨k,_,rfl⟩:=List.mem_map.mp AK;exact(C2 k).1
 have aas:Bw cs=(Cg m).map λk=>W.int (f k:Int):=by rw[bQ];simp[Bw,Sc]
 obtain⟨H1,A9⟩:∃H1:A5,H1=h++[⟨.lst,B3 l⟩]:=ο;have EI:⇑H1=⇑h+1:=by rw[A9];simp
 have FP:H1[⇑h]?=↥⟨.lst,B3 l⟩:=by rw[A9,C9];rfl
 obtain⟨AH,AG⟩:∃AH:A5,AH=H1++[⟨.lst,Bw cs⟩]:=ο;have BN:⇑AH=⇑H1+1:=by rw[AG];simp
 have FE:AH[⇑H1]?=↥⟨.lst,Bw cs⟩:=by rw[AG,C9];rfl
 have WV:AH[⇑h]?=↥⟨.lst,B3 l⟩:=by rw[AG];exact CE _ FP _
 have Cm:h<+: AH:=by rw[AG,A9];exact Fv (Eu _ _) _
 have s1:Am (Aa 2 Kt (Z π (Z (pu (.int 40)) A2))) (AB 1) [↥(.int c),none,none,none,none,none,none,none,none] h=.ok (.AP [↥(.int c),χ,none,none,none,none,none,none,none],H1):=by
  have q:Aa 2 Kt (Z π (Z (pu (.int 40)) A2)) [↥(.int c),none,none,none,none,none,none,none,none] h=.ok (.ref ⇑h,H1):=by rw[A9];exact L4 (us:=[.int c,.int 40]) (h1:=h) rfl rfl (el h)
  rw[DV,q];rfl
 have s2:Am (A1 addW ζ (A1 Bf (A1 A7 τ η) (pu (.int 6)))) (AB 2) [↥(.int c),χ,none,none,none,none,none,none,none] H1=.ok (.AP [↥(.int c),χ,↥(.int (m:Int)),none,none,none,none,none,none],H1):=by have DG:A7 (.ref ⇑h) (.int 0) H1=.ok (.int l[0],H1):=EW (k:=0) FP (by simp[B3,AI]);have v1:I 1 [↥(.int c),χ,none,none,none,none,none,none,none] H1=.ok (.ref ⇑h,H1):=rfl;rw[DV,AU,Ag,J,AU,AU,v1,J,Ag,J,DG,J,Ag,J,F5,if_pos ε,J,em,Kv,J,show(1:Int)+(m0:Int)=(m:Int)by lia];rfl
 have s3:Am (CW 1 [1,2] (Dj (Z ψ A2)) (AB 0) ac (CI (A1 addW ζ (A1 Bf (A1 A7 τ (A1 addW ζ π)) (A1 A7 (Be (Z Γ (Z Γ (Z Γ (Z Fr (Z υ (Z υ A2))))))) (A1 J4 ψ ζ)))))) (AB 3) [↥(.int c),χ,↥(.int (m:Int)),none,none,none,none,none,none] H1=.ok (.AP [↥(.int c),χ,↥(.int (m:Int)),↥(.ref ⇑H1),none,none,none,none,none],AH):=by
  have Ed:=ZA (mi:=Dj (Z ψ A2)) (e:=(CI (A1 addW ζ (A1 Bf (A1 A7 τ (A1 addW ζ π)) (A1 A7 (Be (Z Γ (Z Γ (Z Γ (Z Fr (Z υ (Z υ A2))))))) (A1 J4 ψ ζ)))))) (ρ:=[↥(.int c),χ,↥(.int (m:Int)),none,none,none,none,none,none]) (h:=H1) (h0:=H1) (caps:=[1,2]) 0 m (λk=>.int (f k:Int)) δ (LD rfl δ) (λk AQ acc=>by
   obtain⟨G,Vu⟩:∃G:A5,G=H1++[⟨.lst,acc⟩]:=ο;rw[<-Vu];have QU:G[⇑h]?=↥⟨.lst,B3 l⟩:=by rw[Vu];exact CE _ FP _
   obtain⟨ρ,Ab⟩:∃ρ:Ay,ρ=↥(.int (0+(k:Int)))::[1,2].map (λj=>([↥(.int c),χ,↥(.int (m:Int)),none,none,none,none,none,none]:Ay).getD j none):=ο;have Jg:∀H,I 0 ρ H=.ok (.int (k:Int),H):=λH=>by rw[Ab,gH];rfl
   have FW:∀H,I 1 ρ H=.ok (.ref ⇑h,H):=λH=>by rw[Ab];rfl
   have G3:∀H,I 2 ρ H=.ok (.int (m:Int),H):=λH=>by rw[Ab];rfl
   have DG:A7 (.ref ⇑h) (.int ((1+k:Nat):Int)) G=.ok (.int (l.getD (1+k) 0),G):=EW QU (by
    have:1+k< ⇑l:=δ
    rw[B3,Dl,C3 this,Fg,C3 this];rfl)
   have Ih:Be (Z Γ (Z Γ (Z Γ (Z Fr (Z υ (Z υ A2)))))) ρ G=.ok (.ref ⇑G,G++[⟨.lst,[.int 4,.int 4,.int 4,.int 3,.int 2,.int 2]⟩]):=rfl;have HD:∀H,J4 (.int (m:Int)) (.int 1) H=.ok (.int (m0:Int),H):=λH=>by show BJ.R.ok (W.int ((m:Int)-1),H)=_;rw[show(m:Int)-1=(m0:Int)by lia]
   rw[<-Ab,FV,AU,Ag,J,AU,AU,FW,J,AU,Ag,J,Jg,J,Kv,J,show(1:Int)+(k:Int)=((1+k:Nat):Int)by lia,DG,J,AU,Ih,J,AU,G3,J,Ag,J,HD,J,ev,J,F5,if_pos δ,J,Kv,(C2 k).2,J];exact Nd _ _ _ rfl)
  rw[<-aas,<-AG]at Ed;rw[DV,Ed];rfl
 obtain⟨BP,DS⟩:∃BP:A5,BP=AH++[⟨.lst,[]⟩]:=ο;have s4:Am (Be A2) (AB 4) [↥(.int c),χ,↥(.int (m:Int)),↥(.ref ⇑H1),none,none,none,none,none] AH=.ok (.AP (M5 c m ⇑h ⇑H1 ⇑AH none),BP):=by rw[DS];rfl
 have BU:=Ends.HB (Pq (mi:=Dj (Z (BI Bh (Z Ψ A2)) A2)) (g:=AB 5) (b:=Yc) (ρ:=M5 c m ⇑h ⇑H1 ⇑AH none) (h:=BP) (h0:=BP) 0 ⇑cs δ (λj ρ H=>(∃s,ρ=M5 c m ⇑h ⇑H1 ⇑AH s)/\AH<+: H/\H[⇑AH]?=↥⟨.lst,(Dz cs j).map AJ⟩) (T:=λCH H=>(∃s,CH=.AP (M5 c m ⇑h ⇑H1 ⇑AH s))/\AH<+: H/\H[⇑AH]?=↥⟨.lst,(Dz cs ⇑cs).map AJ⟩) (LD (by
  have E2:I 3 (M5 c m ⇑h ⇑H1 ⇑AH none) BP=.ok (.ref ⇑H1,BP):=rfl;have ln:Bh [.ref ⇑H1] BP=.ok (.int (⇑cs:Int),BP):=by rw[Ic (by rw[DS];exact CE _ FE _)];simp[Bw]
  rw[AW,Fx,AW,E2,J,BH,J,J,ln,J,BH,J]) δ) ⟨⟨_,rfl⟩,by rw[DS];exact Eu _ _,by rw[DS,C9];rfl⟩ (by
  rintro j _ H An ⟨⟨s,rfl⟩,pr,BX⟩;refine⟨M5 c m ⇑h ⇑H1 ⇑AH ↥(.int (j:Int)),H,by simp[M5],?_⟩;have Ju:=HN BX;exact⟨_,_,vg δ F_ An (Ea pr FE) BX,⟨_,rfl⟩,WC (Fv pr _) (CB _) _,LS (CE _ BX _)⟩) (by
  rintro _ H ⟨⟨s,rfl⟩,pr,BX⟩;exact⟨⟨_,rfl⟩,pr,BX⟩))
 obtain⟨_,DX,Jn,⟨s5,rfl⟩,Ov,bN⟩:=BU;have Q4:1<=⇑(Dz cs ⇑cs):=XD (head_mem δ F_);have Ib:=Vg F_ ⇑cs;have Ib:⇑(Dz cs ⇑cs)<=24:=δ
 obtain⟨al,bO⟩:∃al,al=Dz cs ⇑cs:=ο;have aaP:al.Nodup:=by rw[bO];exact hM _ _
 have kT:∀d∈al,d∈Dz cs ⇑cs:=λd hd=>by rw[bO]at hd;exact hd
 rw[<-bO]at bN Q4 Ib;obtain⟨Ch,GA⟩:∃Ch:A5,Ch=DX++[⟨.lst,[]⟩]:=ο;have ail:=HN bN;have Jg:TY AH ⇑AH ⇑DX al [] Ch:=⟨by rw[GA];exact CE _ bN _,by rw[GA,C9];rfl,δ,CB _,Ov.length_le,by rw[GA];exact Fv Ov _⟩;have CQ:Am (Be A2) (AB 6) (M5 c m ⇑h ⇑H1 ⇑AH s5) DX=.ok (.AP (MK c m ⇑h ⇑H1 ⇑AH ⇑DX s5 none none),Ch):=by rw[GA];rfl
 obtain⟨i4,ajE,RH⟩:=J2 (l.getD 7 0) (n:=2) ε;have RH:l.getD 7 0%2=(i4:Int):=RH;obtain⟨z,uq⟩:∃z:Int,z=((⇑al:Int)-1)/2-(i4:Int):=ο;have U5:2*z+1<=(⇑al:Int)/\-2<=z:=δ
 have lw:=Ends.HB (Pq (mi:=Dj (Z (A1 J4 (A1 EQ (A1 J4 (BI Bh XL) ζ) υ) (A1 Bf (A1 A7 τ (pu (.int 7))) υ)) A2)) (g:=AB 7) (b:=ZV) (ρ:=MK c m ⇑h ⇑H1 ⇑AH ⇑DX s5 none none) (h:=Ch) (h0:=Ch) 0 z.toNat δ (λj ρ H=>(∃D9 D5,ρ=MK c m ⇑h ⇑H1 ⇑AH ⇑DX s5 D9 D5)/\∃R ws,(ends ws++R).Perm al/\ ⇑ws=j/\TY AH ⇑AH ⇑DX R ws H) (T:=λCH H=>(∃D9 D5,CH=.AP (MK c m ⇑h ⇑H1 ⇑AH ⇑DX s5 D9 D5))/\∃R ws,(ends ws++R).Perm al/\ ⇑ws=z.toNat/\TY AH ⇑AH ⇑DX R ws H) (adS (by
  obtain⟨ρ,Ab⟩:∃ρ,ρ=MK c m ⇑h ⇑H1 ⇑AH ⇑DX s5 none none:=ο;have v4:∀H,I 4 ρ H=.ok (.ref ⇑AH,H):=by rw[Ab];exact λ_=>rfl
  have v1:∀H,I 1 ρ H=.ok (.ref ⇑h,H):=by rw[Ab];exact λ_=>rfl
  have ln:Bh [.ref ⇑AH] Ch=.ok (.int (⇑al:Int),Ch):=by rw[Ic Jg.BX,Cd]
  have DG:A7 (.ref ⇑h) (.int 7) Ch=.ok (.int (l.getD 7 0),Ch):=EW (k:=7) (Ea Jg.pr WV) (by
   have:7< ⇑l:=δ
   rw[B3,Dl,C3 this,Fg,C3 this];rfl)
  have HD:∀(x y:Int) H,J4 (.int x) (.int y) H=.ok (.int (x-y),H):=λ_ _ _=>rfl;rw[<-Ab,AW,AU,AU,AU,Fx,AW,v4,J,BH,J,J,ln,J,Ag,J,HD,J,Ag,J,Kw,if_pos ε,J,AU,AU,v1,J,Ag,J,DG,J,Ag,J,F5,if_pos ε,J,RH,HD,J,BH,J,<-uq]) δ δ) ⟨⟨_,_,rfl⟩,al,[],.refl _,rfl,Jg⟩ (by
  rintro j _ H An ⟨⟨D9,D5,rfl⟩,R,ws,pm,jv,w⟩;have V7:⇑(ends ws)+⇑R=⇑al:=by have:=pm.length_eq;simpa using this
  rw[ax]at V7;refine⟨MK c m ⇑h ⇑H1 ⇑AH ⇑DX s5 ↥(.int (j:Int)) D5,H,by simp[MK],?_⟩;obtain⟨pe,Ut,x,B4,acN,aih⟩:=ac9 (c:=c) (m:=m) (n:=⇑H1) w pm Ib δ (Ea w.pr WV) δ δ (k:=j) δ s5 D5;exact⟨_,_,B4,⟨_,_,rfl⟩,Ut,ws++[x],acN,by rw[EL,MB,jv],⟨by rw[IE (K6 w.ne)];exact LS w.BX,LS (by rw[IE w.ne];exact w.B4),w.ne,w.Ju,w.Jv,WC (WC w.pr w.Ju _) w.Jv _⟩⟩) (by
  rintro _ H ⟨⟨D9,D5,rfl⟩,q⟩;exact⟨⟨_,_,rfl⟩,q⟩))
 obtain⟨_,DC,Ck,⟨D9,D5,rfl⟩,R,ws,pm,jv,w⟩:=lw;have V7:⇑(ends ws)+⇑R=⇑al:=by have:=pm.length_eq;simpa using this
 rw[ax]at V7;have Bj:(ends ws++R).Nodup:=pm.nodup_iff.mpr aaP;have DI:0< ⇑R:=δ
 have T5:R[0]∈R:=J9 _;refine⟨cs,ws,⇑H1,⇑DX,DC,⟨δ,δ,F_,(List.nodup_append.mp Bj).1,λd hd=>kT _ (pm.mem_iff.mp (Gx _ hd)),δ⟩,⟨R[0],kT _ (pm.mem_iff.mp (Hz _ T5)),λy=>(List.nodup_append.mp Bj).2.2 _ y _ T5 rfl⟩,Cm.trans w.pr,Ea w.pr FE,w.B4,?_⟩;have Bc:UF [.int c] h=(YA [↥(.int c),none,none,none,none,none,none,none,none] h).bind outF:=rfl;have B4:YA=AT (Am (Aa 2 Kt (Z π (Z (pu (.int 40)) A2))) (AB 1)) (AT _ (AT _ (AT (Am (Be A2) (AB 4)) (AT (Em (Dj (Z (BI Bh (Z Ψ A2)) A2)) (AB 5) Yc) (AT (Am (Be A2) (AB 6)) (AT (Em _ (AB 7) ZV) (B1 (BE (Z Ψ (Z (I 6) A2)))))))))):=rfl;rw[Bc,B4,Az,s1,J,B0,Az,s2,J,B0,Az,s3,J,B0,Az,s4,J,B0,Az,KO,Jn,J,B0,Az,CQ,J,B0,Az,KO,Ck,J,B0];rfl
section
variable{C:FR}{h h':A5}{S:Eo}
def GK(l:Lt):AN:=l.pre.headD l.d
def VY{e:Lt×Tl}(h:e∈S.ended):e.1∈Cr S:=Hz _ (List.mem_map.mpr ⟨e,h,rfl⟩)
def RA(S:Eo)(q:Nat)(d:AN)(a:Nat):Eo:={ S with CS:=S.CS+1,lets:=S.lets++[Ot S q d a] }
def sm{q:Nat}{d:AN}{a:Nat}{y:Lt}:y∈Cr (RA S q d a)↔y∈Cr S\/y=Ot S q d a:=by erw[Cr,RA,Hf,MC];exact⟨λh=>by rcases h with(h|h)|h<;>simp[h],λh=>by rcases h with(h|h)|h<;>simp[h]⟩
def aeb{h h1:A5}{ws:↑W}(p:FO h h1=true)(e:Fu ws=false):settle h (.tup ws) h1=.ok (.tup ws,h1):=by unfold BJ.settle;erw[p,if_true,DU,e];rfl
def xD(S:Eo)(EI:↑Lt)(l:Lt)(BN:↑Lt)(t:Tl):(Hm S EI l BN t).CS=S.CS:=by cases t<;>rfl
def xE(S:Eo)(EI:↑Lt)(l:Lt)(BN:↑Lt)(t:Tl):(Hm S EI l BN t).Cx=S.Cx+1:=by cases t<;>rfl
def F9.to(c:GQ C)(R:F9 C h S)(e:∀n,n< ⇑h->¬(C.M+3<=n/\n<C.T)->h'[n]?=h[n]?)(l:⇑h<=⇑h'):F9 C h' S:=by have Ee:=c.Ee;have KI:=c.KI;have D4:=c.D4;have AI:=R.AI;have g:∀{n:Nat}{o:O},h[n]?=↥o->¬(C.M+3<=n/\n<C.T)->h'[n]?=↥o:=λ{n o} a b=>(e n (HN a) b).trans a;refine⟨λn o' k ne=>g (R.DH n o' k ne) (by have:=HN k;lia),g R.B5 δ,g R.Bc δ,g R.el δ,g R.Gc δ,λy Af=>?_,R.Bj,R.nn,R.IB,R.Ni,R.few,R.le,δ,R.pr⟩;have x:=R.lt y Af;have:=x.t1;have:=x.Cn;exact⟨g x.GB δ,g x.Bc δ,x.m,x.a,x.d,x.t1,x.Cn⟩
end
end Ds
namespace BJ
def tx{it:Pg}{m e:B8}{ρ:Ay}{h:A5}{n:Nat}{AZ:↑Key}{ws us:↑W}(g:W->W)(AI:⇑us<1000)(em:m ρ h=.ok (.ref n,h))(B2:h[n]?=↥⟨.BM AZ,ws⟩)(hit:∀j h',j<=⇑us->it AZ ws j h'=↥us[j]?)(DO:∀w∈us,∀acc,e [↥w] (h.set n ⟨.G9 AZ,ws⟩++[⟨.lst,acc⟩])=.ok (g w,h.set n ⟨.G9 AZ,ws⟩++[⟨.lst,acc⟩])) :
  Lv it 1 [] m (AB 0) ac e ρ h=.ok (.ref ⇑h,h++[⟨.lst,us.map g⟩]):=by
 have Ae:n< ⇑h:=(List.getElem?_eq_some_iff.mp B2).1;obtain⟨H,B_⟩:∃H:A5,H=h.set n ⟨.G9 AZ,ws⟩:=⟨_,rfl⟩;rw[<-B_]at DO;have Q5:⇑H=⇑h:=by rw[B_];simp
 have Et:H[n]?=↥⟨.G9 AZ,ws⟩:=by rw[B_];exact LJ Ae
 have c:=Mm (mi:=pu (it AZ ws)) (it:=it AZ ws) (g:=AB 0) (t:=pu true) (e:=e) (ρ:=ρ) (h:=H) (h0:=H) (nl:=1) (caps:=[]) us (λ_=>true) g (λρ=>∃s,ρ=[s]) AI rfl ⟨none,rfl⟩ (λj acc An=>hit j _ An) (by rintro w hw ρ acc ⟨s,rfl⟩;exact⟨[↥w],rfl,⟨_,rfl⟩,rfl,λ_=>DO w hw acc⟩)
 rw[List.filter_eq_self.mpr (λ_ _=>rfl)]at c;unfold Lv;rw[H0,em,J];erw[B2];rw[<-B_,c];unfold eX;erw[Fz (show n< ⇑H by lia),Et];rw[B_,qI B2];simp
theorem UH{α β Nh:Type}{f:α->β}{r:β->Option Nh}{g:α->Nh}:∀{L:↑α},(∀x∈L,r (f x)=↥(g x))->(L.map f).mapM r=↥(L.map g)
 |[],_=>rfl
 |x::L,h=>by rw[EM,O0,h x γ,UH λy Af=>h y (by simp[Af])];rfl
end BJ
namespace Ds
section
variable{C:FR}{h:A5}{S:Eo}
end
section
variable{C:FR}{h:A5}{S:Eo}
def Ob(q:Nat)(e:Lt×Tl):W:=.tup [.int (e.1.n:Int),.int (e.1.m:Int),AJ (GK e.1),.int (e.1.a:Int),.ref q,EK e.2]
def JT:Nat->↑(Lt×Tl)->↑W
 |_,[]=>[]
 |q,e::r=>Ob q e::JT (q+1) r
theorem kj(x:Lt×Tl):∀(L:↑(Lt×Tl))(q:Nat),JT q (L++[x])=JT q L++[Ob (q+⇑L) x]
 |[],q=>rfl
 |e::r,q=>by rw[Ij,JT,kj x r,FF,show q+1+⇑r=q+(⇑r+1)by lia];rfl
theorem dh:∀(L:↑(Lt×Tl))(q:Nat),⇑(JT q L)=⇑L
 |[],_=>rfl
 |_::r,q=>by rw[JT,FF,dh r,FF]
def dg:Ap:=Di (EA Ej τ (Z (CI (BE (Z ψ (Z (BD (B6 "Letter" "mark") Ψ) (Z (A1 A7 (BD (B6 "Letter" "doors") Ψ) η) (Z (BD (B6 "Letter" "address") Ψ) (Z (BI FD (Z (BD (B6 "Letter" "doors") Ψ) A2)) XL))))))) A2))
def Jt(h:A5)(E:↑(Lt×Tl)):A5:=h++(⟨.lst,JT (⇑h+1) E⟩::E.map λe=>Lh e.1)
def yx(c:GQ C)(R:F9 C h S)(hm:S.Cx<900000):SJ [.ref C.r] h=.ok (.ref ⇑h,Jt h S.ended):=by
 have few:=R.few;have le:=R.le
 have BU:=Th (mi:=CN (BD (B6 "Run" "ended") π)) (it:=Fd (.ref (C.M+2))) (g:=Dh [(AB 2),(AB 3),(AB 4)]) (b:=dg) (ρ:=[ι,χ,none,none,none]) (h:=Jt h []) (h0:=Jt h []) (S.ended.map Nm) (by simp;lia)
  (λj ρ H=>∃s2 s3 s4,ρ=[ι,χ,s2,s3,s4]/\H=Jt h (S.ended.take j)) (T:=λCH H=>∃ρ,CH=.AP ρ/\ρ[1]?=↥↥(.ref ⇑h)/\H=Jt h S.ended) (J0 (CE h R.Gc _) (by rw[H2,v_var];exact EV (CE h R.B5 _) rfl)) (λj ρ H _ q=>by obtain⟨_,_,_,rfl,rfl⟩:=q;exact Kk (CE h R.Gc _) j) ⟨none,none,none,rfl,rfl⟩ (by
  rintro j w ρ H Ck ⟨s2,s3,s4,rfl,B_⟩;have An:j< ⇑S.ended:=by have:=(List.getElem?_eq_some_iff.mp Ck).1;simpa using this
  obtain⟨e,Gc⟩:∃e,e=S.ended[j]:=ο;obtain rfl:w=Nm e:=by rw[Dl,C3 An,<-Gc]at Ck;exact(Ga Ck).symm
  have t:S.ended.take (j+1)=S.ended.take j++[e]:=by rw[List.take_add_one,C3 An,<-Gc];rfl
  have lt:⇑(S.ended.take j)=j:=by rw[LK];lia
  obtain⟨E,Vt⟩:∃E,E=S.ended.take j:=ο;rw[<-Vt]at t lt B_;have x:=R.lt e.1 (VY (by rw[Gc];exact J9 _));have pr:=R.pr e.1 (VY (by rw[Gc];exact J9 _));have Q5:⇑H=⇑h+1+j:=by rw[B_];simp[Jt,lt];lia
  have fF:H[e.1.BU]?=↥(PY e.1):=by rw[B_];exact CE h x.GB _
  have S1:H[e.1.Fa]?=↥(Lh e.1):=by rw[B_];exact CE h x.Bc _
  have Et:H[⇑h]?=↥⟨.lst,JT (⇑h+1) E⟩:=by rw[B_];simp[Jt]
  have Qp:B6 "Letter" "mark" (.ref e.1.BU) H=.ok (.int (e.1.m:Int),H):=EV fF rfl;have ga:B6 "Letter" "address" (.ref e.1.BU) H=.ok (.int (e.1.a:Int),H):=EV fF rfl;have VI:B6 "Letter" "doors" (.ref e.1.BU) H=.ok (.ref e.1.Fa,H):=EV fF rfl;have N_:A7 (.ref e.1.Fa) (.int 0) H=.ok (AJ (GK e.1),H):=by refine EW (k:=0) S1 ?_;cases B9:e.1.pre<;>simp[B9,GK]
  have Ed:FD [.ref e.1.Fa] H=.ok (.ref ⇑H,H++[Lh e.1]):=SC (Gf _ S1) (by simp[Bi];lia);refine⟨[ι,χ,↥(.int (e.1.n:Int)),↥(.ref e.1.BU),↥(EK e.2)],H,by simp[Nm],.AP [ι,χ,↥(.int (e.1.n:Int)),↥(.ref e.1.BU),↥(EK e.2)],_,?_,⟨_,_,_,rfl,rfl⟩⟩;have Tv:CI (BE (Z ψ (Z (BD (B6 "Letter" "mark") Ψ) (Z (A1 A7 (BD (B6 "Letter" "doors") Ψ) η) (Z (BD (B6 "Letter" "address") Ψ) (Z (BI FD (Z (BD (B6 "Letter" "doors") Ψ) A2)) XL)))))) [ι,χ,↥(.int (e.1.n:Int)),↥(.ref e.1.BU),↥(EK e.2)] H=.ok (Ob ⇑H e,H++[Lh e.1]):=by
   have z:BE (Z ψ (Z (BD (B6 "Letter" "mark") Ψ) (Z (A1 A7 (BD (B6 "Letter" "doors") Ψ) η) (Z (BD (B6 "Letter" "address") Ψ) (Z (BI FD (Z (BD (B6 "Letter" "doors") Ψ) A2)) XL))))) [ι,χ,↥(.int (e.1.n:Int)),↥(.ref e.1.BU),↥(EK e.2)] H=.ok (Ob ⇑H e,H++[Lh e.1]):=by simp[Qp,ga,VI,N_,Ed,Bi,Ob]
   rw[FV,z,J];exact aeb (MV _ _) (by simp[Fu,DU])
  unfold dg;rw[IG,MN (n:=⇑h) (us:=[Ob ⇑H e]) (ws:=JT (⇑h+1) E) (ws2:=JT (⇑h+1) E) (ws':=JT (⇑h+1) E++[Ob ⇑H e]) (r:=.non) (h1:=H) (h2:=H++[Lh e.1]) rfl Et (by rw[AW,Tv,J,BH];rfl) (CE H Et _) (by simp[Ej]) (by simp[Bi,dh];lia),J,t,Q5];unfold Jt;rw[kj,B_,lt];simp[Jt]) (by
  rintro ρ H ⟨s2,s3,s4,rfl,rfl⟩;exact⟨_,rfl,rfl,by rw[Nz γ]⟩)
 obtain⟨_,_,Jn,ρ,rfl,Ab,rfl⟩:=BU.HB;have e:SJ [.ref C.r] h=(Xx [ι,none,none,none,none] h).bind outF:=rfl;have s1:Am (Be A2) (AB 1) [ι,none,none,none,none] h=.ok (.AP [ι,χ,none,none,none],Jt h []):=by simp[nw,Bi,Jt,JT]
 rw[e,show Xx=AT (Am (Be A2) (AB 1)) (AT (Em (CN (BD (B6 "Run" "ended") π)) (Dh [(AB 2),(AB 3),(AB 4)]) dg) (B1 τ))from rfl,Az,s1,J,B0,Az,KO,Jn,J,B0,EC,v_var,Ab,Fq,J];rfl
def yw(i:Nat)(e:Lt×Tl)(z:S.ended[i]?=↥e):(Jt h S.ended)[⇑h+1+i]?=↥(Lh e.1):=by unfold Jt;rw[show⇑h+1+i=⇑h+(1+i)by lia,Qs,show 1+i=i+1 by lia,IP,Dl,z];rfl
end
def iT{h:A5}{b:Nat}{B:↑↑CY}(e:∀i,i< ⇑B+1->h[b+i]?=(Gb b B)[i]?):EE h b B:=by
 refine⟨(Cg ⇑B).map λi=>b+1+i,?_,γ,λi r B5=>?_⟩
 .have:=e 0 δ;rw[XW]at this;rw[this];simp[Gb,MW,Sc]
 .rw[Dl]at B5;by_cases AA:i< ⇑B
  .rw[Ny AA]at B5;cases B5;show h[b+1+i]?=_;rw[show b+1+i=b+(i+1)by lia,e (i+1) δ];simp[Gb,Fg,AA]
  .rw[J_ (AA:)]at B5;cases B5
def EE.to{h h':A5}{b:Nat}{B:↑↑CY}(x:EE h b B)(e:∀n,n< ⇑h->h'[n]?=h[n]?):EE h' b B:=by obtain⟨rs,A9,l,r⟩:=x.ex;exact⟨rs,(e _ (HN A9)).trans A9,l,λi q Ac=>(e _ (HN (r i q Ac))).trans (r i q Ac)⟩
section
variable{cs:↑Nat}{ws:ν}{A B:↑↑CY}{ps:↑Co}(h:A5)
def Nc(h:A5)(cs:↑Nat)(ws:ν)(A B:↑↑CY)(ps:↑Co):A5:=h++(OR (⇑h+3) (⇑h+5) (⇑h+6+⇑A) (⇑h+7+⇑A+⇑B) (⇑h+8+⇑A+⇑B) 0::(IV ⇑h cs ws A B ps++[⟨.lst,[]⟩,⟨.BM [],[]⟩,⟨.lst,[]⟩]))
def ada:⇑(Nc h cs ws A B ps)=⇑h+8+⇑A+⇑B+3:=by unfold Nc;rw[EL,FF,EL,WE];simp;lia
def adb:(Nc h cs ws A B ps)[⇑h]?=↥(OR (⇑h+3) (⇑h+5) (⇑h+6+⇑A) (⇑h+7+⇑A+⇑B) (⇑h+8+⇑A+⇑B) 0):=by unfold Nc;simp
def ade{k:Nat}(AQ:k< ⇑A+⇑B+7):(Nc h cs ws A B ps)[⇑h+1+k]?=(IV ⇑h cs ws A B ps)[k]?:=by unfold Nc;rw[show⇑h+1+k=⇑h+(k+1)by lia,Qs,IP,Fz (by rw[WE];exact AQ)]
def ad_(k:Nat):(Nc h cs ws A B ps)[⇑h+8+⇑A+⇑B+k]?=([⟨.lst,[]⟩,⟨.BM [],[]⟩,⟨.lst,[]⟩]:A5)[k]?:=by
 unfold Nc;rw[show⇑h+8+⇑A+⇑B+k=⇑h+(⇑A+⇑B+7+k+1)by lia,Qs,IP,IN (by rw[WE];lia),WE]
 congr 1;lia
def adm:(IV ⇑h cs ws A B ps)[2]?=↥(MS cs ws (⇑h+4)):=by simp[IV]
def adl:(IV ⇑h cs ws A B ps)[3]?=↥(HS ws):=by simp[IV]
def adj{i:Nat}(AA:i< ⇑A+1):(IV ⇑h cs ws A B ps)[4+i]?=(Gb (⇑h+5) A)[i]?:=by
 unfold IV;rw[Fz (by simp[NA];lia),Fz (by simp[NA];lia),IN γ]
 congr 1;simp
def adk{i:Nat}(AA:i< ⇑B+1):(IV ⇑h cs ws A B ps)[5+⇑A+i]?=(Gb (⇑h+6+⇑A) B)[i]?:=by
 unfold IV;rw[Fz (by simp[NA];lia),IN (by simp[NA];lia)]
 congr 1;simp[NA];lia
def adn:(IV ⇑h cs ws A B ps)[6+⇑A+⇑B]?=↥⟨.lst,ps.map (Bx false)⟩:=by
 unfold IV;rw[IN (by simp[NA];lia)];have:6+⇑A+⇑B- ⇑([⟨.lst,Bw cs⟩,⟨.lst,ws.map CJ⟩,MS cs ws (⇑h+4),HS ws]++Gb (⇑h+5) A++Gb (⇑h+6+⇑A) B)=0:=by simp[NA];lia
 rw[this];rfl
end
noncomputable def L8(G:A5)(M:Nat)(ds:↑Nat):A5:=(Cg M).map λn=>if n∈ds then P6 else G.getD n P6
section
variable{G:A5}{M:Nat}{ds:↑Nat}
def kp:⇑(L8 G M ds)=M:=by simp[L8]
def dj{n:Nat}(Ae:n<M):(L8 G M ds)[n]?=↥(if n∈ds then P6 else G.getD n P6):=by unfold L8;rw[Dl,Ny Ae];rfl
def ko{n:Nat}{o:O}(Ae:n<M)(Bj:n∉ds)(e:G[n]?=↥o):(L8 G M ds)[n]?=↥o:=by rw[dj Ae,if_neg Bj,Fg,e];rfl
def yO{n:Nat}{o:O}(e:(L8 G M ds)[n]?=↥o)(ne:o≠P6):n<M/\n∉ds/\G[n]?=↥o:=by
 have Ae:n<M:=by have:=HN e;rwa [kp]at this
 rw[dj Ae]at e;cases e
 split at ne
 .exact absurd rfl ne
 .rename_i Bj;refine⟨Ae,Bj,?_⟩;rw[if_neg Bj,Fg]at*;cases q:G[n]? with
  |none=>rw[q]at ne;exact absurd rfl ne
  |some o=>rfl
def yN{X:A5}(l:⇑X<=M)(Bj:∀d∈ds,⇑X<=d)(e:∀n,n< ⇑X->G[n]?=X[n]?):∀n,n< ⇑X->(L8 G M ds)[n]?=X[n]?:=λn Ae=>by have q:=e n Ae;rw[C3 Ae]at q |-;exact ko δ (λz=>by have:=Bj n z;lia) q
end
noncomputable def b7(L:Nat)(cs:↑Nat)(ws:ν)(A B:↑↑CY)(ps:↑Co)(T:Nat)(K:A5):FR:=
 ⟨cs,ws,A,B,ps,L,L+8+⇑A+⇑B,T,L+3,L+5,L+6+⇑A,L+7+⇑A+⇑B,K⟩
section
variable{h G:A5}{cs:↑Nat}{ws:ν}{A B:↑↑CY}{ps:↑Co}{T:Nat}{ds:↑Nat}
def abC(ex:∀n,⇑h<=n->n< ⇑h+8+⇑A+⇑B+3->G[n]?=(Nc h cs ws A B ps)[n]?)(vE:⇑h∈ds)(dd:∀n∈ds,n<=⇑h)(D4:⇑h+8+⇑A+⇑B+3<=T)(xH:T<=⇑G)(N:IK cs ws)(HV:Gh cs A)(HW:Gh cs B)(P:TS ⇑cs ps) :
  GQ (b7 ⇑h cs ws A B ps T (L8 G (⇑h+8+⇑A+⇑B) ds))/\F9 (b7 ⇑h cs ws A B ps T (L8 G (⇑h+8+⇑A+⇑B) ds)) G ⟨[],0,[],[],0⟩:=by
 obtain⟨K,Nl⟩:∃K,K=L8 G (⇑h+8+⇑A+⇑B) ds:=ο;have V1:∀{k:Nat},k< ⇑A+⇑B+7->K[⇑h+1+k]?=(IV ⇑h cs ws A B ps)[k]?:=λ{k} AQ=>by
  have q:=ex (⇑h+1+k) δ δ;rw[ade h AQ]at q;have l:k< ⇑(IV ⇑h cs ws A B ps):=by rw[WE];exact AQ
  rw[C3 l]at q |-;rw[Nl];exact ko δ (λz=>by have:=dd _ z;lia) q
 rw[<-Nl];constructor
 .refine⟨N,HV,HW,P,⟨⇑h+4,?_,?_⟩,iT λi AA=>?_,iT λi AA=>?_,?_,?_,?_,D4⟩
  .have:=V1 (k:=2) δ;rw[adm]at this;exact this
  .have:=V1 (k:=3) δ;rw[adl]at this;exact this
  .have:=V1 (k:=4+i) (by have:i< ⇑A+1:=AA;lia);rw[adj (A:=A) h AA,show⇑h+1+(4+i)=⇑h+5+i by lia]at this;exact this
  .have:=V1 (k:=5+⇑A+i) (by have:i< ⇑B+1:=AA;lia);rw[adk (B:=B) h AA,show⇑h+1+(5+⇑A+i)=⇑h+6+⇑A+i by lia]at this;exact this
  .have:=V1 (k:=6+⇑A+⇑B) δ;rw[adn,show⇑h+1+(6+⇑A+⇑B)=⇑h+7+⇑A+⇑B by lia]at this;exact this
  .show K[⇑h]?=_;rw[Nl,dj δ,if_pos vE]
  .show⇑K<=⇑h+8+⇑A+⇑B;rw[Nl,kp];exact CB _
 .have DS:∀k,k<3->G[⇑h+8+⇑A+⇑B+k]?=([⟨.lst,[]⟩,⟨.BM [],[]⟩,⟨.lst,[]⟩]:A5)[k]?:=λk AQ=>(ex _ δ δ).trans (ad_ (cs:=cs) (ws:=ws) (A:=A) (B:=B) (ps:=ps) h k);refine⟨λn o k ne=>?_,?_,DS 0 δ,DS 1 δ,DS 2 δ,(λ_ x=>by cases x),Qk,Qk,(λ_ x=>by cases x),(λ_ x=>by cases x),ε,ε,xH,(λ_ x=>by cases x)⟩
  .have k:K[n]?=↥o:=k;rw[Nl]at k;exact(yO k ne).2.2
  .exact(ex _ (CB _) δ).trans (adb h)
end
end Ds
namespace BJ
def agF(m:B8)(ma:DQ)(ρ:Ay)(h:A5):Oh m ma ρ h=(m ρ h).bind λp=>(Ms p.1 (bd ma λus _ h=>match us with
 |[y]=>YS p.1 y h
 |_=>.bad)) ρ p.2:=rfl
def zK{m:B8}{ma:DQ}{ρ:Ay}{h:A5}{n:Nat}{ws:↑W}{y:W}{d:C_}{ds:↑C_}{j:Nat}(em:m ρ h=.ok (.ref n,h))(B2:h[n]?=↥⟨.lst,ws⟩)(BX:ma ρ h=.ok ([y],h))(Bn:Bu 7 h y=↥d)(rs:ws.mapM (Bu 7 h)=↥ds)(FJ:ds.findIdx? (λz=>eqT z d)=↥j)(An:j<1000000):Oh m ma ρ h=.ok (.int (j:Nat),h):=by
 have eo:Bu 8 h KK=↥(.CZ false ds):=by show(match Dw h KK with|some (t,ws)=>(ws.mapM (Bu 7 h)).map (C_.CZ t)|none=>none)=_;rw[Gf h B2];erw[rs,LH]
 rw[agF,em];erw[J,Ms,Kl h B2,H0,BX,YS,Bn,eo,FJ,if_pos An]
end BJ
namespace Ds
section
variable(ws:ν)(B:↑↑CY)(a:Nat)
def AP(d:AN):Tl:=ID ws (B.getD d.1 []) d a
inductive Qz(d:AN):AN->Prop where
 |i6:Qz d d
 |iF {x y:AN} (h:Qz d x) (e:AP ws B a x=.at y):Qz d y
end
noncomputable def Ix(d:AN):C_:=.CZ true [.int (d.1:Nat),.int (d.2:Nat)]
def Zq(k:Nat)(H:A5)(d:AN):Bu (k+2) H (AJ d)=↥(Ix d):=by simp[AJ,Ix,Bu]
def YY(x y:AN):eqT (Ix x) (Ix y)=decide (x=y):=by
 erw[Ix,eqT,GJ,List.isEmpty_nil,XZ,beq_self_eq_true,XY];by_cases e:x=y
 .subst e;simp
 .rw[decide_eq_false e];by_cases A9:x.1=y.1
  .have AG:x.2≠y.2:=λz=>e (Prod.ext A9 z);have:((x.2:Int)==(y.2:Int))=false:=by simp;lia
   rw[this,S_]
  .have:((x.1:Int)==(y.1:Int))=false:=by simp;lia
   rw[this,g0]
def mU(H:A5)(L:↑AN):(L.map AJ).mapM (Bu 7 H)=↥(L.map Ix):=UH λd _=>Zq 5 H d
def bx{H:A5}{n:Nat}{L:↑AN}(b:Bool)(d:AN)(e:H[n]?=↥⟨.lst,L.map AJ⟩):Ce b (AJ d) KK H=.ok (.AL (if b then decide (d∈L)else !decide (d∈L)),H):=by
 have Du:GT H KK (AJ d)=none:=by erw[GT,e]
 have r:Bu 8 H KK=↥(.CZ false (L.map Ix)):=by show(match Dw H KK with|some (t,ws)=>(ws.mapM (Bu 7 H)).map (C_.CZ t)|none=>none)=_;rw[Gf H e];erw[mU,LH]
 rw[Lr (d:=Ix d) Du (Zq 5 H d) r];have:(L.map Ix).any (λy=>eqT y (Ix d))=decide (d∈L):=by
  rw[XX,Qj,XS,decide_eq_true_eq];constructor
  .rintro⟨s,AS,q⟩;erw[O2,YY,decide_eq_true_eq]at q;exact q▸AS
  .intro AS;exact⟨_,AS,by simp[O2,YY]⟩
 rw[this]
theorem aF{α:Type}[BEq α][LawfulBEq α]:∀(l A:↑α),l.Nodup->(∀x∈l,x∈A)->⇑l<=⇑A
 |[],A,_,_=>IM _
 |x::l,A,Bj,s=>by have Bj:=List.nodup_cons.mp Bj;have AM:=s x (I0 ..);have:=aF l (A.erase x) Bj.2 λy Af=>(fo (λz=>Bj.1 (by rw[<-z];exact Af))).mpr (s y (Gw _ Af));have Ct:=fT AM;have:=XD AM;erw[FF];lia
def sz(h:A5)(t:Tl)(b:Bool):∃w,A7 (EK t) (.int 0) h=.ok (w,h)/\BC b w (.str (AO "at")) h=.ok (.AL (isAt t==b),h):=by cases t<;>refine⟨_,GF h _ _,?_⟩<;>cases b<;>rfl
def ef:Ap:=(AT (Di (EA Ej (I 4) (Z ψ A2)))
    (AT (Am (Aa 4 NT (Z π (Z (A1 A7 τ Ty) (Z ψ (Z Ψ A2))))) (AB 5))
    (AT (C8 (Ad (A1 (BC false) (A1 A7 (I 5) η) (pu (.str (AO "at"))))) (B1 (BE (Z (I 4) (Z (I 5) A2)))) C5)
    (Am (BE (Z (A1 A7 (I 5) ζ) (Z (A1 A7 (I 5) υ) A2))) (AB 2)))))
def HM(n b:Nat)(d:AN)(a k:Nat)(s5:Option W):Ay:=[Ξ,ST,↥(AJ d),ς,↥(.ref k),s5]
variable{kw:Bool}
def agK{ρ:Ay}{m:B8}{k:Int}{h h1:A5}(e:m ρ h=.ok (.int k,h1)):FM m ρ h=.ok (↥k,h1):=by unfold FM;rw[H0,e];rfl
def se(HP:↑Co)(hh:Nat):Prop:=∃i j:Nat,HP[i]?=↥↥(1,hh)/\i<=j/\HP[j]?=↥none
end Ds
set_option maxHeartbeats 1000000
namespace Ds
variable{kw:Bool}
def Flt(ws:ν)(A B:↑↑CY)(ps:↑Co)(p:Nat)(d:AN)(a:Nat):Prop:=
 (ps[p]?=↥↥(1,d.1)/\∃x,Qz ws B a d x/\ ↥(0,x.1)∉ps.take p)\/(∃hh,ps[p]?=↥↥(2,hh)/\¬se (ps.take p) d.1/\∃x,Qz ws A a d x/\x.1=hh)
def bz{h:A5}{n:Nat}{L:↑AN}(e:h[n]?=↥⟨.lst,L.map λx=>.int (x.1:Int)⟩)(i:Nat):Ce true (.int (i:Int)) KK h=.ok (.AL (decide (∃x∈L,x.1=i)),h):=by
 have Du:GT h KK (.int (i:Int))=none:=by erw[GT,e]
 have r:Bu 8 h KK=↥(.CZ false (L.map λx=>.int (x.1:Int))):=by show(match Dw h KK with|some (t,ws)=>(ws.mapM (Bu 7 h)).map (C_.CZ t)|none=>none)=_;rw[Gf h e];erw[UH (r:=Bu 7 h) (f:=λx:AN=>W.int (x.1:Int)) (g:=λx:AN=>C_.int (x.1:Int)) λd _=>by simp[Bu],LH]
 rw[Lr (d:=.int (i:Int)) Du (by simp[Bu]) r];have:(L.map λx:AN=>C_.int (x.1:Int)).any (λy=>eqT y (.int (i:Int)))=decide (∃x∈L,x.1=i):=by
  rw[XX,Qj,XS,decide_eq_true_eq];constructor
  .rintro⟨x,AM,q⟩;erw[O2,eqT,beq_iff_eq]at q;exact⟨x,AM,δ⟩
  .rintro⟨x,AM,q⟩;exact⟨x,AM,by simp[O2,eqT];lia⟩
 rw[this];rfl
section
variable{cs:↑Nat}{ws:ν}{A B:↑↑CY}{ps:↑Co}{h:A5}{n Ep b1 q:Nat}
end
end Ds
namespace Ds
section
variable{cs:↑Nat}{ws:ν}{A B:↑↑CY}{ps:↑Co}{h:A5}{n Ep b1 q:Nat}
def HX(cs:↑Nat)(ws:ν)(k:Nat):↑AN:=(Dz cs k).filter λd=>(EF ws d).isNone
def qv:(AO "xxxx").cps.toList=[120,120,120,120]:=by decide+kernel
def ahf:QF (AO "xxxx"):=⟨by rw[qv];rfl,λc AK=>by rw[qv]at AK;erw[He,My,or_false,or_self]at AK;exact .inr (.inr AK)⟩
end
end Ds
namespace BJ
def ij{mi:G6}{t:DY}{e:B8}{ρ:Ay}{h h0:A5}{caps:↑Nat}(n:Nat)(p:Nat->Bool)(f:Nat->W)(AI:n<1000)(AA:mi ρ h0=.ok (KJ 0 n,h))(DO:∀j:Nat,j<n->∀acc,t (↥(.int (j:Int))::caps.map λj=>ρ.getD j none) (h++[⟨.lst,acc⟩])=.ok (p j,h++[⟨.lst,acc⟩])/\(p j=true->e (↥(.int (j:Int))::caps.map λj=>ρ.getD j none) (h++[⟨.lst,acc⟩])=.ok (f j,h++[⟨.lst,acc⟩]))) :
  CW 1 caps mi (AB 0) t e ρ h0=.ok (.ref ⇑h,h++[⟨.lst,((Cg n).filter p).map f⟩]):=by
 let DG:W->Nat:=λw=>match w with
  |.int i=>i.toNat
  |_=>0
 have:=Mm (mi:=mi) (g:=AB 0) (t:=t) (e:=e) (ρ:=ρ) (nl:=1) (caps:=caps) ((Cg n).map λj:Nat=>W.int (j:Int)) (λw=>p (DG w)) (λw=>f (DG w)) (λEh=>∃x,Eh=x::caps.map λj=>ρ.getD j none) (AI:) AA ⟨none,rfl⟩ (λj acc _=>by
  erw[KJ,Dl,Ny];by_cases An:j<n
  .simp[An]
  .simp[An]) λw hw Eh acc⟨x,AM⟩=>by obtain⟨j,An,rfl⟩:=List.mem_map.mp hw;subst AM;obtain⟨a,b⟩:=DO j (List.mem_range.mp An) acc;exact⟨↥(.int (j:Int))::caps.map λj=>ρ.getD j none,γ,⟨_,rfl⟩,by rw[a];simp[DG],λz=>by rw[b (by simpa[DG]using z)];simp[DG]⟩
 rw[this,fy,K4];have A9:((λw=>p (DG w))∘λj:Nat=>W.int (j:Int))=p:=by funext j;simp[DG]
 have AG:((λw=>f (DG w))∘λj:Nat=>W.int (j:Int))=f:=by funext j;simp[DG]
 rw[A9,AG]
end BJ
namespace Ds
theorem h6(d:AN):∀ws:ν,(EF ws d).isNone=!decide (d∈ends ws)
 |[]=>rfl
 |w::ws=>by
  have e:ends (w::ws)=w.1::w.2::ends ws:=rfl;rw[e];unfold EF;by_cases h1:w.1=d
  .simp[h1]
  .by_cases h2:w.2=d
   .simp[h1,h2]
   .rw[if_neg h1,if_neg h2,h6 d ws];simp[K6 h1,K6 h2]
theorem lc(d:AN):∀ws:ν,(d∈ws.map (·.1)++ws.map (·.2))↔d∈ends ws
 |[]=>by simp[ends]
 |w::ws=>by
  have CC:=lc d ws;rw[Hf]at CC;have e:ends (w::ws)=w.1::w.2::ends ws:=rfl;simp only[e,EM,Hf,He,<-CC];constructor
  .rintro((h|h)|(h|h))
   .exact .inl h
   .exact .inr (.inr (.inl h))
   .exact .inr (.inl h)
   .exact .inr (.inr (.inr h))
  .rintro(h|h|h|h)
   .exact .inl (.inl h)
   .exact .inr (.inl h)
   .exact .inl (.inr h)
   .exact .inr (.inr h)
def kv(cs:↑Nat)(ws:ν)(j:Nat):HX cs ws (j+1)=HX cs ws j++(I6 cs j).filter λd=>(EF ws d).isNone:=by unfold HX;rw[Vh,List.filter_append]
def Zj:Ap:=(Di (NQ ψ (Z (CW 1 [3,1] (Dj (Z (A1 A7 (A1 A7 π η) Ψ) A2)) (AB 0) (Ad (A1 (Ce false) (BE (Z τ Ω)) ψ)) (BE (Z τ Ω))) A2)))
noncomputable def Me(a b u f:Nat)(s3:Option W):Ay:=[↥(.tup [.ref a,.ref b]),↥(.ref u),↥(.ref f),s3]
def ad2{H:A5}{a b u f j:Nat}{cs:↑Nat}{ws:ν}(Ez:⇑cs<=6)(F_:∀c∈cs,1<=c/\c<=4)(An:j< ⇑cs)(BX:H[a]?=↥⟨.lst,Bw cs⟩)(Er:H[u]?=↥⟨.lst,(ws.map (·.1)++ws.map (·.2)).map AJ⟩)(C2:H[f]?=↥⟨.lst,(HX cs ws j).map AJ⟩) :
  Zj (Me a b u f ↥(.int (j:Int))) H=.ok (.AP (Me a b u f ↥(.int (j:Int))),(H++[(⟨.lst,((I6 cs j).filter λd=>(EF ws d).isNone).map AJ⟩:O)]).set f ⟨.lst,(HX cs ws (j+1)).map AJ⟩):=by
 obtain⟨ρ,Ab⟩:∃ρ,ρ=Me a b u f ↥(.int (j:Int)):=ο;have v0:∀H,I 0 ρ H=.ok (.tup [.ref a,.ref b],H):=by rw[Ab];exact λ_=>rfl
 have v2:∀H,I 2 ρ H=.ok (.ref f,H):=by rw[Ab];exact λ_=>rfl
 have E2:∀H,I 3 ρ H=.ok (.int (j:Int),H):=by rw[Ab];exact λ_=>rfl
 have KX:cs.getD j 0<=4:=cw (λc AK=>(F_ c AK).2) j;have F0:∀H,A7 (.tup [.ref a,.ref b]) (.int 0) H=.ok (.ref a,H):=λ_=>rfl;have DG:A7 (.ref a) (.int (j:Int)) H=.ok (.int (cs.getD j 0:Nat),H):=EW BX (by simp[Bw,An]);have Ed:=ij (mi:=Dj (Z (A1 A7 (A1 A7 π η) Ψ) A2)) (t:=Ad (A1 (Ce false) (BE (Z τ Ω)) ψ)) (e:=BE (Z τ Ω)) (ρ:=ρ) (h:=H) (h0:=H) (caps:=[3,1]) (cs.getD j 0) (λk=>(EF ws (j,k)).isNone) (λk=>AJ (j,k)) δ (LD (by rw[AW,AU,AU,v0,J,Ag,J,F0,J,E2,J,DG,J,BH,J]) δ) (λk AQ acc=>by
  obtain⟨Cj,EG⟩:∃Cj:Ay,Cj=↥(.int (k:Int))::[3,1].map (λj=>ρ.getD j none):=ο;have Hd:∀H,BE (Z τ Ω) Cj H=.ok (AJ (j,k),H):=λH=>by rw[EG,Ab];rfl
  have G3:∀H,I 2 Cj H=.ok (.ref u,H):=λH=>by rw[EG,Ab];rfl
  rw[<-EG];refine⟨?_,λ_=>Hd _⟩;rw[D_,AU,Hd,J,G3,J,bx false (j,k) (CE _ Er _),J,Db,h6];erw[Kn,if_false,lc])
 have Bc:((Cg (cs.getD j 0)).filter λk=>(EF ws (j,k)).isNone).map (λk=>AJ (j,k))=((I6 cs j).filter λd=>(EF ws d).isNone).map AJ:=by unfold I6;rw[fy,K4];rfl
 rw[Bc]at Ed;have Q4:=Vg F_ (j+1);have dM:⇑((HX cs ws j).map AJ++((I6 cs j).filter λd=>(EF ws d).isNone).map AJ)<=Bi:=by rw[<-Hg,<-kv,Cd];have:⇑(HX cs ws (j+1))<=⇑(Dz cs (j+1)):=XF _ _;unfold Bi;lia
 have ex:=c_ (v2 H) C2 (show Z (CW 1 [3,1] (Dj (Z (A1 A7 (A1 A7 π η) Ψ) A2)) (AB 0) (Ad (A1 (Ce false) (BE (Z τ Ω)) ψ)) (BE (Z τ Ω))) A2 ρ H=.ok ([.ref ⇑H],H++[⟨.lst,((I6 cs j).filter λd=>(EF ws d).isNone).map AJ⟩])by rw[AW,Ed,J,BH,J]) (CE _ C2 _) (by rw[C9];rfl) dM;rw[<-Ab];unfold Zj;rw[IG,ex,J,kv,Hg]
def iI{h:A5}{a b:Nat}{ws:ν}(few:⇑ws<100)(B4:h[b]?=↥⟨.lst,ws.map CJ⟩){ρ:Ay}(v0:∀H,I 0 ρ H=.ok (.tup [.ref a,.ref b],H))(G:A5) :
  CW 2 [] (CN (A1 A7 π ζ)) (Dh [(AB 0),(AB 1)]) ac π ρ (h++G)=.ok (.ref ⇑(h++G),h++G++[⟨.lst,(ws.map (·.1)).map AJ⟩])/\CW 2 [] (CN (A1 A7 π ζ)) (Dh [(AB 0),(AB 1)]) ac τ ρ (h++G)=.ok (.ref ⇑(h++G),h++G++[⟨.lst,(ws.map (·.2)).map AJ⟩]):=by
 have Cs:∀H,A7 (.tup [.ref a,.ref b]) (.int 1) H=.ok (.ref b,H):=λ_=>rfl;have z:=CE h B4 G;have mi:A1 A7 π ζ ρ (h++G)=.ok (.ref b,h++G):=by rw[AU,v0,J,Ag,J,Cs]
 have go:∀(e:B8)(f:AN×AN->AN),(∀(x:AN×AN) H,e [↥(AJ x.1),↥(AJ x.2)] H=.ok (AJ (f x),H))->CW 2 [] (CN (A1 A7 π ζ)) (Dh [(AB 0),(AB 1)]) ac e ρ (h++G)=.ok (.ref ⇑(h++G),h++G++[⟨.lst,(ws.map f).map AJ⟩]):=λe f he=>by
  have Ed:=Mm (mi:=CN (A1 A7 π ζ)) (it:=Fd (.ref b)) (g:=Dh [(AB 0),(AB 1)]) (t:=pu true) (e:=e) (ρ:=ρ) (h:=h++G) (h0:=h++G) (nl:=2) (caps:=[]) (ws.map CJ) (λ_=>true) (λw=>match w with
   |.tup [.tup [.int Cc,.int CK],.tup [.int Hy,.int U2]]=>AJ (f ((Cc.toNat,CK.toNat),(Hy.toNat,U2.toNat)))
   |_=>.non) (λρ=>∃s t,ρ=[s,t]) (by rw[Cd];lia) (J0 z mi) ⟨none,none,rfl⟩ (λj acc _=>Kk (CE _ z _) j) (by rintro w hw ρ acc ⟨s,t,rfl⟩;obtain⟨x,_,rfl⟩:=List.mem_map.mp hw;exact⟨[↥(AJ x.1),↥(AJ x.2)],by simp[CJ],⟨_,_,rfl⟩,rfl,λ_=>he x _⟩)
  have C2:((ws.map CJ).filter λ_=>true).map (λw=>match w with
   |.tup [.tup [.int Cc,.int CK],.tup [.int Hy,.int U2]]=>AJ (f ((Cc.toNat,CK.toNat),(Hy.toNat,U2.toNat)))
   |_=>.non)=(ws.map f).map AJ:=by
   rw[List.filter_eq_self.mpr (λ_ _=>rfl),K4,K4];rfl
  rw[C2]at Ed;exact Ed
 exact⟨go _ _ λ_ _=>rfl,go _ _ λ_ _=>rfl⟩
def jp{h:A5}{a b:Nat}{cs:↑Nat}{ws:ν}(N:IK cs ws)(BX:h[a]?=↥⟨.lst,Bw cs⟩)(B4:h[b]?=↥⟨.lst,ws.map CJ⟩):Jx [.tup [.ref a,.ref b]] h=.ok (.ref ⇑h,h++[⟨.lst,(HX cs ws ⇑cs).map AJ⟩]):=by
 have few:=N.few;have Ez:=N.Ez;obtain⟨ρ,Ab⟩:∃ρ:Ay,ρ=[↥(.tup [.ref a,.ref b]),none,none,none]:=ο;have v0:∀H,I 0 ρ H=.ok (.tup [.ref a,.ref b],H):=by rw[Ab];exact λ_=>rfl
 obtain⟨A,Ka⟩:∃A,A=(ws.map (·.1)).map AJ:=ο;obtain⟨B,Kb⟩:∃B,B=(ws.map (·.2)).map AJ:=ο;have C7:=(iI few B4 v0 []).1;rw[O4,<-Ka]at C7;have Cz:=(iI few B4 v0 [⟨.lst,A⟩]).2;rw[<-Kb]at Cz;have DI:⇑(h++[⟨.lst,A⟩]:A5)=⇑h+1:=γ
 rw[DI]at Cz;have Q4:⇑A=⇑ws:=by rw[Ka];simp
 have TO:⇑B=⇑ws:=by rw[Kb];simp
 have ad:=NY (h:=h++[⟨.lst,A⟩]++[⟨.lst,B⟩]) (i:=⇑h) (j:=⇑h+1) (a:=A) (b:=B) γ γ (by unfold Bi;lia);have ZG:A++B=(ws.map (·.1)++ws.map (·.2)).map AJ:=by rw[Ka,Kb,Hg]
 obtain⟨H1,A9⟩:∃H1:A5,H1=h++[⟨.lst,(ws.map (·.1)++ws.map (·.2)).map AJ⟩]:=ο;have s1:Am (CI (A1 addW (CW 2 [] (CN (A1 A7 π ζ)) (Dh [(AB 0),(AB 1)]) ac π) (CW 2 [] (CN (A1 A7 π ζ)) (Dh [(AB 0),(AB 1)]) ac τ))) (AB 1) ρ h=.ok (.AP [↥(.tup [.ref a,.ref b]),χ,none,none],H1):=by
  have q:CI (A1 addW (CW 2 [] (CN (A1 A7 π ζ)) (Dh [(AB 0),(AB 1)]) ac π) (CW 2 [] (CN (A1 A7 π ζ)) (Dh [(AB 0),(AB 1)]) ac τ)) ρ h=.ok (.ref ⇑h,H1):=by rw[FV,AU,C7,J,Cz,J,ad,J,A9,ZG];exact LF (ws:=(ws.map (·.1)++ws.map (·.2)).map AJ) h _ (JE (Fv (Fv (Eu _ _) _) _)) γ γ (NU _ _ λ_=>rfl)
  rw[DV,q,Ab];rfl
 have EI:⇑H1=⇑h+1:=by rw[A9];simp
 have ahM:H1[⇑h]?=↥⟨.lst,(ws.map (·.1)++ws.map (·.2)).map AJ⟩:=by rw[A9,C9];rfl
 have aq:H1[a]?=↥⟨.lst,Bw cs⟩:=by rw[A9];exact CE _ BX _
 obtain⟨AH,AG⟩:∃AH:A5,AH=H1++[⟨.lst,[]⟩]:=ο;have s2:Am (Be A2) (AB 2) [↥(.tup [.ref a,.ref b]),χ,none,none] H1=.ok (.AP (Me a b ⇑h ⇑H1 none),AH):=by rw[AG];rfl
 have BU:=Ends.HB (Pq (mi:=Dj (Z (BI Bh (Z (A1 A7 π η) A2)) A2)) (g:=AB 3) (b:=Zj) (ρ:=Me a b ⇑h ⇑H1 none) (h:=AH) (h0:=AH) 0 ⇑cs δ (λj ρ H=>(∃s,ρ=Me a b ⇑h ⇑H1 s)/\H1<+: H/\H[⇑H1]?=↥⟨.lst,(HX cs ws j).map AJ⟩) (T:=λCH H=>(∃s,CH=.AP (Me a b ⇑h ⇑H1 s))/\H1<+: H/\H[⇑H1]?=↥⟨.lst,(HX cs ws ⇑cs).map AJ⟩) (LD (by
  have v0:I 0 (Me a b ⇑h ⇑H1 none) AH=.ok (.tup [.ref a,.ref b],AH):=rfl;have F0:∀H,A7 (.tup [.ref a,.ref b]) (.int 0) H=.ok (.ref a,H):=λ_=>rfl;have ln:Bh [.ref a] AH=.ok (.int (⇑cs:Int),AH):=by rw[Ic (by rw[AG];exact CE _ aq _)];simp[Bw]
  rw[AW,Fx,AW,AU,v0,J,Ag,J,F0,J,BH,J,J,ln,J,BH,J]) δ) ⟨⟨_,rfl⟩,by rw[AG];exact Eu _ _,by rw[AG,C9];rfl⟩ (by
  rintro j _ H An ⟨⟨s,rfl⟩,pr,C2⟩;refine⟨Me a b ⇑h ⇑H1 ↥(.int (j:Int)),H,by simp[Me],?_⟩;exact⟨_,_,ad2 Ez N.c An (Ea pr aq) (Ea pr ahM) C2,⟨_,rfl⟩,WC (Fv pr _) (CB _) _,LS (CE _ C2 _)⟩) (by
  rintro _ H ⟨⟨s,rfl⟩,pr,C2⟩;exact⟨⟨_,rfl⟩,pr,C2⟩))
 obtain⟨_,BP,Jn,⟨s3,rfl⟩,KH,C2⟩:=BU;have Bc:Jx [.tup [.ref a,.ref b]] h=((Yy ρ h).bind outF).bind λp=>BJ.settle h p.1 p.2:=by rw[Ab];rfl
 have vV:Yy=AT (Am (CI (A1 addW (CW 2 [] (CN (A1 A7 π ζ)) (Dh [(AB 0),(AB 1)]) ac π) (CW 2 [] (CN (A1 A7 π ζ)) (Dh [(AB 0),(AB 1)]) ac τ))) (AB 1)) (AT (Am (Be A2) (AB 2)) (AT (Em (Dj (Z (BI Bh (Z (A1 A7 π η) A2)) A2)) (AB 3) Zj) (B1 ψ))):=rfl;have v2:I 2 (Me a b ⇑h ⇑H1 s3) BP=.ok (.ref ⇑H1,BP):=rfl;rw[Bc,vV,Az,s1,J,B0,Az,s2,J,B0,Az,KO,Jn,J,B0,EC,v2,J,J,Fm,J];exact LF (ws:=(HX cs ws ⇑cs).map AJ) h _ (JE ((by rw[A9];exact Eu _ _:h<+: H1).trans KH)) δ C2 (NU _ _ λ_=>rfl)
end Ds
namespace BJ
def kl{sep:Str}{ma:DQ}{ρ:Ay}{h h1:A5}{n:Nat}{ws:↑W}{ys:↑Str}(em:ma ρ h=.ok ([.ref n],h1))(B2:h1[n]?=↥⟨.lst,ws⟩)(Dv:ws.mapM strOf=↥ys)(hz:(ys.map (·.length)).sum+⇑ys*⇑sep<=16777216):SF sep ma ρ h=.ok (.str (Txt.join sep ys),h1):=by unfold SF;rw[H0,em];erw[J,di,Kl h1 B2,Dv];exact if_pos hz
end BJ
namespace Ds
def kh(a b c d:Nat):Txt.join (AO "") [(⟨#[a]⟩:Str),⟨#[b]⟩,⟨#[c]⟩,⟨#[d]⟩]=(⟨#[a,b,c,d]⟩:Str):=rfl
noncomputable def H_(z:Int):Nat:=if z%5=0 then 48 else if z%5=1 then 49 else 120
def ZM(z:Int):Mh (H_ z):=by
 unfold H_ Mh
 split
 .exact .inl rfl
 .split
  .exact .inr (.inl rfl)
  .exact .inr (.inr rfl)
def afA(z:Int)(h:A5):A7 (.str (AO "01xxx")) (.int (z%5)) h=.ok (.str ⟨#[H_ z]⟩,h):=by unfold H_;rcases(by lia:z%5=0\/z%5=1\/z%5=2\/z%5=3\/z%5=4)with e|e|e|e|e<;>rw[e]<;>rfl
def jZ{a b c d:Nat}(AF:Mh a)(A4:Mh b)(AK:Mh c)(hd:Mh d):QF ⟨#[a,b,c,d]⟩:=⟨rfl,λx AM=>by have AM:x∈[a,b,c,d]:=AM;erw[He,My,or_false]at AM;rcases AM with rfl|rfl|rfl|rfl<;>assumption⟩
def ac3(z:Int){x c:Nat}(AM:x<c):∃o:Option Nat,(∀k,o=↥k->k<c)/\∀H:A5,A7 (.ref ⇑H) (.int (z%4)) (H++[⟨.lst,[.non,.non,.non,.int (x:Int)]⟩])=.ok (Cw o,H++[⟨.lst,[.non,.non,.non,.int (x:Int)]⟩]):=by
 have y:∀H:A5,(H++[(⟨.lst,[.non,.non,.non,.int (x:Int)]⟩:O)])[⇑H]?=↥⟨.lst,[.non,.non,.non,.int (x:Int)]⟩:=λH=>by rw[C9];rfl
 obtain⟨j,An,e⟩:=J2 z (n:=4) ε;have e:z%4=(j:Int):=e;rw[e];rcases(by lia:j=0\/j=1\/j=2\/j=3)with rfl|rfl|rfl|rfl
 .exact⟨none,λk z=>(by cases z),λH=>EW (y H) rfl⟩
 .exact⟨none,λk z=>(by cases z),λH=>EW (y H) rfl⟩
 .exact⟨none,λk z=>(by cases z),λH=>EW (y H) rfl⟩
 .exact⟨↥x,λk z=>(by cases z;exact AM),λH=>EW (y H) rfl⟩
def ac2(z:Int){x c:Nat}(AM:x<c):∃o:Option Nat,(∀k,o=↥k->k<c)/\∀H:A5,A7 (.ref ⇑H) (.int (z%7/6)) (H++[⟨.lst,[.int (x:Int),.non]⟩])=.ok (Cw o,H++[⟨.lst,[.int (x:Int),.non]⟩]):=by
 have y:∀H:A5,(H++[(⟨.lst,[.int (x:Int),.non]⟩:O)])[⇑H]?=↥⟨.lst,[.int (x:Int),.non]⟩:=λH=>by rw[C9];rfl
 rcases(by lia:z%7/6=((0:Nat):Int)\/z%7/6=((1:Nat):Int))with e|e<;>rw[e]
 .exact⟨↥x,λk z=>(by cases z;exact AM),λH=>EW (y H) rfl⟩
 .exact⟨none,λk z=>(by cases z),λH=>EW (y H) rfl⟩
def adU{l:↑Int}(AI:8<=⇑l){c:Nat}(AK:1<=c):∃r,TU c r/\∀(h:A5)(a:Nat),h[a]?=↥⟨.lst,B3 l⟩->Rh [.ref a,.int (c:Int)] h=.ok (Dd r,h):=by
 obtain⟨g,eg⟩:∃g:Nat->Int,g=λk=>l.getD k 0:=ο;have Nx:∀(h:A5)(a:Nat),h[a]?=↥⟨.lst,B3 l⟩->∀k:Nat,k<8->A7 (.ref a) (.int (k:Int)) h=.ok (.int (g k),h):=λh a e k AQ=>EW e (by
  have:k< ⇑l:=δ
  rw[B3,Dl,C3 this,eg];simp[this])
 obtain⟨WU,Es,GA⟩:=J2 (g 5) (n:=c) AK;obtain⟨W0,xG,RH⟩:=J2 (g 7) (n:=c) AK;obtain⟨Rm,acF,acG⟩:=ac3 (g 4) Es;obtain⟨BQ,acH,acI⟩:=ac2 (g 6) xG;refine⟨⟨⟨#[H_ (g 0),H_ (g 1),H_ (g 2),H_ (g 3)]⟩,Rm,BQ⟩,⟨jZ (ZM _) (ZM _) (ZM _) (ZM _),acF,acH⟩,λh a BX=>?_⟩;obtain⟨P,Lj⟩:∃P:Str,P=⟨#[H_ (g 0),H_ (g 1),H_ (g 2),H_ (g 3)]⟩:=⟨_,rfl⟩;have kW:=Nx h a BX;obtain⟨ρ,Ab⟩:∃ρ:Option W->Option W->Option W->Ay,ρ=λp q r=>[↥(.ref a),↥(.int (c:Int)),p,q,r]:=ο;have v0:∀p q r H,I 0 (ρ p q r) H=.ok (.ref a,H):=by rw[Ab];exact λ_ _ _ _=>rfl
 have v1:∀p q r H,I 1 (ρ p q r) H=.ok (.int (c:Int),H):=by rw[Ab];exact λ_ _ _ _=>rfl
 have G3:∀w p q r H,AB 2 w (ρ p q r) H=.ok (.AP (ρ ↥w q r),H):=by rw[Ab];exact λ_ _ _ _ _=>rfl
 have Md:∀w p q r H,AB 3 w (ρ p q r) H=.ok (.AP (ρ p ↥w r),H):=by rw[Ab];exact λ_ _ _ _ _=>rfl
 have ai:∀w p q r H,AB 4 w (ρ p q r) H=.ok (.AP (ρ p q ↥w),H):=by rw[Ab];exact λ_ _ _ _ _=>rfl
 have s1:Am (CI (SF (AO "") (Z (CW 1 [0] (Dj (Z Γ A2)) (AB 0) ac (A1 A7 (pu (.str (AO "01xxx"))) (A1 Bf (A1 A7 τ π) (pu (.int 5))))) A2))) (AB 2) (ρ none none none) h=.ok (.AP (ρ ↥(.str P) none none),h):=by
  have Ed:=ZA (mi:=Dj (Z Γ A2)) (e:=A1 A7 (pu (.str (AO "01xxx"))) (A1 Bf (A1 A7 τ π) (pu (.int 5)))) (ρ:=ρ none none none) (h:=h) (h0:=h) (caps:=[0]) 0 4 (λk=>.str ⟨#[H_ (g k)]⟩) ε (LD (n:=4) rfl ε) (λk AQ acc=>by
   obtain⟨Cj,EG⟩:∃Cj:Ay,Cj=↥(.int (0+(k:Int)))::[0].map (λj=>(ρ none none none).getD j none):=ο;have t0:∀H,I 0 Cj H=.ok (.int (k:Int),H):=λH=>by rw[EG,gH];rfl
   have t1:∀H,I 1 Cj H=.ok (.ref a,H):=λH=>by rw[EG,Ab];rfl
   have zL:=Nx (h++[⟨.lst,acc⟩]) a (CE _ BX _) k δ;rw[<-EG,AU,Ag,J,AU,AU,t1,J,t0,J,zL,J,Ag,J,F5,if_pos ε,J,afA])
  have TK:=kl (sep:=AO "") (ma:=Z (CW 1 [0] (Dj (Z Γ A2)) (AB 0) ac (A1 A7 (pu (.str (AO "01xxx"))) (A1 Bf (A1 A7 τ π) (pu (.int 5))))) A2) (ρ:=ρ none none none) (h:=h) (n:=⇑h) (ws:=[.str ⟨#[H_ (g 0)]⟩,.str ⟨#[H_ (g 1)]⟩,.str ⟨#[H_ (g 2)]⟩,.str ⟨#[H_ (g 3)]⟩]) (ys:=[⟨#[H_ (g 0)]⟩,⟨#[H_ (g 1)]⟩,⟨#[H_ (g 2)]⟩,⟨#[H_ (g 3)]⟩]) (by rw[AW,Ed,J,BH];rfl) (by rw[C9];rfl) rfl (show(4:Nat)<=16777216 by decide);rw[DV,FV,TK,J,kh,<-Lj,Nd _ _ _ rfl,J,G3]
 have s2:Am (CI (A1 A7 (Be (Z Tm (Z Tm (Z Tm (Z (A1 Bf (A1 A7 π (pu (.int 5))) τ) A2))))) (A1 Bf (A1 A7 π Γ) Γ))) (AB 3) (ρ ↥(.str P) none none) h=.ok (.AP (ρ ↥(.str P) ↥(Cw Rm) none),h):=by
  have xh:A7 (.ref a) (.int 5) h=.ok (.int (g 5),h):=kW 5 ε;have Ih:Be (Z Tm (Z Tm (Z Tm (Z (A1 Bf (A1 A7 π (pu (.int 5))) τ) A2)))) (ρ ↥(.str P) none none) h=.ok (.ref ⇑h,h++[⟨.lst,[.non,.non,.non,.int (WU:Int)]⟩]):=by rw[Mc,AW,Ag,J,AW,Ag,J,AW,Ag,J,AW,AU,AU,v0,J,Ag,J,xh,J,v1,J,F5,if_pos δ,J,GA,BH,J,J,J,J,J];rfl
  have xg:A7 (.ref a) (.int 4) (h++[⟨.lst,[.non,.non,.non,.int (WU:Int)]⟩])=.ok (.int (g 4),h++[⟨.lst,[.non,.non,.non,.int (WU:Int)]⟩]):=Nx _ a (CE _ BX _) 4 ε;rw[DV,FV,AU,Ih,J,AU,AU,v0,J,Ag,J,xg,J,Ag,J,F5,if_pos ε,J,acG,J,Nd _ _ _ (dT _),J,Md]
 have s3:Am (CI (A1 A7 (Be (Z (A1 Bf (A1 A7 π (pu (.int 7))) τ) (Z Tm A2))) (A1 EQ (A1 Bf (A1 A7 π (pu (.int 6))) (pu (.int 7))) (pu (.int 6))))) (AB 4) (ρ ↥(.str P) ↥(Cw Rm) none) h=.ok (.AP (ρ ↥(.str P) ↥(Cw Rm) ↥(Cw BQ)),h):=by
  have xj:A7 (.ref a) (.int 7) h=.ok (.int (g 7),h):=kW 7 ε;have Ih:Be (Z (A1 Bf (A1 A7 π (pu (.int 7))) τ) (Z Tm A2)) (ρ ↥(.str P) ↥(Cw Rm) none) h=.ok (.ref ⇑h,h++[⟨.lst,[.int (W0:Int),.non]⟩]):=by rw[Mc,AW,AU,AU,v0,J,Ag,J,xj,J,v1,J,F5,if_pos δ,J,RH,AW,Ag,J,BH,J,J,J];rfl
  have xi:A7 (.ref a) (.int 6) (h++[⟨.lst,[.int (W0:Int),.non]⟩])=.ok (.int (g 6),h++[⟨.lst,[.int (W0:Int),.non]⟩]):=Nx _ a (CE _ BX _) 6 ε;rw[DV,FV,AU,Ih,J,AU,AU,AU,v0,J,Ag,J,xi,J,Ag,J,F5,if_pos ε,J,Ag,J,Kw,if_pos ε,J,acI,J,Nd _ _ _ (dT _),J,ai]
 have s4:B1 (BE (Z ψ (Z Ψ XL))) (ρ ↥(.str P) ↥(Cw Rm) ↥(Cw BQ)) h=.ok (.Dp (Dd ⟨P,Rm,BQ⟩),h):=by rw[Ab];rfl
 have Bc:Rh [.ref a,.int (c:Int)] h=((Z1 (ρ none none none) h).bind outF).bind λp=>BJ.settle h p.1 p.2:=by rw[Ab];rfl
 rw[Bc];unfold Z1;rw[Az,s1,J,B0,Az,s2,J,B0,Az,s3,J,B0,s4,J,Fm,J,Lj];exact Nf h _ (UL _)
def afz(a b:Nat)(z:Int):∃m:Nat,(m=a\/m=b)/\∀H:A5,A7 (.ref ⇑H) (.int (z%4/3)) (H++[⟨.lst,[.int (a:Int),.int (b:Int)]⟩])=.ok (.int (m:Int),H++[⟨.lst,[.int (a:Int),.int (b:Int)]⟩]):=by
 have y:∀H:A5,(H++[(⟨.lst,[.int (a:Int),.int (b:Int)]⟩:O)])[⇑H]?=↥⟨.lst,[.int (a:Int),.int (b:Int)]⟩:=λH=>by rw[C9];rfl
 rcases(by lia:z%4/3=((0:Nat):Int)\/z%4/3=((1:Nat):Int))with e|e<;>rw[e]
 .exact⟨a,.inl rfl,λH=>EW (y H) rfl⟩
 .exact⟨b,.inr rfl,λH=>EW (y H) rfl⟩
noncomputable def t7(x:Int)(c p:Nat)(s3 s4:Option W):Ay:=[↥(.int x),↥(.int (c:Int)),↥(.ref p),s3,s4]
def uI(x:Int){c:Nat}(AK:1<=c):∃b,Ky c b/\∀h,Rf [.int x,.int (c:Int)] h=.ok (.ref ⇑h,h++[⟨.lst,b.map Dd⟩]):=by
 obtain⟨l,AI,el⟩:=bG x (n:=104) ε;have el:∀h,Kt [.int x,.int 104] h=.ok (.ref ⇑h,h++[⟨.lst,B3 l⟩]):=el;obtain⟨g,eg⟩:∃g:Nat->Int,g=λk=>l.getD k 0:=ο;have Nx:∀(h:A5)(a:Nat),h[a]?=↥⟨.lst,B3 l⟩->∀k:Nat,k<8->A7 (.ref a) (.int (k:Int)) h=.ok (.int (g k),h):=λh a e k AQ=>EW e (by
  have:k< ⇑l:=δ
  rw[B3,Dl,C3 this,eg];simp[this])
 obtain⟨VA,aiU,GA⟩:=J2 (g 0) (n:=5) ε;obtain⟨V9,aiT,bH⟩:=J2 (g 0) (n:=13) ε;have GA:g 0%5=(VA:Int):=GA;have bH:g 0%13=(V9:Int):=bH;obtain⟨m,hm,em⟩:=afz VA V9 (g 1);have ain:m<=12:=δ
 obtain⟨Dq,BF,DS⟩:=J2 (g 3) (n:=c) AK;have cut:∀k:Nat,k<12->∃q:↑Int,⇑q=8/\HO (B3 l) ↥((4+8*k:Nat):Int) ↥((12+8*k:Nat):Int)=B3 q:=λk AQ=>by
  obtain⟨q,eq⟩:=im l ↥((4+8*k:Nat):Int) ↥((12+8*k:Nat):Int);refine⟨q,?_,eq⟩;have e:⇑(HO (B3 l) ↥((4+8*k:Nat):Int) ↥((12+8*k:Nat):Int))=⇑q:=by rw[eq];simp[B3]
  rw[<-e];unfold HO;rw[Ei.WG,Ei.WG];simp[B3,AI];lia
 obtain⟨f,hf⟩:=XC (r:=λ(k:Nat)(r:CY)=>k<12->TU c r/\∀(h:A5)(a:Nat),h[a]?=↥⟨.lst,HO (B3 l) ↥((4+8*k:Nat):Int) ↥((12+8*k:Nat):Int)⟩->Rh [.ref a,.int (c:Int)] h=.ok (Dd r,h)) (λk=>by
  by_cases AQ:k<12
  .obtain⟨q,V7,eq⟩:=cut k AQ;obtain⟨r,As,BK⟩:=adU (l:=q) δ AK;exact⟨r,λ_=>⟨As,λh a e=>BK h a (by rw[e,eq])⟩⟩
  .exact⟨⟨AO "",none,none⟩,λz=>absurd z AQ⟩)
 obtain⟨Ep,bP⟩:∃Ep:↑CY,Ep=(Cg m).map f:=ο;have aim:⇑Ep=m:=by rw[bP];simp
 have lG:∀r∈Ep,TU c r:=λr BZ=>by rw[bP]at BZ;obtain⟨k,AQ,rfl⟩:=List.mem_map.mp BZ;exact(hf k (by have:=List.mem_range.mp AQ;lia)).1
 obtain⟨Ax,hy⟩:∃Ax:CY,Ax=⟨AO "xxxx",none,↥Dq⟩:=⟨_,rfl⟩;have abp:TU c Ax:=by rw[hy];exact⟨ahf,λk z=>(by cases z),λk z=>(by cases z;exact BF)⟩
 obtain⟨b1,Vx⟩:∃b1:↑CY,b1=if 0<g 2%3 then Ep.take 11++[Ax]else Ep:=ο
 have abW:Ky c b1:=by
  rw[Vx]
  split
  .refine⟨by rw[EL,LK,MB];lia,λr BZ=>?_⟩;rcases List.mem_append.mp BZ with z|z
   .exact lG r (fm z)
   .rw[List.mem_singleton.mp z];exact abp
  .exact⟨δ,lG⟩
 refine⟨b1,abW,λh=>?_⟩;obtain⟨H1,A9⟩:∃H1:A5,H1=h++[⟨.lst,B3 l⟩]:=ο;have EI:⇑H1=⇑h+1:=by rw[A9];simp
 have FP:H1[⇑h]?=↥⟨.lst,B3 l⟩:=by rw[A9,C9];rfl
 obtain⟨ρ,Ab⟩:∃ρ:Option W->Option W->Ay,ρ=t7 x c ⇑h:=ο;have v1:∀p q H,I 1 (ρ p q) H=.ok (.int (c:Int),H):=by rw[Ab];exact λ_ _ _=>rfl
 have v2:∀p q H,I 2 (ρ p q) H=.ok (.ref ⇑h,H):=by rw[Ab];exact λ_ _ _=>rfl
 have E2:∀p q H,I 3 (ρ ↥p q) H=.ok (p,H):=by rw[Ab];exact λ_ _ _=>rfl
 have v4:∀p q H,I 4 (ρ p ↥q) H=.ok (q,H):=by rw[Ab];exact λ_ _ _=>rfl
 have Md:∀w p q H,AB 3 w (ρ p q) H=.ok (.AP (ρ ↥w q),H):=by rw[Ab];exact λ_ _ _ _=>rfl
 have ai:∀w p q H,AB 4 w (ρ p q) H=.ok (.AP (ρ p ↥w),H):=by rw[Ab];exact λ_ _ _ _=>rfl
 have F0:∀{H},⇑h< ⇑H->H[⇑h]?=↥⟨.lst,B3 l⟩->∀k:Nat,k<8->A7 (.ref ⇑h) (.int (k:Int)) H=.ok (.int (g k),H):=λ_ e k AQ=>Nx _ _ e k AQ;have s1:Am (Aa 2 Kt (Z π (Z (pu (.int 104)) A2))) (AB 2) [↥(.int x),↥(.int (c:Int)),none,none,none] h=.ok (.AP (ρ none none),H1):=by
  have q:Aa 2 Kt (Z π (Z (pu (.int 104)) A2)) [↥(.int x),↥(.int (c:Int)),none,none,none] h=.ok (.ref ⇑h,H1):=by rw[A9];exact L4 (us:=[.int x,.int 104]) (h1:=h) rfl rfl (el h)
  rw[DV,q,Ab];rfl
 have s2:Am (CI (A1 A7 (Be (Z (A1 Bf Ty (pu (.int 5))) (Z (A1 Bf Ty (pu (.int 13))) A2))) (A1 EQ (A1 Bf (A1 A7 ψ ζ) Γ) Fr))) (AB 3) (ρ none none) H1=.ok (.AP (ρ ↥(.int (m:Int)) none),H1):=by
  have GF:A7 (.ref ⇑h) (.int 0) H1=.ok (.int (g 0),H1):=Nx _ _ FP 0 ε;have Ih:Be (Z (A1 Bf Ty (pu (.int 5))) (Z (A1 Bf Ty (pu (.int 13))) A2)) (ρ none none) H1=.ok (.ref ⇑H1,H1++[⟨.lst,[.int (VA:Int),.int (V9:Int)]⟩]):=by rw[Mc,AW,AU,AU,v2,J,Ag,J,GF,J,Ag,J,F5,if_pos ε,J,GA,AW,AU,AU,v2,J,Ag,J,GF,J,Ag,J,F5,if_pos ε,J,bH,BH,J,J,J];rfl
  have I9:A7 (.ref ⇑h) (.int 1) (H1++[⟨.lst,[.int (VA:Int),.int (V9:Int)]⟩])=.ok (.int (g 1),H1++[⟨.lst,[.int (VA:Int),.int (V9:Int)]⟩]):=Nx _ _ (CE _ FP _) 1 ε;rw[DV,FV,AU,Ih,J,AU,AU,AU,v2,J,Ag,J,I9,J,Ag,J,F5,if_pos ε,J,Ag,J,Kw,if_pos ε,J,em,J,Nd _ _ _ rfl,J,Md]
 obtain⟨AH,AG⟩:∃AH:A5,AH=H1++[⟨.lst,Ep.map Dd⟩]:=ο;have FE:AH[⇑H1]?=↥⟨.lst,Ep.map Dd⟩:=by rw[AG,C9];rfl
 have WV:AH[⇑h]?=↥⟨.lst,B3 l⟩:=by rw[AG];exact CE _ FP _
 have s3:Am (CW 1 [1,2] (Dj (Z Ψ A2)) (AB 0) ac (CI (Aa 2 Rh (Z (CI (Hq ψ (FM (A1 addW Γ (A1 F3 (pu (.int 8)) π))) (FM (A1 addW (pu (.int 12)) (A1 F3 (pu (.int 8)) π))))) Cl)))) (AB 4) (ρ ↥(.int (m:Int)) none) H1=.ok (.AP (ρ ↥(.int (m:Int)) ↥(.ref ⇑H1)),AH):=by
  have Ed:=ZA (mi:=Dj (Z Ψ A2)) (e:=(CI (Aa 2 Rh (Z (CI (Hq ψ (FM (A1 addW Γ (A1 F3 (pu (.int 8)) π))) (FM (A1 addW (pu (.int 12)) (A1 F3 (pu (.int 8)) π))))) Cl)))) (ρ:=ρ ↥(.int (m:Int)) none) (h:=H1) (h0:=H1) (caps:=[1,2]) 0 m (λk=>Dd (f k)) δ (LD (by rw[AW,E2,J,BH,J]) δ) (λk AQ acc=>by
   obtain⟨G,Vu⟩:∃G:A5,G=H1++[⟨.lst,acc⟩]:=ο;rw[<-Vu];have QU:G[⇑h]?=↥⟨.lst,B3 l⟩:=by rw[Vu];exact CE _ FP _
   obtain⟨Cj,EG⟩:∃Cj:Ay,Cj=↥(.int (0+(k:Int)))::[1,2].map (λj=>(ρ ↥(.int (m:Int)) none).getD j none):=ο;have t0:∀H,I 0 Cj H=.ok (.int (k:Int),H):=λH=>by rw[EG,gH];rfl
   have t1:∀H,I 1 Cj H=.ok (.int (c:Int),H):=λH=>by rw[EG,Ab];rfl
   have Cn:∀H,I 2 Cj H=.ok (.ref ⇑h,H):=λH=>by rw[EG,Ab];rfl
   have QI:∀(z:Nat) H,FM (A1 addW (pu (.int (z:Int))) (A1 F3 (pu (.int 8)) π)) Cj H=.ok (↥((z+8*k:Nat):Int),H):=λz H=>agK (by have Ii:F3 (.int 8) (.int (k:Int)) H=.ok (.int (8*(k:Int)),H):=rfl;rw[AU,Ag,J,AU,Ag,J,t0,J,Ii,J,Kv,show(z:Int)+8*(k:Int)=((z+8*k:Nat):Int)by lia])
   have ad6:∀H,FM (A1 addW Γ (A1 F3 (pu (.int 8)) π)) Cj H=.ok (↥((4+8*k:Nat):Int),H):=QI 4;have ad5:∀H,FM (A1 addW (pu (.int 12)) (A1 F3 (pu (.int 8)) π)) Cj H=.ok (↥((12+8*k:Nat):Int),H):=QI 12;obtain⟨q,V7,eq⟩:=cut k δ;obtain⟨_,f3⟩:=hf k δ;have ss:CI (Hq ψ (FM (A1 addW Γ (A1 F3 (pu (.int 8)) π))) (FM (A1 addW (pu (.int 12)) (A1 F3 (pu (.int 8)) π)))) Cj G=.ok (.ref ⇑G,G++[⟨.lst,B3 q⟩]):=by rw[FV,WR,Cn,J,ad6,J,ad5,J,ZO QU (by simp[B3,AI]),J,eq];exact WH G _ rfl (dU _)
   have Iw:Z (CI (Hq ψ (FM (A1 addW Γ (A1 F3 (pu (.int 8)) π))) (FM (A1 addW (pu (.int 12)) (A1 F3 (pu (.int 8)) π))))) Cl Cj G=.ok ([.ref ⇑G,.int (c:Int)],G++[⟨.lst,B3 q⟩]):=by rw[AW,ss,J,AW,t1,J,BH,J,J]
   have f3:=f3 (G++[⟨.lst,B3 q⟩]) ⇑G (by rw[C9,eq];rfl);rw[<-EG,FV,EH,Iw,J,if_pos (by rfl),f3,J];exact Nd _ _ _ (UL _))
  have B4:(Cg m).map (λk=>Dd (f k))=Ep.map Dd:=by rw[bP,K4];rfl
  rw[B4,<-AG]at Ed;rw[DV,Ed,J,ai]
 have aep:Ad (A1 Kd (A1 Bf (A1 A7 ψ υ) Fr) η) (ρ ↥(.int (m:Int)) ↥(.ref ⇑H1)) AH=.ok (decide (0<g 2%3),AH):=by have S7:A7 (.ref ⇑h) (.int 2) AH=.ok (.int (g 2),AH):=Nx _ _ WV 2 ε;rw[D_,AU,AU,AU,v2,J,Ag,J,S7,J,Ag,J,F5,if_pos ε,J,Ag,J,db,J,Db]
 have Bc:Rf [.int x,.int (c:Int)] h=((Xg [↥(.int x),↥(.int (c:Int)),none,none,none] h).bind outF).bind λp=>BJ.settle h p.1 p.2:=rfl;rw[Bc];unfold Xg;rw[Az,s1,J,B0,Az,s2,J,B0,Az,s3,J,B0,Az,DL,aep,J];have Cm:h<+: AH:=by rw[AG,A9];exact Fv (Eu _ _) _
 by_cases h0:0<g 2%3
 .rw[decide_eq_true h0,if_pos rfl];rw[if_pos h0]at Vx;have s4:Am (CI (A1 addW (Hq (I 4) (pu none) (FM (pu (.int 11)))) (Be (Z (BE (Z (pu (.str (AO "xxxx"))) (Z Tm (Z (A1 Bf (A1 A7 ψ Fr) τ) A2)))) A2)))) (AB 4) (ρ ↥(.int (m:Int)) ↥(.ref ⇑H1)) AH=.ok (.AP (ρ ↥(.int (m:Int)) ↥(.ref ⇑AH)),AH++[⟨.lst,b1.map Dd⟩]):=by
   have D7:HO (Ep.map Dd) none ↥11=(Ep.take 11).map Dd:=by
    unfold HO;rw[Ei.fB];have:Ei.Cu ⇑(Ep.map Dd) ⇑(Ep.map Dd) ↥11=min 11 ⇑(Ep.map Dd):=Ei.WG _ _ 11;rw[this,Nat.sub_zero,List.drop_zero,gP];rcases gG 11 ⇑(Ep.map Dd)with z|z
    .rw[UX z]
    .rw[gA z,Nz (CB _),Nz z]
   have CP:Hq (I 4) (pu none) (FM (pu (.int 11))) (ρ ↥(.int (m:Int)) ↥(.ref ⇑H1)) AH=.ok (.ref ⇑AH,AH++[⟨.lst,(Ep.take 11).map Dd⟩]):=by rw[WR,v4,J,Ag,J,q_,J,ZO FE (by rw[Cd];lia),D7]
   obtain⟨BP,P7⟩:∃BP:A5,BP=AH++[⟨.lst,(Ep.take 11).map Dd⟩]:=ο;rw[<-P7]at CP;have tJ:⇑BP=⇑AH+1:=by rw[P7];simp
   have yo:A7 (.ref ⇑h) (.int 3) BP=.ok (.int (g 3),BP):=Nx _ _ (by rw[P7];exact CE _ WV _) 3 ε;have Ih:Be (Z (BE (Z (pu (.str (AO "xxxx"))) (Z Tm (Z (A1 Bf (A1 A7 ψ Fr) τ) A2)))) A2) (ρ ↥(.int (m:Int)) ↥(.ref ⇑H1)) BP=.ok (.ref ⇑BP,BP++[⟨.lst,[Dd Ax]⟩]):=by rw[Mc,AW,HF,AW,Ag,J,AW,Ag,J,AW,AU,AU,v2,J,Ag,J,yo,J,v1,J,F5,if_pos δ,J,DS,BH,J,J,J,hy];rfl
   have ad:=NY (h:=BP++[⟨.lst,[Dd Ax]⟩]) (i:=⇑AH) (j:=⇑BP) (a:=(Ep.take 11).map Dd) (b:=[Dd Ax]) (by rw[P7];exact CE _ (C9 _ _) _) (by rw[C9];rfl) (by simp[Bi];lia);have Vw:(Ep.take 11).map Dd++[Dd Ax]=b1.map Dd:=by rw[Vx,Hg];rfl
   rw[DV,FV,AU,CP,J,Ih,J,ad,J,Vw];rw[LF (ws:=b1.map Dd) AH _ (JE (by rw[P7];exact Fv (Fv (Eu _ _) _) _)) (by simp;lia) γ (NU _ _ UL),J,ai]
  rw[s4,J,B0,EC,v4,J,J,Fm,J];exact LF (ws:=b1.map Dd) h _ (JE (Fv Cm _)) Cm.length_le (by rw[C9];rfl) (NU _ _ UL)
 .rw[decide_eq_false h0,if_neg γ,E9,J,B0,EC,v4,J,J,Fm,J];rw[if_neg h0]at Vx;rw[Vx];exact LF (ws:=Ep.map Dd) h _ (JE Cm) δ FE (NU _ _ UL)
def Z7(ns:↑Int)(k:Nat):∃c:Int,∀h,H9 [.D1 (B3 ns),.int k] h=.ok (.int c,h):=by
 have H7:⇑(B3 ns)=⇑ns:=by simp[B3]
 by_cases AQ:k< ⇑ns
 .refine⟨ns[k],λh=>?_⟩;have es:=eL h (B3 ns);have ex:A7 (.D1 (B3 ns)) (.int (k:Int)) h=.ok (.int ns[k],h):=YX h es (by simp[B3,AQ]);simp[H9,Xh,Bh,es,H7,AQ,ex]
 .refine⟨0,λh=>?_⟩;have es:=eL h (B3 ns);simp[H9,Xh,Bh,es,H7,AQ]
def iV(ns:↑Int)(st:Nat){cs:↑Nat}(Ez:⇑cs<=6)(F_:∀c∈cs,1<=c/\c<=4):∃B,Gh cs B/\∀(h:A5)(n:Nat),h[n]?=↥⟨.lst,Bw cs⟩->NS [.D1 (B3 ns),.int (st:Int),.ref n] h=.ok (.ref ⇑h,h++Gb ⇑h B):=by
 obtain⟨F,PB⟩:=XC (r:=λ(k:Nat)(b:↑CY)=>k< ⇑cs->Ky (cs.getD k 0) b/\∃x:Int,(∀h,H9 [.D1 (B3 ns),.int ((st+k:Nat):Int)] h=.ok (.int x,h))/\∀h,Rf [.int x,.int (cs.getD k 0:Nat)] h=.ok (.ref ⇑h,h++[⟨.lst,b.map Dd⟩])) (λk=>by
  by_cases AQ:k< ⇑cs
  .obtain⟨x,ex⟩:=Z7 ns (st+k);obtain⟨b,b1,Ey⟩:=uI x (c:=cs.getD k 0) (x9 F_ AQ).1;exact⟨b,λ_=>⟨b1,x,ex,Ey⟩⟩
  .exact⟨[],λz=>absurd z AQ⟩)
 refine⟨(Cg ⇑cs).map F,⟨γ,λk AQ=>?_⟩,λh n B2=>?_⟩
 .have:((Cg ⇑cs).map F).getD k []=F k:=by simp[AQ]
  rw[this];exact(PB k AQ).1
 .have Ed:=ih (mi:=Lw (Z ψ A2)) (it:=P8 KK) (g:=Dh [(AB 0),(AB 1)]) (e:=Aa 2 Rf (Z (Aa 2 H9 (Z ψ (Z (A1 addW Ψ π) A2))) Cl)) (ρ:=[↥(.D1 (B3 ns)),↥(.int (st:Int)),Ξ]) (h:=h) (h0:=h) (nl:=2) (caps:=[0,1]) MW (λa=>rfl) mY mX ((Cg ⇑cs).map λi:Nat=>W.tup [.int (i:Int),.int (cs.getD i 0:Nat)]) (λw=>match w with
    |.tup (.int i::_)=>IZ (F i.toNat)
    |_=>⟨.lst,[]⟩) (λρ=>∃s t,ρ=[s,t,↥(.D1 (B3 ns)),↥(.int (st:Int))]) (by simp;lia) (by
     have v2:I 2 [↥(.D1 (B3 ns)),↥(.int (st:Int)),Ξ] h=.ok (.ref n,h):=rfl;unfold Lw;rw[H0,AW,v2,J,BH,J,J];erw[Kl h B2]) ⟨none,none,rfl⟩ (λj H p An=>by
     rw[Cd,Sd]at An;have e:=iK (f:=λc:Nat=>W.int (c:Int)) (l:=cs) (d:=0) (Ea p B2) j An;rw[e,Dl];by_cases Dc:j< ⇑cs
     .rw[if_pos Dc,Ny Dc];rfl
     .rw[if_neg Dc,J_ (Dc:)];rfl) (by
     rintro w hw ρ H ⟨s,t,rfl⟩ p;obtain⟨k,AQ,rfl⟩:=List.mem_map.mp hw;have AQ:=List.mem_range.mp AQ;obtain⟨_,x,ex,B4⟩:=PB k AQ;obtain⟨Cj,EG⟩:∃Cj:Ay,Cj=[↥(.int (k:Int)),↥(.int (cs.getD k 0:Nat)),↥(.D1 (B3 ns)),↥(.int (st:Int))]:=ο;refine⟨Cj,by rw[EG];simp,⟨_,_,EG⟩,?_⟩;have t1:∀H,I 1 Cj H=.ok (.int (cs.getD k 0:Nat),H):=λH=>by rw[EG];rfl
     have a1:Z ψ (Z (A1 addW Ψ π) A2) Cj H=.ok ([.D1 (B3 ns),.int ((st+k:Nat):Int)],H):=by rw[EG];rfl
     rw[EH,AW,EH,a1,J,if_pos (by rfl),ex,J,AW,t1,J,BH,J,J,J,if_pos (by rfl),B4];rfl)
  have em:((Cg ⇑cs).map λi:Nat=>W.tup [.int (i:Int),.int (cs.getD i 0:Nat)]).map (λw=>match w with
   |.tup (.int i::_)=>IZ (F i.toNat)
   |_=>⟨.lst,[]⟩)=((Cg ⇑cs).map F).map IZ:=by
   rw[K4,K4];rfl
  rw[em,Cd,Sd]at Ed;have Bc:NS [.D1 (B3 ns),.int (st:Int),.ref n] h=(B1 (CW 2 [0,1] (Lw (Z ψ A2)) (Dh [(AB 0),(AB 1)]) ac (Aa 2 Rf (Z (Aa 2 H9 (Z ψ (Z (A1 addW Ψ π) A2))) Cl))) [↥(.D1 (B3 ns)),↥(.int (st:Int)),Ξ] h).bind outF:=rfl;rw[Bc,EC,Ed,J,J,Fm];unfold Gb;rw[Cd,Sd]
def Wk:Ap:=(Di (EA Ej (I 5) (Z (CI (A1 A7 (Be (Z (A1 A7 τ (I 6)) (Z (A1 A7 Ψ (I 6)) A2))) (BI Rv (Z (A1 Kd (A1 Bf (A1 EQ (I 4) (A1 addW (I 6) ζ)) Γ) η) A2)))) A2)))
noncomputable def OK(ns:↑Int)(po n q:Nat)(y:Int)(f:Nat)(CQ:Option W):Ay:=[↥(.D1 (B3 ns)),↥(.ref po),Ξ,↥(.ref q),↥(.int y),↥(.ref f),CQ]
def aaq{h:A5}{ns:↑Int}{po n q j:Nat}{y:Int}{cs:↑Nat}{A B:↑↑CY}(HV:Gh cs A)(HW:Gh cs B)(P2:EE h po A)(Pj:EE h q B)(An:j< ⇑cs)(Vn:⇑cs<=6){L:↑(Nat×↑CY)}(TP:⇑L=j) :
  ∃x:Nat×↑CY,h[x.1]?=↥(IZ x.2)/\Ky (cs.getD j 0) x.2/\Wk (OK ns po n q y ⇑h ↥(.int (j:Int))) (h++[⟨.lst,L.map λx=>.ref x.1⟩])=.ok (.AP (OK ns po n q y ⇑h ↥(.int (j:Int))),h++[⟨.lst,(L++[x]).map λx=>.ref x.1⟩]):=by
 obtain⟨BL,a1,a2,JO⟩:=P2.ex;obtain⟨rb,b1,Ey,P1⟩:=Pj.ex;have Q4:=HV.1;have TO:=HW.1;have BX:BL[j]?=↥BL[j]:=C3 δ;have B4:rb[j]?=↥rb[j]:=C3 δ;obtain⟨H,B_⟩:∃H:A5,H=h++[⟨.lst,L.map λx=>.ref x.1⟩]:=ο;obtain⟨ρ,Ab⟩:∃ρ,ρ=OK ns po n q y ⇑h ↥(.int (j:Int)):=ο;have v1:∀H,I 1 ρ H=.ok (.ref po,H):=by rw[Ab];exact λ_=>rfl
 have E2:∀H,I 3 ρ H=.ok (.ref q,H):=by rw[Ab];exact λ_=>rfl
 have v4:∀H,I 4 ρ H=.ok (.int y,H):=by rw[Ab];exact λ_=>rfl
 have Fp:∀H,I 5 ρ H=.ok (.ref ⇑h,H):=by rw[Ab];exact λ_=>rfl
 have v6:∀H,I 6 ρ H=.ok (.int (j:Int),H):=by rw[Ab];exact λ_=>rfl
 have zI:A7 (.ref po) (.int (j:Int)) H=.ok (.ref BL[j],H):=EW (by rw[B_];exact CE _ a1 _) (by rw[Dl,BX];rfl);have zJ:A7 (.ref q) (.int (j:Int)) H=.ok (.ref rb[j],H):=EW (by rw[B_];exact CE _ b1 _) (by rw[Dl,B4];rfl);have Ih:Be (Z (A1 A7 τ (I 6)) (Z (A1 A7 Ψ (I 6)) A2)) ρ H=.ok (.ref ⇑H,H++[⟨.lst,[.ref BL[j],.ref rb[j]]⟩]):=by rw[Mc,AW,AU,v1,J,v6,J,zI,J,AW,AU,E2,J,v6,J,zJ,J,BH,J,J,J];rfl
 have U5:(H++[(⟨.lst,[.ref BL[j],.ref rb[j]]⟩:O)])[⇑H]?=↥⟨.lst,[.ref BL[j],.ref rb[j]]⟩:=by rw[C9];rfl
 have Q5:⇑H=⇑h+1:=by rw[B_];simp
 have go:∀(r:Nat)(b:↑CY),h[r]?=↥(IZ b)->Ky (cs.getD j 0) b->A7 (.ref ⇑H) (.int (if 0<y/((j:Int)+1)%4 then 1 else 0)) (H++[⟨.lst,[.ref BL[j],.ref rb[j]]⟩])=.ok (.ref r,H++[⟨.lst,[.ref BL[j],.ref rb[j]]⟩])->∃x:Nat×↑CY,h[x.1]?=↥(IZ x.2)/\Ky (cs.getD j 0) x.2/\Wk ρ H=.ok (.AP ρ,h++[⟨.lst,(L++[x]).map λx=>.ref x.1⟩]):=λr b e ok DG=>by
  refine⟨(r,b),e,ok,?_⟩;have lt:=HN e;have Tu:Rv [.AL (decide (0<y/((j:Int)+1)%4))] (H++[⟨.lst,[.ref BL[j],.ref rb[j]]⟩])=.ok (.int (if 0<y/((j:Int)+1)%4 then 1 else 0),H++[⟨.lst,[.ref BL[j],.ref rb[j]]⟩]):=by
   by_cases z:0<y/((j:Int)+1)%4
   .rw[decide_eq_true z,if_pos z];rfl
   .rw[decide_eq_false z,if_neg z];rfl
  have st:CI (A1 A7 (Be (Z (A1 A7 τ (I 6)) (Z (A1 A7 Ψ (I 6)) A2))) (BI Rv (Z (A1 Kd (A1 Bf (A1 EQ (I 4) (A1 addW (I 6) ζ)) Γ) η) A2))) ρ H=.ok (.ref r,H):=by rw[FV,AU,Ih,J,Fx,AW,AU,AU,AU,v4,J,AU,v6,J,Ag,J,Kv,J,Kw,if_pos δ,J,Ag,J,F5,if_pos ε,J,Ag,J,db,J,BH,J,J,Tu,J,DG,J];exact aea H _ δ
  have Et:H[⇑h]?=↥⟨.lst,L.map λx=>.ref x.1⟩:=by rw[B_,C9];rfl
  unfold Wk;rw[IG,MN (us:=[.ref r]) (ws':=(L++[(r,b)]).map λx=>.ref x.1) (r:=.non) (Fp H) Et (by rw[AW,st,J,BH];rfl) Et (by simp[Ej]) (by rw[Cd,EL,MB];unfold Bi;lia),J,B_,PC];rfl
 rw[<-Ab,<-B_];by_cases z:0<y/((j:Int)+1)%4
 .refine go rb[j] _ (P1 j _ B4) (HW.2 j An) ?_;rw[if_pos z];exact EW (k:=1) U5 rfl
 .refine go BL[j] _ (JO j _ BX) (HV.2 j An) ?_;rw[if_neg z];exact EW (k:=0) U5 rfl
def aau(ns:↑Int){cs:↑Nat}(Ez:⇑cs<=6)(F_:∀c∈cs,1<=c/\c<=4){h:A5}{n po:Nat}(B2:h[n]?=↥⟨.lst,Bw cs⟩){A:↑↑CY}(HV:Gh cs A)(P2:EE h po A) :
  ∃(B:↑↑CY)(f:Nat)(H:A5),Gh cs B/\h<+: H/\EE H f B/\We [.D1 (B3 ns),.ref po,.ref n] h=.ok (.ref f,H):=by
 obtain⟨hb,HW,Kb⟩:=iV ns 7 Ez F_;have Kb:=Kb h n B2;obtain⟨x,ex⟩:=Z7 ns 0;have ex:∀h,H9 [.D1 (B3 ns),.int 0] h=.ok (.int x,h):=ex;obtain⟨y,Dv⟩:=aE x (k:=50) ε;have Dv:∀h,Ig [.int x,.int 50] h=.ok (.int y,h):=Dv;obtain⟨H1,A9⟩:∃H1:A5,H1=h++Gb ⇑h hb:=ο;rw[<-A9]at Kb;have Pj:EE H1 ⇑h hb:=by rw[A9];exact iS h
 have t5:EE H1 po A:=by rw[A9];exact P2.more _
 have vX:H1[n]?=↥⟨.lst,Bw cs⟩:=by rw[A9];exact CE _ B2 _
 have s1:Am (Aa 3 NS (Z π (Z (pu (.int 7)) (Z ψ A2)))) (AB 3) [↥(.D1 (B3 ns)),↥(.ref po),Ξ,none,none,none,none] h=.ok (.AP [↥(.D1 (B3 ns)),↥(.ref po),Ξ,χ,none,none,none],H1):=by have q:Aa 3 NS (Z π (Z (pu (.int 7)) (Z ψ A2))) [↥(.D1 (B3 ns)),↥(.ref po),Ξ,none,none,none,none] h=.ok (.ref ⇑h,H1):=L4 (us:=[.D1 (B3 ns),.int 7,.ref n]) (h1:=h) rfl rfl Kb;rw[DV,q];rfl
 have s2:Am (Aa 2 Ig (Z (Aa 2 H9 (Z π (Z η A2))) (Z (pu (.int 50)) A2))) (AB 4) [↥(.D1 (B3 ns)),↥(.ref po),Ξ,χ,none,none,none] H1=.ok (.AP [↥(.D1 (B3 ns)),↥(.ref po),Ξ,χ,↥(.int y),none,none],H1):=by have q:Aa 2 H9 (Z π (Z η A2)) [↥(.D1 (B3 ns)),↥(.ref po),Ξ,χ,none,none,none] H1=.ok (.int x,H1):=L4 (us:=[.D1 (B3 ns),.int 0]) (h1:=H1) rfl rfl (ex H1);rw[DV,EH,AW,q,J,AW,Ag,J,BH,J,J,J,if_pos (by rfl),Dv,J];rfl
 obtain⟨AH,AG⟩:∃AH:A5,AH=H1++[⟨.lst,[]⟩]:=ο;have s3:Am (Be A2) (AB 5) [↥(.D1 (B3 ns)),↥(.ref po),Ξ,χ,↥(.int y),none,none] H1=.ok (.AP (OK ns po n ⇑h y ⇑H1 none),AH):=by rw[AG];rfl
 have BU:=Ends.HB (Pq (mi:=Dj (Z (BI Bh (Z ψ A2)) A2)) (g:=AB 6) (b:=Wk) (ρ:=OK ns po n ⇑h y ⇑H1 none) (h:=AH) (h0:=AH) 0 ⇑cs δ (λj ρ H=>(∃s,ρ=OK ns po n ⇑h y ⇑H1 s)/\∃L:↑(Nat×↑CY),⇑L=j/\H=H1++[⟨.lst,L.map λx=>.ref x.1⟩]/\∀(i:Nat) z,L[i]?=↥z->H1[z.1]?=↥(IZ z.2)/\Ky (cs.getD i 0) z.2) (T:=λCH H=>(∃s,CH=.AP (OK ns po n ⇑h y ⇑H1 s))/\∃L:↑(Nat×↑CY),⇑L=⇑cs/\H=H1++[⟨.lst,L.map λx=>.ref x.1⟩]/\∀(i:Nat) z,L[i]?=↥z->H1[z.1]?=↥(IZ z.2)/\Ky (cs.getD i 0) z.2) (LD (by
  have v2:I 2 (OK ns po n ⇑h y ⇑H1 none) AH=.ok (.ref n,AH):=rfl;have ln:Bh [.ref n] AH=.ok (.int (⇑cs:Int),AH):=by rw[Ic (by rw[AG];exact CE _ vX _)];simp[Bw]
  rw[AW,Fx,AW,v2,J,BH,J,J,ln,J,BH,J]) δ) ⟨⟨_,rfl⟩,[],rfl,by rw[AG];rfl,λi z e=>by cases e⟩ (by
  rintro j _ _ An ⟨⟨s,rfl⟩,L,TP,rfl,GE⟩;obtain⟨z,FP,FE,B4⟩:=aaq (ns:=ns) (n:=n) (y:=y) HV HW t5 Pj An Ez TP;refine⟨_,_,by simp[OK],_,_,B4,⟨_,rfl⟩,L++[z],by rw[EL,MB,TP],rfl,λi w e=>?_⟩;rcases gI i ⇑L with AA|AA
  .rw[Fz AA]at e;exact GE i w e
  .rw[IN AA]at e;have:i- ⇑L=0:=by
    have:=(List.getElem?_eq_some_iff.mp e).1;simp at this;lia
   rw[this]at e;cases e;have:i=j:=δ
   subst this;exact⟨FP,FE⟩) (by
  rintro _ _ ⟨⟨s,rfl⟩,q⟩;exact⟨⟨_,rfl⟩,q⟩))
 obtain⟨_,BP,Jn,⟨s,rfl⟩,L,TP,rfl,GE⟩:=BU;refine⟨L.map (·.2),⇑H1,H1++[⟨.lst,L.map λx=>.ref x.1⟩],⟨by rw[Cd,TP],λi AA=>?_⟩,Fv (by rw[A9];exact Eu _ _) _,⟨L.map (·.1),by rw[C9,K4];rfl,γ,λi r e=>?_⟩,?_⟩
 .have e:L[i]?=↥L[i]:=C3 δ;have:=(GE i _ e).2;have g:(L.map (·.2)).getD i []=L[i].2:=by rw[Fg,Dl,e];rfl
  rw[g];exact this
 .rw[Dl]at e;cases el:L[i]? with
  |none=>rw[el]at e;cases e
  |some z=>
   rw[el]at e;cases e;have:=(GE i z el).1;have g:(L.map (·.2)).getD i []=z.2:=by rw[Fg,Dl,el];rfl
   rw[g];exact CE _ this _
 .have Bc:We [.D1 (B3 ns),.ref po,.ref n] h=(Yx [↥(.D1 (B3 ns)),↥(.ref po),Ξ,none,none,none,none] h).bind outF:=rfl;have B4:Yx=AT (Am (Aa 3 NS (Z π (Z (pu (.int 7)) (Z ψ A2)))) (AB 3)) (AT _ (AT (Am (Be A2) (AB 5)) (AT (Em (Dj (Z (BI Bh (Z ψ A2)) A2)) (AB 6) Wk) (B1 (I 5))))):=rfl;rw[Bc,B4,Az,s1,J,B0,Az,s2,J,B0,Az,s3,J,B0,Az,KO,Jn,J,B0];rfl
variable{kw:Bool}
section
variable{cs:↑Nat}{ws:ν}{A B:↑↑CY}{ps:↑Co}{h:A5}{n Ep b1 q:Nat}
end
end Ds
namespace Ds
def outD(C:FR):↑AN:=HX C.cs C.ws ⇑C.cs
def road(l:Lt):↑AN:=l.pre++[l.d]
structure IX(C:FR)(S:Eo)(ca ga:Nat->Nat):Prop where
 D:RR C S
 F_:∀l∈Cr S,ca l.n<=⇑S.done
 UK:∀l∈Cr S,l.m=Fe (C.ps.take (ca l.n)) (GK l).1
 hd:∀l∈Cr S,GK l∈outD C
 ch:∀l∈Cr S,∀(i:Nat) x y,(road l)[i]?=↥x->(road l)[i+1]?=↥y->ID C.ws (Mk C l.m x.1) x l.a=.at y
 nw:∀l∈S.lets,l.m=0->∀i,ca l.n<=i->i< ⇑S.done->C.ps[i]?≠↥none
 ge:∀e∈S.ended,ga e.1.n<=⇑S.done/\e.2=IC C (C.ps.take (ga e.1.n)) e.1/\isAt e.2=false
 CH:∀e∈S.ended,(∃x,e.2=.Jw x)->∃p,p< ⇑S.done/\∃d∈outD C,∃a,a<16/\Flt C.ws C.A C.B C.ps p d a
 nn:((Cr S).map (·.n)).Nodup
 IB:∀l∈Cr S,l.n<S.CS
section
variable{C:FR}{S:Eo}{ca ga:Nat->Nat}
def m2(l:Lt):(road l)[0]?=↥(GK l):=by unfold road GK;cases l.pre<;>rfl
def Zc(ws:ν)(Bv:↑CY)(d:AN)(a x:Nat):ID ws Bv d a≠.Jw x:=λz=>by
 unfold ID at z
 split at z
 .cases z
 .unfold Jy at z
  split at z
  .cases z
  .split at z<;>cases z
def reach{l:Lt}(g:IX C S ca ga)(AI:l∈Cr S):Qz C.ws (if l.m=1 then C.B else C.A) l.a (GK l) l.d:=by
 have q:∀(i:Nat) x,(road l)[i]?=↥x->Qz C.ws (if l.m=1 then C.B else C.A) l.a (GK l) x:=λi=>by
  induction i with
  |zero=>intro x e;rw[m2]at e;cases e;exact .i6
  |succ i CC=>intro y e;have AA:=(List.getElem?_eq_some_iff.mp e).1;exact .iF (CC _ (C3 δ)) (g.ch l AI i _ y (C3 δ) e)
 exact q ⇑l.pre l.d (by unfold road;simp)
def ab0(g:IX C S ca ga){l:Lt}(AI:l∈S.lets)(H8:l.m<2)(Xo:l.a<16)(e:Od S.done l.d.1 l.m=false):∃p,p< ⇑S.done/\∃d∈outD C,∃a,a<16/\Flt C.ws C.A C.B C.ps p d a:=by
 have PF:l∈Cr S:=Gx _ AI;have r:=reach g PF;have i7:=g.D.e;have dl:=g.D.le;have mk:=g.UK l PF;have F_:=g.F_ l PF;have at':∀{k:Nat}{s:Co},s∈C.ps.take k->∃i,i<k/\C.ps[i]?=↥s:=λ{k s} h=>by
  obtain⟨i,AA⟩:=SZ h;rw[SW]at AA
  split at AA
  .rename_i AQ;exact⟨i,AQ,AA⟩
  .cases AA
 have ab8:l.m=0\/l.m=1:=δ
 rcases ab8 with m0|Hp
 .rw[m0]at r e mk;rw[if_neg ε]at r;have hf:↥(2,l.d.1)∈S.done:=by simpa[Od]using e
  rw[i7]at hf;obtain⟨f,AQ,C2⟩:=at' hf;refine⟨f,AQ,GK l,g.hd l PF,l.a,Xo,.inr ⟨l.d.1,C2,?_,l.d,r,rfl⟩⟩;rintro⟨i,j,h1,h2,BF⟩;rw[SW]at h1 BF
  split at BF
  .rename_i An
   split at h1
   .rename_i AA;have ci:ca l.n<=i:=Nat.le_of_not_lt λz=>by
     have:↥(1,(GK l).1)∈C.ps.take (ca l.n):=Ik (i:=i) (by rw[SW,if_pos z];exact h1);unfold Fe at mk;rw[if_pos this]at mk;cases mk
    exact g.nw l AI m0 j δ δ BF
   .cases h1
  .cases BF
 .rw[Hp]at r e mk;rw[if_pos rfl]at r;have hf:↥(0,l.d.1)∉S.done:=by simpa[Od]using e
  have BY:↥(1,(GK l).1)∈C.ps.take (ca l.n):=by refine SQ λz=>?_;unfold Fe at mk;rw[if_neg z]at mk;cases mk
  obtain⟨t,AQ,Hl⟩:=at' BY;refine⟨t,δ,GK l,g.hd l PF,l.a,Xo,.inl ⟨Hl,l.d,r,λz=>hf ?_⟩⟩;obtain⟨i,AA,Fb⟩:=at' z;rw[i7];exact Ik (i:=i) (by rw[SW,if_pos δ];exact Fb)
def IX.b8(g:IX C S ca ga){L a:Nat}{d:AN}(hd:d∈outD C):IX C (RA S L d a) (λk=>if k=S.CS then⇑S.done else ca k) ga:=by
 have old:∀l∈Cr S,(if l.n=S.CS then⇑S.done else ca l.n)=ca l.n:=λl AI=>if_neg (by have:=g.IB l AI;lia);have al:∀{Q:Lt->Prop},(∀l∈Cr S,Q l)->Q (Ot S L d a)->∀l∈Cr (RA S L d a),Q l:=λAq BV l AI=>by
  rcases sm.mp AI with h|rfl
  .exact Aq l h
  .exact BV
 refine⟨⟨g.D.le,g.D.e⟩,al (λl AI=>?_) ?_,al (λl AI=>?_) ?_,al g.hd hd,al g.ch ?_,?_,g.ge,g.CH,?_,al (λl AI=>Sa (g.IB l AI)) (PQ _)⟩
 .show(if l.n=S.CS then⇑S.done else ca l.n)<=_;rw[old l AI];exact g.F_ l AI
 .show(if S.CS=S.CS then⇑S.done else ca S.CS)<=_;rw[if_pos rfl];exact CB _
 .show l.m=Fe (C.ps.take (if l.n=S.CS then⇑S.done else ca l.n)) (GK l).1;rw[old l AI];exact g.UK l AI
 .show Fe S.done d.1=Fe (C.ps.take (if S.CS=S.CS then⇑S.done else ca S.CS)) d.1;rw[if_pos rfl,<-g.D.e]
 .intro i x y A9 AG;have:=(List.getElem?_eq_some_iff.mp AG).1;simp[road,Ot]at this
 .intro l AI m0 i h1 h2;erw[RA,Hf,MC]at AI;have h1:(if l.n=S.CS then⇑S.done else ca l.n)<=i:=h1;have h2:i< ⇑S.done:=h2;rcases AI with AI|rfl
  .rw[old l (Gx _ AI)]at h1;exact g.nw l AI m0 i h1 h2
  .rw[show(Ot S L d a).n=S.CS from rfl,if_pos rfl]at h1;lia
 .have:((Cr (RA S L d a)).map (·.n)).Perm (S.CS::(Cr S).map (·.n)):=by
    erw[Cr,RA,Hg,EM,LP,EZ,Ot];exact List.perm_middle
  rw[this.nodup_iff,List.nodup_cons];refine⟨λz=>?_,g.nn⟩;obtain⟨l,AI,e⟩:=List.mem_map.mp z;have:=g.IB l AI;lia
def IX.step(g:IX C S ca ga)(H8:∀l∈S.lets,l.m<2)(hm:IA C S=true):IX C (M_ C S) ca ga:=by
 have Dc:=lW g.D hm;have DI:(M_ C S).done.length=⇑S.done+1:=by simp[M_]
 refine⟨aec g.D Dc,λl AI=>?_,g.UK,g.hd,g.ch,λl AI m0 i h1 h2 z=>?_,λe he=>?_,λe he x=>?_,g.nn,g.IB⟩
 .rw[DI];exact Nat.le_succ_of_le (g.F_ l AI)
 .rw[DI]at h2;by_cases AA:i< ⇑S.done
  .exact g.nw l AI m0 i h1 AA z
  .have:i=⇑S.done:=δ
   subst this;unfold IA at hm;rw[if_neg δ,Fg,z]at hm;erw[Sf,Option.isSome_none,Kn,if_false]at hm;have:=List.all_eq_true.mp hm l AI;rw[m0]at this;cases this
 .obtain⟨a,b,c⟩:=g.ge e he;exact⟨by rw[DI];exact Nat.le_succ_of_le a,b,c⟩
 .obtain⟨p,AX,r⟩:=g.CH e he x;exact⟨p,by rw[DI];exact Sa AX,r⟩
def IX.go(g:IX C S ca ga){EI BN:↑Lt}{l:Lt}(es:S.lets=EI++l::BN)(H8:l.m<2)(Xo:l.a<16):IX C (Hm S EI l BN (IC C S.done l)) ca (λk=>if k=l.n then⇑S.done else ga k):=by
 have AI:l∈S.lets:=by rw[es];simp
 have Kf:l∈Cr S:=Gx _ AI;have HP:(Hm S EI l BN (IC C S.done l)).done=S.done:=by cases IC C S.done l<;>rfl
 have B2:∀e∈S.ended,e.1.n≠l.n:=λe he z=>by have nn:=g.nn;rw[Cr,Hg]at nn;exact(List.nodup_append.mp nn).2.2 _ (List.mem_map.mpr ⟨l,AI,rfl⟩) _ (List.mem_map.mpr ⟨e.1,List.mem_map.mpr ⟨e,he,rfl⟩,rfl⟩) z.symm
 have ge:∀e∈S.ended,(if e.1.n=l.n then⇑S.done else ga e.1.n)<=⇑S.done/\e.2=IC C (C.ps.take (if e.1.n=l.n then⇑S.done else ga e.1.n)) e.1/\isAt e.2=false:=λe he=>by rw[if_neg (B2 e he)];exact g.ge e he
 have sub:∀y,y∈EI\/y∈BN->y∈S.lets:=λy h=>by rw[es];rcases h with h|h<;>simp[h]
 have fin:∀t,IC C S.done l=t->isAt t=false->IX C { S with lets:=EI++BN,ended:=S.ended++[(l,t)],Cx:=S.Cx+1 } ca (λk=>if k=l.n then⇑S.done else ga k):=λt BY xR=>by
  have al:∀{Q:Lt->Prop},(∀y∈Cr S,Q y)->∀y∈Cr { S with lets:=EI++BN,ended:=S.ended++[(l,t)],Cx:=S.Cx+1 },Q y:=λAq y Af=>by
   erw[Cr,Hg,EM,LP,EZ,Hf,MC]at Af;rcases Af with Af|Af|Af|rfl
   .exact Aq y (Gx _ (sub y (.inl Af)))
   .exact Aq y (Gx _ (sub y (.inr Af)))
   .exact Aq y (Hz _ Af)
   .exact Aq _ Kf
  refine⟨⟨g.D.le,g.D.e⟩,al g.F_,al g.UK,al g.hd,al g.ch,λy Af=>?_,λe he=>?_,λe he AM=>?_,?_,al g.IB⟩
  .exact g.nw y (sub y (List.mem_append.mp Af))
  .rcases List.mem_append.mp he with he|he
   .exact ge e he
   .rw[MC]at he;subst he;refine⟨?_,?_,xR⟩
    .show(if l.n=l.n then⇑S.done else ga l.n)<=⇑S.done;rw[if_pos rfl];exact CB _
    .show t=IC C (C.ps.take (if l.n=l.n then⇑S.done else ga l.n)) l;rw[if_pos rfl,<-g.D.e,BY]
  .rcases List.mem_append.mp he with he|he
   .exact g.CH e he AM
   .rw[MC]at he;subst he;obtain⟨x,AM⟩:=AM;refine ab0 (S:=S) g AI H8 Xo ?_;have AM:t=.Jw x:=AM;rw[<-BY]at AM;unfold IC at AM
    split at AM
    .exact absurd AM (Zc _ _ _ _ _)
    .rename_i z;simpa using z
  .have:((Cr { S with lets:=EI++BN,ended:=S.ended++[(l,t)],Cx:=S.Cx+1 }).map (·.n)).Perm ((Cr S).map (·.n)):=by
     erw[Cr,es,Hg,EM,LP,EZ];refine fk _ ?_;have:=(List.perm_append_comm (l₁:=BN.map (·.n)++(S.ended.map (·.1)).map (·.n)) (l₂:=[l.n]));simpa[EZ]using this
   rw[this.nodup_iff];exact g.nn
 cases BY:IC C S.done l with
 |«at» e=>
  have al:∀{Q:Lt->Prop},(∀y∈Cr S,Q y)->Q (Lm l e)->∀y∈Cr (Hm S EI l BN (.at e)),Q y:=λAq BV y Af=>by
   erw[Cr,Hm,EZ,Ij,Hf,He]at Af;rcases Af with Af|rfl|Af|Af
   .exact Aq y (Gx _ (sub y (.inl Af)))
   .exact BV
   .exact Aq y (Gx _ (sub y (.inr Af)))
   .exact Aq y (Hz _ Af)
  have hh:GK (Lm l e)=GK l:=by unfold GK Lm;cases l.pre<;>rfl
  have on:ID C.ws (Mk C l.m l.d.1) l.d l.a=.at e:=by
   unfold IC at BY
   split at BY
   .exact BY
   .cases BY
  refine⟨⟨g.D.le,g.D.e⟩,al g.F_ (g.F_ l Kf),al g.UK (by rw[hh];exact g.UK l Kf),al g.hd (by rw[hh];exact g.hd l Kf),al g.ch ?_,λy Af=>?_,ge,g.CH,?_,al g.IB (g.IB l Kf)⟩
  .intro i x y A9 AG;have ew:road (Lm l e)=road l++[e]:=rfl;rw[ew]at A9 AG;have AA:=(List.getElem?_eq_some_iff.mp AG).1;rw[EL,MB]at AA;rw[Fz δ]at A9;by_cases Dc:i+1< ⇑(road l)
   .rw[Fz Dc]at AG;exact g.ch l Kf i x y A9 AG
   .have NM:⇑(road l)=⇑l.pre+1:=by simp[road]
    have Fb:i=⇑l.pre:=δ
    subst Fb;rw[IN δ,show⇑l.pre+1- ⇑(road l)=0 by lia]at AG;cases AG;have:(road l)[⇑l.pre]?=↥l.d:=by simp[road]
    rw[this]at A9;cases A9;exact on
  .erw[Hm,Hf,He]at Af;rcases Af with Af|rfl|Af
   .exact g.nw y (sub y (.inl Af))
   .exact g.nw l AI
   .exact g.nw y (sub y (.inr Af))
  .have:(Cr (Hm S EI l BN (.at e))).map (·.n)=(Cr S).map (·.n):=by
     simp[Cr,Hm,es,Lm]
   rw[this];exact g.nn
 |drop x=>exact fin _ BY rfl
 |out x=>exact fin _ BY rfl
 |Jw x=>exact fin _ BY rfl
end
def eI:Ap:=(Di (EA Q1 Ψ (Z (A1 Bf (Aa 2 Ig (Z ψ XL)) (A1 addW (BI Bh (Z Ψ A2)) ζ)) (Z (BE (Z π XL)) A2))))
noncomputable def QH(t:Str)(n:Nat)(x:Int)(p:Nat)(s4:Option W):Ay:=[↥(.str t),↥(.int (n:Int)),↥(.int x),↥(.ref p),s4]
def afO(c n:Nat):GZ c (n+1)=GZ c n++[↥(c,n)]:=by simp[GZ,XM]
def eJ{c n:Nat}(x:Int){t:Str}(Hl:t=FX c)(Ae:n<=6):∃L:↑Co,L.Perm (GZ c n)/\∀h,Lx [.str t,.int (n:Int),.int x] h=.ok (.ref ⇑h,h++[⟨.lst,L.map (Bx false)⟩]):=by
 obtain⟨Y,Qr⟩:=XC (r:=λ(k:Nat)(y:Int)=>k<200->∀h,Ig [.int x,.int (k:Int)] h=.ok (.int y,h)) (λk=>by
  by_cases AQ:k<200
  .obtain⟨y,Dv⟩:=aE x AQ;exact⟨y,λ_=>Dv⟩
  .exact⟨0,λz=>absurd z AQ⟩)
 let G:Nat->↑Co:=Nat.rec [] λk L=>L.take (Y k%((k+1:Nat):Int)).toNat++↥(c,k)::L.drop (Y k%((k+1:Nat):Int)).toNat
 have GD:∀k,G (k+1)=(G k).take (Y k%((k+1:Nat):Int)).toNat++↥(c,k)::(G k).drop (Y k%((k+1:Nat):Int)).toNat:=λ_=>rfl;have pm:∀k,(G k).Perm (GZ c k):=λk=>by
  induction k with
  |zero=>exact fq _
  |succ k CC=>rw[GD,afO];refine List.perm_middle.trans ?_;rw[SY];exact(CC.cons _).trans (rX _ _).symm
 have kM:∀k,⇑(G k)=k:=λk=>by rw[(pm k).length_eq,Rs]
 refine⟨G n,pm n,λh=>?_⟩;have BU:=Ends.HB (Pq (mi:=Dj Cl) (g:=AB 4) (b:=eI) (ρ:=QH t n x ⇑h none) (h:=h++[⟨.lst,[]⟩]) (h0:=h++[⟨.lst,[]⟩]) 0 n δ (λj ρ H=>(∃s,ρ=QH t n x ⇑h s)/\H=h++[⟨.lst,(G j).map (Bx false)⟩]) (T:=λCH H=>(∃s,CH=.AP (QH t n x ⇑h s))/\H=h++[⟨.lst,(G n).map (Bx false)⟩]) (LD (by
  have v1:I 1 (QH t n x ⇑h none) (h++[⟨.lst,[]⟩])=.ok (.int (n:Int),h++[⟨.lst,[]⟩]):=rfl;rw[AW,v1,J,BH,J]) δ) ⟨⟨_,rfl⟩,rfl⟩ (by
  rintro j _ _ An ⟨⟨s,rfl⟩,rfl⟩;obtain⟨ρ,Ab⟩:∃ρ,ρ=QH t n x ⇑h ↥(.int (j:Int)):=ο;obtain⟨H,B_⟩:∃H:A5,H=h++[⟨.lst,(G j).map (Bx false)⟩]:=ο;have Et:H[⇑h]?=↥⟨.lst,(G j).map (Bx false)⟩:=by rw[B_,C9];rfl
  refine⟨ρ,H,by rw[Ab,B_];simp[QH],?_⟩;have E2:∀H,I 3 ρ H=.ok (.ref ⇑h,H):=by rw[Ab];exact λ_=>rfl
  have Hd:BE (Z π XL) ρ H=.ok (Bx false ↥(c,j),H):=by rw[Ab,Hl];rfl
  have a1:Z ψ XL ρ H=.ok ([.int x,.int (j:Int)],H):=by rw[Ab];rfl
  obtain⟨k,AQ,EP⟩:=J2 (Y j) (n:=j+1) δ;have ln:Bh [.ref ⇑h] H=.ok (.int (j:Int),H):=by rw[Ic Et,Cd,kM]
  have Iw:Z (A1 Bf (Aa 2 Ig (Z ψ XL)) (A1 addW (BI Bh (Z Ψ A2)) ζ)) (Z (BE (Z π XL)) A2) ρ H=.ok ([.int (k:Int),Bx false ↥(c,j)],H):=by rw[AW,AU,EH,a1,J,if_pos (by rfl),Qr j δ,J,AU,Fx,AW,E2,J,BH,J,J,ln,J,Ag,J,Kv,J,F5,if_pos δ,J,show(j:Int)+1=((j+1:Nat):Int)by lia,EP,AW,Hd,J,BH,J,J]
  have yM:(0:Int)<=(k:Int)/\(k:Int)<2^62:=by
   have:(1000:Int)<=2^62:=ε
   lia
  have eg:Q1 ((G j).map (Bx false)) [.int (k:Int),Bx false ↥(c,j)]=↥(.non,(G (j+1)).map (Bx false)):=by unfold Q1;erw[if_pos yM];rw[GD,EP,Hg,EM,gP,List.map_drop]
  have lm:=MN (f:=Q1) (m:=I 3) (ρ:=ρ) (E2 H) Et Iw Et eg (by have:=kM (j+1);rw[Cd];unfold Bi;lia);refine⟨.AP ρ,h++[⟨.lst,(G (j+1)).map (Bx false)⟩],?_,⟨_,by rw[Ab]⟩,rfl⟩;unfold eI;rw[IG,lm,J,B_,PC];rfl) (by
  rintro _ _ ⟨⟨s,rfl⟩,rfl⟩;exact⟨⟨_,rfl⟩,rfl⟩))
 obtain⟨_,_,Jn,⟨s,rfl⟩,rfl⟩:=BU;have Bc:Lx [.str t,.int (n:Int),.int x] h=((Z2 [↥(.str t),↥(.int (n:Int)),↥(.int x),none,none] h).bind outF).bind λp=>BJ.settle h p.1 p.2:=rfl;have s0:Am (Be A2) (AB 3) [↥(.str t),↥(.int (n:Int)),↥(.int x),none,none] h=.ok (.AP (QH t n x ⇑h none),h++[⟨.lst,[]⟩]):=rfl;have B4:Z2=AT (Am (Be A2) (AB 3)) (AT (Em (Dj Cl) (AB 4) eI) (B1 Ψ)):=rfl;have E2:I 3 (QH t n x ⇑h s) (h++[⟨.lst,(G n).map (Bx false)⟩])=.ok (.ref ⇑h,h++[⟨.lst,(G n).map (Bx false)⟩]):=rfl;rw[Bc,B4,Az,s0,J,B0,Az,KO,Jn,J,B0,EC,E2,J,J,Fm,J];exact WH h _ rfl (NU _ _ lq)
def acL{cs:↑Nat}{ws:ν}{A B:↑↑CY}(N:IK cs ws){T U F:↑Co}(D4:T.Perm (GZ 0 ⇑cs))(Pv:U.Perm (GZ 1 ⇑cs))(PB:F.Perm (GZ 2 ⇑cs)){p:Nat}{d:AN}{a:Nat}(hd:d∈Dz cs ⇑cs):¬Flt ws A B (T++U++[none]++F) p d a:=by
 obtain⟨n,B2⟩:∃n,n=⇑cs:=ο;rw[<-B2]at D4 Pv PB;have SB:⇑T=n:=by rw[D4.length_eq,Rs]
 have Zz:⇑U=n:=by rw[Pv.length_eq,Rs]
 have w:∀{c:Nat}{L:↑Co},L.Perm (GZ c n)->∀s∈L,∃i,s=↥(c,i):=λpm s AS=>by have:=pm.mem_iff.mp AS;erw[GZ,Ui]at this;obtain⟨i,_,rfl⟩:=this;exact⟨i,rfl⟩
 have m:∀{c i:Nat}{L:↑Co},L.Perm (GZ c n)->i<n->↥(c,i)∈L:=λpm AA=>pm.mem_iff.mpr (List.mem_map.mpr ⟨_,List.mem_range.mpr AA,rfl⟩);rcases gI p n with AX|AX
 .
  have e:(T++U++[none]++F)[p]?=T[p]?:=by rw[EZ,EZ,Fz δ]
  rintro(⟨z,_⟩|⟨hh,z,_⟩)
  .rw[e]at z;obtain⟨i,q⟩:=w D4 _ (Ik z);cases q
  .rw[e]at z;obtain⟨i,q⟩:=w D4 _ (Ik z);cases q
 .rintro(⟨z,x,r,no⟩|⟨hh,z,Gg,_⟩)
  .
   have adQ:x∈Dz cs ⇑cs:=by
    induction r with
    |i6=>exact hd
    |iF _ e _=>exact Wq N e
   have AM:=(Pd.mp adQ).1;have:↥(0,x.1)∈T:=m D4 δ;apply no;rw[EZ,EZ,List.take_append];exact Gx _ (by rw[Nz δ];exact this)
  .
   have Cm:n+n<p:=by
    refine Nat.lt_of_not_le λy=>?_;rcases gI p (n+n)with h2|h2
    .have e:(T++U++[none]++F)[p]?=U[p-n]?:=by
       rw[EZ,EZ,IN δ,SB,Fz δ]
     rw[e]at z;obtain⟨i,q⟩:=w Pv _ (Ik z);cases q
    .have:p=n+n:=δ
     subst this;have e:(T++U++[none]++F)[n+n]?=↥none:=by rw[EZ,EZ,IN δ,SB,IN δ,Zz];simp
     rw[e]at z;cases z
   have h1:=(Pd.mp hd).1;obtain⟨i,AA⟩:=SZ (m Pv (show d.1<n by lia));have li:=(List.getElem?_eq_some_iff.mp AA).1;refine Gg ⟨n+i,n+n,?_,δ,?_⟩
   .rw[SW,if_pos δ,EZ,EZ,IN δ,SB,Fz δ,show n+i-n=i by lia];exact AA
   .rw[SW,if_pos Cm,EZ,EZ,IN δ,SB,IN δ,Zz];simp
def aex{n:Nat}{T U F:↑Co}(Ae:n<=6)(D4:T.Perm (GZ 0 n))(Pv:U.Perm (GZ 1 n))(PB:F.Perm (GZ 2 n)):TS n (T++U++[none]++F):=by have p:(T++U++[none]++F).Perm (plain n):=((D4.append Pv).append (fq _)).append PB;have q:=(acu n).perm p;refine⟨?_,q.k,q.Bj⟩;rw[p.length_eq];erw[plain,EL,Rs,MB];lia
def acv{n:Nat}(x:Int)(Ae:n<=6):∃T U F:↑Co,T.Perm (GZ 0 n)/\U.Perm (GZ 1 n)/\F.Perm (GZ 2 n)/\∀h,Rg [.int (n:Int),.int x] h=.ok (.ref ⇑h,h++[⟨.lst,(T++U++[none]++F).map (Bx false)⟩]):=by
 obtain⟨T,W6,Pp⟩:=eJ (c:=0) (n:=n) x (t:=AO "teach") rfl Ae;obtain⟨U,W7,ZG⟩:=eJ (c:=1) (n:=n) (x/3+1) (t:=AO "turn") rfl Ae;obtain⟨F,W5,iG⟩:=eJ (c:=2) (n:=n) (x/7+2) (t:=AO "forget") rfl Ae;refine⟨T,U,F,W6,W7,W5,λh=>?_⟩;have SB:⇑T=n:=by rw[W6.length_eq,Rs]
 have Zz:⇑U=n:=by rw[W7.length_eq,Rs]
 have zO:⇑F=n:=by rw[W5.length_eq,Rs]
 obtain⟨A,Ka⟩:∃A,A=T.map (Bx false):=ο;obtain⟨B,Kb⟩:∃B,B=U.map (Bx false):=ο;obtain⟨D,bI⟩:∃D,D=F.map (Bx false):=ο;have Q4:⇑A=n:=by rw[Ka,Cd,SB]
 have TO:⇑B=n:=by rw[Kb,Cd,Zz]
 have aif:⇑D=n:=by rw[bI,Cd,zO]
 rw[<-Ka]at Pp;rw[<-Kb]at ZG;rw[<-bI]at iG;have B9:(T++U++[none]++F).map (Bx false)=A++B++[Bx false none]++D:=by rw[Ka,Kb,bI];simp
 have KG:Fu (A++B++[Bx false none]++D)=true:=by rw[<-B9];exact NU _ _ lq
 obtain⟨ρ,Ab⟩:∃ρ:Option W->Ay,ρ=λs=>[↥(.int (n:Int)),↥(.int x),s]:=ο;have v0:∀s H,I 0 (ρ s) H=.ok (.int (n:Int),H):=by rw[Ab];exact λ_ _=>rfl
 have v1:∀s H,I 1 (ρ s) H=.ok (.int x,H):=by rw[Ab];exact λ_ _=>rfl
 have v2:∀s H,I 2 (ρ ↥s) H=.ok (s,H):=by rw[Ab];exact λ_ _=>rfl
 have C7:∀s H,Aa 3 Lx (Z (pu (.str (AO "teach"))) (Z π Cl)) (ρ s) H=.ok (.ref ⇑H,H++[⟨.lst,A⟩]):=λs H=>by rw[EH,AW,Ag,J,AW,v0,J,AW,v1,J,BH,J,J,J,J,if_pos (by rfl),Pp]
 have Cz:∀s H,Aa 3 Lx (Z (pu (.str (AO "turn"))) (Z π (Z (A1 addW (A1 EQ τ Fr) ζ) A2))) (ρ s) H=.ok (.ref ⇑H,H++[⟨.lst,B⟩]):=λs H=>by rw[EH,AW,Ag,J,AW,v0,J,AW,AU,AU,v1,J,Ag,J,Kw,if_pos ε,J,Ag,J,Kv,J,BH,J,J,J,J,if_pos (by rfl),ZG]
 have GR:∀s H,Aa 3 Lx (Z (pu (.str (AO "forget"))) (Z π (Z (A1 addW (A1 EQ τ (pu (.int 7))) υ) A2))) (ρ s) H=.ok (.ref ⇑H,H++[⟨.lst,D⟩]):=λs H=>by rw[EH,AW,Ag,J,AW,v0,J,AW,AU,AU,v1,J,Ag,J,Kw,if_pos ε,J,Ag,J,Kv,J,BH,J,J,J,J,if_pos (by rfl),iG]
 obtain⟨h2,AG⟩:∃h2:A5,h2=h++[⟨.lst,A⟩]++[⟨.lst,B⟩]:=ο;have DI:⇑(h++[⟨.lst,A⟩]:A5)=⇑h+1:=γ
 have Ct:⇑h2=⇑h+2:=by rw[AG];simp
 have a1:=NY (h:=h2) (i:=⇑h) (j:=⇑h+1) (a:=A) (b:=B) (by rw[AG];exact CE _ (C9 _ _) _) (by rw[AG,<-DI,C9];rfl) (by unfold Bi;lia);obtain⟨BF,DS⟩:∃BF:A5,BF=h2++[⟨.lst,A++B⟩]:=ο;rw[<-DS]at a1;have Vd:⇑BF=⇑h2+1:=by rw[DS];simp
 have s1:Am (A1 addW (Aa 3 Lx (Z (pu (.str (AO "teach"))) (Z π Cl))) (Aa 3 Lx (Z (pu (.str (AO "turn"))) (Z π (Z (A1 addW (A1 EQ τ Fr) ζ) A2))))) (AB 2) (ρ none) h=.ok (.AP (ρ ↥(.ref ⇑h2)),BF):=by rw[DV,AU,C7,J,Cz,J,DI,<-AG,a1,J,Ab];rfl
 have Wu:BF[⇑h2]?=↥⟨.lst,A++B⟩:=by rw[DS,C9];rfl
 obtain⟨Cp,Li⟩:∃Cp:A5,Cp=BF++[⟨.lst,[Bx false none]⟩]:=ο;have FW:∀s,Be (Z (BE (Z (pu (.str (AO "wait"))) A2)) A2) (ρ s) BF=.ok (.ref ⇑BF,Cp):=λs=>by rw[Li];rfl
 have a2:=NY (h:=Cp) (i:=⇑h2) (j:=⇑BF) (a:=A++B) (b:=[Bx false none]) (by rw[Li];exact CE _ Wu _) (by rw[Li,C9];rfl) (by rw[EL,MB];unfold Bi;lia);obtain⟨Es,GA⟩:∃Es:A5,Es=Cp++[⟨.lst,A++B++[Bx false none]⟩]:=ο;rw[<-GA]at a2;have zv:⇑Cp=⇑BF+1:=by rw[Li];simp
 have dy:⇑Es=⇑BF+2:=by rw[GA];simp[zv]
 obtain⟨Ez,RG⟩:∃Ez:A5,Ez=Es++[⟨.lst,D⟩]:=ο;have JO:=NY (h:=Ez) (i:=⇑Cp) (j:=⇑Es) (a:=A++B++[Bx false none]) (b:=D) (by rw[RG,GA];exact CE _ (C9 _ _) _) (by rw[RG,C9];rfl) (by rw[EL,EL,MB];unfold Bi;lia);have Zy:⇑Ez=⇑BF+3:=by rw[RG];simp[dy]
 have MT:BF<+: Ez++[⟨.lst,A++B++[Bx false none]++D⟩]:=by rw[RG,GA,Li];exact Fv (Fv (Fv (Eu _ _) _) _) _
 have s2:CI (A1 addW (A1 addW ψ (Be (Z (BE (Z (pu (.str (AO "wait"))) A2)) A2))) (Aa 3 Lx (Z (pu (.str (AO "forget"))) (Z π (Z (A1 addW (A1 EQ τ (pu (.int 7))) υ) A2))))) (ρ ↥(.ref ⇑h2)) BF=.ok (.ref ⇑BF,BF++[⟨.lst,A++B++[Bx false none]++D⟩]):=by rw[FV,AU,AU,v2,J,FW,J,a2,J,GR,J,<-RG,JO,J];exact LF (ws:=A++B++[Bx false none]++D) BF _ (JE MT) δ (by rw[C9];rfl) KG
 have Bc:Rg [.int (n:Int),.int x] h=((Yz (ρ none) h).bind outF).bind λp=>BJ.settle h p.1 p.2:=by rw[Ab];rfl
 rw[Bc];unfold Yz;rw[Az,s1,J,B0,EC,s2,J,J,Fm,J,B9];exact LF (ws:=A++B++[Bx false none]++D) h _ (JE (Fv (by rw[DS,AG];exact Fv (Fv (Eu _ _) _) _) _)) δ (by rw[C9];rfl) KG
section
variable{C:FR}{h:A5}{S:Eo}
noncomputable def Nt(l:Lt):W:=.tup [.str (AO "go"),.int (l.n:Int)]
def EX(C:FR)(S:Eo):↑W:=S.lets.map Nt++if IA C S=true then[Go]else[]
def lZ(c:GQ C)(R:F9 C h S)(D:RR C S):NR [.ref C.r] h=.ok (.ref ⇑h,h++[⟨.lst,EX C S⟩]):=by
 have few:=R.few;have le:=R.le;have CH:B6 "Run" "letters" (.ref C.r) h=.ok (.ref (C.M+1),h):=EV R.B5 rfl;have em:BD (B6 "Run" "letters") π [ι,none] h=.ok (.ref (C.M+1),h):=by rw[H2,show I 0 [ι,none] h=.ok (.ref C.r,h)from rfl,J,CH]
 have Ed:=tx (it:=λAZ _=>Oc AZ) (e:=BE (Z (pu (.str (AO "go"))) Ω)) (us:=S.lets.map λl=>W.int (l.n:Int)) (λw=>.tup [.str (AO "go"),w]) (by rw[Cd];lia) em R.el (λj h' An=>by
  rw[Cd]at An;erw[Oc,Cd,Dl];by_cases e:j=⇑S.lets
  .rw[if_pos e,J_ δ];rfl
  .rw[if_neg e,C3 (show j< ⇑S.lets by lia)];rfl) (λw _ acc=>rfl)
 have eg:(S.lets.map λl=>W.int (l.n:Int)).map (λw=>W.tup [.str (AO "go"),w])=S.lets.map Nt:=by rw[K4];rfl
 rw[eg]at Ed;obtain⟨H1,A9⟩:∃H1:A5,H1=h++[⟨.lst,S.lets.map Nt⟩]:=ο;rw[<-A9]at Ed;have FY:F9 C H1 S:=by rw[A9];exact R.app _
 have FP:H1[⇑h]?=↥⟨.lst,S.lets.map Nt⟩:=by rw[A9,C9];rfl
 have s1:Am (Lv (λAZ _=>Oc AZ) 1 [] (BD (B6 "Run" "letters") π) (AB 0) ac (BE (Z (pu (.str (AO "go"))) Ω))) (AB 1) [ι,none] h=.ok (.AP [ι,χ],H1):=by rw[DV,Ed];rfl
 obtain⟨σ,eσ⟩:∃ σ :Ay,σ =[ι,χ]:=ο;have v0:I 0 σ H1=.ok (.ref C.r,H1):=by rw[eσ];rfl
 have v1:I 1 σ H1=.ok (.ref ⇑h,H1):=by rw[eσ];rfl
 have ms:Ad (CO "Run" "may_step" 0 Ol π A2) σ H1=.ok (IA C S,H1):=by rw[D_,Oq (h1:=H1) v0 FY.B5 rfl (lY c FY D),J,Db]
 obtain⟨T,Pp⟩:∃T:↑W,T=if IA C S=true then[Go]else[]:=ο
 have SB:⇑T<=1:=by rw[Pp];split<;>simp
 have mi:KB (Ad (CO "Run" "may_step" 0 Ol π A2)) (Be (Z (pu Go) A2)) (Be A2) σ H1=.ok (.ref ⇑H1,H1++[⟨.lst,T⟩]):=by unfold KB;rw[H0,ms,J,Pp];cases IA C S<;>rfl
 have ad:=NY (h:=H1++[⟨.lst,T⟩]) (i:=⇑h) (j:=⇑H1) (a:=S.lets.map Nt) (b:=T) (CE _ FP _) (by rw[C9];rfl) (by rw[Cd];unfold Bi;lia);have vQ:S.lets.map Nt++T=EX C S:=by rw[Pp];rfl
 rw[vQ]at ad;have KG:Fu (EX C S)=true:=Rk.mpr λx AM=>by
  rcases List.mem_append.mp AM with z|z
  .obtain⟨l,_,rfl⟩:=List.mem_map.mp z;rfl
  .split at z
   .rw[List.mem_singleton.mp z];rfl
   .cases z
 have s2:CI (A1 addW τ (KB (Ad (CO "Run" "may_step" 0 Ol π A2)) (Be (Z (pu Go) A2)) (Be A2))) σ H1=.ok (.ref ⇑H1,H1++[⟨.lst,EX C S⟩]):=by rw[FV,AU,v1,J,mi,J,ad,J];exact LF (ws:=EX C S) H1 _ (JE (Fv (Eu _ _) _)) γ (by rw[C9];rfl) KG
 have Bc:NR [.ref C.r] h=((Xz [ι,none] h).bind outF).bind λp=>BJ.settle h p.1 p.2:=rfl;rw[Bc];unfold Xz;rw[Az,s1,J,B0,<-eσ,EC,s2,J,J,Fm,J];exact LF (ws:=EX C S) h _ (JE (Fv (by rw[A9];exact Eu _ _) _)) (by rw[A9];simp) (by rw[C9];rfl) KG
end
structure G5(C:FR)(h:A5)(S:Eo):Prop where
 R:F9 C h S
 g:∃ca ga,IX C S ca ga
section
variable{C:FR}{h:A5}{S:Eo}
theorem G5.b8(c:GQ C)(P:G5 C h S)(AK:S.CS<900){d:AN}(hd:d∈outD C){a:Nat}(AF:a<16) :
  ∃v h' E4,Gr [.ref C.r,.tup [.str (AO "come"),AJ d,.int (a:Int)]] h=.ok (v,h')/\G5 C h' E4/\E4.CS<=S.CS+1/\E4.Cx<=S.Cx+1/\∀n,C.M+3<=n->n<C.T->h'[n]?=h[n]?:=by
 obtain⟨ca,ga,g⟩:=P.g;have AI:=P.R.AI;have KI:=c.KI;have D4:=c.D4;obtain⟨Hp,H8⟩:=List.mem_filter.mp hd;obtain⟨h',e,D6,Ct,fr⟩:=tw c P.R AK Hp (Option.isNone_iff_eq_none.mp H8) AF;exact⟨_,h',_,aab P.R e,⟨D6,_,_,g.b8 hd⟩,CB _,Uo _,λn a1 a2=>fr n δ δ δ⟩
theorem G5.go(c:GQ C)(P:G5 C h S)(hm:S.Cx<900000){l:Lt}(AI:l∈S.lets) :
  ∃v h' E4,Gr [.ref C.r,.tup [.str (AO "go"),.int (l.n:Int)]] h=.ok (v,h')/\G5 C h' E4/\E4.CS<=S.CS+1/\E4.Cx<=S.Cx+1/\∀n,C.M+3<=n->n<C.T->h'[n]?=h[n]?:=by
 obtain⟨ca,ga,g⟩:=P.g;have wZ:=P.R.AI;have KI:=c.KI;have D4:=c.D4;have Kf:l∈Cr S:=Gx _ AI;have x0:=P.R.lt l Kf;have Cn:=x0.Cn;obtain⟨EI,BN,es⟩:=List.append_of_mem AI;obtain⟨h',e,D6,Ct,fr⟩:=xF c P.R hm es;exact⟨_,h',_,aac P.R e,⟨D6,_,_,g.go es x0.m x0.a⟩,by rw[xD];lia,by rw[xE];lia,λn a1 a2=>fr n δ δ δ⟩
theorem G5.step(c:GQ C)(P:G5 C h S)(hm:IA C S=true) :
  ∃v h' E4,Gr [.ref C.r,.tup [.str (AO "step")]] h=.ok (v,h')/\Gr [.ref C.r,Go] h=.ok (v,h')/\G5 C h' E4/\E4.CS<=S.CS+1/\E4.Cx<=S.Cx+1/\∀n,C.M+3<=n->n<C.T->h'[n]?=h[n]?:=by
 obtain⟨ca,ga,g⟩:=P.g;have D4:=c.D4;obtain⟨h',e,D6,Ct,fr⟩:=aee c P.R g.D hm;refine⟨_,h',M_ C S,aad P.R e (.inr ⟨_,rfl⟩),?_,⟨D6,_,_,g.step (λl AI=>(P.R.lt l (Gx _ AI)).m) hm⟩,by simp[M_],by simp[M_],λn a1 _=>fr n δ⟩;have Cs:DT "tuple" Go h=.ok ω:=rfl;have Ft:DT "str" (.str (AO "step")) h=.ok ω:=rfl;have DI:Bh [Go] h=.ok (.int 1,h):=rfl;have x0:A7 Go (.int 0) h=.ok (.str (AO "step"),h):=rfl;have GW:CO "Run" "step" 0 SK π A2 [ι,↥Go] h=_:=Oq (h1:=h) rfl P.R.B5 rfl e;have Aq:(AO "step"==AO "come")=false:=rfl;have BV:(AO "step"==AO "go")=false:=rfl;have Do:BC true Go Go h=.ok ω:=by simp[BC,Go,Bu,eqT,GJ]
 simp[Gr,R5,Cs,Ft,DI,x0,Aq,BV,Do,GW]
end
theorem G5.app{C:FR}{h:A5}{S:Eo}(P:G5 C h S)(g:A5):G5 C (h++g) S:=⟨P.R.app g,P.g⟩
section
variable{C:FR}{h:A5}{S:Eo}
def V4(C:FR)(S:Eo)(h h':A5):Prop:=∃E4,G5 C h' E4/\E4.CS<=S.CS+1/\E4.Cx<=S.Cx+1/\∀n,C.M+3<=n->n<C.T->h'[n]?=h[n]?
def lV(c:GQ C)(P:G5 C h S)(hm:S.Cx<900000){w:W}(hw:w∈EX C S):∃v h',Gr [.ref C.r,w] h=.ok (v,h')/\V4 C S h h':=by
 rcases List.mem_append.mp hw with z|z
 .obtain⟨l,AI,rfl⟩:=List.mem_map.mp z;obtain⟨v,h',E4,e,q⟩:=P.go c hm AI;exact⟨v,h',e,E4,q⟩
 .split at z
  .rename_i A4;rw[List.mem_singleton.mp z];obtain⟨v,h',E4,_,e,q⟩:=P.step c A4;exact⟨v,h',e,E4,q⟩
  .cases z
def UI(C:FR)(S:Eo):↑C_:=S.lets.map (λl=>C_.CZ true [.str (AO "go"),.int (l.n:Int)])++if IA C S=true then[C_.CZ true [.str (AO "step")]]else[]
theorem lU{α β:Type}(f:α->Option β):∀{a b:↑α}{x y:↑β},a.mapM f=↥x->b.mapM f=↥y->(a++b).mapM f=↥(x++y)
 |[],b,x,y,A9,AG=>by simp at A9;subst A9;simpa using AG
 |u::a,b,x,y,A9,AG=>by
  rw[O0]at A9;rw[Ij,O0];cases Er:f u with
  |none=>rw[Er]at A9;cases A9
  |some z=>
   cases BX:a.mapM f with
   |none=>rw[Er,BX]at A9;cases A9
   |some Fy=>rw[Er,BX]at A9;cases A9;rw[lU f BX AG];rfl
def adv(H:A5):(EX C S).mapM (Bu 7 H)=↥(UI C S):=by
 unfold EX UI;refine lU _ (UH (f:=Nt) (g:=λl=>C_.CZ true [.str (AO "go"),.int (l.n:Int)]) λl _=>by simp[Nt,Bu]) ?_
 split
 .simp[Go,Bu]
 .rfl
def lX{H:A5}{n m:Nat}(e:H[n]?=↥⟨.lst,EX C S⟩)(Bg:H[m]?=↥⟨.lst,[]⟩):BC true KK (.ref m) H=.ok (.AL (EX C S).isEmpty,H):=by
 have r:Bu 8 H KK=↥(.CZ false (UI C S)):=by show(match Dw H KK with|some (t,ws)=>(ws.mapM (Bu 7 H)).map (C_.CZ t)|none=>none)=_;rw[Gf H e];erw[adv,LH]
 unfold BC;rw[r,adu (l:=[]) 7 Bg];have:(UI C S).isEmpty=(EX C S).isEmpty:=by unfold UI EX;cases S.lets<;>cases IA C S<;>rfl
 rw[<-this];cases UI C S<;>simp[eqT,GJ]
noncomputable def N6(r ou:Nat)(x:Int)(s3 s4 s5:Option W):Ay:=[↥(.ref r),↥(.ref ou),↥(.int x),s3,s4,s5]
def aae(c:GQ C)(P:G5 C h S)(AK:S.CS<900)(hm:S.Cx<900000){ou:Nat}(GB:h[ou]?=↥⟨.lst,(outD C).map AJ⟩)(ne:outD C≠[])(Ib:⇑(outD C)<=24)(x:Int):∃h',Pb [.ref C.r,.ref ou,.int x] h=.ok (.non,h')/\V4 C S h h':=by
 obtain⟨Hx,cb⟩:=aE x (k:=0) ε;obtain⟨Hy,cc⟩:=aE x (k:=1) ε;have cb:∀h,Ig [.int x,.int 0] h=.ok (.int Hx,h):=cb;have cc:∀h,Ig [.int x,.int 1] h=.ok (.int Hy,h):=cc;obtain⟨H,B_⟩:∃H:A5,H=h++[⟨.lst,EX C S⟩]:=ο;have QD:G5 C H S:=by rw[B_];exact P.app _
 have Et:H[⇑h]?=↥⟨.lst,EX C S⟩:=by rw[B_,C9];rfl
 have qX:H[ou]?=↥⟨.lst,(outD C).map AJ⟩:=by rw[B_];exact CE _ GB _
 have D4:=c.D4;have wZ:=P.R.AI;have dR:∀{h'},V4 C S H h'->V4 C S h h':=λ{h'}⟨E4,a,b,d,f⟩=>⟨E4,a,b,d,λn E1 FN=>by rw[f n E1 FN,B_,Fz δ]⟩;obtain⟨ca,ga,g⟩:=P.g;obtain⟨ρ,Ab⟩:∃ρ:Ay,ρ=N6 C.r ou x ↥(.int (Hx%9)) ↥(.int Hy) χ:=ο;have v0:∀H,I 0 ρ H=.ok (.ref C.r,H):=by rw[Ab];exact λ_=>rfl
 have v1:∀H,I 1 ρ H=.ok (.ref ou,H):=by rw[Ab];exact λ_=>rfl
 have E2:∀H,I 3 ρ H=.ok (.int (Hx%9),H):=by rw[Ab];exact λ_=>rfl
 have v4:∀H,I 4 ρ H=.ok (.int Hy,H):=by rw[Ab];exact λ_=>rfl
 have Fp:∀H,I 5 ρ H=.ok (.ref ⇑h,H):=by rw[Ab];exact λ_=>rfl
 have s1:Am (A1 Bf (Aa 2 Ig (Z ψ (Z η A2))) (pu (.int 9))) (AB 3) (N6 C.r ou x none none none) h=.ok (.AP (N6 C.r ou x ↥(.int (Hx%9)) none none),h):=by have q:Aa 2 Ig (Z ψ (Z η A2)) (N6 C.r ou x none none none) h=.ok (.int Hx,h):=L4 (us:=[.int x,.int 0]) (h1:=h) rfl rfl (cb h);rw[DV,AU,q,J,Ag,J,F5,if_pos ε,J];rfl
 have s2:Am (Aa 2 Ig (Z ψ (Z ζ A2))) (AB 4) (N6 C.r ou x ↥(.int (Hx%9)) none none) h=.ok (.AP (N6 C.r ou x ↥(.int (Hx%9)) ↥(.int Hy) none),h):=by have q:Aa 2 Ig (Z ψ (Z ζ A2)) (N6 C.r ou x ↥(.int (Hx%9)) none none) h=.ok (.int Hy,h):=L4 (us:=[.int x,.int 1]) (h1:=h) rfl rfl (cc h);rw[DV,q,J];rfl
 have s3:Am (CO "Run" "may" 0 NR π A2) (AB 5) (N6 C.r ou x ↥(.int (Hx%9)) ↥(.int Hy) none) h=.ok (.AP ρ,H):=by
  have q:CO "Run" "may" 0 NR π A2 (N6 C.r ou x ↥(.int (Hx%9)) ↥(.int Hy) none) h=.ok (.ref ⇑h,H):=by rw[B_];exact Oq (h1:=h) rfl P.R.B5 rfl (lZ c P.R g.D)
  rw[DV,q,J,Ab];rfl
 have t1:MP (F2 (Ad (A1 NO Ψ υ)) (Ad (A1 Φ (I 5) (Be A2)))) ρ H=.ok (decide (Hx%9<2)||(EX C S).isEmpty,H):=by
  have lt:NO (.int (Hx%9)) (.int 2) H=.ok (.AL (decide (Hx%9<2)),H):=rfl;have nl:Be A2 ρ H=.ok (.ref ⇑H,H++[⟨.lst,[]⟩]):=rfl;have eq:=lX (C:=C) (S:=S) (H:=H++[⟨.lst,[]⟩]) (n:=⇑h) (m:=⇑H) (CE _ Et _) (by rw[C9];rfl);rw[e9,v_or,D_,AU,E2,J,Ag,J,lt,J,Db,J];by_cases z:Hx%9<2
  .rw[if_pos (z:),J,JE (List.prefix_refl _)];simp[z]
  .rw[if_neg (z:),D_,AU,Fp,J,nl,J,eq,J,Db,J,if_pos (MV _ _)];simp[z]
 have Cx:∀{w:W}{ma:DQ}{v:W}{h':A5},ma ρ H=.ok ([w],H)->Gr [.ref C.r,w] H=.ok (v,h')->Di (CO "Run" "move" 1 Gr π ma) ρ H=.ok (.AP ρ,h'):=λ{w ma v h'} a b=>by have q:CO "Run" "move" 1 Gr π ma ρ H=.ok (v,h'):=KD (us:=[w]) (v0 H) QD.R.B5 rfl a rfl b;rw[IG,q,J]
 have Bc:Pb [.ref C.r,.ref ou,.int x] h=(Xn (N6 C.r ou x none none none) h).bind outF:=rfl;rw[Bc];unfold Xn;rw[Az,s1,J,B0,Az,s2,J,B0,Az,s3,J,B0,DL,t1,J];by_cases b1:(decide (Hx%9<2)||(EX C S).isEmpty)=true
 .
  have DI:0< ⇑(outD C):=List.length_pos_iff.mpr ne;obtain⟨i,AA,Fb⟩:=J2 Hy (n:=⇑(outD C)) DI;obtain⟨a,AF,BX⟩:=J2 (Hy/50) (n:=16) ε;have BX:Hy/50%16=(a:Int):=BX;obtain⟨v,h',E4,e,q⟩:=QD.b8 c AK (J9 AA) AF;have DG:A7 (.ref ou) (.int (i:Int)) H=.ok (AJ (outD C)[i],H):=EW qX (by rw[Dl,C3 AA];rfl);have ln:Bh [.ref ou] H=.ok (.int (⇑(outD C):Int),H):=by rw[Ic qX,Cd]
  have Iw:Z (BE (Z (pu (.str (AO "come"))) (Z (A1 A7 τ (A1 Bf (I 4) (BI Bh Cl))) (Z (A1 Bf (A1 EQ (I 4) (pu (.int 50))) (pu (.int 16))) A2)))) A2 ρ H=.ok ([.tup [.str (AO "come"),AJ (outD C)[i],.int (a:Int)]],H):=by rw[AW,HF,AW,Ag,J,AW,AU,v1,J,AU,v4,J,Fx,AW,v1,J,BH,J,J,ln,J,F5,if_pos δ,J,Fb,DG,J,AW,AU,AU,v4,J,Ag,J,Kw,if_pos ε,J,Ag,J,F5,if_pos ε,J,BX,BH];rfl
  refine⟨h',?_,dR ⟨E4,q⟩⟩;rw[if_pos b1,Cx Iw e];rfl
 .rw[if_neg b1];have nn:EX C S≠[]:=λz=>b1 (by rw[z];simp);have BU:0< ⇑(EX C S):=List.length_pos_iff.mpr nn;have few:=P.R.few;have le:=P.R.le;have TP:⇑(EX C S)<=1001:=by
   unfold EX;rw[EL,Cd]
   split<;>simp<;>lia
  have Wn:∀G:A5,Os (.int 1) G=.ok (.int (-1),G):=λ_=>rfl;have el:A7 (.ref ⇑h) (.int (-1)) H=.ok ((EX C S).getLast nn,H):=df (us:=(EX C S).dropLast) (by rw[List.dropLast_concat_getLast];exact Et);have Cn:∃b:Bool,JX (Ad (A1 Φ Ψ υ)) (Ad (A1 Φ (A1 A7 (I 5) (BD Os ζ)) (BE (Z (pu (.str (AO "step"))) A2)))) ρ H=.ok (b,H)/\(b=true->IA C S=true):=by
   have AG:BC true (.int (Hx%9)) (.int 2) H=.ok (.AL (Hx%9==2),H):=by simp[BC,Bu,eqT]
   have Hd:BE (Z (pu (.str (AO "step"))) A2) ρ H=.ok (.tup [.str (AO "step")],H):=rfl;have es:BC true ((EX C S).getLast nn) (.tup [.str (AO "step")]) H=.ok (.AL (IA C S),H):=by
    have mem:=List.getLast_mem nn;cases A4:IA C S with
    |true=>
     have:(EX C S).getLast nn=Go:=by
      have e:EX C S=S.lets.map Nt++[Go]:=by unfold EX;rw[if_pos A4]
      simp[e]
     rw[this];simp[BC,Go,Bu,eqT,GJ]
    |false=>
     rcases List.mem_append.mp mem with z|z
     .obtain⟨l,_,q⟩:=List.mem_map.mp z;rw[<-q];simp[Nt,BC,Bu,eqT,GJ]
     .rw[A4,if_neg γ]at z;cases z
   rw[v_and,D_,AU,E2,J,Ag,J,AG,J,Db,J];cases Hx%9==2
   .exact⟨false,γ,γ⟩
   .refine⟨IA C S,?_,id⟩;rw[if_pos rfl,D_,AU,AU,Fp,J,H2,Ag,J,Wn,J,el,J,Hd,J,es,J,Db]
  obtain⟨b,Cn,A4⟩:=Cn;rw[DL,Cn,J];cases b
  .
   rw[if_neg γ];obtain⟨i,AA,Fb⟩:=J2 Hy (n:=⇑(EX C S)) BU;obtain⟨v,h',e,q⟩:=lV c QD hm (J9 AA);have DG:A7 (.ref ⇑h) (.int (i:Int)) H=.ok ((EX C S)[i],H):=EW Et (C3 AA);have Iw:Z (A1 A7 (I 5) (A1 Bf (I 4) (BI Bh (Z (I 5) A2)))) A2 ρ H=.ok ([(EX C S)[i]],H):=by rw[AW,AU,Fp,J,AU,v4,J,Fx,AW,Fp,J,BH,J,J,Ic Et,J,F5,if_pos δ,J,Fb,DG,J,BH,J]
   refine⟨h',?_,dR q⟩;rw[Cx Iw e];rfl
  .
   obtain⟨v,h',E4,e,_,q⟩:=QD.step c (A4 rfl);refine⟨h',?_,dR ⟨E4,q⟩⟩;rw[if_pos rfl,Cx (w:=.tup [.str (AO "step")]) rfl e];rfl
end
def tr{f:AN->Tl}{L:↑AN}(ch:∀(i:Nat) x y,L[i]?=↥x->L[i+1]?=↥y->f x=.at y){z:AN}(hz:L[⇑L-1]?=↥z)(B2:∀y,f z≠.at y):L.Nodup:=by
 rw[X1,List.pairwise_iff_getElem];intro i j AA An ajH e;have same:∀t,j+t< ⇑L->L[i+t]?=L[j+t]?:=λt=>by
  induction t with
  |zero=>intro _;rw[XW,XW,C3 AA,C3 An,e]
  |succ t CC=>
   intro BY;have q:=CC δ;have a1:L[i+t]?=↥L[i+t]:=C3 δ;have a2:L[i+t+1]?=↥L[i+t+1]:=C3 δ;have Ey:L[j+t+1]?=↥L[j+t+1]:=C3 δ;have C7:=ch _ _ _ a1 a2;have Cz:=ch _ _ _ (q.symm.trans a1) Ey;rw[C7]at Cz;have Cz:L[i+t+1]=L[j+t+1]:=by injection Cz
   rw[show i+(t+1)=i+t+1 by lia,show j+(t+1)=j+t+1 by lia,a2,Ey,Cz]
 have q:=same (⇑L-1-j) δ;rw[show j+(⇑L-1-j)=⇑L-1 by lia,hz]at q;have Ey:L[i+(⇑L-1-j)+1]?=↥L[i+(⇑L-1-j)+1]:=C3 δ;exact B2 _ (ch _ _ _ q Ey)
section
variable{C:FR}{S:Eo}{ca ga:Nat->Nat}
def vY(g:IX C S ca ga){l:Lt}{t:Tl}(he:(l,t)∈S.ended)(nl:∀x,t≠.Jw x):t=ID C.ws (Mk C l.m l.d.1) l.d l.a/\(∀y,ID C.ws (Mk C l.m l.d.1) l.d l.a≠.at y)/\(road l).Nodup:=by
 obtain⟨_,g2,g3⟩:=g.ge _ he;have g2:t=IC C (C.ps.take (ga l.n)) l:=g2;have g3:isAt t=false:=g3;have e:t=ID C.ws (Mk C l.m l.d.1) l.d l.a:=by
  unfold IC at g2
  split at g2
  .exact g2
  .exact absurd g2 (nl _)
 have na:∀y,ID C.ws (Mk C l.m l.d.1) l.d l.a≠.at y:=λy z=>by rw[<-e]at z;rw[z]at g3;cases g3
 refine⟨e,na,tr (f:=λx=>ID C.ws (Mk C l.m x.1) x l.a) (z:=l.d) (λi x y a b=>g.ch l (VY he) i x y a b) ?_ na⟩;unfold road;simp
end
def u7{ws:ν}(AI:⇑ws<100){h:A5}{a n:Nat}(B2:h[n]?=↥⟨.lst,ws.map CJ⟩)(d:AN):Re [.tup [.ref a,.ref n],AJ d] h=.ok (IR (EF ws d),h):=by
 apply Ends.done
 have BU:=Th (mi:=CN (A1 A7 π ζ)) (it:=Fd KK) (g:=Dh [(AB 2),(AB 3)]) (b:=AT (C8 (Ad (A1 Φ ψ τ)) (B1 Ψ) C5) (C8 (Ad (A1 Φ Ψ τ)) (B1 ψ) C5))
  (ρ:=[↥(.tup [.ref a,.ref n]),↥(AJ d),none,none]) (h:=h) (h0:=h) (ws.map CJ) (by rw[Cd];lia)
  (λj ρ h'=>∃s2 s3,ρ=[↥(.tup [.ref a,.ref n]),↥(AJ d),s2,s3]/\h'=h/\EF (ws.drop j) d=EF ws d)
  (T:=λf h'=>h'=h/\((∃ρ,f=.AP ρ/\EF ws d=none)\/f=.Dp (IR (EF ws d))))
  (J0 B2 rfl) (λj ρ h' _⟨_,_,_,e,_⟩=>by rw[e];exact Kk B2 j) ⟨none,none,rfl,rfl,rfl⟩ ?_ ?_
 .obtain⟨f,h',C2,rfl,q⟩:=BU.HB;erw[Re,rK,bg,Az,KO,kY,EM,LP,FF,JB,Ij,UV,Mx,Nat.reduceSub,Gy,C2,J];rcases q with⟨ρ,rfl,e⟩|rfl
  .simp[e,IR]
  .simp
 .rintro j w _ H1 Ck ⟨s2,s3,rfl,HR,e⟩;subst HR;rw[Dl]at Ck;cases Bc:ws[j]? with
  |none=>rw[Bc]at Ck;cases Ck
  |some p=>
   rw[Bc]at Ck;cases Ck;have An:j< ⇑ws:=(List.getElem?_eq_some_iff.mp Bc).1;have hd:ws.drop j=p::ws.drop (j+1):=by rw[fS An];have:=(List.getElem?_eq_some_iff.mp Bc).2;rw[this]
   rw[hd]at e;refine⟨[↥(.tup [.ref a,.ref n]),↥(AJ d),↥(AJ p.1),↥(AJ p.2)],H1,by simp[CJ],?_⟩;erw[EF]at e;by_cases h1:p.1=d
   .rw[if_pos h1]at e;simp[YZ,h1,<-e,IR]
   .rw[if_neg h1]at e;by_cases h2:p.2=d
    .rw[if_pos h2]at e;simp[YZ,h1,h2,<-e,IR]
    .rw[if_neg h2]at e;simp[YZ,h1,h2,e]
 .rintro _ _ ⟨s2,s3,rfl,rfl,e⟩;refine⟨rfl,.inl ⟨_,rfl,?_⟩⟩;rw[<-e];simp[EF]
def aeh(x:Int)(h:A5):LX [.int (x%2)] h=.ok (.str ⟨#[48+(x%2).toNat]⟩,h):=by rcases(by lia:x%2=0\/x%2=1)with e|e<;>rw[e]<;>rfl
noncomputable def Eb(a:Nat):Str:=⟨#[48+((a:Int)/8%2).toNat,48+((a:Int)/4%2).toNat,48+((a:Int)/2%2).toNat,48+((a:Int)/1%2).toNat]⟩
def qM(a:Nat)(h:A5):Oo [.int (a:Int)] h=.ok (.str (Eb a),h):=by
 obtain⟨ws,Y_⟩:∃ws:↑W,ws=[.int 8,.int 4,.int 2,.int 1]:=ο;have lw:⇑ws<1000:=by rw[Y_];decide
 have Ih:Be (Z (pu (.int 8)) (Z Γ (Z υ (Z ζ A2)))) [ς] h=.ok (.ref ⇑h,h++[⟨.lst,ws⟩]):=by rw[Y_];rfl
 obtain⟨H,B_⟩:∃H:A5,H=h++[⟨.lst,ws⟩]:=ο;rw[<-B_]at Ih;have Et:H[⇑h]?=↥⟨.lst,ws⟩:=by rw[B_,C9];rfl
 have Ed:=Mm (mi:=CN (Be (Z (pu (.int 8)) (Z Γ (Z υ (Z ζ A2)))))) (it:=Fd (.ref ⇑h)) (g:=AB 0) (t:=pu true) (e:=BI LX (Z (A1 Bf (A1 EQ τ π) υ) A2)) (ρ:=[ς]) (h:=H) (h0:=h) (nl:=1) (caps:=[0]) ws (λ_=>true) (λw=>match w with
  |.int k=>.str ⟨#[48+((a:Int)/k%2).toNat]⟩
  |_=>.non) (λρ=>∃s,ρ=[s,↥(.int (a:Int))]) lw (J0 Et Ih) ⟨none,rfl⟩ (λj acc _=>Kk (CE _ Et _) j) (by
   rintro w hw ρ acc ⟨s,rfl⟩;rw[Y_]at hw;obtain⟨k,rfl,k0⟩:∃k:Int,w=.int k/\0<k/\k<1073741824:=by erw[He,My,or_false]at hw;rcases hw with rfl|rfl|rfl|rfl<;>exact⟨_,rfl,ε,ε⟩
   refine⟨[↥(.int k),ς],γ,⟨_,rfl⟩,rfl,λ_=>?_⟩;obtain⟨Cj,EG⟩:∃Cj:Ay,Cj=[↥(.int k),ς]:=ο;have t0:∀H,I 0 Cj H=.ok (.int k,H):=λH=>by rw[EG];rfl
   have t1:∀H,I 1 Cj H=.ok (.int (a:Int),H):=λH=>by rw[EG];rfl
   rw[<-EG,Fx,AW,AU,AU,t1,J,t0,J,Kw,if_pos k0,J,Ag,J,F5,if_pos ε,J,BH,J,J,aeh])
 have C2:(ws.filter λ_=>true).map (λw=>match w with
  |.int k=>W.str ⟨#[48+((a:Int)/k%2).toNat]⟩
  |_=>.non)=[.str ⟨#[48+((a:Int)/8%2).toNat]⟩,.str ⟨#[48+((a:Int)/4%2).toNat]⟩,.str ⟨#[48+((a:Int)/2%2).toNat]⟩,.str ⟨#[48+((a:Int)/1%2).toNat]⟩]:=by rw[Y_];rfl
 rw[C2]at Ed;have TK:=kl (sep:=AO "") (ρ:=[ς]) (h:=h) (n:=⇑H) (ma:=Z (CW 1 [0] (CN (Be (Z (pu (.int 8)) (Z Γ (Z υ (Z ζ A2)))))) (AB 0) ac (BI LX (Z (A1 Bf (A1 EQ τ π) υ) A2))) A2) (by rw[AW,Ed,J,BH,J]) (by rw[C9];rfl) (ys:=[⟨#[48+((a:Int)/8%2).toNat]⟩,⟨#[48+((a:Int)/4%2).toNat]⟩,⟨#[48+((a:Int)/2%2).toNat]⟩,⟨#[48+((a:Int)/1%2).toNat]⟩]) rfl (show(4:Nat)<=16777216 by decide);have Bc:Oo [.int (a:Int)] h=((Z3 [ς] h).bind outF).bind λp=>BJ.settle h p.1 p.2:=rfl;rw[Bc];unfold Z3;rw[EC,FV,TK,J,kh];have pr:FO h (H++[⟨.lst,[.str ⟨#[48+((a:Int)/8%2).toNat]⟩,.str ⟨#[48+((a:Int)/4%2).toNat]⟩,.str ⟨#[48+((a:Int)/2%2).toNat]⟩,.str ⟨#[48+((a:Int)/1%2).toNat]⟩]⟩])=true:=JE (by rw[B_];exact Fv (Eu _ _) _);rw[QN h _ _ rfl pr,J,J,Fm,J];exact Nf h _ rfl
def qJ(a:Nat):Eb a=⟨#[48+a/8%2,48+a/4%2,48+a/2%2,48+a/1%2]⟩:=by
 have e:∀k:Nat,((a:Int)/(k:Int)%2).toNat=a/k%2:=λk=>by rw[show((a:Int)/(k:Int)%2)=((a/k%2:Nat):Int)by simp,SR]
 unfold Eb;have Vs:((a:Int)/8%2).toNat=a/8%2:=e 8;have Li:((a:Int)/4%2).toNat=a/4%2:=e 4;have AG:((a:Int)/2%2).toNat=a/2%2:=e 2;have A9:((a:Int)/1%2).toNat=a/1%2:=e 1;rw[Vs,Li,AG,A9]
noncomputable def WI(x:Str)(a k:Nat):W:=.tup [.str ⟨#[x.cps.toList.getD k 0]⟩,.str ⟨#[48+a/Gg k%2]⟩]
noncomputable def e2:W->Bool
 |.tup [.str s,.str t]=>s.cps.toList.getD 0 0==120||s.cps.toList.getD 0 0==t.cps.toList.getD 0 0
 |_=>false
def ht(c e:Nat)(h:A5):BC true (.str ⟨#[c]⟩) (.str ⟨#[e]⟩) h=.ok (.AL (c==e),h):=by
 rw[IS,if_pos rfl]
 congr 3
 rw[Qj];simp
def zx{x:Str}(p:QF x)(a:Nat)(h:A5):Wc [.str x,.str (Eb a)] h=.ok (.AL (JS x a),h):=by
 have Cp:x.cps.size=4:=p.l;obtain⟨us,Er⟩:∃us:↑W,us=[.str ⟨#[48+a/8%2]⟩,.str ⟨#[48+a/4%2]⟩,.str ⟨#[48+a/2%2]⟩,.str ⟨#[48+a/1%2]⟩]:=ο;have fM:Oi (Z π Cl) [↥(.str x),↥(.str (Eb a))] h=.ok (Rb x us,h):=by rw[qJ,Er];rfl
 have al:=Xq (mi:=Oi (Z π Cl)) (it:=Rb x us) (g:=Dh [(AB 0),(AB 1)]) (e:=PZ (A1 Φ π (pu (.str (AO "x")))) (A1 Φ π τ)) (ρ:=[↥(.str x),↥(.str (Eb a))]) (h:=h) (nl:=2) (caps:=[]) ((Cg 4).map (WI x a)) e2 (λρ=>∃s t,ρ=[s,t]) γ fM ⟨none,none,rfl⟩ (λj acc An=>by
   erw[Cd,Sd]at An;unfold Rb;have ab6:⇑us=4:=by rw[Er];rfl
   erw[Cp,ab6];by_cases Dc:j<4
   .rw[if_neg δ];rw[Dl,Ny Dc,LL δ];rcases(by lia:j=0\/j=1\/j=2\/j=3)with rfl|rfl|rfl|rfl<;>simp[WI,Gg,Cp,Er]
   .have:j=4:=δ
    subst this;rfl) (by
  rintro w hw ρ acc ⟨s,t,rfl⟩;obtain⟨k,AQ,rfl⟩:=List.mem_map.mp hw;refine⟨[↥(.str ⟨#[x.cps.toList.getD k 0]⟩),↥(.str ⟨#[48+a/Gg k%2]⟩)],by simp[WI],⟨_,_,rfl⟩,?_⟩;have A9:BC true (.str ⟨#[x.cps.toList.getD k 0]⟩) (.str (AO "x")) (h++[⟨.lst,acc⟩])=.ok (.AL (x.cps.toList.getD k 0==120),h++[⟨.lst,acc⟩]):=ht _ 120 _;erw[agJ,AU,v_var,Ag,Gl,IP,Fq,J,A9,Db,ht];have B9:e2 (WI x a k)=(x.cps.toList.getD k 0==120||x.cps.toList.getD k 0==48+a/Gg k%2):=rfl;rw[B9];cases x.cps.toList.getD k 0==120<;>rfl)
 have BX:((Cg 4).map (WI x a)).all e2=JS x a:=by
  unfold JS;rw[Si]
  congr 1
 rw[BX]at al;have gT:CI (BI (Hs true) (Z (CW 2 [] (Oi (Z π Cl)) (Dh [(AB 0),(AB 1)]) ac (PZ (A1 Φ π (pu (.str (AO "x")))) (A1 Φ π τ))) A2)) [↥(.str x),↥(.str (Eb a))] h=.ok (.AL (JS x a),h):=by rw[FV,al];simp
 have Bc:Wc [.str x,.str (Eb a)] h=((Xj [↥(.str x),↥(.str (Eb a))] h).bind outF).bind λp=>BJ.settle h p.1 p.2:=rfl;rw[Bc];unfold Xj;rw[EC,gT,J,J,Fm,J];exact Nf h _ rfl
def Ws(Bv:↑CY)(i a:Nat):Option Nat:=(Pu Bv i a).bind λk=>(Bv.getD k I5).b
def abK(ws:ν)(Bv:↑CY)(d:AN)(a:Nat):ID ws Bv d a=Jy ws d.1 (Ws Bv d.2 a):=by unfold ID Ws;cases Pu Bv d.2 a<;>rfl
def dG:Ap:=C8 (JX (Ad (Aa 2 Wc (Z Ψ (Z ψ A2)))) (F2 (Ad (A1 (El true) (I 4) Tm)) (Ad (A1 Φ (I 4) τ)))) (B1 (I 5)) C5
def ab1{c:Nat}{Bv:↑CY}(ok:Ky c Bv){h:A5}{b i a:Nat}(B4:h[b]?=↥(IZ Bv)):Pc [.ref b,.int (i:Int),.str (Eb a)] h=.ok (Cw (Ws Bv i a),h):=by
 have zu:=ok.1;obtain⟨Eh,⟨s3,s4,s5,rfl⟩,e⟩:=az (mi:=CN π) (it:=Fd (.ref b)) (g:=Dh [(AB 3),(AB 4),(AB 5)]) (b:=dG) (ρ:=[ST,↥(.int (i:Int)),↥(.str (Eb a)),none,none,none]) (h:=h) (h0:=h) ⇑Bv δ (λj=>Dd (Bv.getD j I5)) (λρ=>∃s3 s4 s5,ρ=[ST,↥(.int (i:Int)),↥(.str (Eb a)),s3,s4,s5]) (λj=>if OQ i a (Bv.getD j I5)=true then↥(Cw (Bv.getD j I5).b)else none) (J0 B4 rfl) (λj _=>ab3 B4 j) ⟨none,none,none,rfl⟩ (by
  rintro j An _ ⟨s3,s4,s5,rfl⟩;obtain⟨r,B5⟩:∃r,r=Bv.getD j I5:=ο;have f6:=ok.2 r (B5▸getD_mem An);rw[<-B5];refine⟨[ST,↥(.int (i:Int)),↥(.str (Eb a)),↥(.str r.p),↥(Cw r.a),↥(Cw r.b)],[ST,↥(.int (i:Int)),↥(.str (Eb a)),↥(.str r.p),↥(Cw r.a),↥(Cw r.b)],by simp[Dd],⟨_,_,_,rfl⟩,?_⟩;have VF:=zx f6.p a h;unfold dG;rw[DL];erw[v_and,v_or,D_,AU,EH,AW,BH,v_var,Ag,Gl,IP,Fq,J,c6,Db,VF,FF,JB,Mx,if_true];unfold OQ;cases BF:JS r.p a
  .simp[Jp]
  .cases h1:r.a.isNone
   .erw[Kn,if_false,iO h _ i h1,J,Db,gL,if_true];cases h2:r.a==↥i<;>simp[Jp]
   .simp[Jp])
 rw[ck (λj=>OQ i a (Bv.getD j I5)) (λj:Nat=>Cw (Bv.getD j I5).b)]at e;have Bc:Pc [.ref b,.int (i:Int),.str (Eb a)] h=((AT (Em (CN π) (Dh [(AB 3),(AB 4),(AB 5)]) dG) (B1 Tm) [ST,↥(.int (i:Int)),↥(.str (Eb a)),none,none,none] h).bind outF).bind λp=>BJ.settle h p.1 p.2:=rfl;rw[Bc,Az,e];unfold Ws Pu;cases(Cg ⇑Bv).find? λj=>OQ i a (Bv.getD j I5)with
 |none=>simp[Jp,Cw]
 |some k=>erw[LH,Jp,J,MZ,Fm,g8];exact Nf h _ (dT _)
inductive JN where
 |Pr (d:AN)|Vy (h:Nat)|Ps (i:Nat)
def Ci:JN->W
 |.Pr d=>EK (.out d)
 |.Vy h=>EK (.drop h)
 |.Ps i=>.tup [.str (AO "ring"),.int (i:Nat)]
noncomputable def Ht(f:AN->Tl):Nat->↑AN->AN->↑AN×JN
 |0,L,_=>(L,.Ps 0)
 |k+1,L,d=>if d∈L then(L,.Ps (L.idxOf d))else match f d with
  |.at e=>Ht f k (L++[d]) e
  |.drop h=>(L++[d],.Vy h)
  |.out e=>(L++[d],.Pr e)
  |.Jw _=>(L++[d],.Ps 0)
theorem kV:∀{L:↑AN}{d:AN},d∈L->(L.map Ix).findIdx? (λz=>eqT z (Ix d))=↥(L.idxOf d)
 |[],d,h=>nomatch h
 |x::L,d,h=>by
  rw[EM,List.findIdx?_cons,YY,List.idxOf_cons];by_cases e:x=d
  .subst e;simp
  .have hm:d∈L:=(List.mem_cons.mp h).resolve_left λz=>e z.symm;have ne:(x==d)=false:=by simpa using e
   rw[kV hm,decide_eq_false e,if_neg γ,ne];rfl
def iJ{σ :Type}{c:DY}{b:Ap}{h:A5}{al:↑AN}(Ib:⇑al<=24)(f:AN->Tl)(nl:∀d x,f d≠.Jw x)(fin:∀d∈al,∀e,f d=.at e->e∈al)(R:AN-> σ ->Ay)(AK:∀L d s,c (R d s) (h++[⟨.lst,List.map AJ L⟩])=.ok (!decide (d∈L),h++[⟨.lst,L.map AJ⟩]))(A4:∀L d s,d∈al->⇑L<=24->∃CH,b (R d s) (h++[⟨.lst,List.map AJ L⟩])=.ok (CH,h++[⟨.lst,(L++[d]).map AJ⟩])/\((∃e s',f d=.at e/\CH=.AP (R e s'))\/(isAt (f d)=false/\CH=.Dp (.tup [.ref ⇑h,EK (f d)])))){Du:AN}(hd:Du∈al)(s0: σ) :
  ∃CH,SG c b (R Du s0) (h++[⟨.lst,[]⟩])=.ok (CH,h++[⟨.lst,(Ht f 25 [] Du).1.map AJ⟩])/\(Ht f 25 [] Du).1.length<=24/\(CH=.Dp (.tup [.ref ⇑h,Ci (Ht f 25 [] Du).2])\/∃d s,CH=.AP (R d s)/\d∈(Ht f 25 [] Du).1/\(Ht f 25 [] Du).2=.Ps ((Ht f 25 [] Du).1.idxOf d)):=by
 generalize ZH:Ht f 25 [] Du=X
 have BU:=Ends.HB (uc (c:=c) (b:=b) (ρ:=R Du s0) (h:=h++[⟨.lst,[]⟩]) (λn ρ H=>∃L d s,ρ=R d s/\H=h++[⟨.lst,List.map AJ L⟩]/\L.Nodup/\(∀x∈L,x∈al)/\d∈al/\Ht f (25- ⇑L) L d=X/\n=24- ⇑L)
  (T:=λCH H=>H=h++[⟨.lst,(X).1.map AJ⟩]/\(X).1.length<=24/\(CH=.Dp (.tup [.ref ⇑h,Ci (X).2])\/∃d s,CH=.AP (R d s)/\d∈(X).1/\(X).2=.Ps ((X).1.idxOf d))) (n:=24) ε ⟨[],Du,s0,rfl,rfl,Qk,(λ_ x=>by cases x),hd,ZH,rfl⟩ (by
  rintro n _ _ ⟨L,d,s,rfl,rfl,Bj,sub,RC,B5,rfl⟩;have H7:⇑L<=24:=Gm (aF L _ Bj sub) Ib;refine⟨_,_,AK L d s,λe=>?_,λe=>?_⟩
  .have hm:d∈L:=by simpa using e
   rw[show 25- ⇑L=(24- ⇑L)+1 by lia]at B5;erw[Ht]at B5;rw[if_pos hm]at B5;rw[<-B5];exact⟨rfl,H7,.inr ⟨d,s,rfl,hm,rfl⟩⟩
  .have hm:d∉L:=by simpa using e
   have lr:(L++[d]).Nodup:=by rw[Sb];exact⟨Bj,γ,λx AM y Af z=>hm (by rw[MC]at Af;rw[<-Af,<-z];exact AM)⟩
   have p_:∀x∈L++[d],x∈al:=λx AM=>by
    rcases List.mem_append.mp AM with q|q
    .exact sub x q
    .rw[List.mem_singleton.mp q];exact RC
   have kR:⇑(L++[d])<=24:=Gm (aF _ _ lr p_) Ib;have DI:⇑(L++[d])=⇑L+1:=γ
   rw[show 25- ⇑L=(24- ⇑L)+1 by lia]at B5;erw[Ht]at B5;rw[if_neg hm]at B5;obtain⟨CH,B4,alt⟩:=A4 L d s RC H7;refine⟨_,_,B4,?_⟩;rcases alt with⟨Bg,s',C2,rfl⟩|⟨na,rfl⟩
   .rw[C2]at B5;exact⟨24- ⇑(L++[d]),δ,L++[d],Bg,s',rfl,rfl,lr,p_,fin d RC Bg C2,by rw[show 25- ⇑(L++[d])=24- ⇑L by lia];exact B5,rfl⟩
   .cases q:f d with
    |«at» e=>rw[q]at na;cases na
    |Jw x=>exact absurd q (nl _ _)
    |drop x=>rw[q]at B5;rw[<-B5];exact⟨rfl,kR,.inl rfl⟩
    |out x=>rw[q]at B5;rw[<-B5];exact⟨rfl,kR,.inl rfl⟩))
 obtain⟨CH,_,e,rfl,l,t⟩:=BU;exact⟨CH,e,l,t⟩
def ly{h:A5}{L:↑AN}{d:AN}{m:B8}{ma:DQ}{ρ:Ay}(em:∀H,m ρ H=.ok (.ref ⇑h,H))(BX:∀H,ma ρ H=.ok ([AJ d],H))(hm:d∈L)(l:⇑L<=24) :
  Oh m ma ρ (h++[⟨.lst,L.map AJ⟩])=.ok (.int ((L.idxOf d:Nat):Int),h++[⟨.lst,L.map AJ⟩]):=by
 have AA:L.idxOf d< ⇑L:=List.idxOf_lt_length_of_mem hm;exact zK (em _) (show(h++[(⟨.lst,L.map AJ⟩:O)])[⇑h]?=↥⟨.lst,L.map AJ⟩by rw[C9];rfl) (BX _) (Zq 5 _ d) (mU _ L) (kV hm) δ
def Vf{cs:↑Nat}{ws:ν}(N:IK cs ws):⇑(Dz cs ⇑cs)<=24:=by have:=Vg N.c ⇑cs;have:=N.Ez;lia
def eE{cs:↑Nat}{ws:ν}(N:IK cs ws){B:↑↑CY}(ok:Gh cs B){h:A5}{n b:Nat}(A:FI h n cs ws)(B4:EE h b B){a:Nat}(AF:a<16){Du:AN}(hd:Du∈Dz cs ⇑cs) :
  Ri [.ref n,.ref b,AJ Du,.int (a:Int)] h=.ok (.tup [.ref ⇑h,Ci (Ht (AP ws B a) 25 [] Du).2],h++[⟨.lst,(Ht (AP ws B a) 25 [] Du).1.map AJ⟩])/\(Ht (AP ws B a) 25 [] Du).1.length<=24:=by
 obtain⟨CH,Jn,l,alt⟩:=iJ (c:=Ad (A1 (Ce false) ψ (I 4))) (b:=ef) (h:=h) (Vf N) (AP ws B a) (λd x=>Zc _ _ _ _ _) (λd _ e q=>Wq N q) (λd s5=>HM n b d a ⇑h s5) (by
  intro L d s;have v2:∀H,I 2 (HM n b d a ⇑h s) H=.ok (AJ d,H):=λ_=>rfl;have v4:∀H,I 4 (HM n b d a ⇑h s) H=.ok (.ref ⇑h,H):=λ_=>rfl;rw[D_,AU,v2,J,v4,J,bx false d (show(h++[(⟨.lst,L.map AJ⟩:O)])[⇑h]?=↥⟨.lst,L.map AJ⟩by rw[C9];rfl)];rfl) (by
  intro L d s5 RC Ib;have z:(h++[(⟨.lst,L.map AJ⟩:O)])[⇑h]?=↥⟨.lst,L.map AJ⟩:=by rw[C9];rfl
  have v2:∀s H,I 2 (HM n b d a ⇑h s) H=.ok (AJ d,H):=λ_ _=>rfl;have v0:∀s H,I 0 (HM n b d a ⇑h s) H=.ok (.ref n,H):=λ_ _=>rfl;have v1:∀s H,I 1 (HM n b d a ⇑h s) H=.ok (.ref b,H):=λ_ _=>rfl;have E2:∀s H,I 3 (HM n b d a ⇑h s) H=.ok (.int (a:Int),H):=λ_ _=>rfl;have v4:∀s H,I 4 (HM n b d a ⇑h s) H=.ok (.ref ⇑h,H):=λ_ _=>rfl;have Fp:∀s H,I 5 (HM n b d a ⇑h ↥s) H=.ok (s,H):=λ_ _=>rfl;obtain⟨H,B_⟩:∃H,H=h++[(⟨.lst,(L++[d]).map AJ⟩:O)]:=ο;have s1:Di (EA Ej (I 4) (Z ψ A2)) (HM n b d a ⇑h s5) (h++[⟨.lst,L.map AJ⟩])=.ok (.AP (HM n b d a ⇑h s5),H):=by rw[IG,MN (us:=[AJ d]) (ws':=(L++[d]).map AJ) (r:=.non) (v4 _ _) z (by rw[AW,v2,J,BH];rfl) z (by simp[Ej]) (by rw[Cd,EL];unfold Bi;simp;lia),J,PC,B_];rfl
  have A4:=(Pd.mp RC).1;obtain⟨rs,A9,NM,B5⟩:=B4.ex;have AQ:d.1< ⇑rs:=by rw[NM,ok.1];exact A4
  have Bv:=B5 d.1 _ (C3 AQ);have DG:A7 (.ref b) (.int (d.1:Int)) H=.ok (.ref rs[d.1],H):=EW (by rw[B_];exact CE _ A9 _) (by rw[Dl,C3 AQ];rfl);have on:NT [.ref n,.ref rs[d.1],AJ d,.int (a:Int)] H=.ok (EK (AP ws B a d),H):=lK (by rw[B_];exact A.more _) (ok.2 d.1 A4) (by rw[B_];exact CE _ Bv _) AF d;have s2:Am (Aa 4 NT (Z π (Z (A1 A7 τ Ty) (Z ψ (Z Ψ A2))))) (AB 5) (HM n b d a ⇑h s5) H=.ok (.AP (HM n b d a ⇑h ↥(EK (AP ws B a d))),H):=by
   have q:Aa 4 NT (Z π (Z (A1 A7 τ Ty) (Z ψ (Z Ψ A2)))) (HM n b d a ⇑h s5) H=.ok (EK (AP ws B a d),H):=L4 (us:=[.ref n,.ref rs[d.1],AJ d,.int (a:Int)]) (h1:=H) (by have F0:A7 (AJ d) (.int 0) H=.ok (.int (d.1:Int),H):=rfl;erw[AW,BH,AU,v0,v1,v2,E2,Ag,J,F0,DG]) rfl on
   rw[DV,q];rfl
  obtain⟨Gg,Ck,ug⟩:=sz H (AP ws B a d) false;have t1:Ad (A1 (BC false) (A1 A7 (I 5) η) (pu (.str (AO "at")))) (HM n b d a ⇑h ↥(EK (AP ws B a d))) H=.ok (isAt (AP ws B a d)==false,H):=by rw[D_,AU,AU,Fp,J,Ag,J,Ck,J,Ag,J,ug];rfl
  rw[<-B_];unfold ef;rw[Az,s1,J,B0,Az,s2,J,B0,Az,DL,t1,J];cases Ae:isAt (AP ws B a d)
  .rw[if_pos (by rfl),EC,HF,AW,v4,J,AW,Fp,J,BH,J,J,J,if_pos (by simp[Bi])];exact⟨_,rfl,.inr ⟨rfl,rfl⟩⟩
  .obtain⟨e,Gc⟩:∃e,AP ws B a d=.at e:=by
     cases q:AP ws B a d with
     |«at» e=>exact⟨e,rfl⟩
     |drop _=>rw[q]at Ae;cases Ae
     |out _=>rw[q]at Ae;cases Ae
     |Jw _=>rw[q]at Ae;cases Ae
   rw[if_neg γ,E9,J,B0,Gc];exact⟨.AP (HM n b e a ⇑h ↥(EK (.at e))),by simp[HM,EK,AJ,I9,S7,Bi],.inl ⟨e,_,rfl,rfl⟩⟩) hd none
 refine⟨?_,l⟩;have e:Ri [.ref n,.ref b,AJ Du,.int (a:Int)] h=(Z5 [Ξ,ST,↥(AJ Du),ς,none,none] h).bind outF:=rfl;have s0:Am (Be A2) (AB 4) [Ξ,ST,↥(AJ Du),ς,none,none] h=.ok (.AP (HM n b Du a ⇑h none),h++[⟨.lst,[]⟩]):=by simp[nw,Bi,HM]
 have Vw:Z5=AT (Am (Be A2) (AB 4)) (AT (SG (Ad (A1 (Ce false) ψ (I 4))) ef) (B1 (BE (Z (I 4) (Z (BE (Z (pu (.str (AO "ring"))) (Z (Oh (I 4) (Z ψ A2)) A2))) A2))))):=rfl;rw[e,Vw,Az,s0,J,B0,Az,Jn,J];rcases alt with rfl|⟨d,s5,rfl,hm,B5⟩
 .rfl
 .have v4:∀H,I 4 (HM n b d a ⇑h s5) H=.ok (.ref ⇑h,H):=λ_=>rfl;have DG:=ly (h:=h) (m:=I 4) (ma:=Z ψ A2) (ρ:=HM n b d a ⇑h s5) v4 (λ_=>rfl) hm l;rw[B0,EC,HF,AW,v4,J,AW,HF,AW,Ag,J,AW,DG,J,BH,B5];rfl
def N4(a1 b1 b:Nat)(d:AN)(a k:Nat)(s:Option W×Option W):Ay:=[↥(.tup [.ref a1,.ref b1]),ST,↥(AJ d),ς,↥(.str (Eb a)),↥(.ref k),s.1,s.2]
def dJ:Ap:=(AT (Di (EA Ej (I 5) (Z ψ A2)))
    (AT (Am (Aa 3 Pc (Z (A1 A7 τ Ty) (Z (A1 A7 ψ ζ) XL))) (AB 6))
    (AT (C8 (Ad (A1 (El true) (I 6) Tm)) (B1 (BE (Z (I 5) (Z (BE (Z (pu (.str (AO "drop"))) (Z Ty A2))) A2)))) C5)
    (AT (Am (Aa 2 Re (Z π (Z (BE (Z Ty (Z (I 6) A2))) A2))) (AB 7))
    (AT (C8 (Ad (A1 (El true) (I 7) Tm)) (B1 (BE (Z (I 5) (Z (BE (Z (pu (.str (AO "out"))) (Z Ty (Z (I 6) A2)))) A2)))) C5)
    (Am (I 7) (AB 2)))))))
def ju{cs:↑Nat}{ws:ν}(N:IK cs ws){B:↑↑CY}(ok:Gh cs B){h:A5}{a1 b1 b:Nat}(Ck:h[b1]?=↥⟨.lst,ws.map CJ⟩)(B4:EE h b B)(a:Nat){Du:AN}(hd:Du∈Dz cs ⇑cs) :
  On [.tup [.ref a1,.ref b1],.ref b,AJ Du,.int (a:Int)] h=.ok (.tup [.ref ⇑h,Ci (Ht (AP ws B a) 25 [] Du).2],h++[⟨.lst,(Ht (AP ws B a) 25 [] Du).1.map AJ⟩]):=by
 obtain⟨CH,Jn,l,alt⟩:=iJ (c:=Ad (A1 (Ce false) ψ (I 5))) (b:=dJ) (h:=h) (Vf N) (AP ws B a) (λd x=>Zc _ _ _ _ _) (λd _ e q=>Wq N q) (λd s=>N4 a1 b1 b d a ⇑h s) (by
  intro L d s;have v2:∀H,I 2 (N4 a1 b1 b d a ⇑h s) H=.ok (AJ d,H):=λ_=>rfl;have Fp:∀H,I 5 (N4 a1 b1 b d a ⇑h s) H=.ok (.ref ⇑h,H):=λ_=>rfl;rw[D_,AU,v2,J,Fp,J,bx false d (show(h++[(⟨.lst,L.map AJ⟩:O)])[⇑h]?=↥⟨.lst,L.map AJ⟩by rw[C9];rfl)];rfl) (by
  intro L d s RC Ib;have z:(h++[(⟨.lst,L.map AJ⟩:O)])[⇑h]?=↥⟨.lst,L.map AJ⟩:=by rw[C9];rfl
  obtain⟨ρ,Ab⟩:∃ρ:Option W->Option W->Ay,ρ=λx y=>N4 a1 b1 b d a ⇑h (x,y):=ο;obtain⟨CQ,D9⟩:=s;have vR:N4 a1 b1 b d a ⇑h (CQ,D9)=ρ CQ D9:=by rw[Ab]
  rw[vR];have v0:∀x y H,I 0 (ρ x y) H=.ok (.tup [.ref a1,.ref b1],H):=by rw[Ab];exact λ_ _ _=>rfl
  have v1:∀x y H,I 1 (ρ x y) H=.ok (.ref b,H):=by rw[Ab];exact λ_ _ _=>rfl
  have v2:∀x y H,I 2 (ρ x y) H=.ok (AJ d,H):=by rw[Ab];exact λ_ _ _=>rfl
  have v4:∀x y H,I 4 (ρ x y) H=.ok (.str (Eb a),H):=by rw[Ab];exact λ_ _ _=>rfl
  have Fp:∀x y H,I 5 (ρ x y) H=.ok (.ref ⇑h,H):=by rw[Ab];exact λ_ _ _=>rfl
  have v6:∀x y H,I 6 (ρ ↥x y) H=.ok (x,H):=by rw[Ab];exact λ_ _ _=>rfl
  have L_:∀x y H,I 7 (ρ x ↥y) H=.ok (y,H):=by rw[Ab];exact λ_ _ _=>rfl
  have eC:∀w x y H,AB 6 w (ρ x y) H=.ok (.AP (ρ ↥w y),H):=by rw[Ab];exact λ_ _ _ _=>rfl
  have eD:∀w x y H,AB 7 w (ρ x y) H=.ok (.AP (ρ x ↥w),H):=by rw[Ab];exact λ_ _ _ _=>rfl
  obtain⟨H,B_⟩:∃H,H=h++[(⟨.lst,(L++[d]).map AJ⟩:O)]:=ο;have s1:Di (EA Ej (I 5) (Z ψ A2)) (ρ CQ D9) (h++[⟨.lst,L.map AJ⟩])=.ok (.AP (ρ CQ D9),H):=by rw[IG,MN (us:=[AJ d]) (ws':=(L++[d]).map AJ) (r:=.non) (Fp _ _ _) z (by rw[AW,v2,J,BH];rfl) z (by simp[Ej]) (by rw[Cd,EL];unfold Bi;simp;lia),J,PC,B_];rfl
  have A4:=(Pd.mp RC).1;obtain⟨rs,A9,NM,B5⟩:=B4.ex;have AQ:d.1< ⇑rs:=by rw[NM,ok.1];exact A4
  have Bv:=B5 d.1 _ (C3 AQ);have F0:A7 (AJ d) (.int 0) H=.ok (.int (d.1:Int),H):=rfl;have Cs:A7 (AJ d) (.int 1) H=.ok (.int (d.2:Int),H):=rfl;have DG:A7 (.ref b) (.int (d.1:Int)) H=.ok (.ref rs[d.1],H):=EW (by rw[B_];exact CE _ A9 _) (by rw[Dl,C3 AQ];rfl);have ahO:H[b1]?=↥⟨.lst,ws.map CJ⟩:=by rw[B_];exact CE _ Ck _
  obtain⟨o,GB⟩:∃o,o=Ws (B.getD d.1 []) d.2 a:=ο;have lo:Pc [.ref rs[d.1],.int (d.2:Int),.str (Eb a)] H=.ok (Cw o,H):=by rw[GB];exact ab1 (ok.2 d.1 A4) (by rw[B_];exact CE _ Bv _)
  have s2:Am (Aa 3 Pc (Z (A1 A7 τ Ty) (Z (A1 A7 ψ ζ) XL))) (AB 6) (ρ CQ D9) H=.ok (.AP (ρ ↥(Cw o) D9),H):=by
   have q:Aa 3 Pc (Z (A1 A7 τ Ty) (Z (A1 A7 ψ ζ) XL)) (ρ CQ D9) H=.ok (Cw o,H):=L4 (us:=[.ref rs[d.1],.int (d.2:Int),.str (Eb a)]) (h1:=H) (by erw[AW,BH,AU,v1,v2,v4,Ag,J,F0,Cs,DG]) rfl lo
   rw[DV,q,J,eC]
  have C2:AP ws B a d=Jy ws d.1 o:=by rw[GB];exact abK _ _ _ _
  rw[<-B_,C2];unfold dJ;rw[Az,s1,J,B0,Az,s2,J,B0,Az,DL,D_,AU,v6,J,Ag,J,c6,J,Db,J];cases o with
  |none=>rw[if_pos (by rfl),EC,HF,AW,Fp,J,AW,HF,AW,Ag,J,AW,AU,v2,J,Ag,J,F0,J,BH];exact⟨_,rfl,.inr ⟨rfl,rfl⟩⟩
  |some k=>
   have be:=u7 (ws:=ws) N.few (h:=H) (a:=a1) ahO (d.1,k);have s3:Am (Aa 2 Re (Z π (Z (BE (Z Ty (Z (I 6) A2))) A2))) (AB 7) (ρ ↥(Cw ↥k) D9) H=.ok (.AP (ρ ↥(Cw ↥k) ↥(IR (EF ws (d.1,k)))),H):=by
    have q:Aa 2 Re (Z π (Z (BE (Z Ty (Z (I 6) A2))) A2)) (ρ ↥(Cw ↥k) D9) H=.ok (IR (EF ws (d.1,k)),H):=L4 (us:=[.tup [.ref a1,.ref b1],AJ (d.1,k)]) (h1:=H) (by rw[AW,v0,J,AW,HF,AW,AU,v2,J,Ag,J,F0,J,AW,v6,J,BH];rfl) rfl be
    rw[DV,q,J,eD]
   rw[if_neg γ,E9,J,B0,Az,s3,J,B0,Az,DL,D_,AU,L_,J,Ag,J];cases Dv:EF ws (d.1,k)with
   |none=>
    have DF:Jy ws d.1 ↥k=.out (d.1,k):=by simp[Jy,Dv]
    have E1:El true (IR none) .non H=.ok (.AL true,H):=rfl;rw[E1,J,Db,J,if_pos (by rfl),EC,HF,AW,Fp,J,AW,HF,AW,Ag,J,AW,AU,v2,J,Ag,J,F0,J,AW,v6,J,BH,DF];exact⟨_,rfl,.inr ⟨rfl,rfl⟩⟩
   |some e=>
    have DF:Jy ws d.1 ↥k=.at e:=by simp[Jy,Dv]
    have E1:El true (IR ↥e) .non H=.ok (.AL false,H):=rfl;rw[E1,J,Db,J,if_neg γ,E9,J,B0,DV,L_,J,DF];refine⟨.AP (N4 a1 b1 b e a ⇑h (↥(Cw ↥k),↥(AJ e))),?_,.inl ⟨e,_,rfl,rfl⟩⟩;rw[Ab];rfl) hd (none,none)
 have e:On [.tup [.ref a1,.ref b1],.ref b,AJ Du,.int (a:Int)] h=(Z0 [↥(.tup [.ref a1,.ref b1]),ST,↥(AJ Du),ς,none,none,none,none] h).bind outF:=rfl;have s0:Am (Aa 1 Oo (Z Ψ A2)) (AB 4) [↥(.tup [.ref a1,.ref b1]),ST,↥(AJ Du),ς,none,none,none,none] h=.ok (.AP [↥(.tup [.ref a1,.ref b1]),ST,↥(AJ Du),ς,↥(.str (Eb a)),none,none,none],h):=by have q:Aa 1 Oo (Z Ψ A2) [↥(.tup [.ref a1,.ref b1]),ST,↥(AJ Du),ς,none,none,none,none] h=.ok (.str (Eb a),h):=L4 (us:=[.int (a:Int)]) (h1:=h) rfl rfl (qM a h);rw[DV,q];rfl
 have s1:Am (Be A2) (AB 5) [↥(.tup [.ref a1,.ref b1]),ST,↥(AJ Du),ς,↥(.str (Eb a)),none,none,none] h=.ok (.AP (N4 a1 b1 b Du a ⇑h (none,none)),h++[⟨.lst,[]⟩]):=by simp[nw,Bi,N4]
 have Vw:Z0=AT (Am (Aa 1 Oo (Z Ψ A2)) (AB 4)) (AT (Am (Be A2) (AB 5)) (AT (SG (Ad (A1 (Ce false) ψ (I 5))) dJ) (B1 (BE (Z (I 5) (Z (BE (Z (pu (.str (AO "ring"))) (Z (Oh (I 5) (Z ψ A2)) A2))) A2)))))):=rfl;rw[e,Vw,Az,s0,J,B0,Az,s1,J,B0,Az,Jn,J];rcases alt with rfl|⟨d,s,rfl,hm,B5⟩
 .rfl
 .have Fp:∀H,I 5 (N4 a1 b1 b d a ⇑h s) H=.ok (.ref ⇑h,H):=λ_=>rfl;have DG:=ly (h:=h) (m:=I 5) (ma:=Z ψ A2) (ρ:=N4 a1 b1 b d a ⇑h s) Fp (λ_=>rfl) hm l;rw[B0,EC,HF,AW,Fp,J,AW,HF,AW,Ag,J,AW,DG,J,BH,B5];rfl
theorem m3{f:AN->Tl}:∀(P L:↑AN)(k:Nat)(d z:AN),(L++d::P).Nodup->(d::P).getLast?=↥z->(∀(i:Nat) x y,(d::P)[i]?=↥x->(d::P)[i+1]?=↥y->f x=.at y)->(∀y,f z≠.at y)->⇑P<k->Ht f k L d=(match f z with
  |.drop h=>(L++d::P,.Vy h)
  |.out e=>(L++d::P,.Pr e)
  |_=>(L++d::P,.Ps 0))
 |P,L,0,d,z,Bj,hz,ch,B2,AQ=>δ
 |[],L,k+1,d,z,Bj,hz,ch,B2,AQ=>by
  have hz:d=z:=(hz:)
  subst hz;have hm:d∉L:=λq=>by rw[Sb]at Bj;exact Bj.2.2 d q d γ rfl
  erw[Ht];rw[if_neg hm];cases q:f d with
  |«at» e=>exact absurd q (B2 e)
  |_=>rfl
 |y::P,L,k+1,d,z,Bj,hz,ch,B2,AQ=>by
  have hm:d∉L:=λq=>by rw[Sb]at Bj;exact Bj.2.2 d q d γ rfl
  have A9:=ch 0 d y rfl rfl;erw[Ht];rw[if_neg hm,A9];have:=m3 (f:=f) P (L++[d]) k y z (Bj:) (hz:) (λi a b h1 h2=>ch (i+1) a b h1 h2) B2 (by simp at AQ;lia);simpa using this
inductive La where
 |KN|J3 (d:AN)|Je (k:Nat)|Jf (k:Nat)
def BW(a:Nat)(d:AN):La->W
 |.KN=>.tup [.str (AO "leaves"),.str (Eb a),AJ d]
 |.J3 e=>.tup [.str (AO "comes"),.str (Eb a),AJ d,AJ e]
 |.Je k=>.tup [.str (AO "by"),.str (Eb a),AJ d,.int (k:Int)]
 |.Jf k=>.tup [.str (AO "never"),.str (Eb a),AJ d,.int (k:Int)]
def kb:JN->Bool
 |.Pr _=>true
 |_=>false
noncomputable def outs(d:AN):JN->Bool
 |.Pr x=>decide (x=d)
 |_=>false
def Ha(L:↑AN)(e:JN):La->Bool
 |.KN=>kb e
 |.J3 d=>outs d e
 |.Je k=>decide (∃x∈L,x.1=k)
 |.Jf k=>!decide (∃x∈L,x.1=k)
def qp(h:A5)(e:JN):∃x:Str,A7 (Ci e) (.int 0) h=.ok (.str x,h)/\(x==AO "out")=kb e:=by cases e<;>exact⟨_,rfl,rfl⟩
def iP(h:A5)(e:JN)(d:AN):BC true (Ci e) (.tup [.str (AO "out"),.int (d.1:Int),.int (d.2:Int)]) h=.ok (.AL (outs d e),h):=by
 cases e with
 |Pr x=>erw[BC,Ci,EK,Bu,outs];have:=YY x d;unfold Ix at this;simp[Bu,eqT,GJ]at this |-;exact this
 |_=>simp[BC,Ci,EK,Bu,eqT,GJ,outs]
def zN{h:A5}{n:Nat}{L:↑AN}(e:h[n]?=↥⟨.lst,L.map λx=>.int (x.1:Int)⟩)(i:Nat):Ce false (.int (i:Int)) KK h=.ok (.AL (!decide (∃x∈L,x.1=i)),h):=by
 have q:=bz e i;have Du:GT h KK (.int (i:Int))=none:=by erw[GT,e]
 have r:Bu 8 h KK=↥(.CZ false (L.map λx=>.int (x.1:Int))):=by show(match Dw h KK with|some (t,ws)=>(ws.mapM (Bu 7 h)).map (C_.CZ t)|none=>none)=_;rw[Gf h e];erw[UH (r:=Bu 7 h) (f:=λx:AN=>W.int (x.1:Int)) (g:=λx:AN=>C_.int (x.1:Int)) λd _=>by simp[Bu],LH]
 rw[Lr (d:=.int (i:Int)) Du (by simp[Bu]) r]at q |-;erw[if_true,Kn,if_false]at q |-;injection q with q;injection q with q _;injection q with q;rw[q]
def jO{h:A5}{q:Nat}{L:↑AN}(l:⇑L<=1000000)(Ct:⇑L<1000)(eq:h[q]?=↥⟨.lst,L.map AJ⟩){m:B8}{ρ:Ay}(em:m ρ h=.ok (.ref q,h)) :
  CW 2 [] (CN m) (Dh [(AB 0),(AB 1)]) ac π ρ h=.ok (.ref ⇑h,h++[⟨.lst,L.map λx=>.int (x.1:Int)⟩]):=by
 have c:=Mm (mi:=CN m) (it:=Fd (.ref q)) (g:=Dh [(AB 0),(AB 1)]) (t:=pu true) (e:=I 0) (ρ:=ρ) (h:=h) (h0:=h) (nl:=2) (caps:=[]) (L.map AJ) (λ_=>true) (λw=>match w with
  |.tup (x::_)=>x
  |_=>.non) (λρ=>∃s t,ρ=[s,t]) (by rw[Cd];exact Ct) (J0 eq em) ⟨none,none,rfl⟩ (λj acc _=>Kk (CE _ eq _) j) (by rintro w hw ρ acc ⟨s,t,rfl⟩;obtain⟨d,_,rfl⟩:=List.mem_map.mp hw;exact⟨[↥(.int (d.1:Int)),↥(.int (d.2:Int))],by simp[AJ],⟨_,_,rfl⟩,rfl,λ_=>rfl⟩)
 rw[c,List.filter_eq_self.mpr λ_ _=>rfl,K4];rfl
def e3{h:A5}{q:Nat}{L:↑AN}(l:⇑L<1000)(eq:h[q]?=↥⟨.lst,L.map AJ⟩)(e:JN)(a:Nat)(d:AN)(s:La):JD [BW a d s,.ref q,Ci e] h=.ok (.AL (Ha L e s),h):=by
 obtain⟨H,B_⟩:∃H:A5,H=h++[⟨.lst,L.map λx=>.int (x.1:Int)⟩]:=ο;have Et:H[⇑h]?=↥⟨.lst,L.map λx=>.int (x.1:Int)⟩:=by rw[B_,C9];rfl
 have AK:=jO (m:=I 1) (ρ:=[↥(BW a d s),↥(.ref q),↥(Ci e),none]) δ l eq rfl;rw[<-B_]at AK;obtain⟨ρ,Ab⟩:∃ρ:Ay,ρ=[↥(BW a d s),↥(.ref q),↥(Ci e),χ]:=ο;have s0:Am (CW 2 [] (CN τ) (Dh [(AB 0),(AB 1)]) ac π) (AB 3) [↥(BW a d s),↥(.ref q),↥(Ci e),none] h=.ok (.AP ρ,H):=by rw[DV,AK,Ab];rfl
 have v0:I 0 ρ H=.ok (BW a d s,H):=by rw[Ab];rfl
 have v2:I 2 ρ H=.ok (Ci e,H):=by rw[Ab];rfl
 have E2:I 3 ρ H=.ok (.ref ⇑h,H):=by rw[Ab];rfl
 have Bc:JD [BW a d s,.ref q,Ci e] h=((Xk [↥(BW a d s),↥(.ref q),↥(Ci e),none] h).bind outF).bind λp=>BJ.settle h p.1 p.2:=rfl;have pr:FO h H=true:=by rw[B_];exact MV _ _
 have fin:∀b:Bool,((BJ.R.ok (F7.Dp (W.AL b),H)).bind outF).bind (λp=>BJ.settle h p.1 p.2)=.ok (.AL b,h):=λb=>by rw[J,Fm,J,QN h _ _ rfl pr]
 rw[Bc];unfold Xk;rw[Az,s0,J,B0];cases s with
 |J3 x=>have x0:A7 (BW a d (.J3 x)) (.int 0) H=.ok (.str (AO "comes"),H):=rfl;have Dq:A7 (BW a d (.J3 x)) (.int 3) H=.ok (AJ x,H):=rfl;have ad:addW (.tup [.str (AO "out")]) (AJ x) H=.ok (.tup [.str (AO "out"),.int (x.1:Int),.int (x.2:Int)],H):=rfl;have Hd:BE (Z (pu (.str (AO "out"))) A2) ρ H=.ok (.tup [.str (AO "out")],H):=rfl;have q:(AO "comes"==AO "comes")=true:=rfl;rw[Az,DL,D_,AU,AU,v0,J,Ag,J,x0,J,Ag,J,IS,if_pos rfl,q,J,Db,J,if_pos rfl,EC,AU,v2,J,AU,Hd,J,AU,v0,J,Ag,J,Dq,J,ad,J,iP,J,J,MZ,fin];rfl
 |KN=>have x0:A7 (BW a d .KN) (.int 0) H=.ok (.str (AO "leaves"),H):=rfl;have q:(AO "leaves"==AO "comes")=false:=rfl;have BV:(AO "leaves"==AO "leaves")=true:=rfl;obtain⟨x,DF,ex⟩:=qp H e;rw[Az,DL,D_,AU,AU,v0,J,Ag,J,x0,J,Ag,J,IS,if_pos rfl,q,J,Db,J,if_neg γ,E9,J,B0,Az,DL,D_,AU,AU,v0,J,Ag,J,x0,J,Ag,J,IS,if_pos rfl,BV,J,Db,J,if_pos rfl,EC,AU,AU,v2,J,Ag,J,DF,J,Ag,J,IS,if_pos rfl,ex,J,J,MZ,fin];rfl
 |Je k=>have x0:A7 (BW a d (.Je k)) (.int 0) H=.ok (.str (AO "by"),H):=rfl;have Dq:A7 (BW a d (.Je k)) (.int 3) H=.ok (.int (k:Int),H):=rfl;have q:(AO "by"==AO "comes")=false:=rfl;have BV:(AO "by"==AO "leaves")=false:=rfl;have Do:(AO "by"==AO "by")=true:=rfl;rw[Az,DL,D_,AU,AU,v0,J,Ag,J,x0,J,Ag,J,IS,if_pos rfl,q,J,Db,J,if_neg γ,E9,J,B0,Az,DL,D_,AU,AU,v0,J,Ag,J,x0,J,Ag,J,IS,if_pos rfl,BV,J,Db,J,if_neg γ,E9,J,B0,Az,DL,D_,AU,AU,v0,J,Ag,J,x0,J,Ag,J,IS,if_pos rfl,Do,J,Db,J,if_pos rfl,EC,AU,AU,v0,J,Ag,J,Dq,J,E2,J,bz Et k,J,J,MZ,fin];rfl
 |Jf k=>have x0:A7 (BW a d (.Jf k)) (.int 0) H=.ok (.str (AO "never"),H):=rfl;have Dq:A7 (BW a d (.Jf k)) (.int 3) H=.ok (.int (k:Int),H):=rfl;have q:(AO "never"==AO "comes")=false:=rfl;have BV:(AO "never"==AO "leaves")=false:=rfl;have Do:(AO "never"==AO "by")=false:=rfl;rw[Az,DL,D_,AU,AU,v0,J,Ag,J,x0,J,Ag,J,IS,if_pos rfl,q,J,Db,J,if_neg γ,E9,J,B0,Az,DL,D_,AU,AU,v0,J,Ag,J,x0,J,Ag,J,IS,if_pos rfl,BV,J,Db,J,if_neg γ,E9,J,B0,Az,DL,D_,AU,AU,v0,J,Ag,J,x0,J,Ag,J,IS,if_pos rfl,Do,J,Db,J,if_neg γ,E9,J,B0,EC,AU,AU,v0,J,Ag,J,Dq,J,E2,J,zN Et k,J,fin];rfl
def ym{h:A5}{q:Nat}{L:↑AN}(l:⇑L<1000)(eq:h[q]?=↥⟨.lst,L.map AJ⟩)(e:JN)(a:Nat)(d:AN)(s:La):Wb [BW a d s,.ref q,Ci e] h=.ok (.AL (Ha L e s),h):=by
 obtain⟨H,B_⟩:∃H:A5,H=h++[⟨.lst,L.map λx=>.int (x.1:Int)⟩]:=ο;have Et:H[⇑h]?=↥⟨.lst,L.map λx=>.int (x.1:Int)⟩:=by rw[B_,C9];rfl
 obtain⟨w,Ck⟩:∃w:Str,A7 (BW a d s) (.int 0) h=.ok (.str w,h)/\w=(match s with
  |.KN=>AO "leaves"
  |.J3 _=>AO "comes"
  |.Je _=>AO "by"
  |.Jf _=>AO "never"):=by cases s<;>exact⟨_,rfl,rfl⟩
 obtain⟨Ck,FX⟩:=Ck;obtain⟨ρ,Ab⟩:∃ρ:Option W->Ay,ρ=λx=>[↥(BW a d s),↥(.ref q),↥(Ci e),↥(.str w),x]:=ο;have v0:∀x H,I 0 (ρ x) H=.ok (BW a d s,H):=by rw[Ab];exact λ_ _=>rfl
 have v1:∀x H,I 1 (ρ x) H=.ok (.ref q,H):=by rw[Ab];exact λ_ _=>rfl
 have v2:∀x H,I 2 (ρ x) H=.ok (Ci e,H):=by rw[Ab];exact λ_ _=>rfl
 have E2:∀x H,I 3 (ρ x) H=.ok (.str w,H):=by rw[Ab];exact λ_ _=>rfl
 have v4:∀x H,I 4 (ρ ↥x) H=.ok (x,H):=by rw[Ab];exact λ_ _=>rfl
 have AK:=jO (m:=I 1) (ρ:=ρ none) δ l eq (v1 _ _);rw[<-B_]at AK;have s0:Am (A1 A7 π η) (AB 3) [↥(BW a d s),↥(.ref q),↥(Ci e),none,none] h=.ok (.AP (ρ none),h):=by have v0:I 0 [↥(BW a d s),↥(.ref q),↥(Ci e),none,none] h=.ok (BW a d s,h):=rfl;rw[DV,AU,v0,J,Ag,J,Ck,Ab];rfl
 have Bc:Wb [BW a d s,.ref q,Ci e] h=((Y9 [↥(BW a d s),↥(.ref q),↥(Ci e),none,none] h).bind outF).bind λp=>BJ.settle h p.1 p.2:=rfl;have pr:FO h H=true:=by rw[B_];exact MV _ _
 have fin:∀b:Bool,((BJ.R.ok (F7.Dp (W.AL b),h)).bind outF).bind (λp=>BJ.settle h p.1 p.2)=.ok (.AL b,h):=λb=>by rw[J,Fm,J];exact Nf h _ rfl
 have t1:Ad (A1 Φ Ψ (pu (.str (AO "comes")))) (ρ none) h=.ok (w==AO "comes",h):=by rw[D_,AU,E2,J,Ag,J,IS,if_pos rfl,J,Db]
 have Cn:Ad (A1 Φ Ψ (pu (.str (AO "leaves")))) (ρ none) h=.ok (w==AO "leaves",h):=by rw[D_,AU,E2,J,Ag,J,IS,if_pos rfl,J,Db]
 have t3:Ad (A1 Φ Ψ (pu (.str (AO "noring")))) (ρ none) h=.ok (w==AO "noring",h):=by rw[D_,AU,E2,J,Ag,J,IS,if_pos rfl,J,Db]
 have Hw:∀k:Nat,A7 (BW a d s) (.int 3) h=.ok (.int (k:Int),h)->AT (Am (CI (A1 (Ce true) (A1 A7 π Fr) (CW 1 [] (CN τ) (AB 0) ac (A1 A7 π η)))) (AB 4)) (B1 (A1 Φ (I 4) (A1 Φ Ψ (pu (.str (AO "by")))))) (ρ none) h=.ok (.Dp (.AL (decide (∃x∈L,x.1=k)==(w==AO "by"))),h):=λk Dq=>by
  have Yg:CW 1 [] (CN τ) (AB 0) ac (A1 A7 π η) (ρ none) h=.ok (.ref ⇑h,H):=by
   have c:=Mm (mi:=CN τ) (it:=Fd (.ref q)) (g:=AB 0) (t:=pu true) (e:=A1 A7 π η) (ρ:=ρ none) (h:=h) (h0:=h) (nl:=1) (caps:=[]) (L.map AJ) (λ_=>true) (λw=>match w with
    |.tup (x::_)=>x
    |_=>.non) (λρ=>∃s,ρ=[s]) (by rw[Cd];exact l) (J0 eq (v1 _ _)) ⟨none,rfl⟩ (λj acc _=>Kk (CE _ eq _) j) (by rintro w hw ρ acc ⟨s,rfl⟩;obtain⟨d,_,rfl⟩:=List.mem_map.mp hw;exact⟨[↥(AJ d)],γ,⟨_,rfl⟩,rfl,λ_=>rfl⟩)
   rw[c,List.filter_eq_self.mpr λ_ _=>rfl,K4,B_];rfl
  have s4:Am (CI (A1 (Ce true) (A1 A7 π Fr) (CW 1 [] (CN τ) (AB 0) ac (A1 A7 π η)))) (AB 4) (ρ none) h=.ok (.AP (ρ ↥(.AL (decide (∃x∈L,x.1=k)))),h):=by rw[DV,FV,AU,AU,v0,J,Ag,J,Dq,J,Yg,J,bz Et k,J,QN h _ _ rfl pr,J,Ab];rfl
  have B4:∀x y:Bool,BC true (.AL x) (.AL y) h=.ok (.AL (x==y),h):=λx y=>by cases x<;>cases y<;>rfl
  rw[Az,s4,J,B0,EC,AU,v4,J,AU,E2,J,Ag,J,IS,if_pos rfl,J,B4,J]
 rw[Bc];unfold Y9;rw[Az,s0,J,B0,Az,DL,t1,J];cases s with
 |J3 x=>
  have Dq:A7 (BW a d (.J3 x)) (.int 3) h=.ok (AJ x,h):=rfl;have F0:A7 (AJ x) (.int 0) h=.ok (.int (x.1:Int),h):=rfl;have Cs:A7 (AJ x) (.int 1) h=.ok (.int (x.2:Int),h):=rfl;have q:(w==AO "comes")=true:=by rw[FX];rfl
  have Hd:BE (Z (pu (.str (AO "out"))) (Z (A1 A7 (A1 A7 π Fr) η) (Z (A1 A7 (A1 A7 π Fr) ζ) A2))) (ρ none) h=.ok (.tup [.str (AO "out"),.int (x.1:Int),.int (x.2:Int)],h):=by rw[HF,AW,Ag,J,AW,AU,AU,v0,J,Ag,J,Dq,J,Ag,J,F0,J,AW,AU,AU,v0,J,Ag,J,Dq,J,Ag,J,Cs,J,BH];rfl
  rw[q,if_pos rfl,EC,AU,v2,J,Hd,J,iP,J,J,MZ,fin];rfl
 |KN=>
  have q:(w==AO "comes")=false:=by rw[FX];rfl
  have BV:(w==AO "leaves")=true:=by rw[FX];rfl
  obtain⟨x,DF,ex⟩:=qp h e;rw[q,if_neg γ,E9,J,B0,Az,DL,Cn,J,BV,if_pos rfl,EC,AU,AU,v2,J,Ag,J,DF,J,Ag,J,IS,if_pos rfl,ex,J,J,MZ,fin];rfl
 |Je k=>
  have q:(w==AO "comes")=false:=by rw[FX];rfl
  have BV:(w==AO "leaves")=false:=by rw[FX];rfl
  have Do:(w==AO "noring")=false:=by rw[FX];rfl
  have Jb:(w==AO "by")=true:=by rw[FX];rfl
  rw[q,if_neg γ,E9,J,B0,Az,DL,Cn,J,BV,if_neg γ,E9,J,B0,Az,DL,t3,J,Do,if_neg γ,E9,J,B0,Hw k rfl,fin,Jb];simp[Ha]
 |Jf k=>
  have q:(w==AO "comes")=false:=by rw[FX];rfl
  have BV:(w==AO "leaves")=false:=by rw[FX];rfl
  have Do:(w==AO "noring")=false:=by rw[FX];rfl
  have Jb:(w==AO "by")=false:=by rw[FX];rfl
  rw[q,if_neg γ,E9,J,B0,Az,DL,Cn,J,BV,if_neg γ,E9,J,B0,Az,DL,t3,J,Do,if_neg γ,E9,J,B0,Hw k rfl,fin,Jb];simp[Ha]
def qK(a:Nat):QF (Eb a):=by
 rw[qJ];have s:∀k:Nat,Mh (48+k%2):=λk=>by
  rcases(by lia:k%2=0\/k%2=1)with e|e<;>rw[e]
  .exact .inl rfl
  .exact .inr (.inl rfl)
 exact jZ (s _) (s _) (s _) (s _)
def afB:∀a:Nat,a<16->(Cg 16).filter (λi=>JS (Eb a) i)=[a]:=by decide+kernel
def sh{a:Nat}(AF:a<16)(h:A5):SL [.str (Eb a)] h=.ok (.ref ⇑h,h++[⟨.lst,[.int (a:Int)]⟩]):=by
 have one:=afB a AF;obtain⟨n,B2⟩:∃n,n=16:=ο;have Oy:=qK a;obtain⟨x,ex⟩:∃x,x=Eb a:=ο;rw[<-ex]at Oy one |-;rw[<-B2]at one;have g:Z (A1 addW (pu P3) ζ) A2 [↥(.str x)] h=.ok ([.int (n:Int)],h):=by rw[B2];simp[P3]
 have c:=ij (mi:=Dj (Z (A1 addW (pu P3) ζ) A2)) (t:=Ad (Aa 2 Om (Z τ Ω))) (e:=I 0) (ρ:=[↥(.str x)]) (h:=h) (h0:=h) (caps:=[0]) n (λi=>JS x i) (λi=>.int (i:Int)) δ (LD g δ) (by
  intro i AA acc;have f:=jW Oy (a:=i) δ (h++[⟨.lst,acc⟩]);refine⟨?_,λ_=>γ⟩;have q:Aa 2 Om (Z τ Ω) [↥(.int (i:Int)),↥(.str x)] (h++[⟨.lst,acc⟩])=.ok (.AL (JS x i),h++[⟨.lst,acc⟩]):=by
   have a:Z τ Ω [↥(.int (i:Int)),↥(.str x)] (h++[⟨.lst,acc⟩])=.ok ([.str x,.int (i:Int)],h++[⟨.lst,acc⟩]):=γ
   rw[EH,a,J,if_pos (by rfl)];exact f
  have BV:Ad (Aa 2 Om (Z τ Ω)) [↥(.int (i:Int)),↥(.str x)] (h++[⟨.lst,acc⟩])=.ok (JS x i,h++[⟨.lst,acc⟩]):=by rw[D_,q,J,Db]
  exact BV)
 rw[one]at c;have Bc:SL [.str x] h=((Y3 [↥(.str x)] h).bind outF).bind λp=>BJ.settle h p.1 p.2:=rfl;rw[Bc];unfold Y3;rw[EC,c,J,J,Fm,J];exact WH h _ rfl γ
section
variable{cs:↑Nat}{ws:ν}{B:↑↑CY}{h:A5}{n b a:Nat}
def G_(ws:ν)(B:↑↑CY)(a:Nat)(d:AN):↑AN×JN:=Ht (AP ws B a) 25 [] d
def yn(N:IK cs ws)(ok:Gh cs B)(A:FI h n cs ws)(B4:EE h b B)(AF:a<16){d:AN}(hd:d∈Dz cs ⇑cs)(s:La) :
  UC [.ref n,.ref b,BW a d s,.int (a:Int)] h=.ok (.AL (Ha (G_ ws B a d).1 (G_ ws B a d).2 s),h):=by
 obtain⟨e,l⟩:=eE N ok A B4 AF hd;have e:Ri [.ref n,.ref b,AJ d,.int (a:Int)] h=.ok (.tup [.ref ⇑h,Ci (G_ ws B a d).2],h++[⟨.lst,(G_ ws B a d).1.map AJ⟩]):=e;have l:(G_ ws B a d).1.length<=24:=l;obtain⟨p,B9⟩:∃p,p=G_ ws B a d:=ο;rw[<-B9]at e l |-;obtain⟨H,B_⟩:∃H:A5,H=h++[⟨.lst,p.1.map AJ⟩]:=ο;rw[<-B_]at e;have Et:H[⇑h]?=↥⟨.lst,p.1.map AJ⟩:=by rw[B_,C9];rfl
 have io:=ym δ Et p.2 a d s;obtain⟨ρ,Ab⟩:∃ρ:Option W->Ay,ρ=λx=>[Ξ,ST,↥(BW a d s),ς,x]:=ο;have CK:A7 (BW a d s) (.int 2) h=.ok (AJ d,h):=by cases s<;>rfl
 have s1:Am (Aa 4 Ri (Z π (Z τ (Z (A1 A7 ψ υ) (Z Ψ A2))))) (AB 4) (ρ none) h=.ok (.AP (ρ ↥(.tup [.ref ⇑h,Ci p.2])),H):=by
  have q:Aa 4 Ri (Z π (Z τ (Z (A1 A7 ψ υ) (Z Ψ A2)))) (ρ none) h=.ok (.tup [.ref ⇑h,Ci p.2],H):=L4 (us:=[.ref n,.ref b,AJ d,.int (a:Int)]) (h1:=h) (by
   have v2:I 2 (ρ none) h=.ok (BW a d s,h):=by rw[Ab];rfl
   have v0:I 0 (ρ none) h=.ok (.ref n,h):=by rw[Ab];rfl
   have v1:I 1 (ρ none) h=.ok (.ref b,h):=by rw[Ab];rfl
   have E2:I 3 (ρ none) h=.ok (.int (a:Int),h):=by rw[Ab];rfl
   rw[AW,v0,J,AW,v1,J,AW,AU,v2,J,Ag,J,CK,J,AW,E2,J,BH];rfl) rfl e
  rw[DV,q,J,Ab];rfl
 have s2:Aa 3 Wb (Z ψ (Z (A1 A7 (I 4) η) (Z (A1 A7 (I 4) ζ) A2))) (ρ ↥(.tup [.ref ⇑h,Ci p.2])) H=.ok (.AL (Ha p.1 p.2 s),H):=L4 (us:=[BW a d s,.ref ⇑h,Ci p.2]) (h1:=H) (by rw[Ab];rfl) rfl io;have Bc:UC [.ref n,.ref b,BW a d s,.int (a:Int)] h=((Y8 (ρ none) h).bind outF).bind λp=>BJ.settle h p.1 p.2:=by rw[Ab];rfl
 rw[Bc];unfold Y8;rw[Az,s1,J,B0,EC,s2,J,J,Fm,J];exact QN h _ _ rfl (by rw[B_];exact MV _ _)
def V5(cs:↑Nat)(ws:ν):La->Prop
 |.J3 e=>e∈HX cs ws ⇑cs
 |.Je k=>k< ⇑cs
 |.Jf k=>k< ⇑cs
 |.KN=>True
def Zk{d:AN}(hd:d∈HX cs ws ⇑cs):d∈Dz cs ⇑cs/\EF ws d=none:=by obtain⟨Hp,H8⟩:=List.mem_filter.mp hd;exact⟨Hp,Option.isNone_iff_eq_none.mp H8⟩
def af4(A:FI h n cs ws){d:AN}(hd:d∈HX cs ws ⇑cs){s:La}(ok:V5 cs ws s):aA [BW a d s,.ref n] h=.ok ω:=by
 obtain⟨f,A9,AG⟩:=A.ex;obtain⟨d1,Ek⟩:=Zk hd;have ad3:=d8 A d1 Ek;have py:=dB (qK a) h;have Nn:B6 "Net" "many" KK h=.ok (.int ⇑cs,h):=EV A9 rfl;obtain⟨ρ,Ab⟩:∃ρ:Ay,ρ=[↥(BW a d s),Ξ]:=ο;have v0:I 0 ρ h=.ok (BW a d s,h):=by rw[Ab];rfl
 have v1:I 1 ρ h=.ok (.ref n,h):=by rw[Ab];rfl
 obtain⟨k,AQ,ln⟩:∃k:Int,(k=3\/k=4)/\Bh [BW a d s] h=.ok (.int k,h):=by
  cases s
  .exact⟨3,.inl rfl,rfl⟩
  .exact⟨4,.inr rfl,rfl⟩
  .exact⟨4,.inr rfl,rfl⟩
  .exact⟨4,.inr rfl,rfl⟩
 obtain⟨w,x0⟩:∃w:Str,A7 (BW a d s) (.int 0) h=.ok (.str w,h):=by cases s<;>exact⟨_,rfl⟩
 have Cc:A7 (BW a d s) (.int 1) h=.ok (.str (Eb a),h):=by cases s<;>rfl
 have CK:A7 (BW a d s) (.int 2) h=.ok (AJ d,h):=by cases s<;>rfl
 have it:DT "tuple" (BW a d s) h=.ok ω:=by cases s<;>rfl
 have is:DT "str" (.str w) h=.ok ω:=rfl;have xf:Ce false (.int k) (.tup [.int 3,.int 4]) h=.ok (.AL false,h):=by rw[Lr (d:=.int k) (t:=true) (ds:=[.int 3,.int 4]) rfl (by simp[Bu]) (by simp[Bu])];rcases AQ with rfl|rfl<;>rfl
 have aeq:BE (Z Fr (Z Γ A2)) ρ h=.ok (.tup [.int 3,.int 4],h):=rfl;have kK:BI Bh Ω ρ h=.ok (.int k,h):=by rw[Fx,AW,v0,J,BH,J,J,ln]
 have t1:F2 (D8 (Ad (BD (DT "tuple") π))) (Ad (A1 (Ce false) (BI Bh Ω) (BE (Z Fr (Z Γ A2))))) ρ h=.ok (false,h):=by rw[v_or,v_not,D_,H2,v0,J,it,J,Db,J,J,if_neg γ,D_,AU,kK,J,aeq,J,xf,J,Db]
 have Aq:Aa 1 Pa (Z (A1 A7 π ζ) A2) ρ h=.ok ω:=by rw[EH,AW,AU,v0,J,Ag,J,Cc,J,BH,J,J,if_pos (by rfl),py]
 have BV:CO "Net" "is_outer" 1 MQ τ (Z (A1 A7 π υ) A2) ρ h=.ok ω:=KD (us:=[AJ d]) v1 A9 rfl (by rw[AW,AU,v0,J,Ag,J,CK,J,BH];rfl) rfl ad3;have Cn:F2 (D8 (Ad (BD (DT "str") (A1 A7 π η)))) (F2 (D8 (Ad (Aa 1 Pa (Z (A1 A7 π ζ) A2)))) (D8 (Ad (CO "Net" "is_outer" 1 MQ τ (Z (A1 A7 π υ) A2))))) ρ h=.ok (false,h):=by rw[v_or,v_not,D_,H2,AU,v0,J,Ag,J,x0,J,is,J,Db,J,J,if_neg γ,v_or,v_not,D_,Aq,J,Db,J,J,if_neg γ,v_not,D_,BV,J,Db,J];rfl
 have t3:Ad (A1 Φ (BI Bh Ω) Fr) ρ h=.ok (decide (k=3),h):=by rw[D_,AU,kK,J,Ag,J,ZX,J,Db]
 have ah:A1 A7 π η ρ h=.ok (.str w,h):=by rw[AU,v0,J,Ag,J,x0]
 have Bc:aA [BW a d s,.ref n] h=((Y7 ρ h).bind outF).bind λp=>BJ.settle h p.1 p.2:=by rw[Ab];rfl
 have fin:((BJ.R.ok (F7.Dp (W.AL true),h)).bind outF).bind (λp=>BJ.settle h p.1 p.2)=.ok ω:=by rw[J,Fm,J];exact Nf h _ rfl
 have Ru:Ad (A1 Φ (A1 A7 π η) (pu (.str (AO "comes")))) ρ h=.ok (w==AO "comes",h):=by rw[D_,AU,ah,J,Ag,J,IS,if_pos rfl,J,Db]
 have HH:∀j:Nat,j< ⇑cs->A7 (BW a d s) (.int 3) h=.ok (.int (j:Int),h)->Aa 3 LB (Z (A1 A7 π Fr) (Z η (Z (A1 J4 (BD (B6 "Net" "many") τ) ζ) A2))) ρ h=.ok ω:=λj An Dq=>by have w:=Rz (j:Int) 0 ((⇑cs:Int)-1) h;rw[decide_eq_true (show(0:Int)<=(j:Int)by lia),decide_eq_true (show(j:Int)<=(⇑cs:Int)-1 by lia)]at w;rw[EH,AW,AU,v0,J,Ag,J,Dq,J,AW,Ag,J,AW,AU,H2,v1,J,Nn,J,Ag,J,acE,J,BH,J,J,J,J,if_pos (by rfl),w];rfl
 have tb:BE (Z (pu (.str (AO "by"))) (Z (pu (.str (AO "never"))) A2)) ρ h=.ok (.tup [.str (AO "by"),.str (AO "never")],h):=rfl;have Hw:BE (Z (pu (.str (AO "leaves"))) (Z (pu (.str (AO "noring"))) A2)) ρ h=.ok (.tup [.str (AO "leaves"),.str (AO "noring")],h):=rfl;rw[Bc];unfold Y7;rw[Az,DL,t1,J,if_neg γ,E9,J,B0,Az,DL,Cn,J,if_neg γ,E9,J,B0,Az,DL,t3,J];cases s with
 |KN=>
  have k3:k=3:=by have:Bh [BW a d .KN] h=.ok (.int 3,h):=rfl;rw[this]at ln;injection ln with ln;injection ln with ln;injection ln with ln;exact ln.symm
  have Ck:w=AO "leaves":=by have:A7 (BW a d .KN) (.int 0) h=.ok (.str (AO "leaves"),h):=rfl;rw[this]at x0;injection x0 with x0;injection x0 with x0;injection x0 with x0;exact x0.symm
  have ii:Ce true (.str w) (.tup [.str (AO "leaves"),.str (AO "noring")]) h=.ok ω:=by rw[Ck,Lr (d:=.str (AO "leaves")) (t:=true) (ds:=[.str (AO "leaves"),.str (AO "noring")]) rfl (by simp[Bu]) (by simp[Bu])];rfl
  rw[if_pos (k3:),EC,AU,ah,J,Hw,J,ii,J,J,MZ,fin]
 |J3 e=>
  have k3:k=4:=by have:Bh [BW a d (.J3 e)] h=.ok (.int 4,h):=rfl;rw[this]at ln;injection ln with ln;injection ln with ln;injection ln with ln;exact ln.symm
  have Ck:w=AO "comes":=by have:A7 (BW a d (.J3 e)) (.int 0) h=.ok (.str (AO "comes"),h):=rfl;rw[this]at x0;injection x0 with x0;injection x0 with x0;injection x0 with x0;exact x0.symm
  have Dq:A7 (BW a d (.J3 e)) (.int 3) h=.ok (AJ e,h):=rfl;obtain⟨g1,g2⟩:=Zk (show e∈HX cs ws ⇑cs from ok);have Do:CO "Net" "is_outer" 1 MQ τ (Z (A1 A7 π Fr) A2) ρ h=.ok ω:=KD (us:=[AJ e]) v1 A9 rfl (by rw[AW,AU,v0,J,Ag,J,Dq,J,BH];rfl) rfl (d8 A g1 g2);have ec:(w==AO "comes")=true:=by rw[Ck];rfl
  rw[if_neg (by simp[k3]),E9,J,B0,Az,DL,Ru,J,ec,if_pos rfl,EC,Do,J,J,MZ,fin]
 |Je j=>
  have k3:k=4:=by have:Bh [BW a d (.Je j)] h=.ok (.int 4,h):=rfl;rw[this]at ln;injection ln with ln;injection ln with ln;injection ln with ln;exact ln.symm
  have Ck:w=AO "by":=by have:A7 (BW a d (.Je j)) (.int 0) h=.ok (.str (AO "by"),h):=rfl;rw[this]at x0;injection x0 with x0;injection x0 with x0;injection x0 with x0;exact x0.symm
  have ec:(w==AO "comes")=false:=by rw[Ck];rfl
  have ii:Ce true (.str w) (.tup [.str (AO "by"),.str (AO "never")]) h=.ok ω:=by rw[Ck,Lr (d:=.str (AO "by")) (t:=true) (ds:=[.str (AO "by"),.str (AO "never")]) rfl (by simp[Bu]) (by simp[Bu])];rfl
  rw[if_neg (by simp[k3]),E9,J,B0,Az,DL,Ru,J,ec,if_neg γ,E9,J,B0,EC,af,AU,ah,J,tb,J,ii,J,Db,J,if_pos rfl,HH j ok rfl,J,fin]
 |Jf j=>
  have k3:k=4:=by have:Bh [BW a d (.Jf j)] h=.ok (.int 4,h):=rfl;rw[this]at ln;injection ln with ln;injection ln with ln;injection ln with ln;exact ln.symm
  have Ck:w=AO "never":=by have:A7 (BW a d (.Jf j)) (.int 0) h=.ok (.str (AO "never"),h):=rfl;rw[this]at x0;injection x0 with x0;injection x0 with x0;injection x0 with x0;exact x0.symm
  have ec:(w==AO "comes")=false:=by rw[Ck];rfl
  have ii:Ce true (.str w) (.tup [.str (AO "by"),.str (AO "never")]) h=.ok ω:=by rw[Ck,Lr (d:=.str (AO "never")) (t:=true) (ds:=[.str (AO "by"),.str (AO "never")]) rfl (by simp[Bu]) (by simp[Bu])];rfl
  rw[if_neg (by simp[k3]),E9,J,B0,Az,DL,Ru,J,ec,if_neg γ,E9,J,B0,EC,af,AU,ah,J,tb,J,ii,J,Db,J,if_pos rfl,HH j ok rfl,J,fin]
def e1:Ap:=C8 (D8 (Ad (Aa 4 UC (Z π (Z τ (Z ψ (Z Ψ A2))))))) (B1 Ψ) C5
def zT(N:IK cs ws)(ok:Gh cs B)(A:FI h n cs ws)(B4:EE h b B)(AF:a<16){d:AN}(hd:d∈Dz cs ⇑cs)(s:La) :
  aB [.ref n,.ref b,BW a d s] h=.ok (if Ha (G_ ws B a d).1 (G_ ws B a d).2 s=true then .non else .int (a:Int),h):=by
 obtain⟨ρ,Ab⟩:∃ρ:Option W->Ay,ρ=λx=>[Ξ,ST,↥(BW a d s),x]:=ο;have Cc:A7 (BW a d s) (.int 1) h=.ok (.str (Eb a),h):=by cases s<;>rfl
 obtain⟨H,B_⟩:∃H:A5,H=h++[⟨.lst,[.int (a:Int)]⟩]:=ο;have Et:H[⇑h]?=↥⟨.lst,[.int (a:Int)]⟩:=by rw[B_,C9];rfl
 have pr:FO h H=true:=by rw[B_];exact MV _ _
 have v2:∀x H,I 2 (ρ x) H=.ok (BW a d s,H):=by rw[Ab];exact λ_ _=>rfl
 have NZ:Aa 1 SL (Z (A1 A7 ψ ζ) A2) (ρ none) h=.ok (.ref ⇑h,H):=by rw[EH,AW,AU,v2,J,Ag,J,Cc,J,BH,J,J,if_pos (by rfl),sh AF,B_]
 have so:=yn N ok (h:=H) (by rw[B_];exact A.more _) (by rw[B_];exact B4.more _) AF hd s;obtain⟨t,Hl⟩:∃t,t=Ha (G_ ws B a d).1 (G_ ws B a d).2 s:=ο;rw[<-Hl]at so |-;have BU:=az (mi:=CN (Aa 1 SL (Z (A1 A7 ψ ζ) A2))) (it:=Fd (.ref ⇑h)) (g:=AB 3) (b:=e1) (ρ:=ρ none) (h:=H) (h0:=h) 1 ε (λ_=>.int (a:Int)) (λr=>∃x,r=ρ x) (λ_=>if t=true then none else↥(.int (a:Int))) (J0 Et NZ) (λj An=>by
  rw[Kk Et];rcases(by lia:j=0\/j=1)with rfl|rfl<;>rfl) ⟨_,rfl⟩ (by
  rintro j An _ ⟨x,rfl⟩;refine⟨ρ ς,ρ ς,by rw[Ab];rfl,⟨_,rfl⟩,?_⟩;have c:Aa 4 UC (Z π (Z τ (Z ψ (Z Ψ A2)))) (ρ ς) H=.ok (.AL t,H):=L4 (us:=[.ref n,.ref b,BW a d s,.int (a:Int)]) (h1:=H) (by rw[Ab];rfl) rfl so;have E2:I 3 (ρ ς) H=.ok (.int (a:Int),H):=by rw[Ab];rfl
  unfold e1;rw[DL,v_not,D_,c,J,Db,J,J];cases t
  .rw[if_pos (by rfl),EC,E2,J];rfl
  .rw[if_neg γ,E9];rfl)
 obtain⟨_,⟨x,rfl⟩,e⟩:=BU;have Bc:aB [.ref n,.ref b,BW a d s] h=((AT (Em (CN (Aa 1 SL (Z (A1 A7 ψ ζ) A2))) (AB 3) e1) (B1 Tm) (ρ none) h).bind outF).bind λp=>BJ.settle h p.1 p.2:=by rw[Ab];rfl
 rw[Bc,Az,e,J];cases t
 .have:(Cg 1).findSome? (λ_=>if false=true then none else↥(W.int (a:Int)))=ς:=rfl;rw[this];erw[Jp,MZ,J,Fm];rw[QN h _ _ rfl pr];rfl
 .have:(Cg 1).findSome? (λ_=>if true=true then none else↥(W.int (a:Int)))=none:=rfl;rw[this];erw[Jp,B0,EC,Ag,J,Fm];rw[QN h _ _ rfl pr];rfl
def uK(N:IK cs ws)(ok:Gh cs B)(A:FI h n cs ws)(B4:EE h b B)(AF:a<16){d:AN}(hd:d∈HX cs ws ⇑cs){s:La}(so:V5 cs ws s) :
  U8 [.ref n,.ref b,BW a d s] h=.ok (if Ha (G_ ws B a d).1 (G_ ws B a d).2 s=true then .non else .int (a:Int),h):=by
 have Jv:=zT N ok A B4 AF (Zk hd).1 s;have by':=bp N.Ez ok A B4;have F6:=af4 (a:=a) A hd so;obtain⟨r,B5⟩:∃r:W,r=if Ha (G_ ws B a d).1 (G_ ws B a d).2 s=true then .non else .int (a:Int):=ο
 have KG:DU r=true:=by rw[B5];split<;>rfl
 rw[<-B5]at Jv |-;obtain⟨ρ,Ab⟩:∃ρ:Ay,ρ=[Ξ,ST,↥(BW a d s)]:=ο;have v0:I 0 ρ h=.ok (.ref n,h):=by rw[Ab];rfl
 have v1:I 1 ρ h=.ok (.ref b,h):=by rw[Ab];rfl
 have v2:I 2 ρ h=.ok (BW a d s,h):=by rw[Ab];rfl
 have Bc:U8 [.ref n,.ref b,BW a d s] h=((Y4 ρ h).bind outF).bind λp=>BJ.settle h p.1 p.2:=by rw[Ab];rfl
 rw[Bc];unfold Y4;rw[Az,IG,EH,AW,v1,J,AW,v0,J,BH,J,J,J,if_pos (by rfl),by',J,J,B0,Az,DL,v_not,D_,EH,AW,v2,J,AW,v0,J,BH,J,J,J,if_pos (by rfl),F6,J,Db,J,J,if_neg γ,E9,J,B0,EC,EH,AW,v0,J,AW,v1,J,AW,v2,J,BH,J,J,J,J,if_pos (by rfl),Jv,J,J,Fm,J];exact Nf h _ KG
end
def EE.pre{h g:A5}{b:Nat}{B:↑↑CY}(x:EE h b B)(p:h<+: g):EE g b B:=by obtain⟨r,rfl⟩:=p;exact x.more r
noncomputable def IW(os:↑AN):Nat->↑La
 |0=>.KN::os.map .J3
 |k+1=>IW os k++[.Je k,.Jf k]
theorem eQ(os:↑AN):∀k,⇑(IW os k)=1+⇑os+2*k
 |0=>by simp[IW];lia
 |k+1=>by simp[IW,eQ os k];lia
theorem pb{cs:↑Nat}{ws:ν}:∀{k:Nat},k<=⇑cs->∀s∈IW (HX cs ws ⇑cs) k,V5 cs ws s
 |0,_,s,h=>by
  rcases List.mem_cons.mp h with rfl|h
  .trivial
  .obtain⟨d,hd,rfl⟩:=List.mem_map.mp h;exact hd
 |k+1,AQ,s,h=>by
  rcases List.mem_append.mp h with h|h
  .exact pb δ s h
  .erw[He,My,or_false]at h;rcases h with rfl|rfl
   .exact(show k< ⇑cs by lia)
   .exact(show k< ⇑cs by lia)
def aal(a:Nat)(d:AN)(s:La):DU (BW a d s)=true:=by cases s<;>simp[BW,AJ]
def aam(a:Nat)(d:AN)(L:↑La):Fu (L.map (BW a d))=true:=Rk.mpr λw hw=>by obtain⟨s,_,rfl⟩:=List.mem_map.mp hw;exact aal a d s
def tI(n po pn k m:Nat)(d:AN)(a q:Nat)(e:JN)(GX Dk:Nat)(af0 KM af1 af2 WF HZ:Option W):Ay:=[Ξ,↥(.ref po),↥(.ref pn),↥(.tup [.int (k:Int),.int (m:Int),AJ d,.int (a:Int),.ref q,Ci e]),↥(.tup [.ref GX,.ref Dk]),↥(.int (k:Int)),↥(.int (m:Int)),↥(AJ d),ς,↥(.ref q),↥(Ci e),↥(.str (Eb a)),af0,KM,af1,af2,WF,HZ]
def dv:Ap:=(AT (Am (Ie (Aa 3 JD (Z (I 16) (Z (A1 A7 (I 14) η) (Z (A1 A7 (I 14) ζ) A2)))) (Aa 3 JD (Z (I 16) (Z (A1 A7 (I 15) η) (Z (A1 A7 (I 15) ζ) A2))))) (AB 17))
    (C8 (JX (Ad (I 17)) (D8 (Ad (Aa 3 JD (Z (I 16) (Z (I 9) (Z (I 10) A2))))))) (B1 (pu (.AL false))) C5))
def br:Ap:=(Am (CI (A1 addW (I 12) (Be (Z (BE (Z (pu (.str (AO "by"))) (Z (I 11) (Z (I 7) (Z (I 13) A2))))) (Z (BE (Z (pu (.str (AO "never"))) (Z (I 11) (Z (I 7) (Z (I 13) A2))))) A2))))) (AB 12))
noncomputable def ZK:JN->C_
 |.Pr d=>.CZ true [.str (AO "out"),.int (d.1:Int),.int (d.2:Int)]
 |.Vy h=>.CZ true [.str (AO "drop"),.int (h:Int)]
 |.Ps i=>.CZ true [.str (AO "ring"),.int (i:Nat)]
def adt(H:A5)(e:JN):Bu 7 H (Ci e)=↥(ZK e):=by cases e<;>simp[Ci,EK,Bu,ZK]
def hs{H:A5}{x y:Nat}{L:↑AN}(e:JN)(ex:H[x]?=↥⟨.lst,L.map AJ⟩)(Dv:H[y]?=↥⟨.lst,L.map AJ⟩):BC true (.tup [.ref x,Ci e]) (.tup [.ref y,Ci e]) H=.ok (.AL true,H):=by
 have q:∀n,H[n]?=↥⟨.lst,L.map AJ⟩->Bu 7 H KK=↥(.CZ false (L.map Ix)):=λn B2=>by show(match Dw H KK with|some (t,ws)=>(ws.mapM (Bu 6 H)).map (C_.CZ t)|none=>none)=_;rw[Gf H B2];erw[UH (f:=AJ) (r:=Bu 6 H) (g:=Ix) λd _=>Zq 4 H d,LH]
 have t:∀n,H[n]?=↥⟨.lst,L.map AJ⟩->Bu 8 H (.tup [.ref n,Ci e])=↥(.CZ true [.CZ false (L.map Ix),ZK e]):=λn B2=>by show(match Dw H (.tup [.ref n,Ci e])with|some (t,ws)=>(ws.mapM (Bu 7 H)).map (C_.CZ t)|none=>none)=_;rw[Tq];erw[O0,List.mapM_nil,q n B2,adt];rfl
 unfold BC;rw[t x ex,t y Dv];have o:GO 8 (.CZ true [.CZ false (L.map Ix),ZK e])=true:=by erw[GO,Ul,List.all_nil,XZ,I1];refine⟨List.all_eq_true.mpr λd hd=>?_,by cases e<;>rfl⟩;obtain⟨z,_,rfl⟩:=List.mem_map.mp hd;rfl
 erw[b3 8 o];rfl
def aaS(H:A5)(e:JN):∃x:Str,A7 (Ci e) (.int 0) H=.ok (.str x,H)/\(x==AO "lost")=false:=by cases e<;>exact⟨_,rfl,rfl⟩
section
variable{cs:↑Nat}{ws:ν}{A B:↑↑CY}{h:A5}{n po pn k m a q GX Dk:Nat}{d:AN}{e:JN}{L:↑AN}
def yP(N:IK cs ws)(HV:Gh cs A)(HW:Gh cs B)(At:FI h n cs ws)(P2:EE h po A)(Pj:EE h pn B)(ao:h[GX]?=↥⟨.lst,Bw cs⟩)(FP:h[Dk]?=↥⟨.lst,ws.map CJ⟩)(hd:d∈HX cs ws ⇑cs)(AF:a<16)(eq:h[q]?=↥⟨.lst,L.map AJ⟩)(H7:⇑L<1000)(hm:(m=0/\G_ ws A a d=(L,e))\/(m=1/\G_ ws B a d=(L,e))) :
  Wd [.ref n,.ref po,.ref pn,.tup [.int (k:Int),.int (m:Int),AJ d,.int (a:Int),.ref q,Ci e],.tup [.ref GX,.ref Dk]] h=.ok ω:=by
 obtain⟨d1,Ek⟩:=Zk hd;have Zy:=N.Ez;have aax:⇑(HX cs ws ⇑cs)<=24:=Gm (XF _ _) (Vf N);obtain⟨os,b0⟩:∃os,os=HX cs ws ⇑cs:=ο;rw[<-b0]at aax;obtain⟨ρ,Ab⟩:∃ρ,ρ=tI n po pn k m d a q e GX Dk:=ο;have v0:∀a b c d e f H,I 0 (ρ a b c d e f) H=.ok (.ref n,H):=by rw[Ab];intros;rfl
 have v1:∀a b c d e f H,I 1 (ρ a b c d e f) H=.ok (.ref po,H):=by rw[Ab];intros;rfl
 have v2:∀a b c d e f H,I 2 (ρ a b c d e f) H=.ok (.ref pn,H):=by rw[Ab];intros;rfl
 have v4:∀a b c d e f H,I 4 (ρ a b c d e f) H=.ok (.tup [.ref GX,.ref Dk],H):=by rw[Ab];intros;rfl
 have Fp:∀a b c d e f H,I 5 (ρ a b c d e f) H=.ok (.int (k:Int),H):=by rw[Ab];intros;rfl
 have v6:∀a b c d e f H,I 6 (ρ a b c d e f) H=.ok (.int (m:Int),H):=by rw[Ab];intros;rfl
 have L_:∀x b c y e f H,I 7 (ρ x b c y e f) H=.ok (AJ d,H):=by rw[Ab];intros;rfl
 have QS:∀x b c y e f H,I 8 (ρ x b c y e f) H=.ok (.int (a:Int),H):=by rw[Ab];intros;rfl
 have ae:∀x b c y e f H,I 9 (ρ x b c y e f) H=.ok (.ref q,H):=by rw[Ab];intros;rfl
 have v10:∀x b c y z f H,I 10 (ρ x b c y z f) H=.ok (Ci e,H):=by rw[Ab];intros;rfl
 have v11:∀x b c y z f H,I 11 (ρ x b c y z f) H=.ok (.str (Eb a),H):=by rw[Ab];intros;rfl
 have a_:∀w b c y z f H,I 12 (ρ ↥w b c y z f) H=.ok (w,H):=by rw[Ab];intros;rfl
 have rI:∀x w c y z f H,I 13 (ρ x ↥w c y z f) H=.ok (w,H):=by rw[Ab];intros;rfl
 have e7:∀x b w y z f H,I 14 (ρ x b ↥w y z f) H=.ok (w,H):=by rw[Ab];intros;rfl
 have e8:∀x b y w z f H,I 15 (ρ x b y ↥w z f) H=.ok (w,H):=by rw[Ab];intros;rfl
 have aa:∀x b y z w f H,I 16 (ρ x b y z ↥w f) H=.ok (w,H):=by rw[Ab];intros;rfl
 have agC:∀x b y z f w H,I 17 (ρ x b y z f ↥w) H=.ok (w,H):=by rw[Ab];intros;rfl
 have qh:∀w x b y z f g H,AB 12 w (ρ x b y z f g) H=.ok (.AP (ρ ↥w b y z f g),H):=by rw[Ab];intros;rfl
 have afZ:∀w x b y z f g H,AB 13 w (ρ x b y z f g) H=.ok (.AP (ρ x ↥w y z f g),H):=by rw[Ab];intros;rfl
 have af_:∀w x b y z f g H,AB 14 w (ρ x b y z f g) H=.ok (.AP (ρ x b ↥w z f g),H):=by rw[Ab];intros;rfl
 have afa:∀w x b y z f g H,AB 15 w (ρ x b y z f g) H=.ok (.AP (ρ x b y ↥w f g),H):=by rw[Ab];intros;rfl
 have qi:∀w x b y z f g H,AB 16 w (ρ x b y z f g) H=.ok (.AP (ρ x b y z ↥w g),H):=by rw[Ab];intros;rfl
 have qj:∀w x b y z f g H,AB 17 w (ρ x b y z f g) H=.ok (.AP (ρ x b y z f ↥w),H):=by rw[Ab];intros;rfl
 obtain⟨H1,OD⟩:∃H1:A5,H1=h++[⟨.lst,[BW a d .KN]⟩]:=ο;have s2:Am (Be (Z (BE (Z (pu (.str (AO "leaves"))) (Z (I 11) (Z (I 7) A2)))) A2)) (AB 12) (ρ none none none none none none) h=.ok (.AP (ρ χ none none none none none),H1):=by rw[DV,Mc,AW,HF,AW,Ag,J,AW,v11,J,AW,L_,J,BH,J,J,J,J,if_pos (by simp[Bi]),J,BH,J,J,NX _ (by simp[Bi]),J,qh,OD];rfl
 have kx:h<+: H1:=by rw[OD];exact Eu _ _
 have Hy:H1[⇑h]?=↥⟨.lst,[BW a d .KN]⟩:=by rw[OD,C9];rfl
 have ou:=jp N (h:=H1) (a:=GX) (b:=Dk) (Ea kx ao) (Ea kx FP);rw[<-b0]at ou;obtain⟨AH,OE⟩:∃AH:A5,AH=H1++[⟨.lst,os.map AJ⟩]:=ο;rw[<-OE]at ou;have U2:AH[⇑H1]?=↥⟨.lst,os.map AJ⟩:=by rw[OE,C9];rfl
 obtain⟨BP,NG⟩:∃BP:A5,BP=AH++[⟨.lst,os.map λx=>BW a d (.J3 x)⟩]:=ο;have Ed:CW 1 [11,7] (CN (Aa 1 Jx XL)) (AB 0) ac (BE (Z (pu (.str (AO "comes"))) (Z τ (Z ψ Ω)))) (ρ χ none none none none none) H1=.ok (.ref ⇑AH,BP):=by
  have NZ:Aa 1 Jx XL (ρ χ none none none none none) H1=.ok (.ref ⇑H1,AH):=by rw[EH,AW,v4,J,BH,J,J,if_pos (by rfl),ou]
  have c:=Mm (mi:=CN (Aa 1 Jx XL)) (it:=Fd (.ref ⇑H1)) (g:=AB 0) (t:=pu true) (e:=BE (Z (pu (.str (AO "comes"))) (Z τ (Z ψ Ω)))) (ρ:=ρ χ none none none none none) (h:=AH) (h0:=H1) (nl:=1) (caps:=[11,7]) (os.map AJ) (λ_=>true) (λw=>.tup [.str (AO "comes"),.str (Eb a),AJ d,w]) (λr=>∃s,r=[s,↥(.str (Eb a)),↥(AJ d)]) (by rw[Cd];lia) (J0 U2 NZ) ⟨none,by rw[Ab];rfl⟩ (λj acc _=>Kk (CE _ U2 _) j) (by rintro w hw r acc ⟨s,rfl⟩;refine⟨[↥w,↥(.str (Eb a)),↥(AJ d)],γ,⟨_,rfl⟩,rfl,λ_=>?_⟩;rw[HF];rfl)
  rw[c,NG,List.filter_eq_self.mpr λ_ _=>rfl,K4];rfl
 have qw:BP[⇑h]?=↥⟨.lst,[BW a d .KN]⟩:=by rw[NG,OE];exact CE _ (CE _ Hy _) _
 have ahg:BP[⇑AH]?=↥⟨.lst,os.map λx=>BW a d (.J3 x)⟩:=by rw[NG,C9];rfl
 obtain⟨DX,RS⟩:∃DX:A5,DX=BP.set ⇑h ⟨.lst,(IW os 0).map (BW a d)⟩:=⟨_,rfl⟩;have s3:Di (NQ (I 12) (Z (CW 1 [11,7] (CN (Aa 1 Jx XL)) (AB 0) ac (BE (Z (pu (.str (AO "comes"))) (Z τ (Z ψ Ω))))) A2)) (ρ χ none none none none none) H1=.ok (.AP (ρ χ none none none none none),DX):=by have x:=c_ (o:=I 12) (ma:=Z (CW 1 [11,7] (CN (Aa 1 Jx XL)) (AB 0) ac (BE (Z (pu (.str (AO "comes"))) (Z τ (Z ψ Ω))))) A2) (a_ (.ref ⇑h) none none none none none H1) Hy (by rw[AW,Ed,J,BH,J]) qw ahg (by simp[Bi];lia);rw[IG,x,J,RS];simp[IW,Sc]
 have Ov:h<+: DX:=by rw[RS,NG,OE,OD];refine⟨[⟨.lst,(IW os 0).map (BW a d)⟩,⟨.lst,os.map AJ⟩,⟨.lst,os.map λx=>BW a d (.J3 x)⟩],?_⟩;simp
 have ahh:DX[⇑h]?=↥⟨.lst,(IW os 0).map (BW a d)⟩:=by rw[RS,LJ (HN qw)]
 have dy:=Ends.HB (Pq (mi:=Dj (Z (BD (B6 "Net" "many") π) A2)) (g:=AB 13) (b:=br) (ρ:=ρ χ none none none none none) (h:=DX) (h0:=DX) 0 ⇑cs δ (λj r G=>∃p KM,r=ρ ↥(.ref p) KM none none none none/\h<+: G/\ ⇑h<=p/\G[p]?=↥⟨.lst,(IW os j).map (BW a d)⟩) (T:=λCH G=>∃p KM,CH=.AP (ρ ↥(.ref p) KM none none none none)/\h<+: G/\G[p]?=↥⟨.lst,(IW os ⇑cs).map (BW a d)⟩) (LD (n:=⇑cs) (by
   obtain⟨f,A9,AG⟩:=At.ex;have Nn:B6 "Net" "many" KK DX=.ok (.int ⇑cs,DX):=EV (Ea Ov A9) rfl;rw[AW,H2,v0,J,Nn,J,BH,J]) δ) ⟨_,_,rfl,Ov,CB _,ahh⟩ (by
  rintro j _ G An ⟨p,KM,rfl,Rp,BU,fN⟩;refine⟨ρ ↥(.ref p) ↥(.int (j:Int)) none none none none,G,by rw[afZ];simp,?_⟩;obtain⟨RW,NH⟩:∃RW:A5,RW=G++[⟨.lst,[BW a d (.Je j),BW a d (.Jf j)]⟩]:=ο;have Hd:Be (Z (BE (Z (pu (.str (AO "by"))) (Z (I 11) (Z (I 7) (Z (I 13) A2))))) (Z (BE (Z (pu (.str (AO "never"))) (Z (I 11) (Z (I 7) (Z (I 13) A2))))) A2)) (ρ ↥(.ref p) ↥(.int (j:Int)) none none none none) G=.ok (.ref ⇑G,RW):=by rw[Mc,AW,HF,AW,Ag,J,AW,v11,J,AW,L_,J,AW,rI,J,BH,J,J,J,J,J,if_pos (by simp[Bi]),J,AW,HF,AW,Ag,J,AW,v11,J,AW,L_,J,AW,rI,J,BH,J,J,J,J,J,if_pos (by simp[Bi]),J,BH,J,J,J,NX _ (by simp[Bi]),NH];rfl
  have QU:RW[p]?=↥⟨.lst,(IW os j).map (BW a d)⟩:=by rw[NH];exact CE _ fN _
  have ahl:RW[⇑G]?=↥⟨.lst,[BW a d (.Je j),BW a d (.Jf j)]⟩:=by rw[NH,C9];rfl
  have ls:=eQ os j;have ad:=NY QU ahl (by simp[ls,Bi];lia);have es:(IW os j).map (BW a d)++[BW a d (.Je j),BW a d (.Jf j)]=(IW os (j+1)).map (BW a d):=by simp[IW]
  rw[es]at ad;have st:BJ.settle G (.ref ⇑RW) (RW++[⟨.lst,(IW os (j+1)).map (BW a d)⟩])=.ok (.ref ⇑G,G++[⟨.lst,(IW os (j+1)).map (BW a d)⟩]):=LF _ _ (by rw[NH];exact JE (Fv (Eu _ _) _)) (by rw[NH];simp) (by rw[C9];rfl) (aam _ _ _);unfold br;rw[DV,FV,AU,a_,J,Hd,J,ad,J,st,J,qh];exact⟨_,_,rfl,_,_,rfl,Fv Rp _,Rp.length_le,by rw[C9];rfl⟩) (by
  rintro _ G ⟨p,KM,rfl,Rp,_,fN⟩;exact⟨p,KM,rfl,Rp,fN⟩))
 obtain⟨_,Ch,GA,p,KM,rfl,Rn,U3⟩:=dy;obtain⟨MA,bM⟩:∃MA,MA=IW os ⇑cs:=ο;rw[<-bM]at U3;have aik:⇑MA=1+⇑os+2*⇑cs:=by rw[bM];exact eQ _ _
 have abY:∀s∈MA,V5 cs ws s:=by rw[bM,b0];exact pb (CB _)
 have As:=ju N HV (h:=Ch) (a1:=GX) (b1:=Dk) (b:=po) (Ea Rn FP) (P2.pre Rn) a d1;have As:On [.tup [.ref GX,.ref Dk],.ref po,AJ d,.int (a:Int)] Ch=.ok (.tup [.ref ⇑Ch,Ci (G_ ws A a d).2],Ch++[⟨.lst,(G_ ws A a d).1.map AJ⟩]):=As;have Ju:=(eE N HV At P2 AF d1).2;have Ju:(G_ ws A a d).1.length<=24:=Ju;have Jv:=(eE N HW At Pj AF d1).2;have Jv:(G_ ws B a d).1.length<=24:=Jv;obtain⟨x,ex⟩:∃x,x=G_ ws A a d:=ο;obtain⟨y,Dv⟩:∃y,y=G_ ws B a d:=ο;rw[<-ex]at As Ju hm;obtain⟨DC,RT⟩:∃DC:A5,DC=Ch++[⟨.lst,x.1.map AJ⟩]:=ο;rw[<-RT]at As;have ky:Ch<+: DC:=by rw[RT];exact Eu _ _
 have MT:h<+: DC:=Rn.trans ky;have BK:=ju N HW (h:=DC) (a1:=GX) (b1:=Dk) (b:=pn) (Ea MT FP) (Pj.pre MT) a d1;have BK:On [.tup [.ref GX,.ref Dk],.ref pn,AJ d,.int (a:Int)] DC=.ok (.tup [.ref ⇑DC,Ci (G_ ws B a d).2],DC++[⟨.lst,(G_ ws B a d).1.map AJ⟩]):=BK;rw[<-Dv]at BK Jv hm;obtain⟨Bo,QB⟩:∃Bo:A5,Bo=DC++[⟨.lst,y.1.map AJ⟩]:=ο;rw[<-QB]at BK;have dA:DC<+: Bo:=by rw[QB];exact Eu _ _
 have Ro:h<+: Bo:=MT.trans dA;have qx:Bo[⇑Ch]?=↥⟨.lst,x.1.map AJ⟩:=Ea dA (by rw[RT,C9];rfl);have qQ:Bo[⇑DC]?=↥⟨.lst,y.1.map AJ⟩:=by rw[QB,C9];rfl
 have qR:=Ea Ro eq;have U4:=Ea (ky.trans dA) U3;have s5:Am (Aa 4 On (Z (I 4) (Z τ (Z (I 7) (Z (I 8) A2))))) (AB 14) (ρ ↥(.ref p) KM none none none none) Ch=.ok (.AP (ρ ↥(.ref p) KM ↥(.tup [.ref ⇑Ch,Ci x.2]) none none none),DC):=by rw[DV,EH,AW,v4,J,AW,v1,J,AW,L_,J,AW,QS,J,BH,J,J,J,J,J,if_pos (by rfl),As,J,af_]
 have CQ:Am (Aa 4 On (Z (I 4) (Z ψ (Z (I 7) (Z (I 8) A2))))) (AB 15) (ρ ↥(.ref p) KM ↥(.tup [.ref ⇑Ch,Ci x.2]) none none none) DC=.ok (.AP (ρ ↥(.ref p) KM ↥(.tup [.ref ⇑Ch,Ci x.2]) ↥(.tup [.ref ⇑DC,Ci y.2]) none none),Bo):=by rw[DV,EH,AW,v4,J,AW,v2,J,AW,L_,J,AW,QS,J,BH,J,J,J,J,J,if_pos (by rfl),BK,J,afa]
 obtain⟨Cj,EG⟩:∃Cj:Option W->Option W->Ay,Cj=ρ ↥(.ref p) KM ↥(.tup [.ref ⇑Ch,Ci x.2]) ↥(.tup [.ref ⇑DC,Ci y.2]):=ο;rw[<-EG]at CQ;have c4:∀s f,Aa 3 JD (Z (I 16) (Z (A1 A7 (I 14) η) (Z (A1 A7 (I 14) ζ) A2))) (Cj ↥(BW a d s) f) Bo=.ok (.AL (Ha x.1 x.2 s),Bo):=λs f=>by rw[EG,EH,AW,aa,J,AW,AU,e7,J,Ag,J,GF,J,AW,AU,e7,J,Ag,J,I9,J,BH,J,J,J,J,if_pos (by rfl),e3 δ qx]
 have yd:∀s f,Aa 3 JD (Z (I 16) (Z (A1 A7 (I 15) η) (Z (A1 A7 (I 15) ζ) A2))) (Cj ↥(BW a d s) f) Bo=.ok (.AL (Ha y.1 y.2 s),Bo):=λs f=>by rw[EG,EH,AW,aa,J,AW,AU,e8,J,Ag,J,GF,J,AW,AU,e8,J,Ag,J,I9,J,BH,J,J,J,J,if_pos (by rfl),e3 δ qQ]
 have ye:∀s f,Aa 3 JD (Z (I 16) (Z (I 9) (Z (I 10) A2))) (Cj ↥(BW a d s) f) Bo=.ok (.AL (Ha L e s),Bo):=λs f=>by rw[EG,EH,AW,aa,J,AW,ae,J,AW,v10,J,BH,J,J,J,J,if_pos (by rfl),e3 H7 qR]
 have dz:=Ends.HB (Th (mi:=CN (I 12)) (it:=Fd (.ref p)) (g:=AB 16) (b:=dv) (ρ:=Cj none none) (h:=Bo) (h0:=Bo) (MA.map (BW a d)) (by rw[Cd];lia) (λj r G=>(∃s t,r=Cj s t)/\Bo=G) (T:=λCH G=>(∃s t,CH=.AP (Cj s t))/\Bo=G) (J0 U4 (by rw[EG];exact a_ _ _ _ _ _ _ _)) (λj r G _ q=>by
  obtain⟨_,rfl⟩:=q;exact Kk U4 j) ⟨⟨_,_,rfl⟩,rfl⟩ (by
  rintro j w _ _ FJ ⟨⟨s,t,rfl⟩,rfl⟩;rw[Dl]at FJ;cases es:MA[j]? with
  |none=>rw[es]at FJ;cases FJ
  |some F6=>
   rw[es]at FJ;cases FJ;refine⟨Cj ↥(BW a d F6) t,Bo,by rw[EG];exact qi _ _ _ _ _ _ _ _,?_⟩;obtain⟨b,B4⟩:∃b,b=(if Ha x.1 x.2 F6=true then Ha y.1 y.2 F6 else false):=ο;have a1:Am (Ie (Aa 3 JD (Z (I 16) (Z (A1 A7 (I 14) η) (Z (A1 A7 (I 14) ζ) A2)))) (Aa 3 JD (Z (I 16) (Z (A1 A7 (I 15) η) (Z (A1 A7 (I 15) ζ) A2))))) (AB 17) (Cj ↥(BW a d F6) t) Bo=.ok (.AP (Cj ↥(BW a d F6) ↥(.AL b)),Bo):=by
    rw[DV,af,c4,J,Db,J];cases Aq:Ha x.1 x.2 F6
    .rw[if_neg γ,J,B4,Aq,EG];exact qj _ _ _ _ _ _ _ _
    .rw[if_pos rfl,yd,J,B4,Aq,if_pos rfl,EG];exact qj _ _ _ _ _ _ _ _
   have agD:I 17 (Cj ↥(BW a d F6) ↥(.AL b)) Bo=.ok (.AL b,Bo):=by rw[EG];exact agC _ _ _ _ _ _ _
   have t6:b=true->Ha L e F6=true:=λz=>by
    rw[z]at B4;have Aq:Ha x.1 x.2 F6=true:=by
     cases q:Ha x.1 x.2 F6
     .rw[q]at B4;cases B4
     .rfl
    rw[Aq,if_pos rfl]at B4;rcases hm with⟨_,DF⟩|⟨_,DF⟩
    .rw[DF]at Aq;exact Aq
    .rw[DF]at B4;exact B4.symm
   unfold dv;rw[Az,a1,J,B0,DL,v_and,D_,agD,J,Db,J];cases b
   .rw[if_neg γ,J,if_neg γ,E9];exact⟨_,_,rfl,⟨_,_,rfl⟩,rfl⟩
   .rw[if_pos rfl,v_not,D_,ye,J,Db,J,t6 rfl,J,if_neg γ,E9];exact⟨_,_,rfl,⟨_,_,rfl⟩,rfl⟩) (by
  rintro _ _ ⟨⟨s,t,rfl⟩,rfl⟩;exact⟨⟨_,_,rfl⟩,rfl⟩))
 obtain⟨_,_,Vs,⟨WF,HZ,rfl⟩,rfl⟩:=dz;obtain⟨i,AA,Fb⟩:=J2 (k:Int) (n:=⇑MA) δ;have fM:(MA.map (BW a d))[i]?=↥(BW a d MA[i]):=by rw[Dl,C3 AA];rfl
 have JG:Am (A1 A7 (I 12) (A1 Bf (I 5) (BI Bh (Z (I 12) A2)))) (AB 16) (Cj WF HZ) Bo=.ok (.AP (Cj ↥(BW a d MA[i]) HZ),Bo):=by
  have lw:Bh [.ref p] Bo=.ok (.int (⇑MA:Int),Bo):=by rw[Ic U4,Cd]
  have rG:I 12 (Cj WF HZ) Bo=.ok (.ref p,Bo):=by rw[EG];exact a_ _ _ _ _ _ _ _
  have ag7:I 5 (Cj WF HZ) Bo=.ok (.int (k:Int),Bo):=by rw[EG];exact Fp _ _ _ _ _ _ _
  rw[DV,AU,rG,J,AU,ag7,J,Fx,AW,rG,J,BH,J,J,lw,J,F5,if_pos δ,J,Fb,EW U4 fM,J,EG];exact qi _ _ _ _ _ _ _ _
 obtain⟨F6,i0⟩:∃F6,F6=MA[i]:=ο;have abo:V5 cs ws F6:=by rw[i0];exact abY _ (J9 AA)
 rw[<-i0]at JG;have iX:=uK N HV (h:=Bo) (n:=n) (b:=po) (by obtain⟨f,g1,g2⟩:=At.ex;exact⟨f,Ea Ro g1,Ea Ro g2⟩) (P2.pre Ro) AF hd abo
 rw[<-ex]at iX;have aer:Ad (A1 (BC false) (A1 (El true) (Aa 3 U8 (Z π (Z τ (Z (I 16) A2)))) Tm) (Aa 3 JD (Z (I 16) (Z (A1 A7 (I 14) η) (Z (A1 A7 (I 14) ζ) A2))))) (Cj ↥(BW a d F6) HZ) Bo=.ok (false,Bo):=by
  have rE:I 0 (Cj ↥(BW a d F6) HZ) Bo=.ok (.ref n,Bo):=by rw[EG];exact v0 _ _ _ _ _ _ _
  have ag3:I 1 (Cj ↥(BW a d F6) HZ) Bo=.ok (.ref po,Bo):=by rw[EG];exact v1 _ _ _ _ _ _ _
  have ag6:I 16 (Cj ↥(BW a d F6) HZ) Bo=.ok (BW a d F6,Bo):=by rw[EG];exact aa _ _ _ _ _ _ _
  have NZ:Aa 3 U8 (Z π (Z τ (Z (I 16) A2))) (Cj ↥(BW a d F6) HZ) Bo=.ok (if Ha x.1 x.2 F6=true then .non else .int (a:Int),Bo):=by rw[EH,AW,rE,J,AW,ag3,J,AW,ag6,J,BH,J,J,J,J,if_pos (by rfl),iX]
  rw[D_,AU,AU,NZ,J,Ag,J];cases q:Ha x.1 x.2 F6
  .have E1:El true (if false=true then W.non else .int (a:Int)) .non Bo=.ok (.AL false,Bo):=rfl;rw[E1,J,c4,q];rfl
  .have E1:El true (if true=true then W.non else .int (a:Int)) .non Bo=.ok (.AL true,Bo):=rfl;rw[E1,J,c4,q];rfl
 have fA:CI (Ie (A1 (BC false) (A1 A7 (I 10) η) (pu (.str (AO "lost")))) (A1 Φ (BE (Z (I 9) (Z (I 10) A2))) (A1 A7 (Be (Z (I 14) (Z (I 15) A2))) (I 6)))) (Cj ↥(BW a d F6) HZ) Bo=.ok (.AL true,Bo):=by
  obtain⟨ajX,Ck,uo⟩:=aaS Bo e;have ag9:∀G,I 9 (Cj ↥(BW a d F6) HZ) G=.ok (.ref q,G):=by rw[EG];exact λ_=>ae _ _ _ _ _ _ _
  have rF:∀G,I 10 (Cj ↥(BW a d F6) HZ) G=.ok (Ci e,G):=by rw[EG];exact λ_=>v10 _ _ _ _ _ _ _
  have ag4:∀G,I 14 (Cj ↥(BW a d F6) HZ) G=.ok (.tup [.ref ⇑Ch,Ci x.2],G):=by rw[EG];exact λ_=>e7 _ _ _ _ _ _ _
  have ag5:∀G,I 15 (Cj ↥(BW a d F6) HZ) G=.ok (.tup [.ref ⇑DC,Ci y.2],G):=by rw[EG];exact λ_=>e8 _ _ _ _ _ _ _
  have ag8:∀G,I 6 (Cj ↥(BW a d F6) HZ) G=.ok (.int (m:Int),G):=by rw[EG];exact λ_=>v6 _ _ _ _ _ _ _
  obtain⟨M6,Sq⟩:∃M6:A5,M6=Bo++[⟨.lst,[.tup [.ref ⇑Ch,Ci x.2],.tup [.ref ⇑DC,Ci y.2]]⟩]:=ο;have qT:M6[⇑Bo]?=↥⟨.lst,[.tup [.ref ⇑Ch,Ci x.2],.tup [.ref ⇑DC,Ci y.2]]⟩:=by rw[Sq,C9];rfl
  have qY:M6[q]?=↥⟨.lst,L.map AJ⟩:=by rw[Sq];exact CE _ qR _
  have nl:Be (Z (I 14) (Z (I 15) A2)) (Cj ↥(BW a d F6) HZ) Bo=.ok (.ref ⇑Bo,M6):=by rw[Mc,AW,ag4,J,AW,ag5,J,BH,J,J,J,NX _ (by simp[Bi]),Sq]
  have Hd:BE (Z (I 9) (Z (I 10) A2)) (Cj ↥(BW a d F6) HZ) Bo=.ok (.tup [.ref q,Ci e],Bo):=by rw[HF,AW,ag9,J,AW,rF,J,BH];rfl
  have ne:A1 (BC false) (A1 A7 (I 10) η) (pu (.str (AO "lost"))) (Cj ↥(BW a d F6) HZ) Bo=.ok (.AL true,Bo):=by rw[AU,AU,rF,J,Ag,J,Ck,J,Ag,J,IS,if_neg γ,uo];rfl
  have es:A1 Φ (BE (Z (I 9) (Z (I 10) A2))) (A1 A7 (Be (Z (I 14) (Z (I 15) A2))) (I 6)) (Cj ↥(BW a d F6) HZ) Bo=.ok (.AL true,M6):=by
   rw[AU,Hd,J,AU,nl,J,ag8,J];rcases hm with⟨rfl,DF⟩|⟨rfl,DF⟩
   .have fH:A7 (.ref ⇑Bo) (.int ((0:Nat):Int)) M6=.ok (.tup [.ref ⇑Ch,Ci x.2],M6):=EW qT rfl;rw[fH,J,DF];exact hs e qY (by rw[Sq];refine CE _ ?_ _;rw[qx,DF])
   .have fH:A7 (.ref ⇑Bo) (.int ((1:Nat):Int)) M6=.ok (.tup [.ref ⇑DC,Ci y.2],M6):=EW qT rfl;rw[fH,J,DF];exact hs e qY (by rw[Sq];refine CE _ ?_ _;rw[qQ,DF])
  rw[FV,af,ne,J,Db,J,if_pos rfl,es,J];exact QN Bo _ _ rfl (by rw[Sq];exact MV _ _)
 have Bc:Wd [.ref n,.ref po,.ref pn,.tup [.int (k:Int),.int (m:Int),AJ d,.int (a:Int),.ref q,Ci e],.tup [.ref GX,.ref Dk]] h=((Xl [Ξ,↥(.ref po),↥(.ref pn),↥(.tup [.int (k:Int),.int (m:Int),AJ d,.int (a:Int),.ref q,Ci e]),↥(.tup [.ref GX,.ref Dk]),none,none,none,none,none,none,none,none,none,none,none,none,none] h).bind outF).bind λp=>BJ.settle h p.1 p.2:=rfl;obtain⟨Bp,cg⟩:∃Bp:Ay,Bp=[Ξ,↥(.ref po),↥(.ref pn),↥(.tup [.int (k:Int),.int (m:Int),AJ d,.int (a:Int),.ref q,Ci e]),↥(.tup [.ref GX,.ref Dk]),↥(.int (k:Int)),↥(.int (m:Int)),↥(AJ d),ς,↥(.ref q),↥(Ci e),none,none,none,none,none,none,none]:=ο;have s0:a6 Ψ (Dh [(AB 5),(AB 6),(AB 7),(AB 8),(AB 9),(AB 10)]) [Ξ,↥(.ref po),↥(.ref pn),↥(.tup [.int (k:Int),.int (m:Int),AJ d,.int (a:Int),.ref q,Ci e]),↥(.tup [.ref GX,.ref Dk]),none,none,none,none,none,none,none,none,none,none,none,none,none] h=.ok (.AP Bp,h):=by rw[cg];rfl
 have s1:Am (Aa 1 Oo (Z (I 8) A2)) (AB 11) Bp h=.ok (.AP (ρ none none none none none none),h):=by
  have u8:I 8 Bp h=.ok (.int (a:Int),h):=by rw[cg];rfl
  rw[DV,EH,AW,u8,J,BH,J,J,if_pos (by rfl),qM,J,cg,Ab];rfl
 have B4:Xl=AT _ (AT _ (AT _ (AT _ (AT (Em (Dj (Z (BD (B6 "Net" "many") π) A2)) (AB 13) br) (AT _ (AT _ (AT (Em (CN (I 12)) (AB 16) dv) (AT _ _)))))))):=rfl;rw[Bc,B4,Az,s0,J,B0,Az,s1,J,B0,Az,s2,J,B0,Az,s3,J,B0,Az,KO,GA,J,B0,Az,s5,J,B0,Az,CQ,J,B0,Az,KO,Vs,J,B0,Az,JG,J,B0,Az,DL,aer,J,if_neg γ,E9,J,B0,EC,fA,J,J,Fm,J];exact QN h _ _ rfl (JE Ro)
end
def FI.pre{h g:A5}{b:Nat}{cs:↑Nat}{ws:ν}(x:FI h b cs ws)(p:h<+: g):FI g b cs ws:=by obtain⟨r,rfl⟩:=p;exact x.more r
def aaV{h K:A5}(DH:∀(n:Nat) o,K[n]?=↥o->o≠P6->h[n]?=↥o){b:Nat}{cs:↑Nat}{ws:ν}(x:FI K b cs ws):FI h b cs ws:=by obtain⟨f,e,r⟩:=x.ex;exact⟨f,DH _ _ e (λz=>by cases z),DH _ _ r (λz=>by cases z)⟩
def FI.to{h h':A5}{b:Nat}{cs:↑Nat}{ws:ν}(x:FI h b cs ws)(e:∀n,n< ⇑h->h'[n]?=h[n]?):FI h' b cs ws:=by obtain⟨f,A9,r⟩:=x.ex;exact⟨f,(e _ (HN A9)).trans A9,(e _ (HN r)).trans r⟩
def mq{h g:A5}(p:h<+: g){n:Nat}(Ae:n< ⇑h):g[n]?=h[n]?:=by obtain⟨r,rfl⟩:=p;exact Fz Ae
theorem kk:∀(L:↑(Lt×Tl))(q i:Nat)(e:Lt×Tl),L[i]?=↥e->(JT q L)[i]?=↥(Ob (q+i) e)
 |[],q,i,e,z=>by cases z
 |x::L,q,0,e,z=>by cases z;rfl
 |x::L,q,i+1,e,z=>by have:=kk L (q+1) i e z;rw[show q+1+i=q+(i+1)by lia]at this;exact this
def IX.zero{C:FR}:IX C ⟨[],0,[],[],0⟩ (λ_=>0) (λ_=>0):=
 ⟨⟨IM _,γ⟩,(λ_ x=>by cases x),(λ_ x=>by cases x),(λ_ x=>by cases x),(λ_ x=>by cases x),(λ_ x=>by cases x),(λ_ x=>by cases x),(λ_ x=>by cases x),Qk,(λ_ x=>by cases x)⟩
def tp{ns:↑Int}(AI:⇑ns<=63){h:A5}{ρ:Ay}(h0:ρ[0]?=↥↥(.D1 (B3 ns))):∃l:↑Int,⇑l<=70/\CI (A1 addW (Be (Z υ (Z (pu (.int 5)) (Z (pu (.int 9)) A2)))) (Hq π (pu none) (FM (pu (.int 63))))) ρ h=.ok (.ref ⇑h,h++[⟨.lst,B3 l⟩]):=by
 obtain⟨l,el⟩:∃l,HO (B3 ns) none ↥63=B3 l:=im ns _ _;have H7:⇑l<=63:=by
  have e:⇑(HO (B3 ns) none ↥63)=⇑l:=by rw[el];simp[B3]
  have:=ip (B3 ns) none ↥63;rw[e]at this;simp[B3]at this;lia
 refine⟨2::5::9::l,by simp;lia,?_⟩;have E1:Be (Z υ (Z (pu (.int 5)) (Z (pu (.int 9)) A2))) ρ h=.ok (.ref ⇑h,h++[⟨.lst,[.int 2,.int 5,.int 9]⟩]):=rfl;have s1:Hq π (pu none) (FM (pu (.int 63))) ρ (h++[⟨.lst,[.int 2,.int 5,.int 9]⟩])=.ok (.ref (⇑h+1),h++[⟨.lst,[.int 2,.int 5,.int 9]⟩]++[⟨.lst,B3 l⟩]):=by rw[WR,v_var,h0,Fq,J,Ag,J,q_,J];unfold Tp;erw[eL,el];rw[NX _ (by simp[B3,Bi];lia)];simp
 have a1:=NY (h:=h++[⟨.lst,[.int 2,.int 5,.int 9]⟩]++[⟨.lst,B3 l⟩]) (i:=⇑h) (j:=⇑h+1) (a:=[.int 2,.int 5,.int 9]) (b:=B3 l) γ γ (by simp[B3,Bi];lia);rw[FV,AU,E1,J,s1,J,a1,J];exact LF (ws:=B3 (2::5::9::l)) h _ (JE (Fv (Fv (Eu _ _) _) _)) γ (by simp[B3]) (dU _)
def uf{x y:W}{h:A5}{b:Bool}(e:BC true x y h=.ok (.AL b,h)):BC false x y h=.ok (.AL (!b),h):=by
 unfold BC at e |-
 split at e
 .rename_i d c A9 AG;erw[if_true]at e;injection e with e;injection e with e _;injection e with e;simp[e]
 .cases e
noncomputable def OJ(ns:↑Int)(a b nt po pn r:Nat)(CQ D9 D5 JG:Option W):Ay:=[↥(.D1 (B3 ns)),↥(.tup [.ref a,.ref b]),↥(.ref nt),↥(.ref po),↥(.ref pn),↥(.ref r),CQ,D9,D5,JG]
def Z9:Ap:=(AT (Di (Aa 3 Pb (Z (I 5) (Z (Aa 1 Jx Cl) (Z (A1 Bf (I 6) (A1 Gd (pu (.int 10)) (pu (.int 20)))) A2)))))
    (Di (Aa 3 Pb (Z (I 5) (Z (Aa 1 Jx Cl) (Z (A1 addW (A1 EQ (A1 Bf (I 6) (A1 Gd (pu (.int 10)) (pu (.int 20)))) Fr) (pu (.int 5))) A2))))))
def Tj:Ap:=(AT (Am (CO "Run" "may" 0 NR (I 5) A2) (AB 8))
    (C8 (MP (Ad (A1 (BC false) (I 8) (Be A2)))) (Di (CO "Run" "move" 1 Gr (I 5) (Z (A1 A7 (I 8) (A1 Bf (I 7) (BI Bh (Z (I 8) A2)))) A2))) C5))
def r9:∃P:Int,0<P/\∀ρ H,A1 Gd (pu (.int 10)) (pu (.int 20)) ρ H=.ok (.int P,H):=by
 have p:NF 10 20:=ε
 exact⟨10^20,ε,λ_ _=>by rw[AU,Ag,J,Ag,J,dc,if_pos p];rfl⟩
section
variable{C:FR}{h:A5}{S:Eo}{ns:↑Int}{a b nt po pn:Nat}
def tu(c:GQ C)(P:G5 C h S)(AK:S.CS<800)(hm:S.Cx<800000)(Zv:C.K[a]?=↥⟨.lst,Bw C.cs⟩)(MM:C.K[b]?=↥⟨.lst,C.ws.map CJ⟩)(ne:outD C≠[])(z:Int)(D9 D5 JG:Option W) :
  ∃h' E4,Z9 (OJ ns a b nt po pn C.r ↥(.int z) D9 D5 JG) h=.ok (.AP (OJ ns a b nt po pn C.r ↥(.int z) D9 D5 JG),h')/\G5 C h' E4/\E4.CS<=S.CS+2/\E4.Cx<=S.Cx+2/\∀n,C.M+3<=n->n<C.T->h'[n]?=h[n]?:=by
 obtain⟨Q,NZ,Tv⟩:=r9;obtain⟨ρ,Ab⟩:∃ρ,ρ=OJ ns a b nt po pn C.r ↥(.int z) D9 D5 JG:=ο;have v1:∀H,I 1 ρ H=.ok (.tup [.ref a,.ref b],H):=by rw[Ab];intros;rfl
 have Fp:∀H,I 5 ρ H=.ok (.ref C.r,H):=by rw[Ab];intros;rfl
 have v6:∀H,I 6 ρ H=.ok (.int z,H):=by rw[Ab];intros;rfl
 have Ib:⇑(outD C)<=24:=Gm (XF _ _) (Vf c.N);have mo:∀(x:Int)(m:B8),(∀H,m ρ H=.ok (.int x,H))->∀{h:A5}{S:Eo},G5 C h S->S.CS<900->S.Cx<900000->∃h',Di (Aa 3 Pb (Z (I 5) (Z (Aa 1 Jx Cl) (Z m A2)))) ρ h=.ok (.AP ρ,h')/\V4 C S h h':=λx m em{h S} P AK hm=>by
  have aq:h[a]?=↥⟨.lst,Bw C.cs⟩:=P.R.DH _ _ Zv (λz=>by cases z);have ahn:h[b]?=↥⟨.lst,C.ws.map CJ⟩:=P.R.DH _ _ MM (λz=>by cases z);have lo:=jp c.N aq ahn;obtain⟨h1,A9⟩:∃h1:A5,h1=h++[⟨.lst,(outD C).map AJ⟩]:=ο;have lo:Jx [.tup [.ref a,.ref b]] h=.ok (.ref ⇑h,h1):=by rw[A9];exact lo
  obtain⟨h',Bg,E4,g1,g2,g3,g4⟩:=aae c (h:=h1) (by rw[A9];exact P.app _) AK hm (ou:=⇑h) (by rw[A9,C9];rfl) ne Ib x;have AI:=P.R.AI;refine⟨h',?_,E4,g1,g2,g3,λn E1 FN=>by rw[g4 n E1 FN,A9,Fz δ]⟩;rw[IG,EH,AW,Fp,J,AW,EH,AW,v1,J,BH,J,J,if_pos (by rfl),lo,J,AW,em,J,BH,J,J,J,J,if_pos (by rfl),Bg,J]
 obtain⟨h1,A9,Mg,g1,g2,g3,g4⟩:=mo (z%Q) (A1 Bf (I 6) (A1 Gd (pu (.int 10)) (pu (.int 20)))) (λH=>by rw[AU,v6,J,Tv,J,F5,if_pos NZ]) P δ δ;obtain⟨h2,AG,tQ,k1,k2,k3,TL⟩:=mo (z%Q/3+5) (A1 addW (A1 EQ (A1 Bf (I 6) (A1 Gd (pu (.int 10)) (pu (.int 20)))) Fr) (pu (.int 5))) (λH=>by rw[AU,AU,AU,v6,J,Tv,J,F5,if_pos NZ,J,Ag,J,Kw,if_pos ε,J,Ag,J,Kv]) g1 δ δ;refine⟨h2,tQ,?_,k1,δ,δ,λn E1 FN=>(TL n E1 FN).trans (g4 n E1 FN)⟩;rw[<-Ab];unfold Z9;rw[Az,A9,J,B0,AG]
def ve(c:GQ C)(P:G5 C h S)(hm:S.Cx<900000)(k:Nat)(CQ D5 JG:Option W) :
  ∃h' E4 m6,Tj (OJ ns a b nt po pn C.r CQ ↥(.int (k:Int)) D5 JG) h=.ok (.AP (OJ ns a b nt po pn C.r CQ ↥(.int (k:Int)) m6 JG),h')/\G5 C h' E4/\E4.CS<=S.CS+1/\E4.Cx<=S.Cx+1:=by
 obtain⟨ca,ga,g⟩:=P.g;obtain⟨H,B_⟩:∃H:A5,H=h++[⟨.lst,EX C S⟩]:=ο;have QD:G5 C H S:=by rw[B_];exact P.app _
 have Et:H[⇑h]?=↥⟨.lst,EX C S⟩:=by rw[B_,C9];rfl
 obtain⟨ρ,Ab⟩:∃ρ,ρ=λs=>OJ ns a b nt po pn C.r CQ ↥(.int (k:Int)) s JG:=ο;have Fp:∀s H,I 5 (ρ s) H=.ok (.ref C.r,H):=by rw[Ab];intros;rfl
 have L_:∀s H,I 7 (ρ s) H=.ok (.int (k:Int),H):=by rw[Ab];intros;rfl
 have QS:∀w H,I 8 (ρ ↥w) H=.ok (w,H):=by rw[Ab];intros;rfl
 have s1:Am (CO "Run" "may" 0 NR (I 5) A2) (AB 8) (ρ D5) h=.ok (.AP (ρ χ),H):=by
  have q:CO "Run" "may" 0 NR (I 5) A2 (ρ D5) h=.ok (.ref ⇑h,H):=by rw[B_];exact Oq (h1:=h) (Fp _ _) P.R.B5 rfl (lZ c P.R g.D)
  rw[DV,q,J,Ab];rfl
 have t1:MP (Ad (A1 (BC false) (I 8) (Be A2))) (ρ χ) H=.ok (!(EX C S).isEmpty,H):=by have nl:Be A2 (ρ χ) H=.ok (.ref ⇑H,H++[⟨.lst,[]⟩]):=rfl;have eq:=uf (lX (C:=C) (S:=S) (H:=H++[⟨.lst,[]⟩]) (n:=⇑h) (m:=⇑H) (CE _ Et _) (by rw[C9];rfl));rw[e9,D_,AU,QS,J,nl,J,eq,J,Db,J,if_pos (MV _ _)]
 have DF:Tj (OJ ns a b nt po pn C.r CQ ↥(.int (k:Int)) D5 JG) h=Tj (ρ D5) h:=by rw[Ab]
 rw[DF];unfold Tj;rw[Az,s1,J,B0,DL,t1,J];cases em:(EX C S).isEmpty
 .have nn:EX C S≠[]:=λz=>by rw[z]at em;cases em
  have BU:0< ⇑(EX C S):=List.length_pos_iff.mpr nn;obtain⟨i,AA,Fb⟩:=J2 (k:Int) (n:=⇑(EX C S)) BU;obtain⟨v,h',e,E4,Aq,BV,Do,_⟩:=lV c QD hm (J9 AA);have DG:A7 (.ref ⇑h) (.int (i:Int)) H=.ok ((EX C S)[i],H):=EW Et (C3 AA);have q:CO "Run" "move" 1 Gr (I 5) (Z (A1 A7 (I 8) (A1 Bf (I 7) (BI Bh (Z (I 8) A2)))) A2) (ρ χ) H=.ok (v,h'):=KD (us:=[(EX C S)[i]]) (Fp _ _) QD.R.B5 rfl (by rw[AW,AU,QS,J,AU,L_,J,Fx,AW,QS,J,BH,J,J,Ic Et,J,F5,if_pos δ,J,Fb,DG,J,BH,J]) rfl e
  refine⟨h',E4,χ,?_,Aq,BV,Do⟩;rw[if_pos (by rfl),IG,q,J,Ab]
 .refine⟨H,S,χ,?_,QD,δ,δ⟩;rw[if_neg γ,E9,Ab]
end
def vZ{C:FR}{S:Eo}{ca ga:Nat->Nat}(c:GQ C)(g:IX C S ca ga){l:Lt}{t:Tl}(he:(l,t)∈S.ended)(nl:∀x,t≠.Jw x) :
  ∃e,EK t=Ci e/\G_ C.ws (if l.m=1 then C.B else C.A) l.a (GK l)=(road l,e)/\ ⇑(road l)<=24:=by
 obtain⟨A9,AG,DS⟩:=vY g he nl;have Kf:l∈Cr S:=VY he;have ch:=g.ch l Kf;have wm:GK l∈Dz C.cs ⇑C.cs:=(List.mem_filter.mp (g.hd l Kf)).1;have ads:∀(i:Nat) d,(road l)[i]?=↥d->d∈Dz C.cs ⇑C.cs:=λi=>by
  induction i with
  |zero=>intro d e;rw[m2]at e;cases e;exact wm
  |succ i CC=>intro d e;have AA:=(List.getElem?_eq_some_iff.mp e).1;exact Wq c.N (ch i _ d (C3 δ) e)
 have Ib:⇑(road l)<=24:=Gm (aF _ _ DS λx AM=>by obtain⟨i,AA⟩:=SZ AM;exact ads i x AA) (Vf c.N)
 obtain⟨X,ZH⟩:∃X,X=(if l.m=1 then C.B else C.A):=ο;have B4:∀x:AN,ID C.ws (Mk C l.m x.1) x l.a=AP C.ws X l.a x:=λx=>by rw[ZH];rfl
 rw[<-ZH];rw[B4]at A9;have AG:∀y,AP C.ws X l.a l.d≠.at y:=λy=>by rw[<-B4];exact AG y
 have ch:∀(i:Nat) x y,(road l)[i]?=↥x->(road l)[i+1]?=↥y->AP C.ws X l.a x=.at y:=λi x y a b=>by rw[<-B4];exact ch i x y a b
 obtain⟨P,Lj⟩:∃P,road l=GK l::P:=by
  unfold road GK;cases l.pre with
  |nil=>exact⟨[],rfl⟩
  |cons x p=>exact⟨p++[l.d],rfl⟩
 have lst:(GK l::P).getLast?=↥l.d:=by rw[<-Lj];simp[road]
 rw[Lj]at DS Ib ch;have Ge:=m3 (f:=AP C.ws X l.a) P [] 25 (GK l) l.d DS lst ch AG (by simp at Ib;lia);rw[Lj];have abx:∀x,AP C.ws X l.a l.d≠.Jw x:=λx=>Zc _ _ _ _ _;cases q:AP C.ws X l.a l.d with
 |«at» y=>exact absurd q (AG y)
 |Jw x=>exact absurd q (abx x)
 |drop x=>rw[q]at Ge A9;exact⟨.Vy x,by rw[A9];rfl,Ge,Ib⟩
 |out x=>rw[q]at Ge A9;exact⟨.Pr x,by rw[A9];rfl,Ge,Ib⟩
def Zx:Ap:=(C8 (D8 (Ad (Aa 5 Wd (Z ψ (Z Ψ (Z (I 4) (Z (I 9) Cl))))))) (B1 (pu (.AL false))) C5)
def zR{ns:↑Int}(AI:⇑ns<=63):Ends (jx [.D1 (B3 ns)] []) λw _=>w=.AL true:=by
 obtain⟨ao,ce⟩:=Z7 ns 0;obtain⟨fJ,cf⟩:=Z7 ns 13;have ce:∀h,H9 [.D1 (B3 ns),.int 0] h=.ok (.int ao,h):=ce;have cf:∀h,H9 [.D1 (B3 ns),.int 13] h=.ok (.int fJ,h):=cf;obtain⟨Q,NZ,Tv⟩:=r9;obtain⟨cs,ws,a,b,CG,N,⟨Du,wk,wl⟩,_,qU,qV,B2⟩:=aaU ao [];have Vn:=N.Ez;have few:=N.few;obtain⟨Uu,bL⟩:∃Uu:Ay,Uu=[↥(.D1 (B3 ns)),none,none,none,none,none,none,none,none,none]:=ο;obtain⟨FY,RI⟩:∃FY:Ay,FY=[↥(.D1 (B3 ns)),↥(.tup [.ref a,.ref b]),none,none,none,none,none,none,none,none]:=ο;have t1:Am (Aa 1 UF (Z (Aa 2 H9 (Z π (Z η A2))) A2)) (AB 1) Uu []=.ok (.AP FY,CG):=by
  have v0:I 0 Uu []=.ok (.D1 (B3 ns),[]):=by rw[bL];rfl
  rw[DV,EH,AW,EH,AW,v0,J,AW,Ag,J,BH,J,J,J,if_pos (by rfl),ce,J,BH,J,J,if_pos (by rfl),B2,J,bL,RI];rfl
 obtain⟨H1,OD⟩:∃H1:A5,H1=CG++[⟨.lst,Bw cs⟩]:=ο;obtain⟨AH,OE⟩:∃AH:A5,AH=H1++[⟨.lst,ws.map CJ⟩]:=ο;have EI:⇑H1=⇑CG+1:=by rw[OD];simp
 have BN:⇑AH=⇑CG+2:=by rw[OE];simp[EI]
 have Dk:CG<+: H1:=by rw[OD];exact Eu _ _
 have Cm:H1<+: AH:=by rw[OE];exact Eu _ _
 have ahK:AH[⇑CG]?=↥⟨.lst,Bw cs⟩:=Ea Cm (by rw[OD,C9];rfl);have ahP:AH[⇑H1]?=↥⟨.lst,ws.map CJ⟩:=by rw[OE,C9];rfl
 have nm:=l6 N (h:=AH) (a:=⇑CG) (b:=⇑H1) ahK ahP;obtain⟨BP,NG⟩:∃BP:A5,BP=AH++[MS cs ws (⇑AH+1),HS ws]:=ο;rw[<-NG]at nm;have tJ:⇑BP=⇑AH+2:=by rw[NG];simp
 have KH:AH<+: BP:=by rw[NG];exact Eu _ _
 have Uq:FI BP ⇑AH cs ws:=by
  refine⟨⇑AH+1,?_,?_⟩
  .rw[NG,C9];rfl
  .rw[NG,Qs];rfl
 obtain⟨D6,Po⟩:∃D6:Ay,D6=[↥(.D1 (B3 ns)),↥(.tup [.ref a,.ref b]),↥(.ref ⇑AH),none,none,none,none,none,none,none]:=ο;have Cn:Am (KC "Net" 2 Oj (Z (BI FD (Z (A1 A7 τ η) A2)) (Z (BI FD (Z (A1 A7 τ ζ) A2)) A2))) (AB 2) FY CG=.ok (.AP D6,BP):=by
  have v1:∀H,I 1 FY H=.ok (.tup [.ref a,.ref b],H):=by rw[RI];intros;rfl
  have DI:FD [.ref a] CG=.ok (.ref ⇑CG,H1):=by rw[OD];exact SC (Gf _ qU) (by simp[Bw,Bi];lia)
  have Ct:FD [.ref b] H1=.ok (.ref ⇑H1,AH):=by rw[OE];exact SC (Gf _ (Ea Dk qV)) (by simp[Bi];lia)
  have Iw:Z (BI FD (Z (A1 A7 τ η) A2)) (Z (BI FD (Z (A1 A7 τ ζ) A2)) A2) FY CG=.ok ([.ref ⇑CG,.ref ⇑H1],AH):=by rw[AW,Fx,AW,AU,v1,J,Ag,J,GF,J,BH,J,J,DI,J,AW,Fx,AW,AU,v1,J,Ag,J,I9,J,BH,J,J,Ct,J,BH,J,J]
  have mk:=aC (c:="Net") (k:=2) (mf:=Oj) Iw rfl nm;rw[DV,mk,J,RI,Po];rfl
 obtain⟨A,HV,Ka⟩:=iV ns 1 Vn N.c;have fL:BP[a]?=↥⟨.lst,Bw cs⟩:=Ea (Dk.trans (Cm.trans KH)) qU;have Ka:=Ka BP a fL;obtain⟨DX,RS⟩:∃DX:A5,DX=BP++Gb ⇑BP A:=ο;rw[<-RS]at Ka;have Ov:BP<+: DX:=by rw[RS];exact Eu _ _
 have hQ:EE DX ⇑BP A:=by rw[RS];exact iS BP
 obtain⟨Ra,Vv⟩:∃Ra:Ay,Ra=[↥(.D1 (B3 ns)),↥(.tup [.ref a,.ref b]),↥(.ref ⇑AH),↥(.ref ⇑BP),none,none,none,none,none,none]:=ο;have t3:Am (Aa 3 NS (Z π (Z ζ (Z (A1 A7 τ η) A2)))) (AB 3) D6 BP=.ok (.AP Ra,DX):=by
  have v0:∀H,I 0 D6 H=.ok (.D1 (B3 ns),H):=by rw[Po];intros;rfl
  have v1:∀H,I 1 D6 H=.ok (.tup [.ref a,.ref b],H):=by rw[Po];intros;rfl
  have vP:NS [.D1 (B3 ns),.int 1,.ref a] BP=.ok (.ref ⇑BP,DX):=Ka;rw[DV,EH,AW,v0,J,AW,Ag,J,AW,AU,v1,J,Ag,J,GF,J,BH,J,J,J,J,if_pos (by rfl),vP,J,Po,Vv];rfl
 obtain⟨B,pn,Ch,HW,Rn,sR,Kb⟩:=aau ns Vn N.c (h:=DX) (n:=a) (po:=⇑BP) (Ea Ov fL) HV hQ;obtain⟨Mf,Tg⟩:∃Mf:Ay,Mf=[↥(.D1 (B3 ns)),↥(.tup [.ref a,.ref b]),↥(.ref ⇑AH),↥(.ref ⇑BP),↥(.ref pn),none,none,none,none,none]:=ο;have Ru:Am (Aa 3 We (Z π (Z Ψ (Z (A1 A7 τ η) A2)))) (AB 4) Ra DX=.ok (.AP Mf,Ch):=by
  have v0:∀H,I 0 Ra H=.ok (.D1 (B3 ns),H):=by rw[Vv];intros;rfl
  have v1:∀H,I 1 Ra H=.ok (.tup [.ref a,.ref b],H):=by rw[Vv];intros;rfl
  have E2:∀H,I 3 Ra H=.ok (.ref ⇑BP,H):=by rw[Vv];intros;rfl
  rw[DV,EH,AW,v0,J,AW,E2,J,AW,AU,v1,J,Ag,J,GF,J,BH,J,J,J,J,if_pos (by rfl),Kb,J,Vv,Tg];rfl
 obtain⟨T,U,F,W6,W7,W5,B9⟩:=acv (n:=⇑cs) (fJ%Q) Vn;have gt:=aex Vn W6 W7 W5;have B9:=B9 Ch;obtain⟨ps,iM⟩:∃ps,ps=T++U++[none]++F:=ο;have ac6:∀{p:Nat}{d:AN}{a:Nat},d∈Dz cs ⇑cs->¬Flt ws A B ps p d a:=λhd=>by rw[iM];exact acL N W6 W7 W5 hd
 rw[<-iM]at B9 gt;obtain⟨DC,RT⟩:∃DC:A5,DC=Ch++[⟨.lst,ps.map (Bx false)⟩]:=ο;rw[<-RT]at B9;have MT:Ch<+: DC:=by rw[RT];exact Eu _ _
 have ahk:DC[⇑Ch]?=↥⟨.lst,ps.map (Bx false)⟩:=by rw[RT,C9];rfl
 have d9:BP<+: DC:=Ov.trans (Rn.trans MT);have hA:=Uq.pre d9;have hR:=hQ.pre (Rn.trans MT);have hS:=sR.pre MT;have f5:=adW N HV HW gt hA hR hS ahk;obtain⟨Bo,QB⟩:∃Bo,Bo=Nc DC cs ws A B ps:=ο;have f5:SI [.ref ⇑DC,.ref ⇑AH,.ref ⇑BP,.ref pn,.ref ⇑Ch] (DC++[⟨.ins "Run" [],[]⟩])=.ok (.non,Bo):=by rw[QB];exact f5
 have ais:⇑Bo=⇑DC+8+⇑A+⇑B+3:=by rw[QB];exact ada DC
 have Ro:DC<+: Bo:=by rw[QB];exact Eu _ _
 obtain⟨σ,eσ⟩:∃ σ,σ =OJ ns a b ⇑AH ⇑BP pn ⇑DC:=ο;have QR:Am (KC "Run" 4 SI (Z ψ (Z Ψ (Z (I 4) (Z (Aa 2 Rg (Z (BD (B6 "Net" "many") ψ) (Z (A1 Bf (Aa 2 H9 (Z π (Z (pu (.int 13)) A2))) (A1 Gd (pu (.int 10)) (pu (.int 20)))) A2))) A2))))) (AB 5) Mf Ch=.ok (.AP (σ none none none none),Bo):=by
  have v0:∀H,I 0 Mf H=.ok (.D1 (B3 ns),H):=by rw[Tg];intros;rfl
  have v2:∀H,I 2 Mf H=.ok (.ref ⇑AH,H):=by rw[Tg];intros;rfl
  have E2:∀H,I 3 Mf H=.ok (.ref ⇑BP,H):=by rw[Tg];intros;rfl
  have v4:∀H,I 4 Mf H=.ok (.ref pn,H):=by rw[Tg];intros;rfl
  have Nn:B6 "Net" "many" (.ref ⇑AH) Ch=.ok (.int ⇑cs,Ch):=by obtain⟨f,g1,g2⟩:=(Uq.pre (Ov.trans Rn)).ex;exact EV g1 rfl
  have uQ:Aa 2 H9 (Z π (Z (pu (.int 13)) A2)) Mf Ch=.ok (.int fJ,Ch):=by rw[EH,AW,v0,J,AW,Ag,J,BH,J,J,J,if_pos (by rfl),cf]
  have Ed:Aa 2 Rg (Z (BD (B6 "Net" "many") ψ) (Z (A1 Bf (Aa 2 H9 (Z π (Z (pu (.int 13)) A2))) (A1 Gd (pu (.int 10)) (pu (.int 20)))) A2)) Mf Ch=.ok (.ref ⇑Ch,DC):=by rw[EH,AW,H2,v2,J,Nn,J,AW,AU,uQ,J,Tv,J,F5,if_pos NZ,J,BH,J,J,J,if_pos (by rfl),B9]
  have Iw:Z ψ (Z Ψ (Z (I 4) (Z (Aa 2 Rg (Z (BD (B6 "Net" "many") ψ) (Z (A1 Bf (Aa 2 H9 (Z π (Z (pu (.int 13)) A2))) (A1 Gd (pu (.int 10)) (pu (.int 20)))) A2))) A2))) Mf Ch=.ok ([.ref ⇑AH,.ref ⇑BP,.ref pn,.ref ⇑Ch],DC):=by rw[AW,v2,J,AW,E2,J,AW,v4,J,AW,Ed,J,BH,J,J,J,J]
  have mk:=aC (c:="Run") (k:=4) (mf:=SI) Iw rfl f5;rw[DV,mk,J,Tg,eσ];rfl
 obtain⟨l,H7,Hl⟩:=tp AI (h:=Bo) (ρ:= σ none none none none) (by rw[eσ];rfl);obtain⟨G,NH⟩:∃G:A5,G=Bo++[⟨.lst,B3 l⟩]:=ο;rw[<-NH]at Hl;have ait:⇑G=⇑Bo+1:=by rw[NH];simp
 have QU:G[⇑Bo]?=↥⟨.lst,B3 l⟩:=by rw[NH,C9];rfl
 have Rp:Bo<+: G:=by rw[NH];exact Eu _ _
 obtain⟨c,R⟩:=abC (h:=DC) (G:=G) (T:=⇑Bo+1) (ds:=[⇑DC]) (λn _ Ae=>by rw[mq Rp δ,QB]) (List.mem_singleton.mpr rfl) (λn Ae=>gC (List.mem_singleton.mp Ae)) δ δ N HV HW gt;obtain⟨M,bK⟩:∃M,M=⇑DC+8+⇑A+⇑B:=ο;rw[<-bK]at c R;have low:∀n,n< ⇑DC->(L8 G M [⇑DC])[n]?=DC[n]?:=yN δ (λd hd=>by rw[List.mem_singleton.mp hd];exact CB _) (λn Ae=>mq (Ro.trans Rp) Ae);obtain⟨C,Nk⟩:∃C,C=b7 ⇑DC cs ws A B ps (⇑Bo+1) (L8 G M [⇑DC]):=ο;rw[<-Nk]at c R;have Nl:C.K=L8 G M [⇑DC]:=by rw[Nk];rfl
 rw[<-Nl]at low;have aiE:C.M=M:=by rw[Nk,bK];rfl
 have aiF:C.T=⇑Bo+1:=by rw[Nk];rfl
 have gb:C.r=⇑DC:=by rw[Nk];rfl
 have Uy:C.cs=cs:=by rw[Nk];rfl
 have Sp:C.ws=ws:=by rw[Nk];rfl
 have hg:C.A=A:=by rw[Nk];rfl
 have hi:C.B=B:=by rw[Nk];rfl
 have t9:C.ps=ps:=by rw[Nk];rfl
 have lo:∀{n o},DC[n]?=↥o->C.K[n]?=↥o:=λ{n o} e=>(low n (HN e)).trans e;have ne:outD C≠[]:=by
  have l_:Du∈outD C:=by
   unfold outD;rw[Uy,Sp];refine List.mem_filter.mpr ⟨wk,?_⟩;cases q:EF ws Du with
   |none=>rfl
   |some x=>exact absurd (bn q).1 wl
  exact λz=>by rw[z]at l_;cases l_
 have Zv:C.K[a]?=↥⟨.lst,Bw C.cs⟩:=by rw[Uy];exact lo (Ea d9 fL)
 have MM:C.K[b]?=↥⟨.lst,C.ws.map CJ⟩:=by rw[Sp];exact lo (Ea d9 (Ea (Dk.trans (Cm.trans KH)) qV))
 have Zy:=Ends.HB (Th (mi:=CN (CI (A1 addW (Be (Z υ (Z (pu (.int 5)) (Z (pu (.int 9)) A2)))) (Hq π (pu none) (FM (pu (.int 63))))))) (it:=Fd (.ref ⇑Bo)) (g:=AB 6) (b:=Z9) (ρ:= σ none none none none) (h:=Bo) (h0:=G) (B3 l) (by simp[B3];lia) (λj ρ H=>(∃s,ρ= σ s none none none)/\∃S,G5 C H S/\S.CS<=2*j/\S.Cx<=2*j/\H[⇑Bo]?=↥⟨.lst,B3 l⟩) (T:=λCH H=>(∃s,CH=.AP (σ s none none none))/\∃S,G5 C H S/\S.CS<=200/\S.Cx<=200) (J0 QU Hl) (λj ρ H _ q=>by
  obtain⟨_,S,_,_,_,z⟩:=q;exact Kk z j) ⟨⟨_,rfl⟩,⟨[],0,[],[],0⟩,⟨R,_,_,IX.zero⟩,CB _,CB _,QU⟩ (by
  rintro j w _ H FJ ⟨⟨s,rfl⟩,S,P,F_,cm,U5⟩;have An:=(List.getElem?_eq_some_iff.mp FJ).1;have An:j< ⇑l:=by simpa[B3]using An
  have Ck:w=.int l[j]:=by unfold B3 at FJ;rw[Dl,C3 An]at FJ;cases FJ;rfl
  obtain⟨h',E4,Bg,gq,G8,E7,fr⟩:=tu (ns:=ns) (a:=a) (b:=b) (nt:=⇑AH) (po:=⇑BP) (pn:=pn) c P δ δ Zv MM ne l[j] none none none;rw[gb,<-eσ,<-Ck]at Bg;exact⟨σ ↥w none none none,H,by rw[eσ];rfl,_,_,Bg,⟨_,rfl⟩,E4,gq,δ,δ,by rw[fr _ δ δ];exact U5⟩) (by
  rintro _ H ⟨⟨s,rfl⟩,S,P,F_,cm,U5⟩;have:⇑(B3 l)=⇑l:=by simp[B3]
  rw[this]at F_ cm;exact⟨⟨_,rfl⟩,S,P,δ,δ⟩))
 obtain⟨_,M7,RG,⟨CQ,rfl⟩,tR,tP,ca,ma⟩:=Zy;have zw:=Ends.HB (Pq (mi:=Dj (Z (pu (.int 60)) A2)) (g:=AB 7) (b:=Tj) (ρ:= σ CQ none none none) (h:=M7) (h0:=M7) 0 60 ε (λj ρ H=>(∃D9 D5,ρ= σ CQ D9 D5 none)/\∃S,G5 C H S/\S.CS<=200+j/\S.Cx<=200+j) (T:=λCH H=>(∃D9 D5,CH=.AP (σ CQ D9 D5 none))/\∃S,G5 C H S/\S.CS<=300/\S.Cx<=300) (LD (n:=60) (by rw[AW,Ag,J,BH];rfl) ε) ⟨⟨_,_,rfl⟩,tR,tP,δ,δ⟩ (by
  rintro j _ H An ⟨⟨D9,D5,rfl⟩,S,P,F_,cm⟩;obtain⟨h',E4,m6,Bg,gq,G8,E7⟩:=ve (ns:=ns) (a:=a) (b:=b) (nt:=⇑AH) (po:=⇑BP) (pn:=pn) c P δ j CQ D5 none;rw[gb,<-eσ]at Bg;exact⟨σ CQ ↥(.int (j:Int)) D5 none,H,by rw[eσ];simp[OJ],_,_,Bg,⟨_,_,rfl⟩,E4,gq,δ,δ⟩) (by
  rintro _ H ⟨⟨D9,D5,rfl⟩,S,P,F_,cm⟩;exact⟨⟨_,_,rfl⟩,S,P,δ,δ⟩))
 obtain⟨_,Jk,RH,⟨D9,D5,rfl⟩,S,P,F_,cm⟩:=zw;obtain⟨aix,ajB,g⟩:=P.g;obtain⟨Iu,YE⟩:∃Iu,Iu=Jt Jk S.ended:=ο;have TK:=yx c P.R δ;rw[<-YE]at TK;have Us:G5 C Iu S:=by rw[YE];exact P.app _
 have qW:Iu[⇑Jk]?=↥⟨.lst,JT (⇑Jk+1) S.ended⟩:=by rw[YE];unfold Jt;rw[C9];rfl
 have aaZ:CO "Run" "journal" 0 SJ (I 5) A2 (σ CQ D9 D5 none) Jk=.ok (.ref ⇑Jk,Iu):=by refine Oq (h1:=Jk) ?_ P.R.B5 rfl TK;rw[eσ,gb];rfl
 have few:=P.R.few;have le:=P.R.le;have aaw:⇑(JT (⇑Jk+1) S.ended)=⇑S.ended:=dh _ _;have tN:FI C.K ⇑AH cs ws:=hA.to low;have sQ:EE C.K ⇑BP A:=hR.to low;have sT:EE C.K pn B:=hS.to low;have tM:FI Iu ⇑AH cs ws:=aaV Us.R.DH tN;have sP:EE Iu ⇑BP A:=Z6 Us.R.DH sQ;have sS:EE Iu pn B:=Z6 Us.R.DH sT;have ahm:Iu[a]?=↥⟨.lst,Bw cs⟩:=Us.R.DH _ _ (by rw[<-Uy];exact Zv) (λz=>by cases z);have aho:Iu[b]?=↥⟨.lst,ws.map CJ⟩:=Us.R.DH _ _ (by rw[<-Sp];exact MM) (λz=>by cases z);have dz:=Ends.HB (Th (mi:=CN (CO "Run" "journal" 0 SJ (I 5) A2)) (it:=Fd (.ref ⇑Jk)) (g:=AB 9) (b:=Zx) (ρ:= σ CQ D9 D5 none) (h:=Jk) (h0:=Iu) (JT (⇑Jk+1) S.ended) (by rw[aaw];lia) (λj ρ H=>(∃s,ρ= σ CQ D9 D5 s)/\Iu=H) (T:=λCH H=>(∃s,CH=.AP (σ CQ D9 D5 s))/\Iu=H) (J0 qW aaZ) (λj ρ H _ q=>by
  obtain⟨_,rfl⟩:=q;exact Kk qW j) ⟨⟨_,rfl⟩,rfl⟩ (by
  rintro j x _ _ FJ ⟨⟨s,rfl⟩,rfl⟩;have An:j< ⇑S.ended:=by have:=(List.getElem?_eq_some_iff.mp FJ).1;lia
  obtain⟨e,Gc⟩:∃e,e=S.ended[j]:=ο;have ex:=kk S.ended (⇑Jk+1) j e (by rw[Gc];exact C3 An);have he:e∈S.ended:=by rw[Gc];exact J9 An
  have ar:=yw (h:=Jk) j e (by rw[Gc];exact C3 An);rw[<-YE]at ar;rw[FJ]at ex;have ex:x=Ob (⇑Jk+1+j) e:=by injection ex
  obtain⟨t,u⟩:=e;have Kf:t∈Cr S:=VY he;have x0:=P.R.lt t Kf;have Cn:=x0.m;have aeo:=x0.a;have nl:∀y,u≠.Jw y:=λy z=>by obtain⟨p,_,d,hd,Gi,_,CH⟩:=g.CH _ he ⟨y,z⟩;rw[Sp,hg,hi,t9]at CH;have hd:=(List.mem_filter.mp hd).1;rw[Uy]at hd;exact ac6 hd CH
  obtain⟨B2,A9,AG,DS⟩:=vZ c g he nl;have cA:=g.hd t Kf;unfold outD at cA;rw[Sp,hg,hi]at AG;rw[Uy,Sp]at cA;have ar:Iu[⇑Jk+1+j]?=↥⟨.lst,(road t).map AJ⟩:=ar;have kt:=yP N HV HW tM sP sS ahm aho cA aeo (k:=t.n) (m:=t.m) (e:=B2) ar δ (by
   rcases(by lia:t.m=0\/t.m=1)with z|z
   .exact .inl ⟨z,by rw[z,if_neg ε]at AG;exact AG⟩
   .exact .inr ⟨z,by rw[z,if_pos rfl]at AG;exact AG⟩)
  have Ck:x=.tup [.int (t.n:Int),.int (t.m:Int),AJ (GK t),.int (t.a:Int),.ref (⇑Jk+1+j),Ci B2]:=by rw[ex,<-A9];rfl
  rw[<-Ck]at kt;have v1:∀H,I 1 (σ CQ D9 D5 ↥x) H=.ok (.tup [.ref a,.ref b],H):=by rw[eσ];intros;rfl
  have v2:∀H,I 2 (σ CQ D9 D5 ↥x) H=.ok (.ref ⇑AH,H):=by rw[eσ];intros;rfl
  have E2:∀H,I 3 (σ CQ D9 D5 ↥x) H=.ok (.ref ⇑BP,H):=by rw[eσ];intros;rfl
  have v4:∀H,I 4 (σ CQ D9 D5 ↥x) H=.ok (.ref pn,H):=by rw[eσ];intros;rfl
  have ae:∀H,I 9 (σ CQ D9 D5 ↥x) H=.ok (x,H):=by rw[eσ];intros;rfl
  have uG:Zx (σ CQ D9 D5 ↥x) Iu=.ok (.AP (σ CQ D9 D5 ↥x),Iu):=by unfold Zx;rw[DL,v_not,D_,EH,AW,v2,J,AW,E2,J,AW,v4,J,AW,ae,J,AW,v1,J,BH,J,J,J,J,J,J,if_pos (by rfl),kt,J,Db,J,J,if_neg γ,E9]
  exact⟨σ CQ D9 D5 ↥x,Iu,by rw[eσ];rfl,_,_,uG,⟨_,rfl⟩,rfl⟩) (by
  rintro _ _ ⟨⟨s,rfl⟩,rfl⟩;exact⟨⟨_,rfl⟩,rfl⟩))
 obtain⟨_,_,Vs,⟨s,rfl⟩,rfl⟩:=dz;have Bc:jx [.D1 (B3 ns)] []=(R6 Uu []).bind outF:=by rw[bL];rfl
 rw[Bc];have B4:R6=AT (Am (Aa 1 UF (Z (Aa 2 H9 (Z π (Z η A2))) A2)) (AB 1)) (AT _ (AT _ (AT _ (AT _ (AT (Em (CN (CI (A1 addW (Be (Z υ (Z (pu (.int 5)) (Z (pu (.int 9)) A2)))) (Hq π (pu none) (FM (pu (.int 63))))))) (AB 6) Z9) (AT (Em (Dj (Z (pu (.int 60)) A2)) (AB 7) Tj) (AT (Em (CN (CO "Run" "journal" 0 SJ (I 5) A2)) (AB 9) Zx) (B1 (pu (.AL true)))))))))):=rfl;rw[B4,Az,t1,J,B0,Az,Cn,J,B0,Az,t3,J,B0,Az,Ru,J,B0,Az,QR,J,B0,Az,KO,RG,J,B0,Az,KO,RH,J,B0,Az,KO,Vs,J,B0,EC,Ag,J,J];exact⟨_,_,rfl,rfl⟩
def ag1{P:CD}{w:Bq}{K:Ao}{mg:Str->Option A8}{f:A6}{GN D0 I_ pm cd D7:A8}{EB an:Option A6}{CP:Array (Option A8)}(T:Dt K mg)(a:J8 K FQ "law"=↥↥(.ref f))(l:K.lookup f=↥⟨GN,EB,.func (K3 "law" "law" (Lf Jd) (K_ Jd) (Bs Jd) .none D0 I_ pm an cd D7),CP⟩)(c:Mz K cd "law"=true)(k:K1 K (.ref f)=true) :
  (∃(f:A6)(GN:A8)(EB an:Option A6)(D0 I_ pm cd D7:A8)(CP:Array (Option A8)),J8 K FQ "law"=↥↥(.ref f)/\K.lookup f=↥⟨GN,EB,.func (K3 "law" "law" (Lf Jd) (K_ Jd) (Bs Jd) .none D0 I_ pm an cd D7),CP⟩/\Mz K cd "law"=true/\K1 K (.ref f)=true)/\∀base:BG,CF P w K mg base "law" Jd ["_law_script","_law_parts","_law_net_here","_law_old","_law_new","_law_run","_law_cell","_law_k","_law_some","_law_entry"] 11 R6:=
 ⟨⟨f,GN,EB,an,D0,I_,pm,cd,D7,CP,a,l,c,k⟩,λbase=>uF _ _ base T⟩
def aff{l:fw}{q:CD}{loose:↑Str}{L3:(Str->Option A8)->BG->Prop}{Mi:Bq->BG->Prop}{d:DefRec}{K:Params->Ao}(Ae:l.most=↥63)(Qv:d.params.defaults=[])(hd:d.name="law")(Qr:∀(w:Bq)(h:BG),Mi w h->(K w.params).In h)(T:∀(w:Bq)(mg:Str->Option A8)(h:BG),(K w.params).In h->h.Ns FQ mg->(∃(f:A6)(GN:A8)(EB an:Option A6)(D0 I_ pm cd D7:A8)(CP:Array (Option A8)),J8 (K w.params) FQ "law"=↥↥(.ref f)/\(K w.params).lookup f=↥⟨GN,EB,.func (K3 "law" "law" (Lf Jd) (K_ Jd) (Bs Jd) .none D0 I_ pm an cd D7),CP⟩/\Mz (K w.params) cd "law"=true/\K1 (K w.params) (.ref f)=true)/\∀base:BG,CF l.prog w (K w.params) mg base "law" Jd ["_law_script","_law_parts","_law_net_here","_law_old","_law_new","_law_run","_law_cell","_law_k","_law_some","_law_entry"] 11 R6) :
  gM q loose L3 Mi l.row.toRowW d [] (λf vs=>Xa f vs):=
 afe (st:=Jd) (x:="law") (k:=11) (m:=R6) Ae Qv ⟨rfl,ε,ε⟩ oE hd Qr T λns AI=>zR AI
end Ds
end
namespace PySem.W.Fast
def tw1988348826183270350:=0
def tw2501832071637156403:=0
def tw8618054402458665854:=0
def tw517380636084723318:=0
def tw6302430445039001166:=0
def tw9861801633313524662:=0
def tw7047079612154382041:=0
def tw18190012055921893416:=0
def tw8107675437049747228:=0
def tw3883405001169815851:=0
def tw9086269612574659484:=0
def tw2199061452595668235:=0
def tw13360694442840918461:=0
def tw11379815408478885447:=0
def tw5157405388102412175:=0
def tw9877386507328468946:=0
def tw218777718991140228:=0
def tw4511835828089467662:=0
def tw18249454268947931390:=0
def tw16806344527864480722:=0
def tw7840192981123997493:=0
def tw10074985947348427552:=0
def tw8212238538501196627:=0
def tw1796698173159251665:=0
def tw16702077810089485296:=0
def tw8044102356752324535:=0
def tw14733023792552453841:=0
def tw15329477356305063285:=0
def tw3161150283493101104:=0
def tw11201216289203945147:=0
def tw6460481903248483243:=0
def tw8260360682472661001:=0
def tw5895601751532896409:=0
def tw13982774447785940042:=0
def tw10173438764399451399:=0
def tw2888330830654261072:=0
def tw16317429584033645239:=0
def tw7165234844773445765:=0
def tw2556883476456131890:=0
def tw16493095102018251028:=0
def tw15077445904008452071:=0
def tw7604461390333398227:=0
def tw9073826015712787698:=0
def tw10207669133878867549:=0
def tw10148774487289962195:=0
def tw9094087808501631541:=0
def tw10843400518801683283:=0
def tw16431571617249417441:=0
def tw15708163917312904870:=0
def tw1616593335876185034:=0
def tw3912383116178376765:=0
def tw8955966629345592726:=0
def tw14223760094467470519:=0
def tw6922894844030040158:=0
def tw220321589215118358:=0
def tw15795659277307583126:=0
def tw4556942239615621849:=0
def tw9383832543863429022:=0
def tw1186043152569500557:=0
def tw16033386357264356133:=0
def tw12118702289465599151:=0
def tw11362213405784708193:=0
def tw9126028014625324828:=0
def tw2419459237793872017:=0
def tw14126455035887302010:=0
def tw12304473645835867878:=0
def tw15136951817994998285:=0
def tw4766190557210504468:=0
def tw3110390622074616623:=0
def tw17626941359660100702:=0
def tw3427971422754261002:=0
def tw11269805663201037235:=0
def tw125735212368808529:=0
def tw6899645136427875415:=0
def tw7152806025937848412:=0
def tw4005454325633380587:=0
def tw3072683963685125635:=0
def tw1627914644281631533:=0
def tw15645603461666783573:=0
def tw10783876690099586337:=0
def tw17399691882146411399:=0
def tw6915211929708571298:=0
def tw1116577663573076177:=0
def tw13678628296299514848:=0
def tw14461319806838933898:=0
def tw8968351050082976429:=0
def tw4657300450422058816:=0
def tw6558009812354972902:=0
def tw7355452020727200565:=0
def tw6609364947276823939:=0
def tw16109647734690715254:=0
def tw7952643745957989153:=0
def tw10635644302682633667:=0
def tw2098798104083575475:=0
def tw14954925852044010557:=0
def tw134406775356438649:=0
def tw5344577471084485943:=0
def tw18150381843108077742:=0
def tw1528951906830670834:=0
def tw16671035823479010407:=0
def tw11726838152126181461:=0
def tw883349931956067813:=0
def tw1343405489740913827:=0
def tw2540297199259918395:=0
def tw1636589016526687176:=0
def tw13079158792788976323:=0
def tw2744723334973343391:=0
def tw2156429860059191946:=0
def tw4275302206717971731:=0
def tw238168724419608612:=0
def tw12867987760433279143:=0
def tw10669519526668928567:=0
def tw13455280133813203230:=0
def tw15190404646752884005:=0
def tw1364764412035041900:=0
def tw12159492654218848909:=0
def tw17171517934283170253:=0
def tw15660834926501654031:=0
def tw18264230292758795087:=0
def tw3757504843213543775:=0
def tw9764202760614747078:=0
def tw12112537489391344393:=0
def tw14262603186039697680:=0
def tw12008224511764383759:=0
def tw6038434053498285802:=0
def tw15016221525370920647:=0
def tw14028079326289721992:=0
def tw10352662607176453040:=0
def tw8814642756835602157:=0
def tw11097166970060798542:=0
def tw11033836708434277918:=0
def tw9037686343578884546:=0
def tw15712624415853142068:=0
def tw5743367582437339184:=0
def tw5239910580919331644:=0
def tw15353758589863217172:=0
def tw3659620187788738720:=0
def tw11880250141524851610:=0
def tw14785356895259989229:=0
def tw2210823208949746491:=0
def tw9070288304862589808:=0
def tw10393965599590045364:=0
def tw12017286952993997743:=0
def tw17121688375114290549:=0
def tw9438765086510296865:=0
def tw3113698336942074604:=0
def tw9185398143228706949:=0
def tw12103337277808224760:=0
def tw2936786583689483725:=0
def tw10002348333360357719:=0
def tw2820808172216172392:=0
def tw16671746470412292990:=0
def tw12982752659517874525:=0
def tw5088285201305265126:=0
def tw13501452435155388958:=0
def tw8572544999995185687:=0
def tw1719178773401027051:=0
def tw1409413930608614609:=0
def tw5710251677047179928:=0
def tw5664654398262849009:=0
def tw11643303806021288547:=0
def tw533156632198461758:=0
def tw1135384571095316748:=0
def tw12787018207926166015:=0
def tw7497200174176205573:=0
def tw3602749938034407854:=0
def tw13289672223729171612:=0
def tw3572538201356123058:=0
def tw4073616261168905960:=0
def tw4241085214830396734:=0
def tw443300787391633663:=0
def tw13045154456364342675:=0
def tw16110926857543057124:=0
def tw11218758412125623989:=0
def tw17665506053474973798:=0
def tw10945100859881071986:=0
def tw16320738946012658585:=0
def tw11950655004475521456:=0
def tw9197855729252020024:=0
def tw7556544339903824768:=0
def tw14843591373869656520:=0
def tw15582363205533131793:=0
def tw9244838386442105499:=0
def tw14949993660494971032:=0
def tw11485749205004053695:=0
def tw14377626019594001381:=0
def tw3666629031233195393:=0
def tw15879866109835786847:=0
def tw13898331347001845238:=0
def tw4237341124517671239:=0
def tw8527084576177765374:=0
def tw10742175976623589158:=0
def tw11968779421553218401:=0
def tw11808452551825234936:=0
def tw10750485372614185945:=0
def tw13791562151963220634:=0
def tw9110209465303268926:=0
def tw2806129129427081731:=0
def tw14082921675490752155:=0
def tw15302854340442045578:=0
def tw9261016339017157869:=0
def tw685472636376427381:=0
def tw18021349243624618079:=0
def tw1105470047881091875:=0
def tw16332636705937742627:=0
def tw5642450949359848369:=0
def tw12403624452102648975:=0
def tw8723932301609760518:=0
def tw891621193415619142:=0
def tw9167409856046684838:=0
def tw310826741347241683:=0
def tw4182907198549573746:=0
def tw5643782364363803029:=0
def tw1245568576350061408:=0
def tw9648567618226169986:=0
def tw7318247066665734872:=0
def tw7029127890460487027:=0
def tw11283635362578380016:=0
def tw17606081403540840942:=0
def tw1564956812594837168:=0
def tw5165953889737795591:=0
def tw2426429413006249443:=0
def tw321970758676674375:=0
def tw6276212655982337588:=0
def tw10847486741313683511:=0
def tw1732448220232306070:=0
def tw14802029841181767304:=0
def tw10074985870286253086:=0
def tw10141148946020910293:=0
def tw15800280425869787846:=0
def tw16669842459169876382:=0
def tw4261601873875193268:=0
def tw5207416434557614842:=0
def tw17904326628061391378:=0
def tw1741157404067420748:=0
def tw5802374938759426188:=0
def tw2508471473235988431:=0
def tw6581825946203556996:=0
def tw2605037374875451815:=0
def tw17522207075427571435:=0
def tw11163068434272556735:=0
def tw736363550438018923:=0
def tw8120902428569546926:=0
def tw11754293022329222348:=0
def tw10370026500952244825:=0
def tw13776855332937235669:=0
def tw1607474472743432367:=0
def tw13560650114826690281:=0
def tw3128461942228997835:=0
def tw10773535421717662665:=0
def tw8758204991589125849:=0
def tw17092283030461204084:=0
def tw2226282451072923345:=0
def tw17229621387159376206:=0
def tw3608907342710111832:=0
def tw6177404889283302506:=0
def tw9426483265939531542:=0
def tw4326710984926613298:=0
def tw584223234410092462:=0
def tw2562466452790145058:=0
def tw14058713900592579994:=0
def tw2498869379930599233:=0
def tw5144813895519618659:=0
def tw16347166992011946851:=0
def tw17714743225751899518:=0
def tw15993614537700356938:=0
def tw10421487806520466846:=0
end PySem.W.Fast
open PySem PySem.W PyProof.Rows BN BJ Ds
set_option maxRecDepth 100000 in
set_option maxHeartbeats 0 in
theorem PySem.Challenge.cw_nohalfway_k64_whole_both_kept_holds : PySem.Challenge.rw_nohalfway_k64_whole_both_kept.Holds := by
 w_on;o_law;k_head;(case hw=>w_witness2)
 k_fill
 refine Ds.aff (l:=PySem.Challenge.rw_nohalfway_k64_whole_both_kept) rfl rfl rfl (λw h Y=>PySem.W.kIn_of Y) ?T
 case T=>
  intro w mg h IY G
  refine' Ds.ag1 ?T ?ya ?yl ?yc ?yk
  (case T=>constructor<;>first
    |(refine' BJ.w6 IY G ?a ?l ?c ?k;(case a=>k_is);(case l=>k_is);(case c=>k_is);(case k=>k_is))
    |(refine' BJ.aaa ?n ?g1 ?g2 ?g3 ?g4 ?a ?l ?c ?k ?i;(case n=>k_is);(case g1=>k_is);(case g2=>k_is);(case g3=>k_is);(case g4=>k_is);(case a=>k_is);(case l=>k_is);(case c=>k_is);(case k=>k_is);(case i=>k_is))
    |(refine' BJ.abI IY G ?n ?mk ?kc ?a ?l ?c ?k ?i;(case n=>k_is);(case mk=>k_is);(case kc=>k_is);(case a=>k_is);(case l=>k_is);(case c=>k_is);(case k=>k_is);(case i=>k_is))
    |(refine' BJ.tq ?n ?g1 ?g2 ?g3 ?g4 ?u;(case n=>k_is);(case g1=>k_is);(case g2=>k_is);(case g3=>k_is);(case g4=>k_is);(case u=>(repeat' first|exact λ_ h=>absurd h My|refine List.forall_mem_cons.2 ⟨?_,?_⟩|k_is)))
    |(refine' BJ.uj IY G ?n ?e;(case n=>k_is);(case e=>k_exc))
    |(refine' BJ.ts IY G ?z;(case z=>k_is))
    |(refine' PySem.W.mg_none_of IY G ?a;(case a=>k_is))
    |(refine' BJ.u2 IY G ?z ?y ?hz ?e;(case z=>k_is);(case y=>k_is);(case hz=>exact rh rfl);(case e=>rfl)))
  case ya|yl|yc|yk=>k_is
