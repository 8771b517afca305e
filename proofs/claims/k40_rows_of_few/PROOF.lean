import PyProof.Rows.All
import PyProof.DictRoadsH
import Wide.All
import OpenK.AllK
import Wide.FinOn
import Lean
import PyProof.EqAt
import PyProof.EqKinds
import PyProof.TupleCall
import PyProof.NeKinds
import KE.KIsAll
import PyProof.ExcArgsOwn
import PySem.SetOps
import PyProof.TupleKey
import PyProof.SetKind
import PyProof.IsRules
import PyProof.Rows.SetFrom
import PyProof.Rows.SortShellK
import PyProof.DictKinds
import PyProof.FactsAll.tuple_2
import PyProof.SetRoads
import PyProof.AutoListH
import PyProof.SumAny
import PyProof.DictItems
import PyProof.DictItemsLoops
import PyProof.DictWalks
import PyProof.CollectWalk
import PyProof.Rows.SortWalk
import PyProof.Rows.SortKeyStr
import KE.RegKIsAll
import KE.RegKTryMore
import PySem.Challenge.RW_nohalfway_k40_rows_of_few
set_option bootstrap.genMatcherCode false
set_option genSizeOf false
set_option compiler.extract_closed false
open PySem renaming wpAny_bind -> AF, wpAny_pure -> Ag, Value -> A4, Shared -> AM, starEach -> B9, Addr -> A6, wpAny -> AW, Program -> Ba, sizeLine -> CK, model -> Aq, Around -> Bt, wpAny_call_entry -> Gn, World -> BL, Expr -> AS, mainGlobals -> Ev, wpAny_newObj_type -> Ih, wpAny_callSpecial?_slot -> Lr, wpAny_holding -> Hb, backTo -> Cq, wpAny_truthy_bool -> KY, attributeBase -> Hz, behindInMarks -> IL, keywordEach -> Gp, Heap -> B2, mem_of_lookup -> Mx, foldedSetIterable -> M1, compareOp -> GG, eval -> BH, sysModules -> H_, wpAny_mono -> Ha, sizeLine_eq -> Ii, wpAny_field -> Ij, FuncData -> G3, wpAny_isInstance -> Nr, cellsFrom -> HZ, Stmt -> BZ, Keyword -> FS, wpAny_seqItems -> Mu, bootBuiltins -> LM, wpAny_typeNameOfWhole_itemiter -> XQ, wpAny_rule -> JI, backToKw -> Gr, cLine -> DH, wpAny_typeNameOfWhole_keyiter -> XS, wpAny_setField -> O0, wpAny_dictEntries -> Qh, strIterType -> LP, codeAny_builtin -> P7, wpAny_setField_rec -> SU, wpAny_attempt -> Nw, firstArgMember -> P9, Scope -> Dn, Builtin -> Gq, wpAny_specialOf -> Qf, assignEach -> LL, wpAny_passesOwn -> Qa, wpAny_typeNameOf_keyiter -> XK, SetTable -> Ik, wpAny_Call_Name_kw -> Uh, wpAny_notOrdered_dict -> Xf, wpAny_dictEpoch -> Se, builtinLookup_eq_fast -> XX, wpAny_pyIter_slot -> Ua, swapsWith -> M6, DictEntry -> M7, IsPair -> Gd, wpAny_fieldsOf -> SZ, NameKind -> K_, pyNext -> Gs, holding -> JK, plainId_quiet -> SY, wpAny_isOneOf_itemiter -> fm, entryOfKey -> PB, sliceBounds -> Ql, wpAny_setState_of -> Xw, binaryOp -> M9, isSubtype_tuple_tuple -> g6, rawInt -> I1, codeAny_mono -> Sf, wpAny_typeOf -> Sh, wpAny_eqBool_str -> Xx, wpAny_forIn_list -> Xy, wpAny_updateSeq_pair -> fx, typeIs_str -> Qn, wpAny_execs_nil -> Xm, letOwnedTupleGo -> Xn, getMethod -> PH, typeLookup_type -> Xs, wpAny_updateSeq -> Xh, wpAny_setEntries_of -> ft, wpAny_tupleItemsOf -> fu, intKind -> MA, codeAny -> MB, relabel -> MC, isSubtype_stop -> YA, isSubtype_type -> YB, wpAny_pyIter_list -> gM, call_meets -> Sm, wpAny_Call_method -> gO, standAt -> N2, wpAny_of_eq -> Uq, wpAny_handled -> Y4, wpAny_onRaise -> Y5, wpAny_newList -> Y6, wpAny_eqBool_int -> gF, assign -> Ka, wpAny_askSetting -> gH, call_meetsIn -> Y0, seqIndex? -> Sk, IsTupleKey -> Ut, callWith -> Qq, typeIs_int -> Uu, carriedByValue -> ga, newFunctionEnv -> gd, wpAny_newTuple -> gf, wpAny_runValue -> gi, storedH -> PJ, subscripted -> YG, notedBy -> PK, wpAny_throw -> YI, IsZip -> Im, wpAny_letGo -> YJ, KeyKind -> gT, GenState -> Sn, bindArgs -> So, valueAt -> Qo, callerA -> Qp, Within -> gR, atKey -> Kb, CmpOp -> Kc
open PySem.W renaming Frag -> AZ, findIn -> Ju, keepIn -> KV, fnOf -> JH, emptyDict -> Nu, kia_one -> Mw, nsIn -> LO, instObj -> PA, codeIn -> P8, mg_of -> PD, plainGet -> Sa, hasDictIn -> UY, plainOver -> XW, methodCall_KW -> g7, excIn -> Uk, hideAll -> Xl, plainGet_of -> fz, isFn -> Uj, callWith_K -> fw, lookIn -> Y9, methodObj -> gL, cellsFrom_some -> rz, takerIn -> gB, makesIn -> gC, OpenLaw -> gD, hideAll_get -> sN, of_hideAll -> sP, kitx_tuple -> sQ, kitx_list -> sK, kitx_dict -> sL
open PySem.Str renaming ofString -> Be, ofString -> Ek
open PySem.Heap renaming get?_push_of_some -> Cp, get?_push_size -> EB, lt_size -> Cr, get?_update_self -> KU, SameBut -> I0, size_push -> KW, get?_update_other -> SN, ExtBut -> YH
open List renaming getElem?_eq_getElem -> DV, getElem?_map -> Dm, size_toArray -> Dx, mem_cons_of_mem -> FG, mem_append_right -> Fb, map_cons -> Dc, getD_eq_getElem?_getD -> HI, mem_append_left -> G2, length_map -> Ea, range -> DK, mem_of_getElem? -> HY, replicate -> GF, length_cons -> HL, getElem?_append_left -> Ms, getElem?_cons_zero -> Ls, map_append -> Hx, getElem?_append_right -> Nq, getElem?_cons_succ -> Mt, length_append -> KX, mem_cons_self -> LJ, map_map -> Hd, find?_cons -> Jt, zip_cons_cons -> M0, getElem?_replicate -> P6, getElem_of_mem -> Mz, not_mem_nil -> Lw, getElem_mem -> Lx, append_nil -> Ly, length_nil -> Lz, all_eq_true -> Mv, replicate_succ -> QX, getElem?_range -> QY, mem_cons -> Lv, length_replicate -> SV, getElem?_set_ne -> SW, any_cons -> N0, flatten_cons -> Qi, append_assoc -> Qj, mergeSort_perm -> SR, take_of_length_le -> UT, length_eraseIdx_of_lt -> XP, zipIdx_cons -> Qe, length -> M4, forIn_cons -> Qb, ext_getElem? -> SP, eraseIdx_eq_take_drop_succ -> fk, any_map -> O1, filterMap_cons -> Ug, pairwise_mergeSort -> Xa, length_take -> Sb, any_eq_true -> Sd, getElem?_set_self -> Xb, length_pos_of_mem -> Xe, mem_singleton -> Ui, length_singleton -> Xg, map_nil -> PE, all_map -> PF, getElem?_eq_none -> XY, all_cons -> Qm, take_add_one -> Ub, drop_eq_getElem_cons -> fo, lookup_cons -> Ud, zipIdx_nil -> Uf, mem_append -> UX, lookup -> Qk, mapM_toArray -> Xu, nodup_nil -> Um, forIn_nil -> Un, mem_map -> Si, cons_append -> Xi, eq_nil_of_length_eq_zero -> rj, take_append_of_le_length -> rk, take_length -> Xk, mem_iff_getElem -> fy, map_take -> Ul, of_mem_zip -> Xo, nil_append -> Xp, map_congr_left -> g0, exists_cons_of_ne_nil -> rg, lookup_append -> gJ, getElem?_zip_eq_some -> sC, mem_of_find?_eq_some -> sD, getElem?_set -> gQ, zip_nil_left -> gE, eraseIdx_cons_succ -> ry, drop_eq_nil_of_le -> s7, getElem?_toArray -> sB, length_filter_le -> sT, getElem?_zipIdx -> sU, mem_of_mem_take -> sW, range' -> YM, map -> Uw
open Nat renaming le_refl -> CS, lt_of_lt_of_le -> HK, ne_of_lt -> Eb, le_trans -> Fp, lt_irrefl -> Hc, zero_le -> Hy, lt_trans -> LN, ne_of_gt -> M5, add_assoc -> Nv, le_of_ble_eq_true -> UV, le_succ -> M3, le_of_lt -> Nx, le_add_right -> Sc, lt_succ_of_lt -> U_, lt_succ_self -> Uc, zero_add -> YN, min_eq_left -> g_, le_of_eq -> gS
open Option.some renaming inj -> E_, injEq -> sM
open Bool renaming false_ne_true -> Fq, and_eq_true -> FR, false_eq_true -> HJ, eq_iff_iff -> Nz, not_true -> PC, and_true -> S_, not_eq_true' -> gP, false_or -> Y2, true_and -> Y3, not_false -> gb, and_false -> gc
open PySem.Value renaming ref -> DF, none -> FF, type -> JJ, int -> Jv, bool -> Sl, isInt -> gk, str -> YP
open Array renaming getElem?_eq_getElem -> Js, length_toList -> SX, getD_eq_getD_getElem? -> XU, getElem?_toList -> UU, getElem?_eq_none -> Xd, forIn_toList -> fv, getElem_toList -> sV, ext' -> YE
open List.Nodup renaming length_le_of_subset -> Lu
open PySem.Heap.SameBut renaming update -> IK, refl -> sJ
open PyProof.Rows renaming arrOf -> Bm, callWith_type1 -> QZ, envOfC -> My, wpS_bind -> El, SortedToK -> GH, wpS_pure -> Gc, seqObj -> Ew, SortKind -> Il, SortSt -> G4, listItems_at -> PG, IsTup -> XV, pairsOf_toList -> Uo, pendingOf -> O2, wpS_forRange -> Sg, kindOf -> JL, pairsOf_size -> Ur, AllBare -> N1, KK_mirror_equal -> gX, entry_list_sort -> gY, mem_zip_self -> YO, keyKind' -> Qr, slot_list_sort -> gg, args_list_sort -> gh, mirror_perm -> YK, wpS_reverse -> YL, tuples' -> PL, Call_ -> sR, failedOf -> Sp, Keyed -> Jw, envOfC -> O5
open Or renaming inr -> Cn, inl -> Dk
open PySem.Builtin.SmallTypes renaming nextOf -> P5, ownedTupleIsFree -> XI, ownedTupleHandOut -> ra
open Int renaming toNat_natCast -> LK, natCast_add -> Qd, emod_lt_of_pos -> gK, ofNat -> Sq, emod_nonneg -> gZ
open PySem.Builtin.Tuple renaming tupleHashOf -> Q_
open PySem.NameKind renaming free -> JG
open PySem.Obj renaming mapSeq -> Go, data_mapFields -> Nt, isFreed_of_fields -> UW, cls_mapFields -> X_, mapFields -> Y7
open PySem.Builtin.Dict_items renaming ownsTuple -> US, pairFromOwner -> r_
open PySem.F renaming plainAttrs_list -> SO, slot_dict_itemiterator_next -> XR, slot_dict_keyiterator_next -> XT, slot_tuple_iterator_next -> XO, plainAttrs_dict -> fs, args_dict_itemiterator_next_1 -> ro, plain_list_iadd -> Xv, slot_dict_get -> g8, entry_dict_itemiterator_next -> rp, args_dict_keyiterator_next_1 -> rq, slot_dict_itemiterator_iter -> rh, entry_dict_keyiterator_next -> ri, args_tuple_iterator_next_1 -> rl, entry_tuple_iterator_next -> rn, slot_zip_next -> Xq, slot_list_append -> sE, type_list_append -> sF, slot_list_extend -> sH, type_list_extend -> rt, args_dict_get_2 -> ru, slot_list_index -> rv, entry_dict_get -> s6
open PySem.Around renaming under_plainId -> QW, in1_units -> gI, under -> gW
open ForInStep renaming yield -> Ny
open PySem.Builtin.List renaming listExtendWith -> XN, listTooLong -> XJ, listSameRef -> XM, listLengthHint -> rd, listItems -> rr
open False renaming elim -> KZ
open PySem.Calls renaming spliced_cons -> SS, callWith_builtin -> Xc, spliced_nil -> UZ, evalArgs_plain -> XZ, call_function_entry -> fp, Name_function_global -> rf
open List.cons renaming injEq -> Qg
open PyProof.Rows.KeyOrd renaming kle_refl -> Qc, kle_of_klt -> Xt, kle_trans -> Xj, kle_antisymm -> sO
open Function renaming comp_def -> SQ, comp -> Y8
open True renaming intro -> M8
open Ne renaming symm -> He
open Option renaming bind_some -> Ue, getD_some -> Xz, map_some -> Xr, isSome_some -> g5, isSome_map -> gN, getD_none -> gG
open PySem.Builtin.Range renaming rangeSize -> fq
open PyProof.Rows.F renaming plain_set_update_loop -> fl, entry_set_update_loop -> rx
open PySem.SetTable renaming below -> Up
open Classical renaming choose_spec -> g9, choose -> sX
open PySem.Builtin.Dict renaming showsAll -> gA
open PySem.Builtin.Str renaming strSliceIndices -> rm
open List.Perm renaming refl -> YC, eq_of_pairwise -> sG, append_left -> sS, trans -> sZ
open Prod renaming ext -> PI
open PySem.SeqAt renaming ne_of_list_tuple -> sA, RcNeAt -> Y1, EqAt -> Uv, RcAt -> YD
open Sum renaming inl -> O3, inr -> O4
open PySem.Data renaming cell -> Sj, fields -> YF
open Prod.mk renaming injEq -> gU
open PySem.Txt renaming slice -> Us
open PySem.Shared renaming TypeIs -> gV
open List.Pairwise renaming nil -> sI
open PySem.Code renaming isFrame -> gj
open Array.Perm renaming refl -> sY
open PySem.PassesOwn renaming never -> s_
set_option Elab.async false
set_option linter.all false
set_option maxRecDepth 100000
noncomputable section
set_option hygiene false in
local macro_rules| `(tactic|ac_rfl)=> `(tactic|repeat' first
 |refine ajE _ ?_
 |exact ajM _
 |refine aii ?_
 |refine ajN ?_
 |refine ah3 ?_
 |refine aif ?_ ?_
 |refine aid ?_
 |refine aht ?_
 |refine ahy ?_
 |exact aj4
 |refine aj5 _ _ _ (CT.CW ‹_›) (by rfl) ?_ ?_ ?_ (λ_ _ _ _ _ _ _=>?_)
 |refine ai1 _ ?_
 |refine ah4 ?_
 |refine aj6 _ _ _ (CT.CW ‹_›) (by rfl) ?_ ?_ ?_ (λ_ _ _ _ _ _ _=>?_)
 |refine agW ?_
 |refine ahr ?_
 |refine ahs ?_
 |exact ahk _
 |refine agv ?_ ?_
 |exact agw
 |exact ai7
 |refine aj7 ?_ ?_
 |refine ajH ?_
 |refine ai9 ?_ ?_ Cd
 |refine ah5 ?_
 |refine agX ‹_› (CM.mono ‹_› ε) ?_
 |refine ajF ?_ ?_ ?_
 |exact ajG
 |refine aiF ?_ ?_
 |refine ahW ?_
 |refine aiA (Dh.sa ‹_›) ?_
 |refine agz ?_ ?_
 |exact aac _ (CT.CW ‹_›)
 |refine ahi ?_
 |refine age ?_ ?_
 |exact ahe
 |refine air ?_
 |refine ahz ‹_› (CM.mono ‹_› ε) ?_
 |refine aiT (Dh.cG ‹_›) ?_
 |exact sb _ (hN:=of_decide_eq_true ( by kernel_rfl ))
 |refine ail (CM.units ‹_›) ?_ ?_
 |exact uJ
 |refine ai2 _ _ (by rfl) ?_ ?_ ?_ (λ_ _ _ _ _ _ _=>?_)
 |refine ajD s_ ?_ ?_ ?_
 |exact aiK
 |exact ah2
 |refine aa_ ?_ ?_
 |refine aiq (CM.units ‹_›) ?_ ?_
 |refine aj0 ?_
 |refine qd (Dh.Wi ‹_›) ?_
 |refine aha ?_
 |refine aiR ?_ ?_
 |refine qd (Dh.lV ‹_›) ?_
 |refine aj2 _ ?_
 |refine ahd ?_ ?_ ?_
 |refine ah1 ?_ ?_
 |refine ah0 ‹_› (Dh.tE ‹_›) ?_
 |refine aiD ‹_› (CM.mono ‹_› ε) ?_ ?_
 |refine ai0 ?_ ?_
 |exact aad
 |refine ab5 rfl ?_
 |refine aiG ?_ ?_
 |refine ahg ?_ ?_
 |refine aio ?_ ?_
 |refine ahu ?_ ?_
 |refine ai4 ?_ ?_ ?_
 |refine ai5 (CM.units ‹_›) ?_ ?_
 |refine aiP ?_ ?_
 |refine aih s_ ?_ ?_
 |refine aiw ?_ ?_
 |refine XG (afq _) (Dh.Vm ‹_›) (Dh.h6 ‹_›) η ?_
 |refine ahv (Dh.lV ‹_›) ?_
 |exact ah_
 |refine ajB (Dh.Wi ‹_›) ?_
 |refine aiO _ ?_
 |refine agx (λ_ _ _ _ _ _ _=>?_)
 |refine agb (CM.units ‹_›) ?_ ?_ (by intro _ _;rfl)
 |refine ais (CM.units ‹_›) ?_ ?_
 |refine ajO _ (CM.units ‹_›) ?_ ?_
 |refine ahl _ ‹_› (CM.mono ‹_› ε) ?_
 |refine agY ‹_› (CM.mono ‹_› ε) ?_
 |refine aim ?_ ?_
 |refine ahV (Dh.h6 ‹_›) (Dh.cG ‹_›) ?_
 |refine ahU (Dh.h6 ‹_›) ?_
 |refine XG (afs _) (Dh.Vm ‹_›) (Dh.iW ‹_›) η ?_
 |refine agd (CM.units ‹_›) ?_ ?_
 |exact aib _ (CT.CW ‹_›)
 |refine aij (CM.units ‹_›) ?_ ?_
 |refine aj8 _ (CM.units ‹_›) ?_ ?_
 |refine ahw ?_
 |refine ahj (Dh.iW ‹_›) ?_
 |refine ahq ?_
 |refine aiI ?_
 |refine ajL ?_
 |refine ai3 _ (Dh.Wi ‹_›) (CM.units ‹_›) ?_ ?_
 |exact U8 (Dh.RJ ‹_›)
 |exact sd _ _ (hN:=of_decide_eq_true ( by kernel_rfl ))
 |refine aiy (Dh.tG ‹_›) ?_
 |refine ajA ?_
 |exact ajC (Dh.Wi ‹_›)
 |refine aip ?_ ?_
 |refine ajI _ ?_ ?_
 |refine aj3 _ ?_
 |refine XG (afp _) (Dh.Vm ‹_›) (Dh.iS ‹_›) η ?_
 |refine XG (afo _) (Dh.Vm ‹_›) (Dh.tF ‹_›) η ?_
 |refine aiL ?_
 |refine ag_ W1 W1 WZ WZ ?_ ?_ ?_
 |exact U8 (Dh.Vr ‹_›)
 |refine qf W1 W1 WZ WZ ?_ ?_ ?_
 |exact U8 (Dh.Vq ‹_›)
 |refine aiH (CM.units ‹_›) ?_ ?_
 |refine aiW ?_
 |refine ahx ?_
 |refine ait ?_ ?_
 |refine aiz ?_
 |exact ahp (Dh.ZY ‹_›)
 |refine aiQ ?_ ?_
 |refine aiU (Dh.cG ‹_›) ?_
 |refine aik (CM.units ‹_›) ?_ ?_
 |refine XG (afr _) (Dh.Vm ‹_›) (Dh.iV ‹_›) η ?_
 |refine aiV ?_
 |exact U8 (Dh.Tk ‹_›)
 |exact U8 (Dh.Vp ‹_›)
 |refine aiX (Dh.sf ‹_›) ?_
 |refine ahf (Dh.iV ‹_›) ?_
 |refine aga (CM.units ‹_›) ?_ ?_
 |refine agy _ (Dh.Wi ‹_›) (CM.units ‹_›) ?_ (by intro _ _;rfl)
 |refine ahm _ ?_
 |refine ain (CM.units ‹_›) ?_ ?_
 |refine aiC ‹_› (CM.mono ‹_› ε) ?_
 |refine aiE ‹_› (CM.mono ‹_› ε) ?_
 |refine ahY (CM.hd ‹_›) (Dh.cI ‹_›) ?_
 |refine ahZ (CM.hd ‹_›) (CM.units ‹_›) (Dh.cI ‹_›) (Dh.se ‹_›) ?_
 |refine ahX (Dh.cI ‹_›) ?_
 |refine ai8 ?_ ?_
 |refine aiN ?_ ?_
 |exact U8 (Dh.Vs ‹_›)
 |refine qf W1 mS WZ abn ?_ ?_ ?_
 |exact fL (Dh.agt ‹_›)
 |refine agc (CM.units ‹_›) ?_ ?_
 |refine ai6 (CM.units ‹_›) ?_ ?_
 |refine agZ ‹_› (CM.mono ‹_› ε) ?_
 |exact fL (Dh.agu ‹_›)
 |exact fL (Dh.ags ‹_›)
 |refine ahh (Dh.iS ‹_›) ?_
 |refine aiB ‹_› (CM.mono ‹_› ε) ?_
 |refine ajJ ?_
 |refine ajK ?_
 |refine aiu ?_
 |refine aiv ?_
 |refine aiM ?_
 |refine aiS ?_
 |refine aix ?_
 |refine aia _ (CT.CW ‹_›) ?_
 |refine aie _ (CT.CW ‹_›) ?_
 |refine aic _ (CT.CW ‹_›) ?_
 |refine aj9 ?_)
set_option hygiene false in
local macro_rules|`(γ)=>`(by simp)|`(δ)=>`(by lia)|`(ε)=>`(by decide)|`(ζ)=>`(by simp only[At])|`(η)=>`(by kernel_rfl)|`(θ)=>`(by simp;lia)|`(ν)=>`(1000000000000000000000000000000000000000000000000000000000000)|`(ξ)=>`(A4->AM->Prop)|`(ο)=>`(AM->Prop)|`(τ)=>`(List (AR×AR))|`(υ)=>`(List (A6×Obj))|`(φ)=>`(List Nat)|`(χ)=>`(List D)|`(Γ)=>`((AD (.int 1)))|`(Δ)=>`((AD (.int 0)))|`(ι)=>`((x==("__debug__" :Str))=false)|`(μ)=>`((x==("__classdict__" :Str))=false)|`(π)=>`(Inv X pins σ H s)|`(ς)=>`(X.N[i]?=some x)|`(ψ)=>`((Aq prog w))|`(ω)=>`((Aq X.prog X.w))|`(Θ)=>`(.A1 (.CO (ns.map D.int)))|`(Ξ)=>`(.A1 (.lst (C6 cs)))|`(Φ)=>`(.A1 (.lst (ws.map DA)))|`(dl)=>`(s.heap.get? b=some o)|`(i8)=>`({ s with heap:=h' })|`(BT)=>`({ s with heap:=h',toks:=BU })|`(Cl)=>`(B9 (e::A2) X.env=(false,BH e X.env)::B9 A2 X.env)|`(Fr)=>`(B9 [e] X.env=(false,BH e X.env)::B9 [] X.env)
set_option hygiene false in
local macro_rules|`(($e :))=>`(by simpa using $e)
set_option hygiene false in
local macro_rules|`(tactic|erw [$[$a:term],*])=>`(tactic|simp only [$[$a:term],*])|`(tactic|erw [$[$a:term],*]$l:location)=>`(tactic|simp only [$[$a:term],*]$l:location)
set_option hygiene false in
local macro_rules|`(tactic|simp! [$a,*])=> `(tactic|simp(disch:=first|lia|(simp;done)|(simp;lia)) [$a,*])
set_option hygiene false in
local macro_rules|`(tactic|rw?)=>`(tactic|first|exact Dk rfl|exact Cn (Dk rfl)|exact Cn (Cn rfl))
set_option hygiene false in
local macro_rules|`(tactic|delta $x:ident $y:ident)=>`(tactic|(rintro σ H Q ⟨G,ρ,$y,h⟩;unfold $x at h;refine⟨G,ρ,$y,?_⟩))
set_option hygiene false in
local macro_rules|`(tactic|exists $a)=>`(tactic|have:=$a P w base T)|`(tactic|exists $f,$k,$m,$a,$b)=>`(tactic|(have h:=$f (P:=P) (w:=w) (mg:=mg) (base:=base) (k:=$k) (m:=$m) $a $b;refine h ?_))
set_option hygiene false in
local macro_rules|`(tactic|delta $x:ident)=>`(tactic|(rintro CP σ H ⟨G,ρ,r,h⟩;unfold $x at h))
namespace LE
open PySem
section
variable{prog:Ba}{w:BL}{K:Type}[DecidableEq K]{knd:HeapKind prog w K}{A:Bt}{E:ξ}{s:AM}
noncomputable def IR(knd:HeapKind prog w K)(h:B2)(d:A6)(xs:List (K×A6×A4)):Prop:=
 ∃o A2 Ak,h.get? d=some o/\o.ExactDict/\o.data=.dict A2 Ak/\A2.toList=xs.map (PB knd)/\(∀x∈xs,knd.is h x.1 x.2.1)/\(xs.map (·.1)).Nodup/\Ak=A2.size
def IR.of{h:B2}{d:A6}{xs:List (K×A6×A4)}(x:IR knd h d xs):h.DictOfH knd d xs:=by obtain⟨o,A2,Ak,A5,A8,Au,BC,EL,Cu,_⟩:=x;exact⟨o,A2,Ak,A5,A8,Au,BC,EL,Cu⟩
def IR.new{d a:A6}{xs:List (K×A6×A4)}{k:K}{v:A4}{h:B2}(x:IR knd h d xs)(AG:knd.is h k a)(S7:∀(j:Nat)(p:A6×A4),xs[j]?≠some (k,p)) :
  IR knd (h.update d (Obj.mapDictKeys λx=>x.push { hash:=knd.hash k,key:=.ref a,val:=v })) d (PJ xs k a v):=by
 obtain⟨o,A2,Ak,AN,AO,hd,he,S6,AQ,Ao⟩:=x;rw[storedH_new (atKey_none_of_get S7)];have AK:=IK h d (Obj.mapDictKeys λx=>x.push { hash:=knd.hash k,key:=.ref a,val:=v });refine⟨_,_,Ak+1,KU _ AN (Obj.isFreed_of_dict (Obj.data_mapDictKeys hd _)),Obj.ExactDict.mapDictKeys AO _,Obj.data_mapDictKeys hd _,by simp[he,PB],λx AJ=>?_,?_,by simp[Ao]⟩
 .rcases List.mem_append.mp AJ with AJ|AJ
  .exact knd.keeps (S6 x AJ) AN hd AK
  .obtain rfl:x=(k,a,v):=by simpa using AJ
   exact knd.keeps AG AN hd AK
 .rw[Hx,List.nodup_append];refine⟨AQ,γ,λx AJ y BO e=>?_⟩;obtain rfl:y=k:=by simpa using BO
  exact not_mem_keys_of_get S7 (e▸AJ)
def IR.old{d a:A6}{xs:List (K×A6×A4)}{k:K}{v:A4}{h:B2}{j:Nat}{p:A6×A4}(x:IR knd h d xs)(Bs:xs[j]?=some (k,p)) :
  IR knd (h.update d (Obj.mapDict λx=>x.modify j λe=>{ hash:=e.hash,key:=e.key,val:=v })) d (PJ xs k a v):=by
 obtain⟨o,A2,Ak,AN,AO,hd,he,S6,AQ,Ao⟩:=x;rw[storedH_old (atKey_of_get AQ Bs)];have AK:=IK h d (Obj.mapDict λx=>x.modify j λe=>{ hash:=e.hash,key:=e.key,val:=v });refine⟨_,_,Ak,KU _ AN (Obj.isFreed_of_dict (Obj.data_mapDict hd _)),Obj.ExactDict.mapDict AO _,Obj.data_mapDict hd _,?_,λx AJ=>?_,by rw[keys_map_putAt];exact AQ,by simp[Ao]⟩
 .have:=modify_map_putAt (PB knd) (λe=>{ hash:=e.hash,key:=e.key,val:=v }) k v (λx y=>rfl) AQ Bs;rw[<-he]at this;rw[<-this];cases A2;simp
 .obtain⟨y,BO,rfl⟩:=List.mem_map.mp AJ;have:=knd.keeps (S6 y BO) AN hd AK;unfold putAt
  split<;>exact this
def vU{d a:A6}{k:K}{xs:List (K×A6×A4)}{v:A4}{Q:Unit->ο}(BD:knd.room A)(Ja:knd.is s.heap k a)(hm:IR knd s.heap d xs)(CI:∀h',IR knd h' d (PJ xs k a v)->I0 d s.heap h'->Q () { s with heap:=h',toks:=s.toks+knd.draws k })(hsz:xs.length<=CK) :
  AW ψ A (dictSet d (.ref a) v) Q E s:=by
 obtain⟨o,A2,Ak,AN,AO,hd,he,S6,AQ,Ao⟩:=id hm;unfold dictSet;refine Hb (AF (knd.pyHash BD Ja ?_));unfold dictSetHashed;have AP:=size_of_entries he;refine Hb (AF (wpAny_dictFind_heap BD Ja AN hd he S6 AQ (λS7=>AF (JI (wpAny_updateDictKeys AN hd (CI _ (hm.new Ja S7) (IK ..)) δ γ))) λj p Bs=>AF (JI (AF (wpAny_updateDict AN hd (wpAny_point (CI _ (hm.old Bs) (IK ..))) ?_)))))
 all_goals simp
 all_goals lia
theorem aek{d a:A6}{k:K}{xs:List (K×A6×A4)}{v:A4}{Q:Unit->ο}(BD:knd.room A.in1)(Ja:knd.is s.heap k a)(hm:IR knd s.heap d xs)(CI:∀h',IR knd h' d (PJ xs k a v)->I0 d s.heap h'->Q () { s with heap:=h',toks:=s.toks+knd.draws k })(hsz:xs.length<=CK) :
  AW ψ A (setItem (.ref d) (.ref a) v) Q E s:=by
 unfold setItem;refine Hb (AF (wpAny_sequenceKey hm.of.typeIs ε (AF (Lr hm.of.typeIs F.slot_dict_setitem (Gn F.slot_dict_setitem hm.of.typeIs F.entry_dict_setitem ?_ (by first|exact args_dict_setitem _ _ _|exact F.args_dict_setitem_3 _ _ _))))));refine AF (Xf hm.of.typeIs ?_);show AW _ _ (dictSet d (.ref a) v>>=λ_=>ret FF) _ _ _;refine AF (vU BD Ja hm (λh' xE Ic=>Ag ⟨FF,rfl,Ag (CI h' xE Ic)⟩) hsz)
theorem aeq{d a:A6}{k:K}{xs:List (K×A6×A4)}{v:A4}{Q:ξ}(BD:knd.room A.in1)(xh:(d==H_)=false)(Ja:knd.is s.heap k a)(hm:IR knd s.heap d xs)(A5:∀p,Kb xs k=some p->Q p.2 { s with toks:=s.toks+knd.draws k })(A8:Kb xs k=none->∀h',IR knd h' d (PJ xs k a v)->I0 d s.heap h'->Q v { s with heap:=h',toks:=s.toks+knd.draws k })(hsz:xs.length<=CK) :
  AW ψ A (call (.builtin "dict.setdefault") [.ref d,.ref a,v]) Q E s:=by
 refine Y0 F.slot_dict_setdefault hm.of.typeIs F.entry_dict_setdefault (F.args_dict_setdefault_3 _ _ _) (S:=λA R s=>knd.room A.in1/\∃xs,knd.is s.heap k a/\IR knd s.heap d xs/\xs.length<=CK/\(∀p,Kb xs k=some p->R (.ok (.ret p.2)) { s with toks:=s.toks+knd.draws k })/\(Kb xs k=none->∀h',IR knd h' d (PJ xs k a v)->I0 d s.heap h'->R (.ok (.ret v)) { s with heap:=h',toks:=s.toks+knd.draws k })) (MeetsIn.of_wp λA R s⟨BD,xs,Ja,hm,hsz,A5,A8⟩=>?_) ⟨BD,xs,Ja,hm,hsz,A5,A8⟩;obtain⟨o,A2,Ak,AN,AO,hd,he,S6,AQ,Ao⟩:=id hm;unfold Gq.«dict.setdefault» Builtin.Dict.keyAndDefault;refine AF (AF (Xf hm.of.typeIs ?_));show AW _ _ (pure _) _ _ _;refine Ag ?_;show AW _ _ (if(d==H_)=true then _ else _) _ _ _;rw[if_neg (by rw[xh];exact Fq)];refine AF ?_;unfold dictSetDefault;refine Hb (AF (knd.pyHash BD Ja ?_));have AP:=size_of_entries he;refine AF (wpAny_dictFind_heap BD Ja AN hd he S6 AQ (λS7=>AF (JI (AF (wpAny_updateDictKeys AN hd (Ag (Ag ⟨_,rfl,A8 (atKey_none_of_get S7) _ (hm.new Ja S7) (IK ..)⟩)) δ γ)))) λj p Bs=>?_);refine AF (Qh AN hd ?_);have e:A2[j]?=some (PB knd (k,p)):=by rw[<-UU,he,Dm,Bs];rfl
 erw[e];exact AF (JI (Ag (Ag ⟨_,rfl,A5 p (atKey_of_get AQ Bs)⟩)))
end
end LE
namespace Bv
open PySem PySem.Spec PyProof.Rows
abbrev Key:=Sum Int Str
def OP:Key->A4->Bool
 |.inl k,v=>gk k v
 |.inr x,v=>Value.isStrOf x v
noncomputable def aaI(w:BL):Key->Int
 |.inl k=>hashInt k
 |.inr x=>hashStr w x
def LD:∀{k:Key}{v:A4},OP k v=true->(∃i t,k=O3 i/\v=Jv i t)\/(∃x t,k=O4 x/\v=YP x t)
 |.inl i,v,h=>by obtain⟨t,e⟩:=Value.isInt_shape (k:=i) (v:=v) h;exact .inl ⟨i,t,rfl,e⟩
 |.inr x,v,h=>by obtain⟨t,e⟩:=Value.isStrOf_shape (x:=x) (v:=v) h;exact .inr ⟨x,t,rfl,e⟩
def aaJ(i:Int)(t:Tok):OP (.inl i) (.int i t)=true:=by simp[OP,gk]
def lX(x:Str)(t:Tok):OP (.inr x) (.str x t)=true:=by simp[OP,Value.isStrOf]
def aaM(a b:Int):decide ((O3 a:Key)=O3 b)=(a==b):=by
 by_cases e:a=b
 .subst e;simp
 .have h:¬(O3 a:Key)=O3 b:=λq=>e (Sum.inl.inj q);rw[decide_eq_false h];exact(beq_eq_false_iff_ne.mpr e).symm
def aaP(a b:Str):decide ((O4 a:Key)=O4 b)=decide (a=b):=by
 by_cases e:a=b
 .subst e;simp
 .have h:¬(O4 a:Key)=O4 b:=λq=>e (Sum.inr.inj q);rw[decide_eq_false h,decide_eq_false e]
def aaN(a:Int)(b:Str):decide ((O3 a:Key)=O4 b)=false:=decide_eq_false (λq=>nomatch q)
def aaO(a:Str)(b:Int):decide ((O4 a:Key)=O3 b)=false:=decide_eq_false (λq=>nomatch q)
noncomputable def HB(prog:Ba)(w:BL):gT prog w Key where
 is:=OP
 hash:=aaI w
 inj:=λv a b AB J=>by
  rcases LD AB with⟨i,t,rfl,rfl⟩|⟨x,t,rfl,rfl⟩
  .rcases LD J with⟨j,u,rfl,e⟩|⟨y,u,rfl,e⟩
   .injection e with A7 _;rw[A7]
   .exact nomatch e
  .rcases LD J with⟨j,u,rfl,e⟩|⟨y,u,rfl,e⟩
   .exact nomatch e
   .injection e with A7 _;rw[A7]
 byValue:=λk v h=>by rcases LD h with⟨i,t,rfl,rfl⟩|⟨x,t,rfl,rfl⟩<;>rfl
 pyHash:=λBE h=>by
  rcases LD BE with⟨i,t,rfl,rfl⟩|⟨x,t,rfl,rfl⟩
  .exact wpAny_pyHash_int h
  .exact wpAny_pyHash_str h
 eqBool:=λBD BE h=>by
  rcases LD BD with⟨i,t,rfl,rfl⟩|⟨x,t,rfl,rfl⟩
  .rcases LD BE with⟨j,u,rfl,rfl⟩|⟨y,u,rfl,rfl⟩
   .rw[aaM]at h;exact gF h
   .rw[aaN]at h;exact SeqAt.EqAt.int_str i t y u _ _ _ _ h
  .rcases LD BE with⟨j,u,rfl,rfl⟩|⟨y,u,rfl,rfl⟩
   .rw[aaO]at h;exact SeqAt.EqAt.str_int x t j u _ _ _ _ h
   .rw[aaP]at h;exact Xx h
 «strs»:=λk x t v h=>by
  rcases LD h with⟨i,u,rfl,e⟩|⟨y,u,rfl,e⟩
  .exact nomatch e
  .injection e with A7 _;subst A7;cases v<;>rfl
def aap(prog:Ba)(w:BL)(i:Int)(t:Tok):(HB prog w).is (.inl i) (.int i t)=true:=aaJ i t
def aaq(prog:Ba)(w:BL)(x:Str)(t:Tok):(HB prog w).is (.inr x) (.str x t)=true:=lX x t
section
open SeqAt
section
variable(prog:Ba)(w:BL)
abbrev JR:=Sum Key (List Key)
abbrev Bq:=List JR
def R7(h:B2):JR->A4->Prop
 |.inl k,v=>OP k v=true
 |.inr ks,v=>∃b,v=.ref b/\Ut (HB prog w) h ks b
inductive Ga(h:B2):Bq->List A4->Prop
 |nil:Ga h [] []
 |cons {k:JR} {v:A4} {ks:Bq} {vs:List A4}:R7 prog w h k v->Ga h ks vs->Ga h (k::ks) (v::vs)
def Iu(h:B2)(ks:Bq)(a:A6):Prop:=∃o items n,h.get? a=some o/\o.cls=.type "tuple"/\o.data=.seq items n/\Ga prog w h ks items.toList
variable{prog w}
theorem R7.inj{h:B2}{x y:JR}{v:A4}(AJ:R7 prog w h x v)(BO:R7 prog w h y v):x=y:=by
 cases x with
 |inl a=>
  cases y with
  |inl b=>rw[(HB prog w).inj _ _ _ AJ BO]
  |inr b=>obtain⟨c,rfl,_⟩:=BO;have:=(HB prog w).byValue _ _ AJ;simp[ga]at this
 |inr a=>
  obtain⟨c,rfl,AJ⟩:=AJ;cases y with
  |inl b=>have:=(HB prog w).byValue _ _ BO;simp[ga]at this
  |inr b=>obtain⟨d,e,BO⟩:=BO;cases e;rw[AJ.inj BO]
theorem Ga.inj{h:B2}{x y:Bq}{vs:List A4}(AJ:Ga prog w h x vs)(BO:Ga prog w h y vs):x=y:=by
 induction AJ generalizing y with
 |nil=>cases BO;rfl
 |cons A5 _ BW=>
  cases BO with
  |cons A8 DO=>rw[A5.inj A8,BW DO]
theorem Ga.keeps{h h':B2}{d:A6}{o:Obj}{A2 Ak}(AN:h.get? d=some o)(hd:o.data=.dict A2 Ak)(AK:I0 d h h'):∀{x:Bq}{vs:List A4},Ga prog w h x vs->Ga prog w h' x vs
 |_,_,.nil=>.nil
 |_,_,.cons (k:=.inl _) A5 t=>.cons (k:=.inl _) A5 (Ga.keeps AN hd AK t)
 |_,_,.cons (k:=.inr _) ⟨b,e,x⟩ t=>.cons (k:=.inr _) ⟨b,e,x.keeps AN hd AK⟩ (Ga.keeps AN hd AK t)
def Iu.typeIs{s:AM}{ks:Bq}{a:A6}(x:Iu prog w s.heap ks a):s.TypeIs (.ref a) "tuple":=let⟨o,_,_,AN,AO,_⟩:=x;⟨o,AN,AO⟩
theorem Iu.inj{h:B2}{a:A6}{x y:Bq}(AJ:Iu prog w h x a)(BO:Iu prog w h y a):x=y:=by obtain⟨o,i,n,A5,_,A8,Au⟩:=AJ;obtain⟨Bo,ajY,GV,J2,_,Ow,PZ⟩:=BO;rw[A5]at J2;cases J2;rw[A8]at Ow;cases Ow;exact Au.inj PZ
theorem Iu.keeps{h h':B2}{ks:Bq}{a d:A6}{o:Obj}{A2 Ak}(x:Iu prog w h ks a)(AN:h.get? d=some o)(hd:o.data=.dict A2 Ak)(AK:I0 d h h'):Iu prog w h' ks a:=by
 obtain⟨Bo,items,n,Dr,AO,F8,AC⟩:=x;have NC:a≠d:=by rintro rfl;obtain rfl:Bo=o:=E_ (Dr.symm.trans AN);rw[hd]at F8;exact nomatch F8
 exact⟨Bo,items,n,(AK.2 a NC).trans Dr,AO,F8,AC.keeps AN hd AK⟩
def Mg(prog:Ba)(w:BL):JR->Int
 |.inl k=>(HB prog w).hash k
 |.inr ks=>tupleKeyHash (HB prog w) ks
noncomputable def Rj:JR->Nat
 |.inl _=>1
 |.inr ks=>ks.length+1
variable{A:Bt}{E:ξ}{s:AM}
theorem aae{ks:Bq}{a:A6}{Q:Int->ο}(BD:A.units+8<DH)(AG:Iu prog w s.heap ks a)(h:Q (reduceHash (Q_ (ks.map (Mg prog w)))) { s with toks:=s.toks+((ks.map Rj).sum+1) }) :
  AW ψ A (pyHash (.ref a)) Q E s:=by
 have C7:=AG.typeIs;obtain⟨o,items,n,AN,_,hd,AC⟩:=AG;unfold pyHash
 first|unfold pyHashByItsType|skip
 first|refine AF (wpAny_cRoomFor_or (.inr δ) ?_)|skip
 refine AF (Qf C7 F.slot_tuple_hash.lookup ?_);show AW _ _ (if(some (Value.builtin "tuple.__hash__")==some FF)=true then _ else _) Q E s;rw[if_neg (by rw[beq_builtin_none];exact Fq)];refine AF (Qf C7 F.slot_tuple_hash.lookup ?_);show AW _ _ (callSpecialIfBoundUnlessNone? (.ref a) "__hash__" _>>=_) Q E s;refine AF (wpAny_callSpecialIfBoundUnlessNone?_slot C7 F.slot_tuple_hash (Gn F.slot_tuple_hash C7 F.entry_tuple_hash ?_ (F.args_tuple_hash_1 _)));show AW _ _ (Builtin.Tuple.tupleItemsOf (.ref a)>>=_) _ _ s;refine AF (fu AN hd ?_);refine AF ?_;rw[<-fv]
 refine Xy _
  (λrest(b:Array Int) s'=>∃done left,ks=done++left/\Ga prog w s.heap left rest/\b.toList=done.map (Mg prog w)/\s'={ s with toks:=s.toks+(done.map Rj).sum })
  _ ?_ ?_ _ _ ⟨[],ks,rfl,AC,rfl,rfl⟩
 .rintro x rest b s' ⟨done,left,rfl,AP,J,rfl⟩;cases AP with
  | @cons k _ ks' _ A5 Hn=>
    cases k with
    |inl k=>
     refine AF ((HB prog w).pyHash A5 ?_)
     first
      |exact Ag ⟨done++[.inl k],ks',γ,Hn,by simp[J,Mg],by simp[Nv,Rj]⟩
      |exact AF (Ag (Ag ⟨done++[.inl k],ks',γ,Hn,by simp[J,Mg],by simp[Nv,Rj]⟩))
    |inr Bp=>
     obtain⟨G8,rfl,A5⟩:=A5;refine AF (wpAny_pyHash_tuple (knd:=HB prog w) (ks:=Bp) (show A.units+1<DH by lia) A5 ?_)
     first
      |exact Ag ⟨done++[.inr Bp],ks',γ,Hn,by simp[J,Mg],by simp[Nv,Rj]⟩
      |exact AF (Ag (Ag ⟨done++[.inr Bp],ks',γ,Hn,by simp[J,Mg],by simp[Nv,Rj]⟩))
 .rintro b s' ⟨done,left,rfl,AP,J,rfl⟩;cases AP;rw[Ly]at h;show AW _ _ (retInt (Q_ b.toList)) _ _ _;rw[J];refine wpAny_ret_mkInt ?_;show AW _ _ (if(decide (-(2:Int)^63<=Q_ (done.map (Mg prog w)))&&decide (Q_ (done.map (Mg prog w))<2^63))=true then _ else _) Q E _;unfold reduceHash at h;by_cases B8:(decide (-(2:Int)^63<=Q_ (done.map (Mg prog w)))&&decide (Q_ (done.map (Mg prog w))<2^63))=true
  .rw[if_pos B8];rw[if_pos B8]at h;exact Ag (by simpa[Nv]using h)
  .rw[if_neg B8];rw[if_neg B8]at h;exact AF (JI (Ag (by simpa[Nv]using h)))
def acB{x y:JR}{u v:A4}{Q:Bool->ο}(BD:A.units+1<DH)(AJ:R7 prog w s.heap x u)(BO:R7 prog w s.heap y v)(h:Q (decide (x=y)) s):AW ψ A (eqBool u v) Q E s:=by
 cases x with
 |inl a=>
  cases y with
  |inl b=>exact(HB prog w).eqBool (a:=a) (b:=b) AJ BO (h:)
  |inr b=>
   obtain⟨c,rfl,o,its,n,A5,A8,Au,_⟩:=BO;have hd:decide ((O3 a:JR)=O4 b)=false:=γ
   rw[hd]at h;rcases LD AJ with⟨i,t,_,rfl⟩|⟨i,t,_,rfl⟩
   .exact EqAt.int_tuple i t ⟨o,A5,A8,n,Au⟩ δ prog w E Q h
   .exact EqAt.str_tuple i t ⟨o,A5,A8,n,Au⟩ δ prog w E Q h
 |inr a=>
  cases y with
  |inl b=>
   obtain⟨c,rfl,o,its,n,A5,A8,Au,_⟩:=AJ;have hd:decide ((O4 a:JR)=O3 b)=false:=γ
   rw[hd]at h;rcases LD BO with⟨i,t,_,rfl⟩|⟨i,t,_,rfl⟩
   .exact EqAt.tuple_int i t ⟨o,A5,A8,n,Au⟩ δ prog w E Q h
   .exact EqAt.tuple_str i t ⟨o,A5,A8,n,Au⟩ δ prog w E Q h
  |inr b=>obtain⟨c,rfl,AJ⟩:=AJ;obtain⟨d,rfl,BO⟩:=BO;exact wpAny_eqBool_tuple δ AJ BO (h:)
def aab{x y:Bq}{a b:A6}{P:Fin->ο}(BD:A.units+1<DH)(AJ:Iu prog w s.heap x a)(BO:Iu prog w s.heap y b)(h:P (.done (.ret (.bool (decide (x=y))))) s) :
  AW ψ A (Gq.«tuple.__eq__» ⟨[.ref a,.ref b],[]⟩) P E s:=by
 have xW:=BO.typeIs;obtain⟨alE,xs,na,wm,_,wu,x3⟩:=AJ;obtain⟨ob,ys,nb,wn,_,GB,x4⟩:=BO;show AW _ _ (isInstance (.ref b) (.type "tuple")>>=_) _ _ s;refine AF (Nr xW g6 ?_);erw[PC,HJ,if_false];refine AF (fu wm wu ?_);refine AF (fu wn GB ?_);refine AF ?_
 refine Xy _
  (λrest r s'=>r.1=none/\s'=s/\∃U7 RT Gm HX,rest=List.zip Gm HX/\Ga prog w s.heap U7 Gm/\Ga prog w s.heap RT HX/\decide (U7=RT)=decide (x=y)/\(Gm.length==HX.length)=(xs.size==ys.size))
  _ ?_ ?_ _ _ ⟨rfl,rfl,x,y,xs.toList,ys.toList,rfl,x3,x4,rfl,γ⟩
 .rintro⟨u,v⟩ rest r s' ⟨B8,rfl,U7,RT,Gm,HX,Ao,dk,Z3,ZR,hlen⟩;cases dk with
  |nil=>simp at Ao
  | @cons k1 FE qb ahb A5 yR=>
    cases Z3 with
    |nil=>simp at Ao
    | @cons k2 Lo qg aj1 A8 yS=>
      erw[M0,Qg,gU]at Ao;obtain⟨⟨rfl,rfl⟩,rfl⟩:=Ao;refine AF (acB BD A5 A8 ?_);by_cases AG:k1=k2
      .subst AG;rw[decide_eq_true rfl];erw[PC,HJ,if_false];refine Ag ⟨rfl,rfl,qb,qg,ahb,aj1,rfl,yR,yS,?_,(hlen:)⟩;rw[<-ZR];by_cases kD:qb=qg
       .simp[kD]
       .simp[kD]
      .rw[decide_eq_false AG];erw[gb,if_true];have hf:decide (x=y)=false:=by rw[<-ZR];simp[AG]
       rw[hf]at h;exact AF (Ag (Ag (Ag h)))
 .rintro⟨AL,BA⟩ s' ⟨B8,rfl,U7,RT,Gm,HX,Ao,dk,Z3,ZR,hlen⟩;simp only at B8;subst B8;refine Ag ?_;have wy:(xs.size==ys.size)=decide (x=y):=by
   rw[<-ZR,<-hlen];cases dk with
   |nil=>
    cases Z3 with
    |nil=>simp
    |cons _ _=>simp
   |cons _ _=>
    cases Z3 with
    |nil=>simp
    |cons _ _=>simp at Ao
  show P (.done (.ret (.bool (xs.size==ys.size)))) s';rw[wy];exact h
theorem aaa{x y:Bq}{a b:A6}{Q:Bool->ο}(BD:A.units+8<DH)(AJ:Iu prog w s.heap x a)(BO:Iu prog w s.heap y b)(h:Q (decide (x=y)) s) :
  AW ψ A (eqBool (.ref a) (.ref b)) Q E s:=by
 unfold eqBool
 try with_reducible refine Hb ?_
 show AW _ _ (if(DF a==DF b)=true then _ else _) Q E s;by_cases P0:(DF a==DF b)=true
 .rw[if_pos P0];have e:a=b:=by have:=eq_of_beq P0;injection this
  subst e;obtain rfl:=AJ.inj BO;exact AF (JI (Ag (h:)))
 .rw[if_neg P0]
  exact AF (wpAny_richCompare_same_room (op:=.Eq) AJ.typeIs BO.typeIs F.slot_tuple_eq
   (Gn F.slot_tuple_eq AJ.typeIs F.entry_tuple_eq (aab (show A.units+1+1<DH by lia) AJ BO ⟨_,rfl,(λe=>nomatch e),KY h⟩) (F.args_tuple_eq_2 _ _)) δ)
theorem acC{x:JR}{v:A4}{Q:Bool->ο}{n:Nat}(AJ:R7 prog w s.heap x v)(h:Q true s):AW ψ A (eqIsQuiet 7 v) Q E s:=by
 cases x with
 |inl a=>rw[eqIsQuiet_byValue _ ((HB prog w).byValue _ _ AJ)];exact Ag h
 |inr a=>
  obtain⟨c,rfl,AG⟩:=AJ;have C7:=AG.typeIs;obtain⟨o,items,n,AN,_,hd,AC⟩:=AG;unfold eqIsQuiet;refine AF (Qf C7 F.slot_tuple_eq.lookup ?_);show AW _ _ (isInstance (.ref c) (.type "tuple")>>=_) _ _ s;refine AF (Nr C7 g6 ?_);erw[PC,HJ,if_false];refine AF (Mu AN hd ?_);refine AF ?_;show AW _ _ (forIn items _ _) _ _ s;rw[<-fv];refine Xy _ (λrest r s'=>r.1=none/\s'=s/\∀v∈rest,ga v=true) _ ?_ ?_ _ _ ⟨rfl,rfl,AC.byValue⟩
  .rintro v rest r s' ⟨B8,rfl,Np⟩;rw[eqIsQuiet_byValue _ (Np v LJ)];refine AF (Ag ?_);erw[PC,HJ,if_false];exact Ag ⟨rfl,rfl,λu Ve=>Np u (FG _ Ve)⟩
  .rintro⟨AL,BA⟩ s' ⟨B8,rfl,_⟩;simp only at B8;subst B8;exact Ag h
theorem aaf{ks:Bq}{a:A6}{Q:Bool->ο}(AG:Iu prog w s.heap ks a)(h:Q true s):AW ψ A (eqIsQuiet 8 (.ref a)) Q E s:=by
 have C7:=AG.typeIs;obtain⟨o,items,n,AN,_,hd,AC⟩:=AG;unfold eqIsQuiet;refine AF (Qf C7 F.slot_tuple_eq.lookup ?_);show AW _ _ (isInstance (.ref a) (.type "tuple")>>=_) _ _ s;refine AF (Nr C7 g6 ?_);erw[PC,HJ,if_false];refine AF (Mu AN hd ?_);refine AF ?_;show AW _ _ (forIn items _ _) _ _ s;rw[<-fv];refine Xy _ (λrest r s'=>r.1=none/\s'=s/\∃ks',Ga prog w s.heap ks' rest) _ ?_ ?_ _ _ ⟨rfl,rfl,ks,AC⟩
 .rintro v rest r s' ⟨B8,rfl,ks',AP⟩;cases AP with
  |cons A5 Hn=>refine AF (acC (n:=0) A5 ?_);erw[PC,HJ,if_false];exact Ag ⟨rfl,rfl,_,Hn⟩
 .rintro⟨AL,BA⟩ s' ⟨B8,rfl,_⟩;simp only at B8;subst B8;exact Ag h
end
noncomputable def Mh(prog:Ba)(w:BL):HeapKind prog w Bq where
 is:=Iu prog w
 hash:=λks=>reduceHash (Q_ (ks.map (Mg prog w)))
 draws:=λks=>(ks.map Rj).sum+1
 room:=λA=>A.units+8<DH
 inj:=λAJ BO=>AJ.inj BO
 keeps:=λx AN hd AK=>x.keeps AN hd AK
 pyHash:=λBD AG h=>aae BD AG h
 eqBool:=λBD AJ BO h=>aaa BD AJ BO h
 quiet:=λAG h=>aaf AG h
def nest_room{prog:Ba}{w:BL}{A:Bt}(BD:A.units+16<DH):(Mh prog w).room A.in1:=show A.units+1+8<DH by lia
end
inductive V where
 |non|AV (b:Bool)|int (i:Int)|str (x:Str)|Ni (b:Array UInt8)|ZC (b:UInt64)|ref (a:A6)|ty (n:String)
 deriving DecidableEq
noncomputable def RelV:V->A4->Prop
 |.non,u=>u=FF
 |.AV b,u=>u=Sl b
 |.int i,u=>∃t,u=Jv i t
 |.str x,u=>∃t,u=YP x t
 |.Ni b,u=>∃t,u=Value.bytes b t
 |.ZC b,u=>∃t,u=Value.float b t
 |.ref a,u=>u=DF a
 |.ty n,u=>u=JJ n
abbrev Vals:List V->List A4->Prop:=Paired RelV
theorem Vals.length{xs:List V}{us:List A4}(r:Vals xs us):xs.length=us.length:=Paired.length r
theorem Vals.get:∀{xs:List V}{us:List A4}{i:Nat}{x:V},Vals xs us->xs[i]?=some x->∃u,us[i]?=some u/\RelV x u
 |_,_,_,_,.nil,e=>by simp at e
 |_,_,0,_,.cons r _,e=>by simp at e;subst e;exact⟨_,rfl,r⟩
 |_,_,i+1,x,.cons _ t,e=>by obtain⟨u,A5,A8⟩:=Vals.get (i:=i) (x:=x) t (e:);exact⟨u,(A5:),A8⟩
theorem Vals.set{x:V}{u:A4}(r:RelV x u):∀{xs:List V}{us:List A4}(i:Nat),Vals xs us->Vals (xs.set i x) (us.set i u)
 |_,_,_,.nil=>.nil
 |_,_,0,.cons _ t=>.cons r t
 |_,_,i+1,.cons q t=>.cons q (Vals.set r i t)
theorem Vals.append:∀{xs ys:List V}{us ws:List A4},Vals xs us->Vals ys ws->Vals (xs++ys) (us++ws)
 |_,_,_,_,.nil,s=>s
 |_,_,_,_,.cons r t,s=>.cons r (Vals.append t s)
theorem Vals.take:∀{xs:List V}{us:List A4}(n:Nat),Vals xs us->Vals (xs.take n) (us.take n)
 |_,_,0,_=>.nil
 |_,_,_+1,.nil=>.nil
 |_,_,n+1,.cons r t=>.cons r (Vals.take n t)
theorem Vals.drop:∀{xs:List V}{us:List A4}(n:Nat),Vals xs us->Vals (xs.drop n) (us.drop n)
 |_,_,0,r=>r
 |_,_,_+1,.nil=>.nil
 |_,_,n+1,.cons _ t=>Vals.drop n t
def IG:Option V->Option A4->Prop
 |some v,some u=>RelV v u
 |none,none=>True
 |_,_=>False
def H4{κ:Type}:List (κ×V)->List (κ×A4)->Prop:=Paired λ(p:κ×V)(q:κ×A4)=>p.1=q.1/\RelV p.2 q.2
noncomputable def D_:Key->V
 |.inl i=>.int i
 |.inr x=>.str x
inductive Dd where
 |lst (xs:List V)
 |tup (xs:List V)
 |De (Ac:List (Key×V))|B5 (Ac:List (Bq×V))
 |set (S:Int->Bool) (n:Nat)
 |ins (C Aj:A6) (Aw:List (Str×V))
 |own (x:A6)
 |bD (Aw:List (Str×V))
 |met (f x:A6)
 |bP (lo AC:Int)
 |L0 (o:Obj) (u:Dd)
 |QC (Am:Array A4)
 |ext (Rx:B2->Prop)
abbrev AA:=A6->Option Dd
noncomputable def upd(H:AA)(a:A6)(o:Dd):AA:=λb=>if b=a then some o else H b
def Do{H:AA}{a:A6}{o:Dd}:upd H a o a=some o:=by unfold upd;rw[if_pos rfl]
def DT{H:AA}{a b:A6}{o:Dd}(h:b≠a):upd H a o b=H b:=by unfold upd;rw[if_neg h]
def m_{H:AA}{a b:A6}{o u:Dd}(h:H a=some o)(h':H b=some u)(d:o≠u):a≠b:=by intro e;subst e;rw[h]at h';exact d (E_ h')
def KJ{H:AA}{a b:A6}{o:Dd}(h:H a=some o)(h':H b=none):a≠b:=by intro e;subst e;rw[h]at h';cases h'
def Nd(H:AA):JR->V->Prop
 |.inl k,v=>v=D_ k
 |.inr ks,v=>∃b,v=.ref b/\H b=some (.tup (ks.map D_))
def JU(H:AA)(k:Bq)(a:A6):Prop:=∃vs,H a=some (.tup vs)/\Paired (Nd H) k vs
def Nd.mono{H H':AA}(Ax:∀b xs,H b=some (.tup xs)->H' b=some (.tup xs)):∀{k:JR}{v:V},Nd H k v->Nd H' k v
 |.inl _,_,h=>h
 |.inr _,_,⟨b,e,h⟩=>⟨b,e,Ax _ _ h⟩
theorem j2.mono{H H':AA}(Ax:∀b xs,H b=some (.tup xs)->H' b=some (.tup xs)):∀{k:Bq}{vs:List V},Paired (Nd H) k vs->Paired (Nd H') k vs
 |_,_,.nil=>.nil
 |_,_,.cons r t=>.cons (r.mono Ax) (j2.mono Ax t)
theorem JU.mono{H H':AA}{k:Bq}{a:A6}(h:JU H k a)(Ax:∀b xs,H b=some (.tup xs)->H' b=some (.tup xs)):JU H' k a:=
 let⟨vs,e,r⟩:=h;⟨vs,Ax _ _ e,j2.mono Ax r⟩
def tT(K:AZ)(k:Bq)(b:A6):Prop:=∃(x:Str)(o:Obj)(n:Nat)(t:Tok),k=[.inl (.inr x)]/\K.lookup b=some o/\o.cls=.type "tuple"/\o.data=.seq #[.str x t] n
def Iv(K:AZ)(H:AA)(k:Bq)(b:A6):Prop:=JU H k b\/tT K k b
theorem Iv.mono{K:AZ}{H H':AA}{k:Bq}{a:A6}(h:Iv K H k a)(Ax:∀b xs,H b=some (.tup xs)->H' b=some (.tup xs)):Iv K H' k a:=h.elim (λh=>.inl (h.mono Ax)) .inr
section
variable(P:Ba)(w:BL)(K:AZ)
noncomputable def Em(H:AA)(h:B2)(a:A6):Dd->Prop
 |.lst xs=>xs.length<=CK/\∃(its:List A4)(n:Nat),Vals xs its/\h.get? a=some { cls:=.type "list",data:=.seq its.toArray n }
 |.tup xs=>xs.length<=CK/\∃its:List A4,Vals xs its/\IsTup h a its.toArray
 |.De Ac=>Ac.length<=CK/\(a==H_)=false/\∃vs,H4 Ac vs/\h.DictOf (HB P w) a vs
 |.B5 Ac=>Ac.length<=CK/\(a==H_)=false/\∃xs:List (Bq×A6×A4),
     Paired (λ(p:Bq×V)(q:Bq×A6×A4)=>p.1=q.1/\Iv K H p.1 q.2.1/\RelV p.2 q.2.2) Ac xs/\
     ∃o A2 Ak,h.get? a=some o/\o.ExactDict/\o.data=.dict A2 Ak/\A2.toList=xs.map (PB (Mh P w))/\(xs.map (·.1)).Nodup/\Ak=A2.size
 |.set S n=>h.SetOf (MA P w) a S n
 |.ins C Aj Aw=>H Aj=some (.own a)/\Aw.length<=1000/\Aj≠a/\h.get? a=some (PA C Aj)/\
     ∃E8,h.Ns1 Aj E8/\(∀f,IG (Aw.lookup f) (E8 f))/\gR E8 (Aw.map (·.1))
 |.own _=>∃o,h.get? a=some o
 |.bD Aw=>∃E8,h.Ns1 a E8/\∀f,IG (Aw.lookup f) (E8 f)
 |.bP lo AC=>∃t u v,h.get? a=some { cls:=.type "range",data:=.fields #[.int lo t,.int AC u,.int 1 v] }
 |.L0 o u=>h.get? a=some o/\Em H h a u
 |.QC Am=>h.get? a=some { cls:=.none,data:=.fields Am }
 |.met f x=>h.get? a=some (gL (.ref f) (.ref x))
 |.ext Rx=>Rx h/\(∃o,h.get? a=some o)/\∀A5 A8:B2,Rx A5->(∀o,A5.get? a=some o->A8.get? a=some o)->Rx A8
def E6(H:AA)(h:B2):Prop:=∀a o,H a=some o->Em P w K H h a o
end
section
variable{P:Ba}{w:BL}{K:AZ}{H H':AA}{h h':B2}{a:A6}{o:Dd}
theorem Em.lt(x:Em P w K H h a o):a<h.objs.size:=by
 cases o with
 |lst xs=>obtain⟨_,_,_,_,e⟩:=x;exact Cr e
 |tup xs=>obtain⟨_,_,_,p⟩:=x;exact p.lt
 |De Ac=>obtain⟨_,_,_,_,o,_,_,e,_⟩:=x;exact Cr e
 |B5 Ac=>obtain⟨_,_,_,_,o,_,_,e,_⟩:=x;exact Cr e
 |set S n=>obtain⟨o,_,_,_,e,_⟩:=x;exact Cr e
 |ins C Aj Aw=>obtain⟨_,_,_,e,_⟩:=x;exact Cr e
 |own y=>obtain⟨_,e⟩:=x;exact Cr e
 |bD Aw=>obtain⟨_,⟨_,_,_,e,_⟩,_⟩:=x;exact Cr e
 |bP lo AC=>obtain⟨_,_,_,e⟩:=x;exact Cr e
 |L0 ob u=>obtain⟨e,_⟩:=x;exact Cr e
 |QC Am=>exact Cr (show h.get? a=some _ from x)
 |met f y=>exact Cr (show h.get? a=some _ from x)
 |ext Rx=>obtain⟨_,⟨_,e⟩,_⟩:=x;exact Cr e
theorem Paired.dM{α β:Type}{F G:α->β->Prop}:∀{n9:List α}{l₂:List β},Paired F n9 l₂->(∀a b,F a b->G a b)->Paired G n9 l₂
 |_,_,.nil,_=>.nil
 |_,_,.cons r t,f=>.cons (f _ _ r) (Paired.dM t f)
def Em.OG(x:Em P w K H h a o)(k:∀b u,(b=a\/H b=some (.own a))->h.get? b=some u->h'.get? b=some u)(AN:∀b,H b=some (.own a)->H' b=some (.own a))(Ax:∀b xs,H b=some (.tup xs)->H' b=some (.tup xs)):Em P w K H' h' a o:=by
 induction o with
 |lst xs=>obtain⟨z,its,n,r,e⟩:=x;exact⟨z,its,n,r,k _ _ (.inl rfl) e⟩
 |tup xs=>obtain⟨z,its,r,ob,e,c⟩:=x;exact⟨z,its,r,ob,k _ _ (.inl rfl) e,c⟩
 |De Ac=>obtain⟨z,y,vs,r,ob,A2,Ak,e,c⟩:=x;exact⟨z,y,vs,r,ob,A2,Ak,k _ _ (.inl rfl) e,c⟩
 |B5 Ac=>obtain⟨z,y,xs,r,ob,A2,Ak,e,c⟩:=x;exact⟨z,y,xs,Paired.dM r λp q z=>⟨z.1,z.2.1.mono Ax,z.2.2⟩,ob,A2,Ak,k _ _ (.inl rfl) e,c⟩
 |set S n=>obtain⟨ob,A2,Ak,t,e,c⟩:=x;exact⟨ob,A2,Ak,t,k _ _ (.inl rfl) e,c⟩
 |ins C Aj Aw=>obtain⟨d,z,ne,e,E8,⟨E0,A2,Ak,AH,c⟩,r⟩:=x;exact⟨AN _ d,z,ne,k _ _ (.inl rfl) e,E8,⟨E0,A2,Ak,k _ _ (.inr d) AH,c⟩,r⟩
 |own y=>obtain⟨ob,e⟩:=x;exact⟨ob,k _ _ (.inl rfl) e⟩
 |bD Aw=>obtain⟨E8,⟨E0,A2,Ak,e,c⟩,r⟩:=x;exact⟨E8,⟨E0,A2,Ak,k _ _ (.inl rfl) e,c⟩,r⟩
 |bP lo AC=>obtain⟨t,u,v,e⟩:=x;exact⟨t,u,v,k _ _ (.inl rfl) e⟩
 |L0 ob u BW=>obtain⟨e,q⟩:=x;exact⟨k _ _ (.inl rfl) e,BW q⟩
 |QC Am=>have e:h.get? a=some { cls:=.none,data:=.fields Am }:=x;show h'.get? a=some { cls:=.none,data:=.fields Am };exact k a _ (.inl rfl) e
 |met f y=>have e:h.get? a=some (gL (.ref f) (.ref y)):=x;show h'.get? a=some (gL (.ref f) (.ref y));exact k a _ (.inl rfl) e
 |ext Rx=>obtain⟨p,⟨o,e⟩,st⟩:=x;exact⟨st _ _ p λo q=>k _ _ (.inl rfl) q,⟨o,k _ _ (.inl rfl) e⟩,st⟩
theorem E6.lt(x:E6 P w K H h)(e:H a=some o):a<h.objs.size:=(x a o e).lt
def E6.fresh(x:E6 P w K H h)(e:h.objs.size<=a):H a=none:=by
 cases q:H a with
 |none=>rfl
 |some u=>exact absurd (HK (x.lt q) e) (Hc _)
def E6.kept(x:E6 P w K H h)(k:∀b u,h.get? b=some u->h'.get? b=some u):E6 P w K H h':=λa o e=>
 (x a o e).OG (λb u _ q=>k b u q) (λ_ q=>q) λ_ _ q=>q
def E6.laid(x:E6 P w K H h)(k:∀b u,h.get? b=some u->h'.get? b=some u)(AX:h.objs.size<=a)(new:Em P w K (upd H a o) h' a o):E6 P w K (upd H a o) h':=λb u e=>by
 have AQ:=x.fresh AX;by_cases J:b=a
 .subst J;rw[Do]at e;cases e;exact new
 .rw[DT J]at e;exact(x b u e).OG (λc v _ q=>k c v q) (λc q=>by rw[DT (KJ q AQ)];exact q) λc xs q=>by rw[DT (KJ q AQ)];exact q
end
def Fc(H:AA)(a:A6)(u:Dd):Prop:=H a=some u\/∃o,H a=some (.L0 o u)
def Fc.ok{P:Ba}{w:BL}{K:AZ}{H:AA}{h:B2}{a:A6}{u:Dd}(r:Fc H a u)(x:E6 P w K H h):Em P w K H h a u:=by
 rcases r with r|⟨o,r⟩
 .exact x a u r
 .obtain⟨_,q⟩:=x a _ r;exact q
def Vf:Option Dd->Prop
 |some (.lst _)=>True
 |some (.De _)=>True
 |some (.B5 _)=>True
 |some (.set _ _)=>True
 |some (.ins _ _ _)=>True
 |some (.ext _)=>True
 |_=>False
section
variable{P:Ba}{w:BL}{K:AZ}{H:AA}{h h':B2}{x e:A6}{Bo:Dd}
def E6.write(ok:E6 P w K H h)(KH:Vf (H x))(he:e=x\/H e=some (.own x))(k:∀b u,b≠e->h.get? b=some u->h'.get? b=some u)(TG:∃u,h'.get? e=some u)(new:Em P w K (upd H x Bo) h' x Bo):E6 P w K (upd H x Bo) h':=λb u q=>by
 have mh:∀c y,H c=some (.own y)->c≠x:=λc y r z=>by subst z;rw[r]at KH;exact KH
 have acQ:∀c xs,H c=some (.tup xs)->c≠x:=λc xs r z=>by subst z;rw[r]at KH;exact KH
 by_cases J:b=x
 .subst J;rw[Do]at q;cases q;exact new
 .rw[DT J]at q;by_cases S3:b=e
  .have Dl:H b=some (.own x):=by
     rcases he with z|z
     .exact absurd (S3.trans z) J
     .rw[S3];exact z
   rw[q]at Dl;cases Dl;obtain⟨v,BE⟩:=TG;exact⟨v,by rw[S3];exact BE⟩
  .refine(ok b u q).OG (λc v AO r=>k c v ?_ r) (λc r=>by rw[DT (mh c b r)];exact r) λc xs r=>by rw[DT (acQ c xs r)];exact r
   rcases AO with rfl|AO
   .exact S3
   .rintro rfl;rcases he with z|z
    .exact mh c b AO z
    .rw[AO]at z;cases z;exact J rfl
end
structure GI(Aw ex:List A6)(H H':AA)(h h':B2):Prop where
 keep:∀b o,h.get? b=some o->H b=none->b∉Aw->b∉ex->h'.get? b=some o
 slot:∀b o,h.get? b=some o->H b=none->b∈Aw->b∉ex->∃CJ,h'.get? b=some { o with slots:=CJ }
 free:∀b o,h.get? b=some o->H b=none->b∉ex->H' b=none
 there:∀b o,h.get? b=some o->b∉ex->∃Bo,h'.get? b=some Bo
 Ln:∀b xs,H b=some (.tup xs)->H' b=some (.tup xs)
 L2:∀b o u,H b=some (.L0 o u)->H' b=some (.L0 o u)
 Lm:∀b Am,H b=some (.QC Am)->∃more,H' b=some (.QC (Am++more))
section
variable{Aw kz ex ajg:List A6}{H H1 B7:AA}{h A5 A8 h':B2}{a x e:A6}{o:Dd}
def GI.any(u:GI Aw ex H H1 h A5){b:A6}{ob:Obj}(q:h.get? b=some ob)(n:H b=none)(AJ:b∉ex):∃CJ,A5.get? b=some { ob with slots:=CJ }:=by
 by_cases J:b∈Aw
 .exact u.slot b ob q n J AJ
 .exact⟨ob.slots,u.keep b ob q n J AJ⟩
def GI.kept(k:∀b u,h.get? b=some u->h'.get? b=some u):GI Aw ex H H h h':=
 ⟨λb ob q _ _ _=>k b ob q,λb ob q _ _ _=>⟨ob.slots,k b ob q⟩,λ_ _ _ n _=>n,λb ob q _=>⟨ob,k b ob q⟩,λ_ _ q=>q,λ_ _ _ q=>q,λ_ Am q=>⟨#[],by rw[q];simp⟩⟩
def GI.refl:GI Aw ex H H h h:=GI.kept λ_ _ q=>q
def GI.laid(k:∀b u,h.get? b=some u->h'.get? b=some u)(AX:h.objs.size<=a)(AQ:H a=none):GI Aw ex H (upd H a o) h h' where
 keep:=λb u q _ _ _=>k b u q
 slot:=λb u q _ _ _=>⟨u.slots,k b u q⟩
 free:=λb u q n _=>by rw[DT (Eb (HK (Cr q) AX))];exact n
 there:=λb u q _=>⟨u,k b u q⟩
 Ln:=λb xs q=>by rw[DT (KJ q AQ)];exact q
 L2:=λb u xs q=>by rw[DT (KJ q AQ)];exact q
 Lm:=λb Am q=>⟨#[],by rw[DT (KJ q AQ),q];simp⟩
def GI.write(KH:Vf (H x))(he:e=x\/H e=some (.own x))(k:∀b u,b≠e->h.get? b=some u->h'.get? b=some u)(TG:∃u,h'.get? e=some u):GI Aw ex H (upd H x o) h h':=by
 have AJ:∀b,H b=none->b≠x:=λb n z=>by subst z;rw[n]at KH;exact KH
 have J:∀b,H b=none->b≠e:=λb n z=>by
  subst z;rcases he with r|r
  .exact AJ b n r
  .rw[n]at r;cases r
 have hm:∀b u,H b=some u->¬Vf (some u)->b≠x:=λb u q nm z=>by subst z;rw[q]at KH;exact nm KH
 refine⟨λb u q n _ _=>k b u (J b n) q,λb u q n _ _=>⟨u.slots,k b u (J b n) q⟩,λb u q n _=>by rw[DT (AJ b n)];exact n,λb u q _=>?_,
  λb xs q=>by rw[DT (hm b _ q λz=>z)];exact q,λb u xs q=>by rw[DT (hm b _ q λz=>z)];exact q,λb Am q=>⟨#[],by rw[DT (hm b _ q λz=>z),q];simp⟩⟩
 by_cases S3:b=e
 .subst S3;exact TG
 .exact⟨u,k b u S3 q⟩
end
noncomputable def b5(h:B2)(H:AA):List A6:=(DK h.objs.size).filter λa=>(H a).isSome
def P2(h:B2)(H:AA):B2:=Xl h (b5 h H)
def x6(h:B2)(H:AA):(P2 h H).objs.size=h.objs.size:=PySem.W.hideAll_size _ _
def x5{h:B2}{H:AA}{b:A6}{o:Obj}(e:h.get? b=some o)(n:H b=none):(P2 h H).get? b=some o:=
 sN _ e λhm=>by have q:(H b).isSome=true:=(List.mem_filter.mp hm).2;rw[n]at q;simp at q
def abh{h:B2}{H:AA}{b:A6}{o:Obj}(e:(P2 h H).get? b=some o):h.get? b=some o/\H b=none:=by
 have CF:h.get? b=some o:=sP (b5 h H) e;refine⟨CF,?_⟩;cases q:H b with
 |none=>rfl
 |some x=>have hm:b∈b5 h H:=List.mem_filter.mpr ⟨List.mem_range.mpr (Cr CF),by simp[q]⟩;have z:(P2 h H).get? b=none:=PySem.W.hideAll_none (b5 h H) hm;rw[z]at e;cases e
noncomputable def ss(g h:B2)(L:A6):υ:=(DK h.objs.size).filterMap λa=>if a=L\/(g.get? a).isSome=true then none else(h.get? a).map λo=>(a,o)
def rest(g h:B2)(L d:A6):υ:=(ss g h L).filter λp=>decide (p.1≠d)
structure Mod(K:AZ)(mg:Str->Option A4)(base:B2):Prop where
 JA:K.In base
 glob:base.Ns Ev mg
 blt:∃HA,base.Ns builtinsNs HA/\∀x:Str,x≠"__name__"->HA x=LM x
 nolimit:base.NoLimit
structure Ad where
 prog:Ba
 w:BL
 K:AZ
 mg:Str->Option A4
 base:B2
 A:Bt
 N:List Str
 Fm:AM
 R5:AA
 env:Env
 outer:List Env
 stack:List Env
 ex:List A6
 fn:Str->Bool
 calm:Bool
 Bl:υ
 xe:ξ
noncomputable def Ef(l:List Env):List A6:=l.filterMap (·.frame)
abbrev Ad.Aw(X:Ad):List A6:=Ef X.outer
def Gf(sc:Dn)(x:Str):Prop:=sc.names.lookup x=some .local\/sc.names.lookup x=some .cell\/sc.names.lookup x=some .free
def Loc(sc:Dn)(x:Str):Prop:=sc.names.lookup x=some .local\/sc.names.lookup x=some .cell
noncomputable def Look(env:Env)(h:B2)(m:Str->Option A4)(x:Str)(u:A4):Prop:=
 (env.kindOf x=some .local/\m x=some u)\/((env.kindOf x=some .cell\/env.kindOf x=some .free)/\∃c,env.cells.lookup x=some c/\h.IsCell c (some u))
structure Ad.Ok(X:Ad):Prop where
 mod:Mod X.K X.mg X.base
 kind:X.env.scope.kind=.function
 glob:X.env.globals=Ev
 blt:X.env.builtins=builtinsNs
 above:X.Fm.heap.objs.size<=X.env.locals
 inj:∀x y c,X.env.cells.lookup x=some c->X.env.cells.lookup y=some c->x=y
 has:∀x,(X.env.kindOf x=some .cell\/X.env.kindOf x=some .free)->∃c,X.env.cells.lookup x=some c
 Vt:∀x c,X.fn x=true->X.env.cells.lookup x=some c->X.Fm.heap.objs.size<=c
 hd:X.calm=true->X.A.handled=none
 frames:X.A.frames=some X.stack
 U2:X.stack=X.outer\/(X.stack=X.env::X.outer/\X.env.frame=some X.env.locals)
 jh:∀b∈X.ex,b≠X.env.locals/\∀x c,X.env.cells.lookup x=some c->c≠b
 bs:∀b o,X.base.get? b=some o->X.Fm.heap.get? b=some o/\X.R5 b=none
 QA:X.base.objs.size<=X.Fm.heap.objs.size
 Rl:∀b o,X.base.get? b=some o->b∉X.ex
 Z8:∀b∈X.ex,b∉X.Aw
 K8:X.Fm.heap.FunFrames X.base X.outer
 S0:∀b∈X.Aw,X.R5 b=none
structure Inv(X:Ad)(pins:υ)(σ :List (Option V))(H:AA)(s:AM):Prop where
 ok:X.Ok
 os:s.os=X.Fm.os
 bare:N1 s.gens
 base:GI X.Aw X.ex X.R5 H X.Fm.heap s.heap
 loc:∃m,s.heap.Ns X.env.locals m/\∀(i:Nat)(x:Str)(v:V),ς-> σ[i]?=some (some v)->Gf X.env.scope x->∃u,RelV v u/\Look X.env s.heap m x u
 cell:∀x c,X.env.cells.lookup x=some c->∃v,s.heap.IsCell c v
 free:H X.env.locals=none
 Nm:∀x c,X.env.cells.lookup x=some c->H c=none
 pin:∀p∈X.Bl++pins,s.heap.get? p.1=some p.2/\H p.1=none/\p.1≠X.env.locals/\p.1∉X.Aw/\∀v,p.2.data≠.cell v
 BX:E6 X.prog X.w X.K H s.heap
 len: σ.length=X.N.length
section
variable{X:Ad}{pins:υ}{σ :List (Option V)}{H H':AA}{s:AM}{h':B2}
def Ad.Ok.acI(ok:X.Ok){b:A6}{o:Obj}(e:X.base.get? b=some o):b∉X.Aw:=λJ=>by have:=(ok.K8.mem J).1;rw[e]at this;cases this
theorem Inv.bs(I:π):∀b o,X.base.get? b=some o->dl/\H b=none:=λb o e=>
 ⟨I.base.keep b o (I.ok.bs b o e).1 (I.ok.bs b o e).2 (I.ok.acI e) (I.ok.Rl b o e),I.base.free b o (I.ok.bs b o e).1 (I.ok.bs b o e).2 (I.ok.Rl b o e)⟩
def Inv.Ed(I:π):∀b o,X.base.get? b=some o->dl:=λb o e=>(I.bs b o e).1
theorem Inv.mod(I:π):Mod X.K X.mg X.base:=I.ok.mod
def Inv.EA(I:π):X.K.In s.heap:=I.ok.mod.JA.keeps I.Ed
theorem Inv.lt(I:π):X.env.locals<s.heap.objs.size:=let⟨_,AQ,_⟩:=I.loc;AQ.lt
def Inv.Ll(I:π):X.Fm.heap.objs.size<=s.heap.objs.size:=Fp I.ok.above (Nx I.lt)
def Inv.acK(I:π){a:A6}(h:s.heap.objs.size<=a):a∉X.Aw:=λJ=>by obtain⟨_,o,AN,_⟩:=I.ok.K8.mem J;exact absurd (HK (Cr AN) (Fp I.Ll h)) (Hc _)
def Inv.RK(I:π):∀x c,X.env.cells.lookup x=some c->c≠X.env.locals:=λx c e z=>by obtain⟨v,o,AN,hd⟩:=I.cell x c e;obtain⟨m,⟨Bo,A2,Ak,Dr,F8,_⟩,_⟩:=I.loc;rw[z,Dr]at AN;cases AN;rw[F8]at hd;cases hd
theorem Inv.K8(I:π):s.heap.FunFrames X.base X.outer:=by
 have all:∀(l:List Env),(∀b∈Ef l,b∈X.Aw)->X.Fm.heap.FunFrames X.base l->s.heap.FunFrames X.base l:=by
  intro l;induction l with
  |nil=>intro _ _;trivial
  |cons env r BW=>intro AK AP;obtain⟨AG,⟨L,o,hf,AQ,AN,hd⟩,B8⟩:=AP;have FJ:L∈X.Aw:=AK L (by unfold Ef;rw[Ug,hf];exact LJ);obtain⟨CJ,e⟩:=I.base.slot L o AN (I.ok.S0 L FJ) FJ λz=>I.ok.Z8 L z FJ;exact⟨AG,⟨L,_,hf,AQ,e,hd⟩,BW (λb J=>AK b (by unfold Ef;rw[Ug,hf];exact FG _ J)) B8⟩
 exact all X.outer (λ_ J=>J) I.ok.K8
theorem Inv.stack(I:π):s.heap.FunFrames X.base X.stack:=by
 rcases I.ok.U2 with e|⟨e,hf⟩
 .rw[e];exact I.K8
 .rw[e];obtain⟨m,AQ,_⟩:=I.loc;refine .cons (by rw[I.ok.kind];decide) hf AQ ?_ I.K8;exact Heap.get?_none_of_le (Fp I.ok.QA I.ok.above)
def Inv.aq(I:π):∀b∈Ef X.stack,b∈X.env.locals::X.Aw:=λb J=>by
 rcases I.ok.U2 with e|⟨e,hf⟩
 .rw[e]at J;exact FG _ J
 .rw[e]at J;unfold Ef at J;rw[Ug,hf]at J;exact J
def Inv.fV(I:π):∀b∈Ef X.stack,H b=none:=λb J=>by
 rcases List.mem_cons.mp (I.aq b J)with e|J
 .rw[e];exact I.free
 .obtain⟨_,o,AN,_⟩:=I.ok.K8.mem J;exact I.base.free b o AN (I.ok.S0 b J) λz=>I.ok.Z8 b z J
def Inv.step{g':Array Sn}{t':Nat}{d':Drawn}{ch:List A6}(I:π)(NA:∀b∈ch,(b∈X.ex\/X.Fm.heap.objs.size<=b)/\b≠X.env.locals/\(∀x c,X.env.cells.lookup x=some c->c≠b)/\∀p∈X.Bl++pins,p.1≠b)(keep:∀b o,b≠X.env.locals->b∉X.Aw->b∉ch->dl->H b=none->h'.get? b=some o)(slot:∀b o,b≠X.env.locals->b∈X.Aw->b∉ch->dl->H b=none->∃CJ,h'.get? b=some { o with slots:=CJ })(free:∀b o,b∉ch->dl->H b=none->H' b=none)(there:∀b o,b∉ch->dl->∃Bo,h'.get? b=some Bo)(Ln:∀b xs,H b=some (.tup xs)->H' b=some (.tup xs))(L2:∀b o u,H b=some (.L0 o u)->H' b=some (.L0 o u))(Lm:∀b Am,H b=some (.QC Am)->∃more,H' b=some (.QC (Am++more)))(ns:∀m,s.heap.Ns X.env.locals m->h'.Ns X.env.locals m)(BX:E6 X.prog X.w X.K H' h')(Aa:N1 g') :
  Inv X pins σ H' { s with heap:=h',gens:=g',drawn:=d',toks:=t' }:=by
 have mZ:∀b o,X.Fm.heap.get? b=some o->b≠X.env.locals:=λb o e=>Eb (HK (Cr e) I.ok.above);have aC:∀b o,X.Fm.heap.get? b=some o->b∉X.ex->b∉ch:=λb o e AJ J=>by
  rcases(NA b J).1 with z|z
  .exact AJ z
  .exact absurd (HK (Cr e) z) (Hc _)
 have cellK:∀x c,X.env.cells.lookup x=some c->∀v,s.heap.IsCell c v->h'.IsCell c v:=λx c e v⟨o,AN,hd⟩=>by
  have WQ:c∉ch:=λz=>(NA c z).2.2.1 x c e rfl;by_cases AO:c∈X.Aw
  .obtain⟨CJ,q⟩:=slot c o (I.RK x c e) AO WQ AN (I.Nm x c e);exact⟨_,q,hd⟩
  .exact⟨o,keep c o (I.RK x c e) AO WQ AN (I.Nm x c e),hd⟩
 refine⟨I.ok,I.os,Aa,⟨λb o e n J AJ=>?_,λb o e n J AJ=>?_,λb o e n AJ=>?_,λb o e AJ=>?_,λb xs e=>Ln b xs (I.base.Ln b xs e),λb o xs e=>L2 b o xs (I.base.L2 b o xs e),λb Am e=>?_⟩,?_,λx c e=>?_,?_,λx c e=>?_,λp AX=>?_,BX,I.len⟩
 .exact keep b o (mZ b o e) J (aC b o e AJ) (I.base.keep b o e n J AJ) (I.base.free b o e n AJ)
 .obtain⟨CJ,A7⟩:=I.base.slot b o e n J AJ;obtain⟨dw,AH⟩:=slot b _ (mZ b o e) J (aC b o e AJ) A7 (I.base.free b o e n AJ);exact⟨dw,AH⟩
 .obtain⟨Bo,A7⟩:=I.base.there b o e AJ;exact free b Bo (aC b o e AJ) A7 (I.base.free b o e n AJ)
 .obtain⟨Bo,A7⟩:=I.base.there b o e AJ;exact there b Bo (aC b o e AJ) A7
 .obtain⟨Fk,A7⟩:=I.base.Lm b Am e;obtain⟨FY,AH⟩:=Lm b _ A7;exact⟨Fk++FY,by rw[AH,Array.append_assoc]⟩
 .obtain⟨m,AQ,AP⟩:=I.loc;refine⟨m,ns m AQ,λi x v A7 AH B1=>?_⟩;obtain⟨u,r,l⟩:=AP i x v A7 AH B1;refine⟨u,r,?_⟩;rcases l with l|⟨k,c,e,z⟩
  .exact .inl l
  .exact .inr ⟨k,c,e,cellK x c e _ z⟩
 .obtain⟨v,z⟩:=I.cell x c e;exact⟨v,cellK x c e v z⟩
 .obtain⟨m,⟨o,_,_,AN,_⟩,_⟩:=I.loc;exact free _ o (λz=>(NA _ z).2.1 rfl) AN I.free
 .obtain⟨v,o,AN,hd⟩:=I.cell x c e;exact free c o (λz=>(NA c z).2.2.1 x c e rfl) AN (I.Nm x c e)
 .obtain⟨e,n,ne,Jj,d⟩:=I.pin p AX;have WQ:p.1∉ch:=λz=>(NA p.1 z).2.2.2 p AX rfl;exact⟨keep p.1 p.2 ne Jj WQ e n,free p.1 p.2 WQ e n,ne,Jj,d⟩
def Inv.un{t':Nat}(I:π)(u:GI X.Aw [] H H' s.heap h')(BX:E6 X.prog X.w X.K H' h'):Inv X pins σ H' { s with heap:=h',toks:=t' }:=by
 obtain⟨m,⟨o,A2,Ak,AN,r⟩,_⟩:=id I.loc;obtain⟨CJ,FJ⟩:=u.any AN I.free γ;exact I.step (g':=s.gens) (d':=s.drawn) (ch:=[]) (λ_ z=>nomatch z) (λb o _ J _ e n=>u.keep b o e n J γ) (λb o _ J _ e n=>u.slot b o e n J γ) (λb o _ e n=>u.free b o e n γ) (λb o _ e=>u.there b o e γ) u.Ln u.L2 u.Lm (λDs hm=>by obtain⟨Bo,es',R0,Dr,BB⟩:=hm;rw[AN]at Dr;cases Dr;exact⟨_,es',R0,FJ,BB⟩) BX I.bare
def Inv.call{g':Array Sn}{t':Nat}{d':Drawn}{ch:List A6}(I:π)(u:GI (Ef X.stack) ch H H' s.heap h')(BX:E6 X.prog X.w X.K H' h')(Aa:N1 g')(NA:∀b∈ch,(b∈X.ex\/X.Fm.heap.objs.size<=b)/\b≠X.env.locals/\(∀x c,X.env.cells.lookup x=some c->c≠b)/\∀p∈X.Bl++pins,p.1≠b) :
  Inv X pins σ H' { s with heap:=h',gens:=g',drawn:=d',toks:=t' }:=by
 obtain⟨m,⟨o,A2,Ak,AN,r⟩,_⟩:=id I.loc;obtain⟨CJ,FJ⟩:=u.any AN I.free λz=>(NA _ z).2.1 rfl;exact I.step (ch:=ch) NA (λb o FJ J AO e n=>u.keep b o e n (λz=>(List.mem_cons.mp (I.aq b z)).elim FJ J) AO) (λb o _ _ AO e n=>u.any e n AO) (λb o AO e n=>u.free b o e n AO) (λb o AO e=>u.there b o e AO) u.Ln u.L2 u.Lm (λDs hm=>by obtain⟨Bo,es',R0,Dr,BB⟩:=hm;rw[AN]at Dr;cases Dr;exact⟨_,es',R0,FJ,BB⟩) BX Aa
def Inv.turned{t':Nat}{it:A6}(I:π)(k:∀b o,b≠it->dl->h'.get? b=some o)(AQ:H it=none)(FJ:it≠X.env.locals)(A5:it∈X.ex\/X.Fm.heap.objs.size<=it)(A8:∀x c,X.env.cells.lookup x=some c->c≠it)(Au:∀p∈X.Bl++pins,p.1≠it):Inv X pins σ H { s with heap:=h',toks:=t' }:=by
 have PR:∀b u,H b=some u->b≠it:=λb u e z=>by rw[z,AQ]at e;cases e
 refine I.step (g':=s.gens) (d':=s.drawn) (ch:=[it]) (λb J=>?_) (λb o _ _ AO e _=>k b o (λz=>AO (by simp[z])) e) (λb o _ _ AO e _=>⟨o.slots,k b o (λz=>AO (by simp[z])) e⟩) (λ_ _ _ _ n=>n)
  (λb o AO e=>⟨o,k b o (λz=>AO (by simp[z])) e⟩) (λ_ _ e=>e) (λ_ _ _ e=>e) (λb Am e=>⟨#[],by rw[e];simp⟩) (λm hm=>?_) (λb u e=>?_) I.bare
 .have e:b=it:=by simpa using J
  subst e;exact⟨A5,FJ,A8,Au⟩
 .obtain⟨o,A2,Ak,AN,r⟩:=hm;exact⟨o,A2,Ak,k _ o (He FJ) AN,r⟩
 .refine(I.BX b u e).OG (λc v AO q=>k c v ?_ q) (λ_ q=>q) λ_ _ q=>q;rcases AO with z|z
  .rw[z];exact PR b u e
  .exact PR c _ z
def Inv.tok(I:π)(t:Nat):Inv X pins σ H { s with toks:=t }:=I.un (h':=s.heap) (t':=t) GI.refl I.BX
theorem Inv.kept{t':Nat}(I:π)(k:∀b u,s.heap.get? b=some u->h'.get? b=some u):Inv X pins σ H { s with heap:=h',toks:=t' }:=I.un (GI.kept k) (I.BX.kept k)
theorem Inv.laid{a:A6}{o:Dd}{t':Nat}(I:π)(k:∀b u,s.heap.get? b=some u->h'.get? b=some u)(AX:s.heap.objs.size<=a)(new:Em X.prog X.w X.K (upd H a o) h' a o) :
  Inv X pins σ (upd H a o) { s with heap:=h',toks:=t' }:=I.un (GI.laid k AX (I.BX.fresh AX)) (I.BX.laid k AX new)
theorem Inv.write{x e:A6}{o:Dd}{t':Nat}(I:π)(KH:Vf (H x))(he:e=x\/H e=some (.own x))(k:∀b u,b≠e->s.heap.get? b=some u->h'.get? b=some u)(TG:∃u,h'.get? e=some u)(new:Em X.prog X.w X.K (upd H x o) h' x o):Inv X pins σ (upd H x o) { s with heap:=h',toks:=t' }:=I.un (GI.write KH he k TG) (I.BX.write KH he k TG new)
def Inv.oL{oK:υ}(I:π)(h:∀p∈oK,s.heap.get? p.1=some p.2/\H p.1=none/\p.1≠X.env.locals/\p.1∉X.Aw/\∀v,p.2.data≠.cell v):Inv X oK σ H s:=
 ⟨I.ok,I.os,I.bare,I.base,I.loc,I.cell,I.free,I.Nm,λp AX=>(List.mem_append.mp AX).elim (λz=>I.pin p (G2 _ z)) (h p),I.BX,I.len⟩
def me{N:List Str}(hN:N.Nodup){i j:Nat}{x:Str}(a:N[i]?=some x)(b:N[j]?=some x):i=j:=by obtain⟨A5,A7⟩:=List.getElem?_eq_some_iff.mp a;obtain⟨A8,AH⟩:=List.getElem?_eq_some_iff.mp b;exact(List.getElem_inj hN).mp (A7.trans AH.symm)
def q6{M:Model}{A:Bt}{E:ξ}{i:Nat}{x:Str}{v:V}{u:A4}{Q:Unit->ο}(I:π)(hN:X.N.Nodup)(AC:ς)(AJ:Loc X.env.scope x)(r:RelV v u)(h:∀s',Inv X pins (σ.set i (some v)) H s'->(∃a,I0 a s.heap s'.heap/\(a=X.env.locals\/X.env.cells.lookup x=some a))->Q () s')(hf:X.fn x=true\/X.env.scope.names.lookup x=some .local:=by first|exact .inl rfl|exact .inr rfl|assumption):AW M A (storeName X.env x u) Q E s:=by
 obtain⟨m,AQ,AP⟩:=id I.loc;have xf:(X.env.scope.kind==.class||(X.env.scope.kind==.module&&X.env.locals !=X.env.globals))=false:=by rw[I.ok.kind];rfl
 have ACσ :i< σ.length:=by rw[I.len];exact(List.getElem?_eq_some_iff.mp AC).1
 have RK:=I.RK;have tracked:∀{a:A6}{h':B2},(∃o,s.heap.get? a=some o/\H a=none)->I0 a s.heap h'->E6 X.prog X.w X.K H h':=λ{a h'} AB AK b ob e=>by
  obtain⟨_,_,ZS⟩:=AB;refine(I.BX b ob e).OG (λc Fn AO q=>(AK.2 c ?_).trans q) (λ_ q=>q) λ_ _ q=>q;rintro rfl;rcases AO with rfl|AO
  .rw[ZS]at e;cases e
  .rw[ZS]at AO;cases AO
 rcases AJ with AG|AG
 .refine wpAny_storeName_local AG AQ (λh' xI AK=>?_) xf;obtain⟨WW,_,_,wl,_⟩:=id AQ;refine h _ ⟨I.ok,I.os,I.bare,⟨λb o e n J AJ=>?_,λb o e n J AJ=>?_,I.base.free,λb o e AJ=>?_,I.base.Ln,I.base.L2,I.base.Lm⟩,⟨_,xI,λj y Lo A7 AH B1=>?_⟩,λy c e=>?_,I.free,I.Nm,λp AX=>?_,tracked ⟨WW,wl,I.free⟩ AK,(I.len:)⟩ ⟨_,AK,.inl rfl⟩
  .exact(AK.2 b (Eb (HK (Cr e) I.ok.above))).trans (I.base.keep b o e n J AJ)
  .obtain⟨CJ,A7⟩:=I.base.slot b o e n J AJ;exact⟨CJ,(AK.2 b (Eb (HK (Cr e) I.ok.above))).trans A7⟩
  .obtain⟨Bo,A7⟩:=I.base.there b o e AJ;exact⟨Bo,(AK.2 b (Eb (HK (Cr e) I.ok.above))).trans A7⟩
  .by_cases Bs:j=i
   .subst Bs;rw[AC]at A7;cases A7;rw[Xb ACσ]at AH;cases AH;exact⟨u,r,.inl ⟨AG,γ⟩⟩
   .rw[SW (He Bs)]at AH;obtain⟨FE,BB,q⟩:=AP j y Lo A7 AH B1;refine⟨FE,BB,?_⟩;rcases q with⟨k,e⟩|⟨k,c,e,z⟩
    .refine .inl ⟨k,?_⟩;have:y≠x:=λe=>Bs (me hN A7 (e▸AC));simp[this,e]
    .exact .inr ⟨k,c,e,z.sameBut AK (RK y c e)⟩
  .obtain⟨Fn,z⟩:=I.cell y c e;exact⟨Fn,z.sameBut AK (RK y c e)⟩
  .obtain⟨e,n,ne,Jj,d⟩:=I.pin p AX;exact⟨(AK.2 p.1 ne).trans e,n,ne,Jj,d⟩
 .have dW:X.fn x=true:=by
    rcases hf with z|z
    .exact z
    .rw[z]at AG;cases AG
  obtain⟨c,AO⟩:=I.ok.has x (.inl AG);obtain⟨Fn,z⟩:=I.cell x c AO;refine wpAny_storeName_cell I.ok.kind AG AO z (λh' TC AK=>?_);obtain⟨Hs,kf,wo⟩:=id z;refine h i8 ⟨I.ok,I.os,I.bare,⟨λb o e n J AJ=>?_,λb o e n J AJ=>?_,I.base.free,λb o e AJ=>?_,I.base.Ln,I.base.L2,I.base.Lm⟩,⟨m,AQ.sameBut AK (He (RK x c AO)),λj y Lo A7 AH B1=>?_⟩,λy Eo e=>?_,I.free,I.Nm,λp AX=>?_,tracked ⟨Hs,kf,I.Nm x c AO⟩ AK,(I.len:)⟩ ⟨c,AK,.inr AO⟩
  .exact(AK.2 b (Eb (HK (Cr e) (I.ok.Vt x c dW AO)))).trans (I.base.keep b o e n J AJ)
  .obtain⟨CJ,A7⟩:=I.base.slot b o e n J AJ;exact⟨CJ,(AK.2 b (Eb (HK (Cr e) (I.ok.Vt x c dW AO)))).trans A7⟩
  .obtain⟨Bo,A7⟩:=I.base.there b o e AJ;exact⟨Bo,(AK.2 b (Eb (HK (Cr e) (I.ok.Vt x c dW AO)))).trans A7⟩
  .by_cases Bs:j=i
   .subst Bs;rw[AC]at A7;cases A7;rw[Xb ACσ]at AH;cases AH;exact⟨u,r,.inr ⟨.inl AG,c,AO,TC⟩⟩
   .rw[SW (He Bs)]at AH;obtain⟨FE,BB,q⟩:=AP j y Lo A7 AH B1;refine⟨FE,BB,?_⟩;rcases q with q|⟨k,Eo,e,Fw⟩
    .exact .inl q
    .refine .inr ⟨k,Eo,e,Fw.sameBut AK ?_⟩;rintro rfl;exact Bs (me hN A7 (I.ok.inj _ _ _ e AO▸AC))
  .by_cases kR:Eo=c
   .subst kR;exact⟨_,TC⟩
   .obtain⟨FQ,Db⟩:=I.cell y Eo e;exact⟨FQ,Db.sameBut AK kR⟩
  .obtain⟨e,n,ne,Jj,d⟩:=I.pin p AX;refine⟨(AK.2 p.1 ?_).trans e,n,ne,Jj,d⟩;intro q;rw[q,kf]at e;have Dl:Hs=p.2:=E_ e;exact d Fn (by rw[<-Dl];exact wo)
def q5{M:Model}{A:Bt}{E:ξ}{i:Nat}{x:Str}{v:V}{u:A4}{Q:Unit->ο}(I:π)(hN:X.N.Nodup)(AC:ς)(AJ:Loc X.env.scope x)(r:RelV v u)(h:∀s',Inv X pins (σ.set i (some v)) H s'->Q () s')(hf:X.fn x=true\/X.env.scope.names.lookup x=some .local:=by first|exact .inl rfl|exact .inr rfl|assumption):AW M A (storeName X.env x u) Q E s:=
 q6 I hN AC AJ r (λs' Na _=>h s' Na) hf
def Inv.uV{s':AM}{ch:List A6}(I:π)(AN:s'.os=s.os)(u:GI (Ef X.stack) ch H H' s.heap s'.heap)(BX:E6 X.prog X.w X.K H' s'.heap)(Aa:N1 s'.gens)(NA:∀b∈ch,(b∈X.ex\/X.Fm.heap.objs.size<=b)/\b≠X.env.locals/\(∀x c,X.env.cells.lookup x=some c->c≠b)/\∀p∈X.Bl++pins,p.1≠b):Inv X pins σ H' s':=by obtain⟨h',g',d',t',Bo⟩:=s';have e:Bo=s.os:=AN;subst e;exact I.call (g':=g') (t':=t') (d':=d') u BX Aa NA
end
abbrev D0:=A4->Option A6->AA->Prop
abbrev St:=List (Option V)
abbrev CQ:=V->AA->Prop
abbrev TE:=St->AA->CQ->Prop
abbrev TT:=St->AA->(Bool->AA->Prop)->Prop
abbrev En:=St->AA->(List V->AA->Prop)->Prop
structure Ends where
 BG:St->AA->Prop
 Du:CQ
 Ed:St->AA->Prop:=λ_ _=>False
 Di:St->AA->Prop:=λ_ _=>False
abbrev F4:=Ends->St->AA->Prop
def GZ(X:Ad)(pins:υ)(σ :St)(Q:CQ)(u:A4)(s':AM):Prop:=∃v H',Inv X pins σ H' s'/\RelV v u/\Q v H'
def Yc(X:Ad)(pins:υ)(σ :St)(Q:Bool->AA->Prop)(b:Bool)(s':AM):Prop:=∃H',Inv X pins σ H' s'/\Q b H'
def i4(X:Ad)(pins:υ)(σ :St)(Q:List V->AA->Prop)(us:List A4)(s':AM):Prop:=∃vs H',Inv X pins σ H' s'/\Vals vs us/\Q vs H'
noncomputable def RE(X:Ad)(pins:υ)(D:Ends)(f:Flow)(s':AM):Prop:=
 match f with
 |.next=>∃ σ' H',Inv X pins σ' H' s'/\D.BG σ' H'
 |.brk=>∃ σ' H',Inv X pins σ' H' s'/\D.Ed σ' H'
 |.cont=>∃ σ' H',Inv X pins σ' H' s'/\D.Di σ' H'
 |.ret u=>∃v σ' H',Inv X pins σ' H' s'/\RelV v u/\D.Du v H'
def Ay(X:Ad)(e:AS)(t:TE):Prop:=
 ∀(pins:υ)(s:AM)(σ :St)(H:AA)(Q:CQ),π->t σ H Q->AW ω X.A (BH e X.env) (GZ X pins σ Q) X.xe s
noncomputable def FH(X:Ad)(e:AS)(t:TT):Prop:=
 ∀(pins:υ)(s:AM)(σ :St)(H:AA)(Q:Bool->AA->Prop),π->t σ H Q->AW ω X.A (isTrue e X.env (BH e X.env)) (Yc X pins σ Q) X.xe s
noncomputable def H5(X:Ad)(e:AS)(t:TT):Prop:=
 ∀(whole:Sem A4)(pins:υ)(s:AM)(σ :St)(H:AA)(Q:Bool->AA->Prop),π->t σ H Q->AW ω X.A (isTrue e X.env whole) (Yc X pins σ Q) X.xe s
def H5.pt{X:Ad}{e:AS}{t:TT}(h:H5 X e t):FH X e t:=h _
noncomputable def G5(X:Ad)(A2:List AS)(t:En):Prop:=
 ∀(pos:Pos)(pins:υ)(s:AM)(σ :St)(H:AA)(Q:List V->AA->Prop),π->t σ H Q->AW ω X.A (spliced (Cq pos (B9 A2 X.env))) (i4 X pins σ Q) X.xe s
def Cz(X:Ad)(st:BZ)(t:F4):Prop:=
 ∀(pins:υ)(s:AM)(σ :St)(H:AA)(D:Ends),π->t D σ H->AW ω X.A (exec st X.env) (RE X pins D) X.xe s
def Gb(X:Ad)(st:List BZ)(t:F4):Prop:=
 ∀(pins:υ)(s:AM)(σ :St)(H:AA)(D:Ends),π->t D σ H->AW ω X.A (execs st X.env) (RE X pins D) X.xe s
def Bd{α:Type}{t:Sem α}{Q RC:α->ο}{M:Model}{A:Bt}{E:ξ}{s:AM}(h:AW M A t Q E s)(CI:∀a s,Q a s->RC a s):AW M A t RC E s:=Ha h CI λ_ _ x=>x
section
variable{X:Ad}
def bin{a b:AS}{C1 tb:TE}(AB:Ay X a C1)(J:Ay X b tb){pins:υ}{s:AM}{σ :St}{H:AA}{R:V->V->AA->Prop}(I:π)(h:C1 σ H λx H1=>tb σ H1 λy B7=>R x y B7){α:Type}{Q:α->ο}{f:A4->A4->Sem α}(hf:∀v u s2 x y B7,Inv X pins σ B7 s2->RelV x v->RelV y u->R x y B7->AW ω X.A (f v u) Q X.xe s2) :
  AW ω X.A (BH a X.env) (λv D4=>AW ω X.A (BH b X.env) (λu Io=>AW ω X.A (f v u) Q X.xe Io) X.xe D4) X.xe s:=by
 refine Bd (AB pins s σ H _ I h) λv s1⟨x,H1,B0,AL,Al⟩=>?_;refine Bd (J pins s1 σ H1 _ B0 Al) λu s2⟨y,B7,C3,BA,BN⟩=>?_;exact hf v u s2 x y B7 C3 AL BA BN
def X4(i:Nat):TE:=λσ H Q=>∃v,σ[i]?=some (some v)/\Q v H
def Rw(v:V):TE:=λ_ H Q=>Q v H
def II{i:Nat}{x:Str}{pos:Pos}(hN:ς)(BE:Gf X.env.scope x)(hd:ι:=by decide)(D8:μ:=by decide):Ay X (.Name x pos) (X4 i):=by
 intro pins s σ H Q I h;obtain⟨v,e,h⟩:=h;obtain⟨m,AQ,AP⟩:=I.loc;obtain⟨u,r,l⟩:=AP i x v hN e BE;have fin:GZ X pins σ Q u s:=⟨v,H,I,r,h⟩;rcases l with⟨AG,hm⟩|⟨AG,c,AO,kS⟩
 .exact wpAny_Name (wpAny_loadName_local I.ok.kind AG AQ hm fin) hd
 .rcases AG with AG|AG
  .exact wpAny_Name (wpAny_loadName_cell I.ok.kind AG AO kS fin) hd
  .exact wpAny_Name (wpAny_loadName_free I.ok.kind AG AO kS fin D8) hd
def adH{i j pos}:Ay X (.Constant (.int i) j pos) (Rw (.int i)):=λ_ _ _ H _ I h=>wpAny_Constant_int ⟨.int i,H,I.tok _,⟨_,rfl⟩,h⟩
def ad9{b j pos}:Ay X (.Constant (.bool b) j pos) (Rw (.AV b)):=λ_ _ _ H _ I h=>Constant_bool ⟨.AV b,H,I,rfl,h⟩
def adM{j pos}:Ay X (.Constant .none j pos) (Rw .non):=λ_ _ _ H _ I h=>Constant_none ⟨.non,H,I,rfl,h⟩
def oC{x j pos}:Ay X (.Constant (.str x) j pos) (Rw (.str x)):=λ_ _ _ H _ I h=>Calls.Constant_str ⟨.str x,H,I.tok _,⟨_,rfl⟩,h⟩
def Dg(X:Ad)(x:Str):Prop:=X.env.kindOf x=some .globalImplicit
def aX{E:ξ}{pins:υ}{s:AM}{σ :St}{H:AA}{x:Str}{u:A4}{pos:Pos}{Q:ξ}(I:π)(Aa:Dg X x)(hm:X.mg x=some u)(h:Q u s)(hd:ι:=by decide):AW ω X.A (BH (.Name x pos) X.env) Q E s:=
 rf I.ok.kind Aa (Calls.loadGlobal_global (by rw[I.ok.glob];exact I.mod.glob.keeps I.Ed) hm h) hd
def OT{E:ξ}{pins:υ}{s:AM}{σ :St}{H:AA}{x:Str}{u:A4}{pos:Pos}{Q:ξ}(I:π)(Aa:Dg X x)(hm:X.mg x=none)(BE:LM x=some u)(h:Q u s)(AQ:x≠"__name__":=by decide)(hd:ι:=by decide):AW ω X.A (BH (.Name x pos) X.env) Q E s:=by obtain⟨HA,A5,A8⟩:=I.mod.blt;exact rf I.ok.kind Aa (Calls.loadGlobal_builtin (by rw[I.ok.glob];exact I.mod.glob.keeps I.Ed) hm (by rw[I.ok.blt];exact A5.keeps I.Ed) ((A8 x AQ).trans BE) h) hd
def o9{x:Str}{v:V}{u:A4}{pos:Pos}(Aa:Dg X x)(hm:X.mg x=some u)(r:RelV v u)(hd:ι:=by decide):Ay X (.Name x pos) (Rw v):=
 λ_ _ _ H _ I h=>aX I Aa hm ⟨v,H,I,r,h⟩ hd
def adA{x:Str}{v:V}{u:A4}{pos:Pos}(Aa:Dg X x)(hm:X.mg x=none)(BE:LM x=some u)(r:RelV v u)(AQ:x≠"__name__":=by decide)(hd:ι:=by decide):Ay X (.Name x pos) (Rw v):=
 λ_ _ _ H _ I h=>OT I Aa hm BE ⟨v,H,I,r,h⟩ AQ hd
variable{a b:AS}{C1 tb:TE}{pos:Pos}
noncomputable def Yb(X:Ad)(op:Kc)(a b:AS)(t:TE):Prop:=
 ∀(pins:υ)(s:AM)(σ :St)(H:AA)(Q:CQ),π->t σ H Q->
  AW ω X.A (BH a X.env) (λv D4=>AW ω X.A (BH b X.env) (λu Io=>AW ω X.A (GG op v u) (GZ X pins σ Q) X.xe Io) X.xe D4) X.xe s
def md(b:AS){op:Kc}(h:op≠.In)(A8:op≠.NotIn):IL op b=false:=by
 have A7:(op==CmpOp.In)=false:=by cases op<;>first|rfl|exact absurd rfl h
 have AH:(op==CmpOp.NotIn)=false:=by cases op<;>first|rfl|exact absurd rfl A8
 cases b<;>simp[IL,A7,AH]
def fZ(t:TE):TT:=λσ H Q=>t σ H λx H1=>∃c,x=.AV c/\Q c H1
def o6{op:Kc}{t:TE}(h:Yb X op a b t)(A5:IL op b=false:=by first|exact md _ ε ε|rfl):Ay X (.Compare a [op] [b] pos) t:=λpins s σ H Q I hw=>wpAny_Compare1 (h pins s σ H Q I hw) A5
def nX{op:Kc}{t:TE}(h:Yb X op a b t)(A5:IL op b=false:=by first|exact md _ ε ε|rfl):FH X (.Compare a [op] [b] pos) (fZ t):=by intro pins s σ H Q I hw;refine wpAny_isTrue_Compare1 (Bd (h pins s σ H _ I hw) λv s1 A5=>Bd A5 λu s2 A8=>Bd A8 λc s3⟨x,H1,B0,AL,Al⟩=>?_) A5;obtain⟨d,rfl,q⟩:=Al;cases AL;exact KY ⟨H1,B0,q⟩
def acW{e:AS}{t:TE}(h:Ay X e t)(he:∀whole,isTrue e X.env whole=(do let v <-whole;N2 e.pos;JK [v] (truthy v)):=by intro _;rfl):FH X e (fZ t):=by intro pins s σ H Q I hw;refine isTrue_plain (Bd (h pins s σ H _ I hw) λv s1⟨x,H1,B0,AL,Al⟩=>?_) (he _);obtain⟨d,rfl,q⟩:=Al;cases AL;exact KY ⟨H1,B0,q⟩
variable{EU av:TT}{rest:List AS}
def pY(t u:TT):TT:=λσ H Q=>t σ H λc H1=>if c=true then u σ H1 Q else Q false H1
def rE(t u:TT):TT:=λσ H Q=>t σ H λc H1=>if c=true then Q true H1 else u σ H1 Q
def rC(t:TT):TT:=λσ H Q=>t σ H λc H1=>Q (!c) H1
def acd(AB:FH X a EU):H5 X (.BoolOp .And [a] pos) EU:=by
 intro RQ pins s σ H Q I h;refine isTrue_and (Bd (AB pins s σ H Q I h) λc s1 e=>?_);cases c with
 |true=>exact isTrue_and_nil e
 |false=>exact e
def ae9(AB:FH X a EU):H5 X (.BoolOp .Or [a] pos) EU:=by
 intro RQ pins s σ H Q I h;refine isTrue_or (Bd (AB pins s σ H Q I h) λc s1 e=>?_);cases c with
 |false=>exact isTrue_or_nil e
 |true=>exact e
def acb(AB:FH X a EU)(J:H5 X (.BoolOp .And (b::rest) pos) av):H5 X (.BoolOp .And (a::b::rest) pos) (pY EU av):=by
 intro RQ pins s σ H Q I h;refine isTrue_and (Bd (AB pins s σ H _ I h) λc s1⟨H1,B0,Al⟩=>?_);cases c with
 |true=>exact J RQ pins s1 σ H1 Q B0 Al
 |false=>exact⟨H1,B0,Al⟩
def ae8(AB:FH X a EU)(J:H5 X (.BoolOp .Or (b::rest) pos) av):H5 X (.BoolOp .Or (a::b::rest) pos) (rE EU av):=by
 intro RQ pins s σ H Q I h;refine isTrue_or (Bd (AB pins s σ H _ I h) λc s1⟨H1,B0,Al⟩=>?_);cases c with
 |true=>exact⟨H1,B0,Al⟩
 |false=>exact J RQ pins s1 σ H1 Q B0 Al
def acV(AB:FH X a EU):FH X (.UnaryOp .Not a pos) (rC EU):=by intro pins s σ H Q I h;exact isTrue_not (AB pins s σ H (λc H1=>Q (!c) H1) I h)
def pZ(C1 tb:TE):TE:=λσ H Q=>C1 σ H λx H1=>∃c,x=.AV c/\if c=true then tb σ H1 Q else Q (.AV false) H1
def rF(C1 tb:TE):TE:=λσ H Q=>C1 σ H λx H1=>∃c,x=.AV c/\if c=true then Q (.AV true) H1 else tb σ H1 Q
def rD(C1:TE):TE:=λσ H Q=>C1 σ H λx H1=>∃c,x=.AV c/\Q (.AV (!c)) H1
def adO{op}{t:TE}(h:Ay X a t):Ay X (.BoolOp op [a] pos) t:=λpins s σ H Q I hw=>BoolOp_one (h pins s σ H Q I hw)
def ad8(AB:Ay X a C1)(J:Ay X (.BoolOp .And (b::rest) pos) tb):Ay X (.BoolOp .And (a::b::rest) pos) (pZ C1 tb):=by
 intro pins s σ H Q I h;refine BoolOp_and (Bd (AB pins s σ H _ I h) λv s1⟨x,H1,B0,AL,Al⟩=>?_);obtain⟨c,rfl,Al⟩:=Al;cases AL;refine KY ?_;cases c with
 |true=>exact J pins s1 σ H1 Q B0 Al
 |false=>exact⟨.AV false,H1,B0,rfl,Al⟩
def adP(AB:Ay X a C1)(J:Ay X (.BoolOp .Or (b::rest) pos) tb):Ay X (.BoolOp .Or (a::b::rest) pos) (rF C1 tb):=by
 intro pins s σ H Q I h;refine BoolOp_or (Bd (AB pins s σ H _ I h) λv s1⟨x,H1,B0,AL,Al⟩=>?_);obtain⟨c,rfl,Al⟩:=Al;cases AL;refine KY ?_;cases c with
 |false=>exact J pins s1 σ H1 Q B0 Al
 |true=>exact⟨.AV true,H1,B0,rfl,Al⟩
def adN(AB:Ay X a C1):Ay X (.UnaryOp .Not a pos) (rD C1):=by intro pins s σ H Q I h;refine UnaryOp_ (Bd (AB pins s σ H _ I h) λv s1⟨x,H1,B0,AL,Al⟩=>?_);obtain⟨c,rfl,Al⟩:=Al;cases AL;exact not_of (KY ⟨.AV (!c),H1,B0,rfl,Al⟩)
def qB(t:TT)(C1 tb:TE):TE:=λσ H Q=>t σ H λc H1=>if c=true then C1 σ H1 Q else tb σ H1 Q
def adG{c:AS}(AO:FH X c EU)(AB:Ay X a C1)(J:Ay X b tb):Ay X (.IfExp c a b pos) (qB EU C1 tb):=by
 intro pins s σ H Q I h;refine wpAny_IfExp (Bd (AO pins s σ H _ I h) λd s1⟨H1,B0,Al⟩=>?_);cases d with
 |true=>exact AB pins s1 σ H1 Q B0 Al
 |false=>exact J pins s1 σ H1 Q B0 Al
end
noncomputable def C4(K:AZ)(H:AA)(a:A6)(xs:List V):Prop:=
 Fc H a (.lst xs)\/
  ∃(o:Obj)(its:Array A4)(n:Nat),K.lookup a=some o/\o.cls=.type "list"/\o.dict=none/\o.data=.seq its n/\its.size<=CK/\Vals xs its.toList
noncomputable def Ct(K:AZ)(H:AA)(a:A6)(xs:List V):Prop:=
 Fc H a (.tup xs)\/
  ∃(o:Obj)(its:Array A4)(n:Nat),K.lookup a=some o/\o.cls=.type "tuple"/\o.data=.seq its n/\its.size<=CK/\Vals xs its.toList
noncomputable def sl:A4->Option V
 |.none=>some .non
 |.bool b=>some (.AV b)
 |.int i _=>some (.int i)
 |.str x _=>some (.str x)
 |.bytes b _=>some (.Ni b)
 |.float b _=>some (.ZC b)
 |.ref a=>some (.ref a)
 |.type n=>some (.ty n)
 |_=>none
def RelV.abs{x:V}{u:A4}(r:RelV x u):sl u=some x:=by
 cases x with
 |non=>cases r;rfl
 |AV _=>cases r;rfl
 |int _=>obtain⟨t,rfl⟩:=r;rfl
 |str _=>obtain⟨t,rfl⟩:=r;rfl
 |Ni _=>obtain⟨t,rfl⟩:=r;rfl
 |ZC _=>obtain⟨t,rfl⟩:=r;rfl
 |ref _=>cases r;rfl
 |ty _=>cases r;rfl
def RelV.inj{x y:V}{u:A4}(r:RelV x u)(q:RelV y u):x=y:=E_ (r.abs.symm.trans q.abs)
theorem Vals.inj:∀{xs ys:List V}{us:List A4},Vals xs us->Vals ys us->xs=ys
 |_,_,_,.nil,.nil=>rfl
 |_,_,_,.cons r t,.cons BB t'=>by rw[r.inj BB,Vals.inj t t']
section
variable{X:Ad}{pins:υ}{σ :St}{H:AA}{s:AM}{a:A6}{xs ys:List V}
def C4.of{K:AZ}(h:H a=some (.lst xs)):C4 K H a xs:=.inl (.inl h)
def Ct.of{K:AZ}(h:H a=some (.tup xs)):Ct K H a xs:=.inl (.inl h)
def Inv.list(I:π)(h:C4 X.K H a xs):∃its:List A4,Vals xs its/\PlainL s.heap a its.toArray/\xs.length<=CK:=by
 rcases h with h|⟨o,its,n,AG,AO,hd,AK,Ao,r⟩
 .obtain⟨z,its,n,r,e⟩:=h.ok I.BX;exact⟨its,r,⟨_,n,e,rfl,rfl,rfl⟩,z⟩
 .refine⟨its.toList,r,⟨o,n,I.EA a o AG,AO,hd,(AK:)⟩,?_⟩;have e:=r.length;erw[SX]at e;lia
def Inv.tuple(I:π)(h:Ct X.K H a xs):∃its:List A4,Vals xs its/\IsTup s.heap a its.toArray/\xs.length<=CK:=by
 rcases h with h|⟨o,its,n,AG,AO,AK,Ao,r⟩
 .obtain⟨z,its,r,p⟩:=h.ok I.BX;exact⟨its,r,p,z⟩
 .refine⟨its.toList,r,⟨o,I.EA a o AG,AO,n,(AK:)⟩,?_⟩;have e:=r.length;erw[SX]at e;lia
def Inv.ci(I:π)(h:C4 X.K H a xs)(h':C4 X.K H a ys):xs=ys:=by
 obtain⟨its,r,⟨o,n,e,_,_,d⟩,_⟩:=I.list h;obtain⟨its',BB,⟨Bo,GV,CF,_,_,d'⟩,_⟩:=I.list h';rw[e]at CF;cases CF;rw[d]at d';injection d' with d1 _;have:its=its':=(congrArg Array.toList d1:)
 subst this;exact r.inj BB
def Inv.et(I:π)(h:Ct X.K H a xs)(h':Ct X.K H a ys):xs=ys:=by
 obtain⟨its,r,⟨o,e,_,n,d⟩,_⟩:=I.tuple h;obtain⟨its',BB,⟨Bo,CF,_,GV,d'⟩,_⟩:=I.tuple h';rw[e]at CF;cases CF;rw[d]at d';injection d' with d1 _;have:its=its':=(congrArg Array.toList d1:)
 subst this;exact r.inj BB
end
noncomputable abbrev Ad.Kx(X:Ad)(E:ξ):Ad:={ X with xe:=E }
abbrev Ad.Hr(X:Ad):Ad:=X.Kx λ_ _=>False
theorem Ad.Ok.Kx{X:Ad}(ok:X.Ok)(E:ξ):(X.Kx E).Ok:=
 ⟨ok.mod,ok.kind,ok.glob,ok.blt,ok.above,ok.inj,ok.has,ok.Vt,ok.hd,ok.frames,ok.U2,ok.jh,ok.bs,ok.QA,ok.Rl,ok.Z8,ok.K8,ok.S0⟩
def Ad.Ok.KR{X:Ad}{E:ξ}(ok:(X.Kx E).Ok):X.Ok:=
 ⟨ok.mod,ok.kind,ok.glob,ok.blt,ok.above,ok.inj,ok.has,ok.Vt,ok.hd,ok.frames,ok.U2,ok.jh,ok.bs,ok.QA,ok.Rl,ok.Z8,ok.K8,ok.S0⟩
section
variable{X:Ad}{pins:υ}{σ :St}{H:AA}{s:AM}{E:ξ}
theorem Inv.Kx(I:π)(E:ξ):Inv (X.Kx E) pins σ H s:=⟨I.ok.Kx E,I.os,I.bare,I.base,I.loc,I.cell,I.free,I.Nm,I.pin,I.BX,I.len⟩
theorem Inv.KR(I:Inv (X.Kx E) pins σ H s):π:=⟨I.ok.KR,I.os,I.bare,I.base,I.loc,I.cell,I.free,I.Nm,I.pin,I.BX,I.len⟩
theorem RE.KR{D:Ends}{f:Flow}{s':AM}(h:RE (X.Kx E) pins D f s'):RE X pins D f s':=by
 cases f with
 |next=>obtain⟨σ',H',I,q⟩:=h;exact⟨σ',H',I.KR,q⟩
 |brk=>obtain⟨σ',H',I,q⟩:=h;exact⟨σ',H',I.KR,q⟩
 |cont=>obtain⟨σ',H',I,q⟩:=h;exact⟨σ',H',I.KR,q⟩
 |ret u=>obtain⟨v,σ',H',I,r,q⟩:=h;exact⟨v,σ',H',I.KR,r,q⟩
theorem Gb.Hr{st:List BZ}{t:F4}(h:Gb X.Hr st t):Gb X st t:=λpins s σ H D I hw=>
 Ha (h pins s σ H D (I.Kx _) hw) (λ_ _ q=>q.KR) λ_ _ z=>KZ z
end
section
variable{X:Ad}{st:BZ}{rest:List BZ}{t u:F4}{e:AS}{Dv:TE}{pos:Pos}
def fe:F4:=λD σ H=>D.BG σ H
def fg(t u:F4):F4:=λD σ H=>t { D with BG:=u D } σ H
def nW:Gb X [] fe:=λ_ _ σ H _ I h=>Xm ⟨σ,H,I,h⟩
def nV(A5:Cz X st t)(A8:Gb X rest u):Gb X (st::rest) (fg t u):=by
 intro pins s σ H D I h;refine wpAny_execs_cons (Bd (A5 pins s σ H { D with BG:=u D } I h) λf s1 q=>?_);cases f with
 |next=>obtain⟨σ',H',Na,q⟩:=q;exact A8 pins s1 σ' H' D Na q
 |ret v=>exact q
 |brk=>exact q
 |cont=>exact q
def eF(A5:Cz X st t):Gb X [st] t:=by
 intro pins s σ H D I h;refine wpAny_execs_cons (Bd (A5 pins s σ H D I h) λf s1 q=>?_);cases f with
 |next=>exact Xm q
 |ret v=>exact q
 |brk=>exact q
 |cont=>exact q
def Inv.quiet{pins:υ}{σ :St}{H:AA}{s:AM}(I:π):interactive X.env=false:=by simp[interactive,I.ok.kind]
def fa(Dv:TE):F4:=λD σ H=>Dv σ H λ_ H1=>D.BG σ H1
def W4(he:Ay X e Dv)(AK:M6 e none pos.line X.env=pure false:=by rfl):Cz X (.Expr e pos) (fa Dv):=by intro pins s σ H D I h;exact wpAny_Expr_any (Bd (he pins s σ H _ I h) λv s1⟨x,H1,B0,AL,Al⟩=>⟨σ,H1,B0,Al⟩) I.quiet AK
def b1(Dv:TE):F4:=λD σ H=>Dv σ H D.Du
def W5(he:Ay X e Dv):Cz X (.Return (some e) pos) (b1 Dv):=by intro pins s σ H D I h;exact wpAny_Return_some (Bd (he pins s σ H _ I h) λv s1⟨x,H1,B0,AL,Al⟩=>⟨x,σ,H1,B0,AL,Al⟩)
def fb(c:TT)(t u:F4):F4:=λD σ H=>c σ H λb H1=>if b=true then t D σ H1 else u D σ H1
def oS{c:AS}{a b:List BZ}{GX:TT}(AO:FH X c GX)(AB:Gb X a t)(J:Gb X b u):Cz X (.If c a b pos) (fb GX t u):=by
 intro pins s σ H D I h;refine wpAny_If (Bd (AO pins s σ H _ I h) λd s1⟨H1,B0,Al⟩=>?_);cases d with
 |true=>exact AB pins s1 σ H1 D B0 Al
 |false=>exact J pins s1 σ H1 D B0 Al
def rB:F4:=λ_ _ _=>False
def oT:Cz X st rB:=λ_ _ _ _ _ _ h=>h.elim
end
abbrev IW:=V->St->AA->(St->AA->Prop)->Prop
abbrev Nc:=List V->St->AA->(St->AA->Prop)->Prop
noncomputable def K1(X:Ad)(target:AS)(t:IW):Prop:=
 ∀(pins:υ)(s:AM)(σ :St)(H:AA)(v:V)(u:A4)(Q:St->AA->Prop),π->RelV v u->t v σ H Q->
  AW ω X.A (Ka target X.env u) (λ_ s'=>∃ σ' H',Inv X pins σ' H' s'/\Q σ' H') X.xe s
noncomputable def Vg(X:Ad)(Az:List AS)(t:Nc):Prop:=
 ∀(pins:υ)(s:AM)(σ :St)(H:AA)(vs:List V)(us:List A4)(Q:St->AA->Prop),π->Vals vs us->t vs σ H Q->
  AW ω X.A (assignInOrder ((LL Az X.env).map (·.2)) us) (λ_ s'=>∃ σ' H',Inv X pins σ' H' s'/\Q σ' H') X.xe s
abbrev ht:=V->V->V->AA->(AA->Prop)->Prop
noncomputable def iu(X:Ad)(t:ht):Prop:=
 ∀(pins:υ)(s:AM)(σ :St)(H:AA)(o i v:V)(D1 Fs u:A4)(Q:AA->Prop),π->RelV o D1->RelV i Fs->RelV v u->t o i v H Q->
  AW ω X.A (setItem D1 Fs u) (λ_ s'=>∃H',Inv X pins σ H' s'/\Q H') X.xe s
section
variable{X:Ad}{pos:Pos}
def J1(i:Nat):IW:=λv σ H Q=>Q (σ.set i (some v)) H
def Zr{i:Nat}{x:Str}(hN:X.N.Nodup)(AC:ς)(AJ:Loc X.env.scope x)(hf:X.fn x=true\/X.env.scope.names.lookup x=some .local:=by first|exact .inl rfl|exact .inr rfl|assumption):K1 X (.Name x pos) (J1 i):=by intro pins s σ H v u Q I r h;exact wpAny_assign_Name (q5 I hN AC AJ r (λs' Na=>⟨_,H,Na,h⟩) hf)
def ZF:Nc:=λvs σ H Q=>vs=[]/\Q σ H
def VQ(t:IW)(u:Nc):Nc:=λvs σ H Q=>∃v r,vs=v::r/\t v σ H λσ' H'=>u r σ' H' Q
def oF:Vg X [] ZF:=by intro pins s σ H vs us Q I r h;obtain⟨e,h⟩:=h;subst e;cases r;exact assignInOrder_nil ⟨σ,H,I,h⟩
def eB{e:AS}{A2:List AS}{t:IW}{u:Nc}(A5:K1 X e t)(A8:Vg X A2 u)(AK:(LL (e::A2) X.env).map (·.2)=Ka e X.env::(LL A2 X.env).map (·.2):=by rfl):Vg X (e::A2) (VQ t u):=by
 intro pins s σ H vs us Q I r h;obtain⟨v,Kv,A7,h⟩:=h;subst A7;cases r with
 |cons r LV=>rw[AK];refine assignInOrder_cons (Bd (A5 pins s σ H _ _ _ I r h) λ_ s1⟨σ1,H1,B0,Al⟩=>?_);exact A8 pins s1 σ1 H1 _ _ Q B0 LV Al
def ZG(K:AZ)(n:Nat)(t:Nc):IW:=λv σ H Q=>∃a xs,v=.ref a/\Ct K H a xs/\xs.length=n/\t xs σ H Q
def oE{A2:List AS}{k:Nat}{t:Nc}{n:Nat}(AO:X.calm=true)(h:Vg X A2 t)(AQ:(LL A2 X.env).length=n:=by rfl)(Gk:(LL A2 X.env).findIdx? (·.1)=none:=by rfl):K1 X (.Tuple A2 k pos) (ZG X.K n t):=by intro pins s σ H v u Q I r hw;obtain⟨a,xs,A7,AT,AP,hw⟩:=hw;subst A7;cases r;obtain⟨its,C9,Ax,Ao⟩:=I.tuple AT;refine assign_Tuple_tuple (I.ok.hd AO) Ax (by simp[AQ,<-AP,C9.length]) Gk λh' AJ=>?_;have B0:Inv X pins σ H i8:=I.kept (t':=s.toks) λb o e=>AJ b o (Eb (Cr e)) e;exact h pins _ σ H xs _ Q B0 (C9:) hw
def vp(to b4:TE)(t:ht):IW:=λv σ H Q=>to σ H λo H1=>b4 σ H1 λi B7=>t o i v B7 λCx=>Q σ Cx
def adU {o i:AS} {to b4:TE} {t:ht} (AN:Ay X o to) (AC:Ay X i b4) (AK:iu X t)(AB:∀v,Ka (.Subscript o i pos) X.env v=(do
    let D1 <-JK [v] (BH o X.env)
    let Fs <-JK [v,D1] (BH i X.env)
    N2 pos
    JK [v,D1,Fs] (setItem D1 Fs v)
    release [v,D1,Fs] []):=by intro _;rfl):K1 X (.Subscript o i pos) (vp to b4 t):=by
 intro pins s σ H v u Q I r h;rw[AB];refine AF (Hb (Bd (AN pins s σ H _ I h) λD1 s1⟨x,H1,B0,AL,Al⟩=>?_));refine AF (Hb (Bd (AC pins s1 σ H1 _ B0 Al) λFs s2⟨y,B7,C3,BA,BN⟩=>?_));refine AF (wpAny_standAt (AF (Hb (Bd (AK pins s2 σ B7 x y v D1 Fs u _ C3 AL BA r BN) λ_ s3⟨Cx,DX,Dt⟩=>?_))));exact wpAny_release ⟨σ,Cx,DX,Dt⟩
def MH(Dv:TE)(g:IW):F4:=λD σ H=>Dv σ H λx H1=>g x σ H1 D.BG
def oP{Bj e:AS}{Dv:TE}{g:IW}(he:Ay X e Dv)(Aa:K1 X Bj g)(AK:swapsWithSole [Bj] e pos.line X.env=pure false:=by rfl)(hw:swappedStores [Bj] e X.env=pure none:=by rfl)(A5:(LL [Bj] X.env).map (·.2)=[Ka Bj X.env]:=by rfl):Cz X (.Assign [Bj] e pos) (MH Dv g):=by intro pins s σ H D I h;refine wpAny_Assign_stores (Bd (he pins s σ H _ I h) λv s1⟨x,H1,B0,AL,Al⟩=>?_) AK hw;rw[A5];exact Bd (Aa pins s1 σ H1 x v _ B0 AL Al) λ_ s2 q=>q
def bI{i:Nat}{x:Str}{e:AS}{Dv:TE}{pos':Pos}(hN:X.N.Nodup)(AC:ς)(AJ:Loc X.env.scope x)(he:Ay X e Dv)(AK:M6 e (some (.Name x pos')) pos.line X.env=pure false:=by rfl)(hf:X.fn x=true\/X.env.scope.names.lookup x=some .local:=by first|exact .inl rfl|exact .inr rfl|assumption) :
  Cz X (.Assign [.Name x pos'] e pos) (MH Dv (J1 i)):=by
 intro pins s σ H D I h;refine wpAny_Assign_Name (Bd (he pins s σ H _ I h) λv s1⟨y,H1,B0,AL,Al⟩=>?_) AK;exact q5 B0 hN AC AJ AL (λs2 C3=>⟨_,H1,C3,Al⟩) hf
end
section
variable{X:Ad}{pos:Pos}
noncomputable def rK(c:TT)(tb:F4):F4:=λD σ H=>∃W:Nat->St->AA->Prop,(∃m,W m σ H)/\∀m σ H,W m σ H->
 c σ H λb H1=>if b=true then ∃N:St->AA->Prop,(∀ σ' H',N σ' H'->∃Ds,Ds<m/\W Ds σ' H')/\tb { D with BG:=N,Di:=N,Ed:=D.BG } σ H1 else D.BG σ H1
def ad2{c:AS}{body:List BZ}{GX:TT}{tb:F4}(AX:PassesOwn ω X.A X.env X.xe)(AO:FH X c GX)(J:Gb X body tb):Cz X (.While c body [] pos) (rK GX tb):=by
 intro pins s σ H D I h;obtain⟨W,⟨m0,OK⟩,turn⟩:=h;refine wpAny_While (codeAny_whileLoop (λn s'=>∃ σ' H',Inv X pins σ' H' s'/\W n σ' H') ?_ m0 ⟨σ,H,I,OK⟩);rintro n s1 ⟨σ1,H1,B0,Fo⟩;refine Qa AX (Bd (AO pins s1 σ1 H1 _ B0 (turn n σ1 H1 Fo)) λb s2⟨B7,C3,BN⟩=>?_);cases b with
 |true=>
  obtain⟨N,hN,BN⟩:=BN;rw[if_pos rfl];refine Qa AX (Bd (J pins s2 σ1 B7 _ C3 BN) λf s3 Dt=>?_);cases f with
  |next=>obtain⟨σ3,Cx,DX,Kn⟩:=Dt;obtain⟨Ds,hm,IP⟩:=hN σ3 Cx Kn;exact⟨Ds,hm,σ3,Cx,DX,IP⟩
  |cont=>obtain⟨σ3,Cx,DX,Kn⟩:=Dt;obtain⟨Ds,hm,IP⟩:=hN σ3 Cx Kn;exact⟨Ds,hm,σ3,Cx,DX,IP⟩
  |brk=>exact Dt
  |ret v=>exact Dt
 |false=>rw[if_neg Fq];exact Xm ⟨σ1,B7,C3,BN⟩
end
structure It where
 go:Nat->AA->Prop
 Jq:Nat->AA->V->AA->Prop
 stop:Nat->AA->Prop
def Jz(X:Ad)(pins:υ)(H:AA)(b:A6):Prop:=
 H b=none/\b≠X.env.locals/\b∉X.Aw/\(b∈X.ex\/X.Fm.heap.objs.size<=b)/\(∀x c,X.env.cells.lookup x=some c->c≠b)/\∀p∈X.Bl++pins,p.1≠b
def Inv.Ou{X:Ad}{pins:υ}{σ :St}{H H':AA}{s:AM}{b:A6}(I:π)(J:s.heap.objs.size<=b)(AQ:H' b=none):Jz X pins H' b:=by
 refine⟨AQ,M5 (HK I.lt J),I.acK J,.inr (Fp I.Ll J),λx c e z=>?_,λp AX z=>?_⟩
 .obtain⟨v,q⟩:=I.cell x c e;exact absurd (HK q.lt (by rw[z];exact J)) (Hc _)
 .exact absurd (HK (Cr (I.pin p AX).1) (by rw[z];exact J)) (Hc _)
structure Turn(P:Ba)(w:BL)(K:AZ)(Bj:AS)(Cb:It)(Ah:List A6)(it:A6)(HF:Nat->B2->Prop):Prop where
 mem:it∈Ah
 obj:∀i h,HF i h->∀b∈Ah,∃o,h.get? b=some o/\∀v,o.data≠.cell v
 keep:∀i h h',HF i h->(∀b∈Ah,∀o,h.get? b=some o->h'.get? b=some o)->HF i h'
 item:∀(X:Ad),X.prog=P->X.w=w->X.K=K->X.calm=true->∀(i:Nat)(pins:υ)(s:AM)(σ :St)(H:AA)(E:ξ),π->(∀b∈Ah,Jz X pins H b)->HF i s.heap->Cb.go i H->
  AW (Aq P w) X.A (Gs (.ref it)) (λr s1=>∃u,r=some u/\
   AW (Aq P w) X.A (Xn Bj (.ref it) u) (λ_ s2=>∃x H',Inv X pins σ H' s2/\RelV x u/\Cb.Jq i H x H'/\HF (i+1) s2.heap/\∀b∈Ah,H' b=none) E s1) E s
 done:∀(X:Ad),X.prog=P->X.w=w->X.K=K->X.calm=true->∀(i:Nat)(pins:υ)(s:AM)(σ :St)(H:AA)(E:ξ),π->(∀b∈Ah,Jz X pins H b)->HF i s.heap->Cb.stop i H->
  AW (Aq P w) X.A (Gs (.ref it)) (λr s1=>r=none/\Inv X pins σ H s1) E s
 self:∀(A:Bt)(i:Nat)(s:AM)(Q:ξ)(E:ξ),HF i s.heap->Q (.ref it) s->AW (Aq P w) A (pyIter (.ref it)) Q E s
abbrev TI:=St->AA->(It->AA->Prop)->Prop
noncomputable def ir(X:Ad)(pins:υ)(σ :St)(Bj:AS)(R:It->AA->Prop)(aO:A4)(s2:AM):Prop:=
 ∃(it:A6)(Ah:List A6)(HF:Nat->B2->Prop)(Cb:It)(H':AA),aO=.ref it/\Inv X pins σ H' s2/\Turn X.prog X.w X.K Bj Cb Ah it HF/\HF 0 s2.heap/\(∀b∈Ah,Jz X pins H' b)/\R Cb H'
noncomputable def G6(X:Ad)(Bj iter:AS)(Iq:TI):Prop:=
 ∀(pins:υ)(s:AM)(σ :St)(H:AA)(R:It->AA->Prop),π->Iq σ H R->
  AW ω X.A (BH iter X.env) (λv s1=>AW ω X.A (pyIter v) (ir X pins σ Bj R) X.xe s1) X.xe s
def ZL{M:Model}{A:Bt}{E:ξ}{s:AM}{Bj:AS}{it:A6}{u:A4}{o:Obj}{n:String}{vs:Array A4}{Q:Unit->ο}(AN:s.heap.get? it=some o)(AO:o.cls=.type n)(hd:o.data=.fields vs)(AQ:["enumerate","zip","dict_itemiterator","dict_reverseitemiterator","odict_iterator","itertools.zip_longest","itertools.pairwise"].contains n=false)(CI:Q () s):AW M A (Xn Bj (.ref it) u) Q E s:=by
 unfold Xn
 cases Bj<;>first
  |exact Ag CI
  |(cases u<;>first
      |exact Ag CI
      |(refine AF (wpAny_load AN ?_)
        rw[AO,hd];show AW M A (if(["enumerate","zip","dict_itemiterator","dict_reverseitemiterator","odict_iterator","itertools.zip_longest","itertools.pairwise"].contains n&&vs[0]?==some (I1 _))=true then _ else _) Q E s;rw[if_neg (by intro h;rw[AQ,Bool.false_and]at h;cases h)];exact Ag CI))
def ha(K:AZ)(a:A6):It:=
 ⟨λi H=>∃xs x,C4 K H a xs/\xs[i]?=some x,λi H x H'=>H'=H/\∀xs,C4 K H a xs->xs[i]?=some x,λi H=>∃xs,C4 K H a xs/\xs.length<=i⟩
def hc(K:AZ)(a:A6):It:=
 ⟨λi H=>∃xs x,Ct K H a xs/\xs[i]?=some x,λi H x H'=>H'=H/\∀xs,Ct K H a xs->xs[i]?=some x,λi H=>∃xs,Ct K H a xs/\xs.length<=i⟩
def Ux(lo:Int)(n:Nat):It:=⟨λi _=>i<n,λi H x H'=>H'=H/\x=.int (lo+i),λi _=>n<=i⟩
def afy{P:Ba}{w:BL}{K:AZ}{Bj:AS}(a it:A6):Turn P w K Bj (ha K a) [it] it (λi h=>h.IsListIter it a i) where
 mem:=γ
 obj:=λi h st b J=>by
  have e:b=it:=(J:)
  subst e;obtain⟨o,e,c,d⟩:=st;exact⟨o,e,λv z=>by rw[d]at z;cases z⟩
 keep:=λi h h' st k=>st.at λo e=>k it γ o e
 item:=by intro X hP hw Ar AO i pins s σ H E I hf st Aa;subst hP hw Ar;obtain⟨xs,x,AT,AJ⟩:=Aa;obtain⟨its,C9,p,Ao⟩:=I.list AT;obtain⟨u,BD,FA⟩:=C9.get AJ;obtain⟨f0,f1,f2,Fh,f4,GS⟩:=hf it γ;refine wpAny_pyNext_list_item st p.isList (x:=u) (BD:) λh' MF KP=>?_;have B0:Inv X pins σ H i8:=I.turned (t':=s.toks) (λb o J e=>(KP.2 b J).trans e) f0 f1 Fh f4 GS;obtain⟨o,e,c,d⟩:=id MF;exact⟨u,rfl,ZL (s:=i8) e c d ε ⟨x,H,B0,FA,⟨rfl,λys BO=>by rw[I.ci BO AT];exact AJ⟩,MF,λb J=>(hf b J).1⟩⟩
 done:=by intro X hP hw Ar AO i pins s σ H E I hf st Aa;subst hP hw Ar;obtain⟨xs,AT,AJ⟩:=Aa;obtain⟨its,C9,p,Ao⟩:=I.list AT;obtain⟨f0,f1,f2,Fh,f4,GS⟩:=hf it γ;have AP:=C9.length;exact wpAny_pyNext_list_end (I.ok.hd AO) st p.isList θ λh' Bh=>⟨rfl,I.turned (t':=s.toks) (λb o J e=>Bh b o J e) f0 f1 Fh f4 GS⟩
 self:=λ_ _ _ _ _ st h=>wpAny_pyIter_listiter st h
def ag1{P:Ba}{w:BL}{K:AZ}{Bj:AS}(a it:A6):Turn P w K Bj (hc K a) [it] it (λi h=>h.IsTupleIter it a i) where
 mem:=γ
 obj:=λi h st b J=>by
  have e:b=it:=(J:)
  subst e;obtain⟨o,e,c,d⟩:=st;exact⟨o,e,λv z=>by rw[d]at z;cases z⟩
 keep:=λi h h' st k=>st.at λo e=>k it γ o e
 item:=by intro X hP hw Ar AO i pins s σ H E I hf st Aa;subst hP hw Ar;obtain⟨xs,x,AT,AJ⟩:=Aa;obtain⟨its,C9,p,Ao⟩:=I.tuple AT;obtain⟨u,BD,FA⟩:=C9.get AJ;obtain⟨f0,f1,f2,Fh,f4,GS⟩:=hf it γ;refine wpAny_pyNext_tuple_item st (show s.heap.IsTuple a its.toArray from p) (x:=u) (BD:) λh' MF KP=>?_;have B0:Inv X pins σ H i8:=I.turned (t':=s.toks) (λb o J e=>(KP.2 b J).trans e) f0 f1 Fh f4 GS;obtain⟨o,e,c,d⟩:=id MF;exact⟨u,rfl,ZL (s:=i8) e c d ε ⟨x,H,B0,FA,⟨rfl,λys BO=>by rw[I.et BO AT];exact AJ⟩,MF,λb J=>(hf b J).1⟩⟩
 done:=by intro X hP hw Ar AO i pins s σ H E I hf st Aa;subst hP hw Ar;obtain⟨xs,AT,AJ⟩:=Aa;obtain⟨its,C9,p,Ao⟩:=I.tuple AT;obtain⟨f0,f1,f2,Fh,f4,GS⟩:=hf it γ;have AP:=C9.length;exact wpAny_pyNext_tuple_end (I.ok.hd AO) st (show s.heap.IsTuple a its.toArray from p) θ λh' Bh=>⟨rfl,I.turned (t':=s.toks) (λb o J e=>Bh b o J e) f0 f1 Fh f4 GS⟩
 self:=λ_ _ _ _ _ st h=>wpAny_pyIter_tupleiter st h
def afz{P:Ba}{w:BL}{K:AZ}{Bj:AS}(it:A6)(lo:Int)(n:Nat):Turn P w K Bj (Ux lo n) [it] it (λi h=>IsRangeIter h it (lo+(i:Nat)*1) ((n:Int)-(i:Nat)) 1) where
 mem:=γ
 obj:=λi h st b J=>by
  have e:b=it:=(J:)
  subst e;exact⟨_,st,λv z=>by have Fw:YF _=Sj v:=z;cases Fw⟩
 keep:=λi h h' st k=>k it γ _ st
 item:=by intro X hP hw Ar AO i pins s σ H E I hf st Aa;subst hP hw Ar;obtain⟨f0,f1,f2,Fh,f4,GS⟩:=hf it γ;have W:=Walks.range (prog:=X.prog) (w:=X.w) (I.ok.hd AO) it lo 1 n;refine W.item i s _ _ Aa st λv h' BU BE MF Bp=>?_;obtain⟨t,rfl⟩:=BE;have B0:Inv X pins σ H BT:=I.turned (λb o J e=>Bp b o (J:) e) f0 f1 Fh f4 GS;refine⟨_,rfl,ZL (s:=BT) (n:="range_iterator") MF rfl rfl ε ⟨.int (lo+i),H,B0,⟨t,?_⟩,⟨rfl,rfl⟩,MF,λb J=>(hf b J).1⟩⟩;rw[Int.mul_one]
 done:=by intro X hP hw Ar AO i pins s σ H E I hf st Aa;subst hP hw Ar;obtain⟨f0,f1,f2,Fh,f4,GS⟩:=hf it γ;exact wpAny_pyNext_range_end (I.ok.hd AO) st (by have:n<=i:=Aa;lia) λh' Bh=>⟨rfl,I.turned (t':=s.toks) (λb o J e=>Bh b o J e) f0 f1 Fh f4 GS⟩
 self:=λ_ _ _ _ _ st h=>wpAny_pyIter_rangeiter st h
section
variable{X:Ad}{Bj:AS}
def lp(K:AZ)(Ei:TE):TI:=λσ H R=>Ei σ H λx H1=>∃a,x=.ref a/\(∃xs,C4 K H1 a xs)/\R (ha K a) H1
def lx(K:AZ)(Ei:TE):TI:=λσ H R=>Ei σ H λx H1=>∃a,x=.ref a/\(∃xs,Ct K H1 a xs)/\R (hc K a) H1
def acg{l:AS}{Ei:TE}(AP:Ay X l Ei):G6 X Bj l (lp X.K Ei):=by
 intro pins s σ H R I h;refine Bd (AP pins s σ H _ I h) λv s1⟨x,H1,B0,AL,Al⟩=>?_;obtain⟨a,e,⟨xs,AT⟩,q⟩:=Al;subst e;cases AL;obtain⟨its,C9,p,Ao⟩:=B0.list AT;refine gM p.isList ?_;refine⟨s1.heap.objs.size,[s1.heap.objs.size],_,_,H1,rfl,B0.kept (t':=s1.toks) λb o e=>Cp _ e,afy a _,⟨_,EB _ rfl,rfl,rfl⟩,λb J=>?_,q⟩;have e:b=s1.heap.objs.size:=(J:)
 subst e;exact B0.Ou (CS _) (B0.BX.fresh (CS _))
def ack{l:AS}{Ei:TE}(AP:Ay X l Ei):G6 X Bj l (lx X.K Ei):=by
 intro pins s σ H R I h;refine Bd (AP pins s σ H _ I h) λv s1⟨x,H1,B0,AL,Al⟩=>?_;obtain⟨a,e,⟨xs,AT⟩,q⟩:=Al;subst e;cases AL;obtain⟨its,C9,p,Ao⟩:=B0.tuple AT;refine wpAny_pyIter_tuple (show s1.heap.IsTuple a its.toArray from p) ?_;refine⟨s1.heap.objs.size,[s1.heap.objs.size],_,_,H1,rfl,B0.kept (t':=s1.toks) λb o e=>Cp _ e,ag1 a _,⟨_,EB _ rfl,rfl,rfl⟩,λb J=>?_,q⟩;have e:b=s1.heap.objs.size:=(J:)
 subst e;exact B0.Ou (CS _) (B0.BX.fresh (CS _))
def nt{pins:υ}{σ :St}{H:AA}{s:AM}{R:It->AA->Prop}{E:ξ}{lo AC:Int}{t u v:Tok}{BU:Nat}(I:π)(A5: -(2^62)<=lo)(A8:lo<2^62)(Au: -(2^62)<=AC)(BC:AC<2^62)(q:R (Ux lo (AC-lo).toNat) H):AW ω X.A (pyIter (.ref s.heap.objs.size)) (ir X pins σ Bj R) E { s with heap:=s.heap.push { cls:=.type "range",data:=.fields #[.int lo t,.int AC u,.int 1 v] },toks:=BU }:=by
 refine wpAny_pyIter_range (IsRange.new ..) (small_one A5 A8 Au BC) ?_;have B0:Inv X pins σ H { s with heap:=s.heap.push { cls:=.type "range",data:=.fields #[.int lo t,.int AC u,.int 1 v] },toks:=BU }:=I.kept λb o e=>Cp _ e
 refine⟨(s.heap.push { cls:=.type "range",data:=.fields #[.int lo t,.int AC u,.int 1 v] }).objs.size,[(s.heap.push { cls:=.type "range",data:=.fields #[.int lo t,.int AC u,.int 1 v] }).objs.size],_,_,H,rfl,
  B0.kept (t':=BU) λb o e=>Cp _ e,afz _ lo (AC-lo).toNat,?_,λb J=>?_,q⟩
 .have A7:lo+((0:Nat):Int)*1=lo:=γ
  have AH:(((AC-lo).toNat:Nat):Int)-((0:Nat):Int)=fq lo AC 1:=by rw[rangeSize_one];split<;>lia
  show IsRangeIter _ _ (lo+((0:Nat):Int)*1) ((((AC-lo).toNat:Nat):Int)-((0:Nat):Int)) 1;rw[A7,AH];exact EB _ rfl
 .have e:b=(s.heap.push { cls:=.type "range",data:=.fields #[.int lo t,.int AC u,.int 1 v] }).objs.size:=by simpa using J
  subst e;exact B0.Ou (CS _) (B0.BX.fresh (CS _))
def lq(C1:En):TI:=λσ H R=>C1 σ H λvs H1=>∃j:Int,vs=[.int j]/\-(2^62)<=j/\j<2^62/\R (Ux 0 j.toNat) H1
def lr(C1:En):TI:=λσ H R=>C1 σ H λvs H1=>∃i j:Int,vs=[.int i,.int j]/\(-(2^62)<=i/\i<2^62/\-(2^62)<=j/\j<2^62)/\R (Ux i (j-i).toNat) H1
def ach{a:AS}{C1:En}{p pos:Pos}(Aa:Dg X "range")(hm:X.mg "range"=none)(AB:G5 X [a] C1)(AK:B9 [a] X.env=[(false,BH a X.env)]:=by rfl):G6 X Bj (.Call (.Name "range" p) [a] [] pos) (lq C1):=by
 intro pins s σ H R I h;refine Call_ (OT I Aa hm boot_range (QZ (Bd (AB pos pins s σ H _ I h) λus s1⟨vs,H1,B0,AL,Al⟩=>?_) AK rfl));obtain⟨j,e,Al,BN,q⟩:=Al;subst e;cases AL with
 |cons r LV=>cases LV;obtain⟨t,rfl⟩:=r;exact call_range_1 (nt B0 δ δ Al BN (q:))
def aci{a b:AS}{C1:En}{p pos:Pos}(Aa:Dg X "range")(hm:X.mg "range"=none)(AB:G5 X [a,b] C1)(AK:B9 [a,b] X.env=[(false,BH a X.env),(false,BH b X.env)]:=by rfl)(Fi:B9 [b] X.env=[(false,BH b X.env)]:=by rfl) :
  G6 X Bj (.Call (.Name "range" p) [a,b] [] pos) (lr C1):=by
 intro pins s σ H R I h;refine Call_ (OT I Aa hm boot_range (QZ (Bd (AB pos pins s σ H _ I h) λus s1⟨vs,H1,B0,AL,Al⟩=>?_) (by rw[AK,Fi]) (by rw[Fi];rfl)));obtain⟨i,j,e,⟨Al,BN,Dt,Ro⟩,q⟩:=Al;subst e;cases AL with
 |cons r LV=>
  cases LV with
  |cons BB LV=>cases LV;obtain⟨t,rfl⟩:=r;obtain⟨t',rfl⟩:=BB;exact call_range_2 (nt B0 Al BN Dt Ro q)
noncomputable def pf(Iq:TI)(g:IW)(tb:F4):F4:=λD σ H=>Iq σ H λCb H1=>∃W:Nat->Nat->St->AA->Prop,(∃m,W 0 m σ H1)/\∀i m σ H,W i m σ H->
 (Cb.stop i H/\D.BG σ H)\/(Cb.go i H/\∃N:St->AA->Prop,(∀ σ' H',N σ' H'->∃Ds,Ds<m/\W (i+1) Ds σ' H')/\∀x H',Cb.Jq i H x H'->g x σ H' λσ2 B7=>tb { D with BG:=N,Di:=N,Ed:=D.BG } σ2 B7)
noncomputable def W3(Ah:List A6)(h:B2):υ:=Ah.filterMap λb=>(h.get? b).map λo=>(b,o)
def a6{Ah:List A6}{h:B2}{b:A6}{o:Obj}(J:b∈Ah)(e:h.get? b=some o):(b,o)∈W3 Ah h:=List.mem_filterMap.mpr ⟨b,J,by rw[e];rfl⟩
def abi{Ah:List A6}{h:B2}{p:A6×Obj}(AX:p∈W3 Ah h):p.1∈Ah/\h.get? p.1=some p.2:=by
 obtain⟨b,J,e⟩:=List.mem_filterMap.mp AX;cases q:h.get? b with
 |none=>rw[q]at e;cases e
 |some o=>rw[q]at e;have CF:(b,o)=p:=E_ e;subst CF;exact⟨J,q⟩
def Inv.pinned{pins:υ}{σ :St}{H:AA}{s:AM}{Ah:List A6}(I:π)(hf:∀b∈Ah,Jz X pins H b)(AN:∀b∈Ah,∃o,dl/\∀v,o.data≠.cell v):Inv X (pins++W3 Ah s.heap) σ H s:=
 I.oL λp AX=>(List.mem_append.mp AX).elim (λz=>I.pin p (Fb _ z)) λz=>by obtain⟨J,e⟩:=abi z;obtain⟨f0,f1,f2,_⟩:=hf p.1 J;obtain⟨o,CF,d⟩:=AN p.1 J;rw[e]at CF;cases CF;exact⟨e,f0,f1,f2,d⟩
def Inv.b6{pins pl:υ}{σ :St}{H:AA}{s:AM}(I:Inv X (pins++pl) σ H s):π:=I.oL λp AX=>I.pin p (Fb _ (G2 _ AX))
def ad0{iter:AS}{body:List BZ}{Iq:TI}{g:IW}{tb:F4}{pos:Pos}(AX:PassesOwn ω X.A X.env X.xe)(AO:X.calm=true)(AC:G6 X Bj iter Iq)(Aa:K1 X Bj g)(J:Gb X body tb)(AK:∀x,M1 iter X.env x=pure x:=by intro _;rfl):Cz X (.For Bj iter body [] pos) (pf Iq g tb):=by
 intro pins s σ H D I h;refine wpAny_For (Bd (AC pins s σ H _ I h) λv s1 A5=>Bd A5 λaO s2 A8=>?_) AK;obtain⟨it,Ah,HF,Cb,B7,e,C3,T,Lk,f2,W,⟨m0,OK⟩,turn⟩:=A8;subst e;have stat:∀{H':AA},(∀b∈Ah,H' b=none)->∀b∈Ah,Jz X pins H' b:=λAQ b J=>⟨AQ b J,(f2 b J).2⟩;refine codeAny_forLoop_any (λn s'=>∃i σ' H',Inv X pins σ' H' s'/\HF i s'.heap/\(∀b∈Ah,H' b=none)/\W i n σ' H') ?_ m0 ⟨0,σ,B7,C3,Lk,λb J=>(f2 b J).1,OK⟩;rintro n s3 ⟨i,σ3,Cx,DX,q3,kx,IP⟩;rcases turn i n σ3 Cx IP with⟨stop,qn⟩|⟨go,N,hN,step⟩
 .refine Qa AX (Bd (T.done X rfl rfl rfl AO i pins s3 σ3 Cx X.xe DX (stat kx) q3 stop) λr s4⟨B8,LY⟩=>?_);subst B8;exact Xm ⟨σ3,Cx,LY,qn⟩
 .refine Qa AX (Bd (T.item X rfl rfl rfl AO i pins s3 σ3 Cx X.xe DX (stat kx) q3 go) λr s4⟨u,B8,BC⟩=>?_);subst B8;refine Qa AX (Bd BC λ_ s5⟨x,JP,TZ,Rp,aiZ,U1,ZE⟩=>?_);have tP:=TZ.pinned (stat ZE) (T.obj _ _ U1);refine Qa AX (Bd (Aa _ s5 σ3 JP x u _ tP Rp (step x JP aiZ)) λ_ IM⟨σ6,TY,V5,aeE⟩=>?_);refine Qa AX (Bd (J _ IM σ6 TY _ V5 aeE) λf Da QK=>?_);have again:∀{σ7:St}{Ge:AA},Inv X (pins++W3 Ah s5.heap) σ7 Ge Da->N σ7 Ge->∃m,m<n/\∃i σ' H',Inv X pins σ' H' Da/\HF i Da.heap/\(∀b∈Ah,H' b=none)/\W i m σ' H':=λ{σ7 Ge} Kf Ji=>by
   obtain⟨Ds,hm,ahM⟩:=hN σ7 Ge Ji;refine⟨Ds,hm,i+1,σ7,Ge,Kf.b6,T.keep _ _ _ U1 λb J o e=>(Kf.pin (b,o) (Fb _ (Fb _ (a6 J e)))).1,λb J=>?_,ahM⟩;obtain⟨o,e,d⟩:=T.obj _ _ U1 b J;exact(Kf.pin (b,o) (Fb _ (Fb _ (a6 J e)))).2.1
  cases f with
  |next=>obtain⟨σ7,Ge,Kf,Ji⟩:=QK;exact again Kf Ji
  |cont=>obtain⟨σ7,Ge,Kf,Ji⟩:=QK;exact again Kf Ji
  |brk=>obtain⟨σ7,Ge,Kf,QK⟩:=QK;exact⟨σ7,Ge,Kf.b6,QK⟩
  |ret v=>obtain⟨agr,σ7,Ge,Kf,Jm,QK⟩:=QK;exact⟨agr,σ7,Ge,Kf.b6,Jm,QK⟩
end
abbrev F3:=V->V->AA->CQ->Prop
noncomputable def E7(X:Ad)(f:A4->A4->Sem A4)(r:F3):Prop:=
 ∀(pins:υ)(s:AM)(σ :St)(H:AA)(x y:V)(v u:A4)(Q:CQ),π->RelV x v->RelV y u->r x y H Q->
  AW ω X.A (f v u) (GZ X pins σ Q) X.xe s
noncomputable def Yd(X:Ad)(f:A4->Sem A4)(r:V->AA->CQ->Prop):Prop:=
 ∀(pins:υ)(s:AM)(σ :St)(H:AA)(x:V)(v:A4)(Q:CQ),π->RelV x v->r x H Q->
  AW ω X.A (f v) (GZ X pins σ Q) X.xe s
noncomputable def HM(X:Ad)(f:A4)(r:List V->AA->CQ->Prop):Prop:=
 ∀(pins:υ)(s:AM)(σ :St)(H:AA)(xs:List V)(us:List A4)(Q:CQ),π->Vals xs us->r xs H Q->
  AW ω X.A (call f us) (GZ X pins σ Q) X.xe s
noncomputable def tY(X:Ad)(r:V->AA->(Bool->AA->Prop)->Prop):Prop:=
 ∀(pins:υ)(s:AM)(σ :St)(H:AA)(x:V)(v:A4)(Q:Bool->AA->Prop),π->RelV x v->r x H Q->
  AW ω X.A (truthy v) (Yc X pins σ Q) X.xe s
def X3(r:F3)(C1 tb:TE):TE:=λσ H Q=>C1 σ H λx H1=>tb σ H1 λy B7=>r x y B7 Q
def rJ(r:V->AA->CQ->Prop)(C1:TE):TE:=λσ H Q=>C1 σ H λx H1=>r x H1 Q
def Tv(C:Int->Int->Prop)(g:Int->Int->V):F3:=λx y H Q=>∃i j,x=.int i/\y=.int j/\C i j/\Q (g i j) H
def MD(g:Int->Int->V):F3:=λx y H Q=>∃i j,x=.int i/\y=.int j/\Q (g i j) H
def nr(g:Int->V):V->AA->CQ->Prop:=λx H Q=>∃i,x=.int i/\Q (g i) H
section
variable{X:Ad}{a b c:AS}{C1 tb GX:TE}{pos:Pos}
def cO(AB:Ay X a C1)(J:Ay X b tb){pins:υ}{s:AM}{σ :St}{H:AA}{R:V->V->AA->Prop}(I:π)(h:C1 σ H λx H1=>tb σ H1 λy B7=>R x y B7){Q:ξ}{f:A4->A4->Sem A4}(hf:∀v u s2 x y B7,Inv X pins σ B7 s2->RelV x v->RelV y u->R x y B7->AW ω X.A (f v u) Q X.xe s2) :
  AW ω X.A (BH a X.env) (λv D4=>AW ω X.A (BH b X.env) (λu Io=>AW ω X.A (f v u) Q X.xe Io) X.xe D4) X.xe s:=by
 refine Bd (AB pins s σ H _ I h) λv s1⟨x,H1,B0,AL,Al⟩=>?_;refine Bd (J pins s1 σ H1 _ B0 Al) λu s2⟨y,B7,C3,BA,BN⟩=>?_;exact hf v u s2 x y B7 C3 AL BA BN
def eA{op:Operator}{r:F3}(AN:E7 X (M9 op) r)(AB:Ay X a C1)(J:Ay X b tb):Ay X (.BinOp a op b pos) (X3 r C1 tb):=by intro pins s σ H Q I h;exact wpAny_BinOp (cO AB J I h λv u s2 x y B7 C3 BS C0 q=>AN pins s2 σ B7 x y v u Q C3 BS C0 q)
def adS{op:UnaryOp}{r:V->AA->CQ->Prop}(AN:Yd X (unaryOp op) r)(AB:Ay X a C1):Ay X (.UnaryOp op a pos) (rJ r C1):=by intro pins s σ H Q I h;exact UnaryOp_ (Bd (AB pins s σ H _ I h) λv s1⟨x,H1,B0,AL,Al⟩=>AN pins s1 σ H1 x v Q B0 AL Al)
def Zn{f:A4->A4->Sem A4}{C:Int->Int->Prop}{g:Int->Int->Int}(rule:∀(i j:Int)(t u:Tok)(s:AM)(Q:ξ)(E:ξ),C i j->Q (.int (g i j) s.toks) { s with toks:=s.toks+1 }->AW ω X.A (f (.int i t) (.int j u)) Q E s) :
  E7 X f (Tv C λi j=>.int (g i j)):=by
 intro pins s σ H x y v u Q I BS C0 h;obtain⟨i,j,rfl,rfl,AO,q⟩:=h;obtain⟨t,rfl⟩:=BS;obtain⟨t',rfl⟩:=C0;exact rule i j t t' s _ _ AO ⟨.int (g i j),H,I.tok _,⟨_,rfl⟩,q⟩
def mM{f:A4->A4->Sem A4}{g:Int->Int->Int}(rule:∀(i j:Int)(t u:Tok)(s:AM)(Q:ξ)(E:ξ),Q (.int (g i j) s.toks) { s with toks:=s.toks+1 }->AW ω X.A (f (.int i t) (.int j u)) Q E s) :
  E7 X f (MD λi j=>.int (g i j)):=by
 intro pins s σ H x y v u Q I BS C0 h;obtain⟨i,j,rfl,rfl,q⟩:=h;obtain⟨t,rfl⟩:=BS;obtain⟨t',rfl⟩:=C0;exact rule i j t t' s _ _ ⟨.int (g i j),H,I.tok _,⟨_,rfl⟩,q⟩
def e2{f:A4->A4->Sem A4}{g:Int->Int->Bool}(rule:∀(i j:Int)(t u:Tok)(s:AM)(Q:ξ)(E:ξ),Q (.bool (g i j)) s->AW ω X.A (f (.int i t) (.int j u)) Q E s) :
  E7 X f (MD λi j=>.AV (g i j)):=by
 intro pins s σ H x y v u Q I BS C0 h;obtain⟨i,j,rfl,rfl,q⟩:=h;obtain⟨t,rfl⟩:=BS;obtain⟨t',rfl⟩:=C0;exact rule i j t t' s _ _ ⟨.AV (g i j),H,I,rfl,q⟩
def Yw(i j:Int):Prop:=0<j/\j<1073741824
def Yx(i j:Int):Prop:=0<=j/\j<=1000000/\i.natAbs<2^64
def TW(i j:Int):Prop:=(-(2^64)<i/\i<2^64)\/(-(2^64)<j/\j<2^64)
def TW.ok{i j:Int}(h:TW i j):IntMulOk i j:=by
 rcases h with⟨A5,A8⟩|⟨A5,A8⟩
 .exact .of_left (intBits_le_64 A5 A8)
 .exact .of_right (intBits_le_64 A5 A8)
def abx:E7 X (M9 .Add) (MD λi j=>.int (i+j)):=mM λ_ _ _ _ _ _ _ q=>add_int q
def abZ:E7 X (M9 .Sub) (MD λi j=>.int (i-j)):=mM λ_ _ _ _ _ _ _ q=>sub_int q
def ac2:E7 X (M9 .Mult) (Tv TW λi j=>.int (i*j)):=Zn λ_ _ _ _ _ _ _ AO q=>mul_int q AO.ok
def abz:E7 X (M9 .FloorDiv) (Tv Yw λi j=>.int (i/j)):=Zn λi j _ _ _ _ _ AO q=>by have A5:(0:Int)<j:=AO.1;have A8:j<1073741824:=AO.2;exact floordiv_int δ (by rw[Int.fdiv_eq_ediv_of_nonneg i δ];exact q) (.inl (PyProof.noPylong_small δ))
def ac1:E7 X (M9 .Mod) (Tv (λ_ j=>0<j) λi j=>.int (i%j)):=Zn λi j _ _ _ _ _ AO q=>by have A5:(0:Int)<j:=AO;exact mod_int' δ (by rw[Int.fmod_eq_emod_of_nonneg i δ];exact q)
def abX:E7 X (M9 .Pow) (Tv Yx λi j=>.int (i^j.toNat)):=Zn λ_ _ _ _ _ _ _ AO q=>pow_int_small AO.1 AO.2.1 AO.2.2 q
def afZ{f:A4->Sem A4}{g:Int->Int}(rule:∀(i:Int)(t:Tok)(s:AM)(Q:ξ)(E:ξ),Q (.int (g i) s.toks) { s with toks:=s.toks+1 }->AW ω X.A (f (.int i t)) Q E s) :
  Yd X f (nr λi=>.int (g i)):=by
 intro pins s σ H x v Q I BS h;obtain⟨i,rfl,q⟩:=h;obtain⟨t,rfl⟩:=BS;exact rule i t s _ _ ⟨.int (g i),H,I.tok _,⟨_,rfl⟩,q⟩
def af_:Yd X (unaryOp .USub) (nr λi=>.int (-i)):=afZ λ_ _ _ _ _ q=>neg_int q
end
noncomputable def qM:V->V->Bool
 |.non,.non=>true|.non,.int _=>true|.int _,.non=>true|.non,.AV _=>true|.AV _,.non=>true|.non,.str _=>true|.str _,.non=>true
 |.int _,.int _=>true|.AV _,.AV _=>true|.str _,.str _=>true|.Ni _,.Ni _=>true
 |.int _,.str _=>true|.str _,.int _=>true|.AV _,.str _=>true|.str _,.AV _=>true
 |_,_=>false
section
variable{X:Ad}{a b c:AS}{C1 tb GX:TE}{pos:Pos}
def kl{pins:υ}{σ :St}{H:AA}{s:AM}{Q:CQ}{k k':Bool}(I:π)(q:Q (.AV k) H)(e:k=k'):GZ X pins σ Q (.bool k') s:=by subst e;exact⟨.AV k,H,I,rfl,q⟩
def mS:E7 X (GG .Lt) (MD λi j=>.AV (decide (i<j))):=e2 λ_ _ _ _ _ _ _ q=>lt_int q
def W1:E7 X (GG .LtE) (MD λi j=>.AV (decide (i<=j))):=e2 λ_ _ _ _ _ _ _ q=>le_int q
def ac0:E7 X (GG .Gt) (MD λi j=>.AV (decide (j<i))):=e2 λ_ _ _ _ _ _ _ q=>gt_int q
def mR:E7 X (GG .Is) (λx y H Q=>y=.non/\Q (.AV (decide (x=.non))) H):=by
 intro pins s σ H x y v u Q I BS C0 h;obtain⟨rfl,q⟩:=h;cases C0;refine is_none_gen (kl I q ?_)
 cases x<;>first
  |(cases BS;rfl)
  |(obtain⟨t,rfl⟩:=BS;rfl)
def abW:E7 X (GG .IsNot) (λx y H Q=>y=.non/\Q (.AV (!decide (x=.non))) H):=by
 intro pins s σ H x y v u Q I BS C0 h;obtain⟨rfl,q⟩:=h;cases C0;refine isnot_none_gen (kl I q ?_)
 cases x<;>first
  |(cases BS;rfl)
  |(obtain⟨t,rfl⟩:=BS;rfl)
def E7.or{f:A4->A4->Sem A4}{r BB:F3}(h:E7 X f r)(h':E7 X f BB):E7 X f (λx y H Q=>r x y H Q\/BB x y H Q):=by
 intro pins s σ H x y v u Q I BS C0 q;rcases q with q|q
 .exact h pins s σ H x y v u Q I BS C0 q
 .exact h' pins s σ H x y v u Q I BS C0 q
def O_(b:AS){op:Kc}(h:op≠.In:=by decide)(A8:op≠.NotIn:=by decide):IL op b=false:=by
 have A7:(op==CmpOp.In)=false:=by cases op<;>first|rfl|exact absurd rfl h
 have AH:(op==CmpOp.NotIn)=false:=by cases op<;>first|rfl|exact absurd rfl A8
 cases b<;>simp[IL,A7,AH]
def adC{op:Kc}{r:F3}(AN:E7 X (GG op) r)(AB:Ay X a C1)(J:Ay X b tb)(hm:IL op b=false):Ay X (.Compare a [op] [b] pos) (X3 r C1 tb):=by intro pins s σ H Q I h;exact wpAny_Compare1 (cO AB J I h λv u s2 x y B7 C3 BS C0 q=>AN pins s2 σ B7 x y v u Q C3 BS C0 q) hm
def fh(t:TE):TT:=λσ H Q=>t σ H λx H'=>∃k,x=.AV k/\Q k H'
def acU{op:Kc}{r:F3}(AN:E7 X (GG op) r)(AB:Ay X a C1)(J:Ay X b tb)(hm:IL op b=false):FH X (.Compare a [op] [b] pos) (fh (X3 r C1 tb)):=by
 intro pins s σ H Q I h;refine wpAny_isTrue_Compare1 (Bd (AB pins s σ H _ I h) λv s1⟨x,H1,B0,AL,Al⟩=>Bd (J pins s1 σ H1 _ B0 Al) λu s2⟨y,B7,C3,BA,BN⟩=>
  Bd (AN pins s2 σ B7 x y v u _ C3 AL BA BN) λc s3⟨z,Cx,DX,E9,k,e,Dt⟩=>?_) hm
 subst e;cases E9;exact KY ⟨Cx,DX,Dt⟩
def f_(r BB:F3)(C1 tb GX:TE):TE:=λσ H Q=>C1 σ H λx H1=>tb σ H1 λy B7=>r x y B7 λz Cx=>∃k,z=.AV k/\
 (if k=true then GX σ Cx λFn HN=>BB y Fn HN Q else Q (.AV false) Cx)
def adB{op Jl:Kc}{r BB:F3}(AN:E7 X (GG op) r)(Dr:E7 X (GG Jl) BB)(AB:Ay X a C1)(J:Ay X b tb)(AO:Ay X c GX)(hm:lastMarks [op,Jl] [b,c]=false:=by with_unfolding_all rfl):Ay X (.Compare a [op,Jl] [b,c] pos) (f_ r BB C1 tb GX):=by
 intro pins s σ H Q I h;refine Compare_chain (Bd (AB pins s σ H _ I h) λv s1⟨x,H1,B0,AL,Al⟩=>chain_link (Bd (J pins s1 σ H1 _ B0 Al) λu s2⟨y,B7,C3,BA,BN⟩=>
  Bd (AN pins s2 σ B7 x y v u _ C3 AL BA BN) λd s3⟨z,Cx,DX,E9,k,e,Dt⟩=>?_)) hm
 subst e;cases E9;refine KY ?_;cases k with
 |false=>exact ite_ff ⟨.AV false,Cx,DX,rfl,Dt⟩
 |true=>exact ite_tt (chain_last (Bd (AO pins s3 σ Cx _ DX Dt) λFn s4⟨Fw,HN,LY,Oi,Ro⟩=>Dr pins s4 σ HN y Fw u Fn Q LY BA Oi Ro))
def ad3{op Jl:Kc}{r BB:F3}(AN:E7 X (GG op) r)(Dr:E7 X (GG Jl) BB)(AB:Ay X a C1)(J:Ay X b tb)(AO:Ay X c GX)(hm:lastMarks [op,Jl] [b,c]=false:=by with_unfolding_all rfl):FH X (.Compare a [op,Jl] [b,c] pos) (fh (f_ r BB C1 tb GX)):=by
 intro pins s σ H Q I h;refine isTrue_chain (Bd (AB pins s σ H _ I h) λv s1⟨x,H1,B0,AL,Al⟩=>test_link (Bd (J pins s1 σ H1 _ B0 Al) λu s2⟨y,B7,C3,BA,BN⟩=>
  Bd (AN pins s2 σ B7 x y v u _ C3 AL BA BN) λd s3⟨z,Cx,DX,E9,k,e,Dt⟩=>?_)) hm
 subst e;cases E9;refine KY ?_;cases k with
 |false=>obtain⟨k',CF,Dl⟩:=Dt;cases CF;exact ite_ff ⟨Cx,DX,Dl⟩
 |true=>refine ite_tt (test_last (Bd (AO pins s3 σ Cx _ DX Dt) λFn s4⟨Fw,HN,LY,Oi,Ro⟩=>Bd (Dr pins s4 σ HN y Fw u Fn _ LY BA Oi Ro) λd' s5⟨Db,JP,TZ,Rp,k2,AH,aeD⟩=>?_));subst AH;cases Rp;exact KY ⟨JP,TZ,aeD⟩
noncomputable def tZ(K:AZ)(x:V)(H:AA)(k:Bool):Prop:=
 match x with
 |.non=>k=false
 |.AV b=>k=b
 |.int i=>k=(i !=0)
 |.str y=>y.length<=CK/\k=((y.length:Int) !=0)
 |.Ni y=>y.size<=CK/\k=((y.size:Int) !=0)
 |.ref p=>(∃xs,C4 K H p xs/\k=!xs.isEmpty)\/(∃xs,Ct K H p xs/\k=!xs.isEmpty)\/∃Ac,H p=some (.De Ac)/\k=!Ac.isEmpty
 |_=>False
def z0{κ:Type}{Ac:List (κ×V)}{vs:List (κ×A4)}(r:H4 Ac vs):(!vs.isEmpty)=!Ac.isEmpty:=by cases r<;>rfl
def mB{xs:List V}{its:List A4}(r:Vals xs its):(!its.toArray.isEmpty)=!xs.isEmpty:=by cases r<;>simp
def Sv:(CK:Nat)<2^63:=by rw[Ii];decide
def ake:tY X (λx H Q=>∃k,tZ X.K x H k/\Q k H):=by
 intro pins s σ H x v Q I BS h;obtain⟨k,e,q⟩:=h;have AP:=Sv;have AK:CK=16777216:=Ii;cases x with
 |non=>cases BS;have CF:k=false:=e;subst CF;exact truthy_none ⟨H,I,q⟩
 |AV b=>cases BS;have CF:k=b:=e;subst CF;exact KY ⟨H,I,q⟩
 |int i=>obtain⟨t,rfl⟩:=BS;have CF:k=(i !=0):=e;subst CF;exact PySem.P.truthy_int ⟨H,I,q⟩
 |str y=>obtain⟨t,rfl⟩:=BS;obtain⟨BO,CF⟩:y.length<=CK/\k=((y.length:Int) !=0):=e;subst CF;exact PySem.P.truthy_str δ ⟨H,I.tok _,q⟩
 |Ni y=>obtain⟨t,rfl⟩:=BS;obtain⟨BO,CF⟩:y.size<=CK/\k=((y.size:Int) !=0):=e;subst CF;exact PySem.W.truthy_bytes δ ⟨H,I.tok _,q⟩
 |ref p=>
  cases BS;have CF:(∃xs,C4 X.K H p xs/\k=!xs.isEmpty)\/(∃xs,Ct X.K H p xs/\k=!xs.isEmpty)\/∃Ac,H p=some (.De Ac)/\k=!Ac.isEmpty:=e;rcases CF with⟨xs,AJ,CF⟩|⟨xs,AJ,CF⟩|⟨Ac,AJ,CF⟩
  .subst CF;obtain⟨its,r,pl,Ao⟩:=I.list AJ;have hlen:=r.length;exact wpAny_truthy_list pl.isList (by erw[Dx];lia) ⟨H,I.tok _,by rw[mB r];exact q⟩
  .subst CF;obtain⟨its,r,pl,Ao⟩:=I.tuple AJ;have hlen:=r.length;exact truthy_tuple pl (by erw[Dx];lia) ⟨H,I.tok _,by rw[mB r];exact q⟩
  .subst CF;obtain⟨Ao,IZ,vs,r,m⟩:Ac.length<=CK/\(p==H_)=false/\∃vs,H4 Ac vs/\s.heap.DictOf (HB X.prog X.w) p vs:=I.BX p _ AJ;have hlen:Ac.length=vs.length:=Paired.length r;exact wpAny_truthy_dict IZ m δ ⟨H,I.tok _,by rw[z0 r];exact q⟩
 |_=>exact(show False from e).elim
def aby:E7 X (M9 .Add) (λx y H Q=>∃i j,x=.str i/\y=.str j/\i.length+j.length<=CK/\Q (.str (i++j)) H):=by intro pins s σ H x y v u Q I BS C0 h;obtain⟨i,j,rfl,rfl,Ao,q⟩:=h;obtain⟨t,rfl⟩:=BS;obtain⟨t',rfl⟩:=C0;exact add_str (λt' BU=>⟨.str (i++j),H,I.tok _,⟨_,rfl⟩,q⟩) Ao
def vals1{x:V}{us:List A4}(r:Vals [x] us):∃u,us=[u]/\RelV x u:=by
 cases r with
 |cons AL BA=>cases BA;exact⟨_,rfl,AL⟩
def vals2{x y:V}{us:List A4}(r:Vals [x,y] us):∃u Fn,us=[u,Fn]/\RelV x u/\RelV y Fn:=by
 cases r with
 |cons AL BA=>
  cases BA with
  |cons E9 Oi=>cases Oi;exact⟨_,_,rfl,AL,E9⟩
def uX:HM X (.type "int") (λxs H Q=>(∃i,xs=[.int i]/\Q (.int i) H)\/∃k,xs=[.AV k]/\Q (.int (if k then 1 else 0)) H):=by
 intro pins s σ H xs us Q I r h;rcases h with⟨i,rfl,q⟩|⟨k,rfl,q⟩
 .obtain⟨u,rfl,t,rfl⟩:=vals1 r;exact call_int_int ⟨.int i,H,I,⟨_,rfl⟩,q⟩
 .obtain⟨u,rfl,AL⟩:=vals1 r;cases AL;exact call_int_bool ⟨.int (if k then 1 else 0),H,I.tok _,⟨_,rfl⟩,q⟩
def tu:HM X (.type "str") (λxs H Q=>∃i,xs=[.int i]/\i.natAbs.log2<1920/\Q (.str (toString i)) H):=by intro pins s σ H xs us Q I r h;obtain⟨i,rfl,Ao,q⟩:=h;obtain⟨u,rfl,t,rfl⟩:=vals1 r;exact PySem.P.str_of_int Ao ⟨.str _,H,I.tok _,⟨_,rfl⟩,q⟩
noncomputable def io(K:AZ)(x:V)(H:AA)(n:Nat):Prop:=
 match x with
 |.str y=>y.length<=CK/\n=y.length
 |.Ni y=>y.size<=CK/\n=y.size
 |.ref p=>(∃xs,C4 K H p xs/\n=xs.length)\/∃xs,Ct K H p xs/\n=xs.length
 |_=>False
def u_:HM X (.builtin "len") (λxs H Q=>∃x n,xs=[x]/\io X.K x H n/\Q (.int n) H):=by
 intro pins s σ H xs us Q I r h;obtain⟨x,n,rfl,e,q⟩:=h;obtain⟨u,rfl,BS⟩:=vals1 r;have AP:=Sv;have AK:CK=16777216:=Ii;cases x with
 |str y=>obtain⟨t,rfl⟩:=BS;obtain⟨BO,CF⟩:y.length<=CK/\n=y.length:=e;subst CF;exact len_str δ ⟨.int _,H,I.tok _,⟨_,rfl⟩,q⟩
 |Ni y=>obtain⟨t,rfl⟩:=BS;obtain⟨BO,CF⟩:y.size<=CK/\n=y.size:=e;subst CF;exact PySem.W.len_bytes δ ⟨.int _,H,I.tok _,⟨_,rfl⟩,q⟩
 |ref p=>
  cases BS;have CF:(∃xs,C4 X.K H p xs/\n=xs.length)\/∃xs,Ct X.K H p xs/\n=xs.length:=e;rcases CF with⟨xs,AJ,CF⟩|⟨xs,AJ,CF⟩
  .subst CF;obtain⟨its,BB,pl,Ao⟩:=I.list AJ;have hlen:=BB.length;exact Calls.call_len_list pl.isList (by erw[Dx];lia) ⟨.int xs.length,H,I.tok _,⟨_,by erw[Dx];rw[hlen]⟩,q⟩
  .subst CF;obtain⟨its,BB,pl,Ao⟩:=I.tuple AJ;have hlen:=BB.length;exact len_tuple pl (by erw[Dx];lia) ⟨.int xs.length,H,I.tok _,⟨_,by erw[Dx];rw[hlen]⟩,q⟩
 |_=>exact(show False from e).elim
end
structure RA(h:B2)(x Aj C:A6)(E8:Str->Option A4):Prop where
 obj:h.get? x=some (PA C Aj)
 ns:h.Ns1 Aj E8
 ne:Aj≠x
def abP{h:B2}{Aj:A6}{E8:Str->Option A4}(n:h.Ns1 Aj E8):∃E0,h.get? Aj=some E0/\∀name,Y9 name E0=some (E8 name):=by
 obtain⟨o,A2,Ak,AN,hd,AG,_,hm⟩:=n;refine⟨o,AN,λname=>?_⟩;have e:=hm name;unfold nsFind findBy at e;rw[<-Array.find?_toList]at e;unfold Y9;rw[hd];dsimp only
 split
 .rename_i y q;rw[q]at e;exact congrArg some e
 .rename_i q;rw[q]at e;have a:A2.toList.any (·.refKey)=false:=by
   rw[List.any_eq_false];intro y BO;obtain⟨z,t,Ja⟩:=AG y (Array.mem_toList_iff.mp BO);simp[DictEntry.refKey,Ja]
  have Ix:¬A2.toList.any (·.refKey)=true:=by rw[a];exact Fq
  rw[if_neg Ix];exact congrArg some e
def RA.look{h:B2}{x Aj C:A6}{E8:Str->Option A4}(I:RA h x Aj C E8):∃E0,PySem.W.InstAt h x (PA C Aj) C (some E0)/\∀name,Y9 name E0=some (E8 name):=
 let⟨E0,AN,AP⟩:=abP I.ns
 ⟨E0,⟨I.obj,rfl,rfl,AN⟩,AP⟩
section
variable{prog:Ba}{w:BL}{A:Bt}{E:ξ}{s:AM}{K:AZ}{x Aj C f:A6}{E8:Str->Option A4}{name:Str}{v:A4}
def get_map{expr:Bool}{Q:ξ}(X:K.In s.heap)(I:RA s.heap x Aj C E8)(Aa:Sa K C name=true)(An:UY K C=true)(AB:Ju K (.ref C) name=some none)(BE:E8 name=some v)(di:PySem.W.handedIn v=true)(h:Q v { s with toks:=s.toks+1 }) :
  AW ψ A (getAttr (.ref x) name expr) Q E s:=by
 obtain⟨E0,Cb,AP⟩:=I.look;exact PySem.W.get_value X Cb (fz Aa).1 (PySem.W.findObj_own An AB rfl (by rw[AP,BE])) di h
def wI{pl:Sem Bool}{Q:A4×List A4->ο}(X:K.In s.heap)(I:RA s.heap x Aj C E8)(Aa:Sa K C name=true)(hf:Ju K (.ref C) name=some (some (.ref f)))(Ax:Uj K (.ref f)=true)(BE:E8 name=none)(h:Q (.ref f,[.ref x]) s) :
  AW ψ A (PH (.ref x) name pl) Q E s:=by
 obtain⟨E0,Cb,AP⟩:=I.look;exact PySem.W.method_fn X Cb (fz Aa).1 (fz Aa).2 hf (beq_iff_eq.mp Ax) (by show(Y9 name E0).map (·.isSome)=some false;rw[AP,BE];rfl) h
def aen{ns:List Str}{Q:Unit->ο}(X:K.In s.heap)(I:RA s.heap x Aj C E8)(AK:Ju K (.ref C) "__setattr__"=some (some (.builtin "object.__setattr__")))(AX:XW K C=true)(Ax:gB K C name=some none)(An:UY K C=true)(hw:gR E8 ns)(hsz:ns.length<=CK)(h:∀h',RA h' x Aj C (λy=>if y=name then some v else E8 y)->I0 Aj s.heap h'->Q () { s with heap:=h',toks:=s.toks+2 }) :
  AW ψ A (setAttr (.ref x) name v) Q E s:=by
 obtain⟨E0,Cb,AP⟩:=I.look;refine PySem.W.set_plain X Cb AK (PySem.W.osa_open (s:={ s with toks:=s.toks+1 }) (r:=none) X Cb AX Ax λb=>?_);obtain⟨cd,AO,F8⟩:=PySem.W.any_some An;have AJ:s.heap.get? x=some ⟨.ref C,some Aj,.plain,#[]⟩:=I.obj;refine AF (Ag (AF (AF (wpAny_loadPart AJ (AF (PySem.W.Looks.here (s:={ s with toks:=s.toks+1 }) (PySem.W.looks_clsIn X AO) ?_))))));rw[F8];refine Ag (a:=some Aj) (AF (Ag (AF ?_)));refine wpAny_nsSet1 (s:={ s with toks:=s.toks+1 }) I.ns λh' Yy Fi=>?_;obtain⟨alD,ajf,akM,wk,xi,xc⟩:=Yy.count (PySem.Within.cons name v hw);refine AF (wpAny_lookBehind wk (by rw[xi];exact pastItsLine_dict (Fp xc (by rw[HL];lia))) ?_);exact Ag (h _ ⟨(Fi.2 _ (He I.ne)).trans I.obj,Yy,I.ne⟩ Fi)
def aai {R:Result->ο} {vs:List A4} {kw:List (Str×A4)} (X:K.In s.heap) (hm:gC K C=true)(AC:Ju K (.ref C) "__init__"=some (some (.ref f))) (hf:PySem.W.typeIn K (.ref f)=some (.type "function"))(h:MB ψ (A.under (.builtin "type.__call__" ⟨.ref C::vs,kw⟩)) (.call (.ref f) ⟨.ref (s.heap.objs.size+1)::vs,kw⟩) (PySem.W.InitBack (s.heap.objs.size+1) R)
    { s with heap:=(s.heap.push Nu).push (PA C s.heap.objs.size) }) :
  MB ψ A (.call (.ref C) ⟨vs,kw⟩) R s:=by
 obtain⟨An,g,d,t,os⟩:=s;exact PySem.W.make_core (PySem.W.makes_of X hm) (PySem.W.looks_findIn X AC) (λself=>PySem.W.bind_fn X self hf) (.inl rfl) h
end
noncomputable def HC(f:Str)(v:V):List (Str×V)->List (Str×V)
 |[]=>[(f,v)]
 |(g,x)::r=>if g=f then(g,v)::r else(g,x)::HC f v r
theorem n3(f g:Str)(v:V):∀Aw:List (Str×V),(HC f v Aw).lookup g=if g=f then some v else Aw.lookup g
 |[]=>by
  show Qk g [(f,v)]=_;by_cases h:g=f
  .have J:(g==f)=true:=beq_iff_eq.mpr h;erw[Qk,J,if_pos h]
  .have J:(g==f)=false:=beq_eq_false_iff_ne.mpr h;erw[Qk,J,if_neg h]
 |(k,x)::r=>by
  have BW:=n3 f g v r;rw[show HC f v ((k,x)::r)=(if k=f then(k,v)::r else(k,x)::HC f v r)from rfl];by_cases AG:k=f
  .rw[if_pos AG];by_cases h:g=k
   .have J:(g==k)=true:=beq_iff_eq.mpr h;erw[Qk,J,if_pos (h.trans AG)]
   .have J:(g==k)=false:=beq_eq_false_iff_ne.mpr h;erw[Qk,J,if_neg (λe:g=f=>h (e.trans AG.symm))]
  .rw[if_neg AG];by_cases h:g=k
   .have J:(g==k)=true:=beq_iff_eq.mpr h;erw[Qk,J,if_neg (λe:g=f=>AG (h.symm.trans e))]
   .have J:(g==k)=false:=beq_eq_false_iff_ne.mpr h;erw[Qk,J];exact BW
theorem dI(f:Str)(v:V):∀Aw:List (Str×V),f∈(HC f v Aw).map (·.1)/\∀g,g∈Aw.map (·.1)->g∈(HC f v Aw).map (·.1)
 |[]=>⟨by simp[HC],λg h=>by simp at h⟩
 |(k,x)::r=>by
  obtain⟨Bf,By⟩:=dI f v r;rw[show HC f v ((k,x)::r)=(if k=f then(k,v)::r else(k,x)::HC f v r)from rfl];by_cases AG:k=f
  .rw[if_pos AG];subst AG;exact⟨γ,λg h=>(h:)⟩
  .rw[if_neg AG];refine⟨?_,λg h=>?_⟩
   .rw[Dc];exact FG _ Bf
   .rw[Dc]at h |-;rcases List.mem_cons.mp h with e|e
    .exact List.mem_cons.mpr (.inl e)
    .exact FG _ (By g e)
theorem lI(f:Str)(v:V):∀Aw:List (Str×V),(HC f v Aw).length<=Aw.length+1
 |[]=>by simp[HC]
 |(k,x)::r=>by
  have BW:=lI f v r;rw[show HC f v ((k,x)::r)=(if k=f then(k,v)::r else(k,x)::HC f v r)from rfl];by_cases AG:k=f
  .rw[if_pos AG,HL,HL];lia
  .rw[if_neg AG,HL,HL];lia
def IG.some_of{v:V}{o:Option A4}(r:IG (some v) o):∃u,o=some u/\RelV v u:=by
 cases o with
 |none=>exact(show False from r).elim
 |some u=>exact⟨u,rfl,r⟩
def IG.none_of{o:Option A4}(r:IG none o):o=none:=by
 cases o with
 |none=>rfl
 |some u=>exact(show False from r).elim
def xZ{v:V}{u:A4}(r:RelV v u):PySem.W.handedIn u=true:=by
 cases v with
 |non=>cases(show u=FF from r);rfl
 |AV b=>cases(show u=Sl b from r);rfl
 |int i=>obtain⟨t,e⟩:=(show ∃t,u=Jv i t from r);cases e;rfl
 |str x=>obtain⟨t,e⟩:=(show ∃t,u=YP x t from r);cases e;rfl
 |Ni b=>obtain⟨t,e⟩:=(show ∃t,u=Value.bytes b t from r);cases e;rfl
 |ZC b=>obtain⟨t,e⟩:=(show ∃t,u=Value.float b t from r);cases e;rfl
 |ref a=>cases(show u=DF a from r);rfl
 |ty n=>cases(show u=JJ n from r);rfl
section
variable{P:Ba}{w:BL}{K:AZ}{H H':AA}{h h':B2}{a C Aj:A6}{Aw kz:List (Str×V)}
def d3(BX:E6 P w K H h)(e:H a=some (.ins C Aj Aw)):∃E8,RA h a Aj C E8/\(∀f,IG (Aw.lookup f) (E8 f))/\gR E8 (Aw.map (·.1))/\Aw.length<=1000/\H Aj=some (.own a):=by obtain⟨d,z,ne,ob,E8,n,r,q⟩:=(show Em P w K H h a (.ins C Aj Aw)from BX a _ e);exact⟨E8,⟨ob,n,ne⟩,r,q,z,d⟩
end
structure JN(K:AZ)(C:A6):Prop where
 adT:Sa K C Str.empty=true
 hd:UY K C=true
 po:XW K C=true
 OD:Ju K (.ref C) "__setattr__"=some (some (.builtin "object.__setattr__"))
def JN.get{K:AZ}{C:A6}(c:JN K C)(f:Str):Sa K C f=true:=c.adT
def R8(K:AZ)(C:A6)(f:Str):Prop:=Ju K (.ref C) f=some none
def R8.afk{K:AZ}{C:A6}{f:Str}(n:R8 K C f):gB K C f=some none:=by unfold gB;rw[show Ju K (.ref C) f=some none from n];rfl
structure Meth(K:AZ)(C:A6)(m:Str)(f:A6):Prop where
 at_:Ju K (.ref C) m=some (some (.ref f))
 fn:Uj K (.ref f)=true
 kp:KV K (.ref f)=true
section
variable{X:Ad}{pins:υ}{σ :St}{H:AA}{s:AM}{a C Aj:A6}{Aw:List (Str×V)}{f:Str}{v:V}{A:Bt}{E:ξ}
def xM{b:Bool}{Q:ξ}(I:π)(e:H a=some (.ins C Aj Aw))(c:JN X.K C)(n:R8 X.K C f)(l:Aw.lookup f=some v)(h:∀u s',Inv X pins σ H s'->RelV v u->Q u s'):AW ω A (getAttr (.ref a) f b) Q E s:=by obtain⟨E8,O,r,_,_,_⟩:=d3 I.BX e;obtain⟨u,BD,FA⟩:=IG.some_of (v:=v) (o:=E8 f) (by rw[<-l];exact r f);exact get_map I.EA O (c.get f) c.hd n BD (xZ FA) (h u _ (I.tok _) FA)
def bk{m:Str}{g:A6}{pl:Sem Bool}{Q:A4×List A4->ο}(I:π)(e:H a=some (.ins C Aj Aw))(c:JN X.K C)(k:Meth X.K C m g)(l:Aw.lookup m=none)(h:Q (.ref g,[.ref a]) s):AW ω A (PH (.ref a) m pl) Q E s:=by obtain⟨E8,O,r,_,_,_⟩:=d3 I.BX e;have AQ:E8 m=none:=IG.none_of (by rw[<-l];exact r m);exact wI I.EA O (c.get m) k.at_ k.fn AQ h
def aep{y:V}{u:A4}{Q:Unit->ο}(I:π)(e:H a=some (.ins C Aj Aw))(c:JN X.K C)(n:R8 X.K C f)(AP:Aw.length<1000)(C0:RelV y u)(h:∀s',Inv X pins σ (upd H a (.ins C Aj (HC f y Aw))) s'->Q () s'):AW ω A (setAttr (.ref a) f u) Q E s:=by
 obtain⟨E8,O,r,Iq,_,AN⟩:=d3 I.BX e;have Ao:(Aw.map (·.1)).length<=CK:=by rw[Ea,Ii];lia
 refine aen I.EA O c.OD c.po n.afk c.hd Iq Ao λh' ho KP=>h _ ?_;have hd:∃o,h'.get? Aj=some o:=let⟨o,_,_,CF,_⟩:=ho.ns;⟨o,CF⟩
 refine I.write (x:=a) (e:=Aj) (by rw[e];exact M8) (.inr AN) (λb q J z=>(KP.2 b J).trans z) hd ?_;refine⟨by rw[DT O.ne];exact AN,?_,O.ne,ho.obj,_,ho.ns,λg=>?_,λg Aa=>?_⟩
 .have:=lI f y Aw;lia
 .show IG ((HC f y Aw).lookup g) (if g=f then some u else E8 g);rw[n3];by_cases q:g=f
  .rw[if_pos q,if_pos q];exact C0
  .rw[if_neg q,if_neg q];exact r g
 .by_cases q:g=f
  .rw[q];exact(dI f y Aw).1
  .refine(dI f y Aw).2 g (Iq g λz=>Aa ?_);show(if g=f then some u else E8 g)=none;rw[if_neg q];exact z
def Inv.made(I:π):Inv X pins σ (upd (upd H s.heap.objs.size (.own (s.heap.objs.size+1))) (s.heap.objs.size+1) (.ins C s.heap.objs.size []))
  { s with heap:=(s.heap.push Nu).push (PA C s.heap.objs.size) }:=by
 have A7:(s.heap.push Nu).get? s.heap.objs.size=some Nu:=EB s.heap rfl;have AH:((s.heap.push Nu).push (PA C s.heap.objs.size)).get? (s.heap.objs.size+1)=some (PA C s.heap.objs.size):=by
  have:=EB (s.heap.push Nu) (o:=PA C s.heap.objs.size) rfl
  rwa [KW]at this
 have B1:(s.heap.push Nu).Ns s.heap.objs.size (λ_=>none):=⟨Nu,#[],_,A7,rfl,(λe he=>absurd he γ),λ_=>rfl⟩;have B0:=I.laid (a:=s.heap.objs.size) (o:=.own (s.heap.objs.size+1)) (h':=s.heap.push Nu) (t':=s.toks) (λb u q=>Cp _ q) (CS _) ⟨_,A7⟩;refine B0.laid (a:=s.heap.objs.size+1) (o:=.ins C s.heap.objs.size []) (t':=s.toks) (λb u q=>Cp _ q) (gS (KW _ _)) ?_;have ne:s.heap.objs.size≠s.heap.objs.size+1:=Eb (Uc _);refine⟨by rw[DT ne,Do],Hy _,ne,AH,λ_=>none,(Heap.Ns1.of_empty B1).at λo q=>Cp _ q,λ_=>M8,λy BO=>absurd rfl BO⟩
def tB{prog:Ba}{w:BL}{env:Env}{e:AS}{f:Str}{pos:Pos}{s:AM}{Q:ξ}(J:Hz e f env (BH e env)=BH e env)(h:AW ψ A (BH e env) (λo D4=>AW ψ A (getAttr o f true) Q E D4) E s):AW ψ A (BH (.Attribute e f pos) env) Q E s:=
 Attribute_any_ h (by rw[arm_eval_Attribute,J])
end
def agU(K:AZ)(C1:TE)(f:Str):TE:=λσ H Q=>C1 σ H λx H1=>∃a C Aj Aw v,x=.ref a/\H1 a=some (.ins C Aj Aw)/\JN K C/\R8 K C f/\Aw.lookup f=some v/\Q v H1
noncomputable def ae5(K:AZ)(C1 OJ:TE)(f:Str):F4:=λD σ H=>OJ σ H λy H1=>C1 σ H1 λx B7=>∃a C Aj Aw,x=.ref a/\B7 a=some (.ins C Aj Aw)/\JN K C/\R8 K C f/\Aw.length<1000/\
 D.BG σ (upd B7 a (.ins C Aj (HC f y Aw)))
section
variable{X:Ad}{o e value:AS}{f:Str}{pos pos' QD:Pos}{C1 OJ:TE}
def e9(he:Ay X e C1)(J:Hz e f X.env (BH e X.env)=BH e X.env):Ay X (.Attribute e f pos) (agU X.K C1 f):=by intro pins s σ H Q I h;refine tB J (Bd (he pins s σ H _ I h) λu s1⟨x,H1,B0,BS,a,C,Aj,Aw,v,ex,Av,c,n,l,q⟩=>?_);subst ex;obtain rfl:u=DF a:=BS;exact xM B0 Av c n l λFE s2 C3 FA=>⟨v,H1,C3,FA,q⟩
def eE(AB:Ay X o C1)(BE:Ay X value OJ)(AK:M6 value (some (.Attribute o f pos')) pos.line X.env=pure false):Cz X (.Assign [.Attribute o f pos'] value pos) (ae5 X.K C1 OJ f):=by intro pins s σ H D I h;refine plainObj_wpAny_Assign_Attribute (Bd (BE pins s σ H _ I h) λu s1⟨y,H1,B0,C0,q⟩=>Bd (AB pins s1 σ H1 _ B0 q) λD1 s2⟨x,B7,C3,BS,a,C,Aj,Aw,ex,Av,c,n,l,BN⟩=>?_) AK;subst ex;obtain rfl:D1=DF a:=BS;exact aep C3 Av c n l C0 λs3 DX=>⟨σ,_,DX,BN⟩
def al8 {pl:Sem Bool} {m:Str} {apos:Pos} {args:List AS} {pins:υ} {s:AM} {σ :St} {H:AA} {Q:ξ} {Dv:TE} (he:Ay X e Dv) (I:π)(h:Dv σ H λx H1=>∃a C Aj Aw g,x=.ref a/\H1 a=some (.ins C Aj Aw)/\JN X.K C/\Meth X.K C m g/\Aw.lookup m=none/\
    ∀s1,Inv X pins σ H1 s1->AW ω X.A (Qq pos (.ref g) [.ref a] (Cq pos (B9 args X.env)) (Gr pos (Gp [] X.env))) Q X.xe s1)
  (Ax:BH (.Call (.Attribute e m apos) args [] pos) X.env=(do
    let D1 <-BH e X.env
    N2 apos.atName
    let(f,first) <-JK [D1] (PH D1 m pl)
    Qq pos f first (Cq pos (B9 args X.env)) (Gr pos (Gp [] X.env)))) :
  AW ω X.A (BH (.Call (.Attribute e m apos) args [] pos) X.env) Q X.xe s:=by
 refine g7 (pl:=pl) (Bd (he pins s σ H _ I h) λu s1⟨x,H1,B0,BS,a,C,Aj,Aw,g,ex,Av,c,k,l,q⟩=>?_) Ax;subst ex;obtain rfl:u=DF a:=BS;exact bk B0 Av c k l (q s1 B0)
end
section
variable{X:Ad}{pins:υ}{σ :St}{H:AA}{s:AM}{A:Bt}{E:ξ}{Q:ξ}{c:A4}{b:Bool}
end
structure CM(k:Nat)(A:Bt):Prop where
 hd:A.handled=none
 Zg:A.depth+3*k+5<recursionLimit
 un:A.units+16*k+200<DH
def CM.mono{j k:Nat}{A:Bt}(r:CM k A)(h:j<=k):CM j A:=⟨r.hd,by have:=r.Zg;lia,by have:=r.un;lia⟩
theorem CM.deeper{k:Nat}{A:Bt}(r:CM (k+1) A)(env:Env):CM k (A.deeper env):=
 ⟨r.hd,by have:=r.Zg;show A.depth+1+3*k+5<_;lia,by have:=r.un;show A.units+3+16*k+200<_;lia⟩
def aah{A:Bt}{C:A6}{us:List A4}{kw:List (Str×A4)}:(A.under (.builtin "type.__call__" ⟨.ref C::us,kw⟩)).depth=A.depth+1:=by
 first|rfl|simp[gW,Code.weight,Code.isCreation,Code.isGuard,Code.isCaller,Code.frames,gj,guardIds]
def aaj{A:Bt}{C:A6}{us:List A4}{kw:List (Str×A4)}:(A.under (.builtin "type.__call__" ⟨.ref C::us,kw⟩)).units=A.units+1:=by
 first|rfl|simp[gW,Code.cUnits,Code.frames,gj]
def CM.make{k:Nat}{A:Bt}(r:CM (k+1) A)(C:A6)(us:List A4)(kw:List (Str×A4)):CM k (A.under (.builtin "type.__call__" ⟨.ref C::us,kw⟩)):=
 ⟨r.hd,by have:=r.Zg;rw[aah];lia,by have:=r.un;rw[aaj];lia⟩
theorem CM.depth{k:Nat}{A:Bt}(r:CM k A):A.depth<recursionLimit:=by have:=r.Zg;lia
theorem CM.units{k:Nat}{A:Bt}(r:CM k A):A.units+64<DH:=by have:=r.un;lia
def b0:En:=λ_ H Q=>Q [] H
def p_(C1:TE)(EY:En):En:=λσ H Q=>C1 σ H λx H1=>EY σ H1 λxs B7=>Q (x::xs) B7
section
variable{X:Ad}{e:AS}{A2:List AS}{Dv:TE}{t:En}{pos:Pos}
def QI:G5 X [] b0:=λ_ _ _ _ H Q I h=>UZ ⟨[],H,I,.nil,h⟩
def Of(AB:Ay X e Dv)(B8:G5 X A2 t)(AK:Cl:=by rfl):G5 X (e::A2) (p_ Dv t):=by intro pos pins s σ H Q I h;rw[AK];show AW _ _ (spliced ((false,BH e X.env)::Cq pos (B9 A2 X.env))) _ _ s;refine SS (Bd (AB pins s σ H _ I h) λu s1⟨x,H1,B0,AL,Al⟩=>?_);exact Bd (B8 pos pins s1 σ H1 _ B0 Al) λus s2⟨xs,B7,C3,BA,BN⟩=>⟨x::xs,B7,C3,.cons AL BA,BN⟩
def rI(t:En):TE:=λσ H Q=>t σ H λxs H1=>xs.length<=CK/\∀p,H1 p=none->Q (.ref p) (upd H1 p (.tup xs))
def rA(t:En):TE:=λσ H Q=>t σ H λxs H1=>xs.length<=CK/\∀p,H1 p=none->Q (.ref p) (upd H1 p (.lst xs))
def adR{E2}(h:G5 X A2 t):Ay X (.Tuple A2 E2 pos) (rI t):=by intro pins s σ H Q I AT;refine wpAny_Tuple_spliced (Bd (h pos pins s σ H _ I AT) λus s1⟨xs,H1,B0,r,z,q⟩=>⟨by rw[<-r.length];exact z,?_⟩);have hf:H1 s1.heap.objs.size=none:=B0.BX.fresh (CS _);refine⟨.ref s1.heap.objs.size,upd H1 s1.heap.objs.size (.tup xs),B0.laid (t':=s1.toks) (λb u e=>Cp _ e) (CS _) ?_,rfl,q _ hf⟩;exact⟨z,us,r,⟨_,EB _ rfl,rfl,_,rfl⟩⟩
def adK(h:G5 X A2 t):Ay X (.List A2 pos) (rA t):=by intro pins s σ H Q I AT;refine wpAny_List_spliced (Bd (h pos pins s σ H _ I AT) λus s1⟨xs,H1,B0,r,z,q⟩=>⟨by rw[<-r.length];exact z,?_⟩);have hf:H1 s1.heap.objs.size=none:=B0.BX.fresh (CS _);refine⟨.ref s1.heap.objs.size,upd H1 s1.heap.objs.size (.lst xs),B0.laid (t':=s1.toks) (λb u e=>Cp _ e) (CS _) ?_,rfl,q _ hf⟩;exact⟨z,us,0,r,EB _ rfl⟩
end
abbrev BJ:=List V->AA->CQ->D0->Prop
abbrev Kd:=List Env->AA->AM->D0->ξ
structure R4(P:Ba)(w:BL)(K:AZ)(mg:Str->Option A4)(base:B2)(A:Bt)(outer:List Env)(s:AM)(H:AA):Prop where
 frames:A.frames=some outer
 mod:Mod K mg base
 bs:∀b o,base.get? b=some o->dl/\H b=none
 QA:base.objs.size<=s.heap.objs.size
 K8:s.heap.FunFrames base outer
 S0:∀b∈Ef outer,H b=none
 BX:E6 P w K H s.heap
 bare:N1 s.gens
noncomputable def gn(outer:List Env)(P:Ba)(w:BL)(K:AZ)(H:AA)(s:AM)(Q:CQ)(u:A4)(s':AM):Prop:=
 ∃v H',s'.os=s.os/\N1 s'.gens/\GI (Ef outer) [] H H' s.heap s'.heap/\E6 P w K H' s'.heap/\RelV v u/\Q v H'
noncomputable def tJ(CX:Kd)(outer:List Env)(P:Ba)(w:BL)(K:AZ)(H:AA)(s:AM)(Q:CQ)(E:D0)(r:Result)(s':AM):Prop:=
 match r with
 |.ok (.ret u)=>gn outer P w K H s Q u s'
 |.ok _=>False
 |.error e=>CX outer H s E e s'
structure G_(P:Ba)(w:BL)(K:AZ)(mg:Str->Option A4)(base:B2)(CX:Kd)(k:Nat)(f:A6)(fd:G3)(Am:List Str)(sp:BJ):Prop where
 len:∀vs H Q E,sp vs H Q E->vs.length=Am.length
 run:∀(A:Bt)(outer:List Env)(s:AM)(H:AA)(args:Args)(us:List A4)(vs:List V)(Q:CQ)(E:D0),CM k A->R4 P w K mg base A outer s H->BindsTo s fd args (Am.zip us)->Vals vs us->sp vs H Q E->
  MB (Aq P w) A (.call (.ref f) args) (tJ CX outer P w K H s Q E) s
def G_.imp{P:Ba}{w:BL}{K:AZ}{mg:Str->Option A4}{base:B2}{CX:Kd}{k:Nat}{f:A6}{fd:G3}{Am:List Str}{sp ps:BJ}(F:G_ P w K mg base CX k f fd Am sp)(h:∀vs H Q E,ps vs H Q E->sp vs H Q E):G_ P w K mg base CX k f fd Am ps:=
 ⟨λvs H Q E q=>F.len vs H Q E (h _ _ _ _ q),λA outer s H args us vs Q E B8 he J BE AK=>F.run A outer s H args us vs Q E B8 he J BE (h _ _ _ _ AK)⟩
def R4.make{P:Ba}{w:BL}{K:AZ}{mg:Str->Option A4}{base:B2}{A:Bt}{outer:List Env}{s:AM}{H:AA}(e:R4 P w K mg base A outer s H)(C:A6)(us:List A4)(kw:List (Str×A4)) :
  R4 P w K mg base (A.under (.builtin "type.__call__" ⟨.ref C::us,kw⟩)) outer s H:=⟨by first|exact e.frames|(simpa[gW,Code.envs,gj,pushEnvs]using e.frames),e.mod,e.bs,e.QA,e.K8,e.S0,e.BX,e.bare⟩
section
variable{X:Ad}{pins:υ}{σ :St}{H:AA}{s s':AM}
def Inv.jX(I:π):R4 X.prog X.w X.K X.mg X.base X.A X.stack s H:=
 ⟨I.ok.frames,I.ok.mod,I.bs,Fp I.ok.QA I.Ll,I.stack,I.fV,I.BX,I.bare⟩
def Inv.after{Q:CQ}{u:A4}(I:π)(h:gn X.stack X.prog X.w X.K H s Q u s'):GZ X pins σ Q u s':=by obtain⟨v,H',os,bare,un,BX,r,q⟩:=h;obtain⟨An,g,d,t,e4⟩:=s';obtain rfl:e4=s.os:=os;exact⟨v,H',I.call (h':=An) (g':=g) (d':=d) (t':=t) (ch:=[]) un BX bare (λb z=>absurd z γ),r,q⟩
end
def ax(sp:BJ)(Gv:List V)(E:D0)(t:En):TE:=λσ H Q=>t σ H λvs H1=>sp (vs++Gv) H1 Q E
def X2(C:A6)(m:Str)(sp:BJ)(Gv:List V)(E:D0)(C1:TE)(t:En):TE:=λσ H Q=>C1 σ H λx H1=>∃a Aj Aw,x=.ref a/\H1 a=some (.ins C Aj Aw)/\Aw.lookup m=none/\
 t σ H1 λvs B7=>sp (x::(vs++Gv)) B7 Q E
noncomputable def fc(C:A6)(sp:BJ)(Gv:List V)(E:D0)(t:En):TE:=λσ H Q=>t σ H λvs H1=>∀x Aj,H1 x=none->H1 Aj=none->Aj≠x->
 sp (.ref x::(vs++Gv)) (upd (upd H1 Aj (.own x)) x (.ins C Aj [])) (λv B7=>v=.non/\Q (.ref x) B7) E
def Binds(K:AZ)(fd:G3)(Am:List Str)(ds:List A4):Prop:=
 ∀(s:AM)(us:List A4),K.In s.heap->(us++ds).length=Am.length->BindsTo s fd ⟨us,[]⟩ (Am.zip (us++ds))
def Binds.all{K:AZ}{fd:G3}{Am:List Str}(h:∀us:List A4,us.length=Am.length->So fd ⟨us,[]⟩=pure (Am.zip us)):Binds K fd Am []:=λs us _ AP=>by rw[Ly]at AP |-;exact .of_eq (h us AP)
def Passes(CX:Kd)(X:Ad)(E:D0):Prop:=∀(pins:υ)(σ :St)(H:AA)(s:AM)(e:A4)(s':AM),π->CX X.stack H s E e s'->X.xe e s'
section
variable{X:Ad}{CX:Kd}{k:Nat}{f C:A6}{fd:G3}{Am:List Str}{sp:BJ}{Gv:List V}{ds:List A4}{E:D0}{x m:Str}{p pos apos:Pos}{e o:AS}{A2:List AS}{C1:TE}{t:En}
def eN{pins:υ}{σ :St}{H:AA}{s:AM}{Q:CQ}{us:List A4}{vs:List V}(F:G_ X.prog X.w X.K X.mg X.base CX k f fd Am sp)(B8:CM k X.A)(J:Binds X.K fd Am ds)(hd:Vals Gv ds)(AJ:Passes CX X E)(I:π)(r:Vals vs us)(h:sp (vs++Gv) H Q E):AW ω X.A (call (.ref f) us) (GZ X pins σ Q) X.xe s:=by
 have BA:Vals (vs++Gv) (us++ds):=r.append hd;have AP:(us++ds).length=Am.length:=by rw[<-BA.length];exact F.len _ _ _ _ h
 refine wpAny_call (Sf (F.run X.A X.stack s H ⟨us,[]⟩ (us++ds) (vs++Gv) Q E B8 I.jX (J s us I.EA AP) BA h) λr s' AT=>?_);cases r with
 |error e=>exact AJ pins σ H s e s' I AT
 |ok G1=>
  cases G1 with
  |ret u=>exact I.after AT
  |next=>exact KZ AT
  |brk=>exact KZ AT
  |cont=>exact KZ AT
def Zq(F:G_ X.prog X.w X.K X.mg X.base CX k f fd Am sp)(B8:CM k X.A)(Aa:Dg X x)(hm:X.mg x=some (.ref f))(AG:KV X.K (.ref f)=true)(J:Binds X.K fd Am ds)(hd:Vals Gv ds)(AJ:Passes CX X E)(AB:G5 X (e::A2) t)(GB:ι:=by decide)(he:Cl:=by rfl)(DQ:(Cq pos (B9 A2 X.env)).any (·.1)=false:=by rfl) :
  Ay X (.Call (.Name x p) (e::A2) [] pos) (ax sp Gv E t):=by
 intro pins s σ H Q I h;refine Uh (aX I Aa hm ?_ GB);refine fw (h₀:=X.base) I.ok.mod.JA AG (Bd (AB pos pins s σ H _ I h) λus s1⟨vs,H1,B0,r,q⟩=>⟨B0.EA,?_⟩) he DQ;exact eN F B8 J hd AJ B0 r q
def oB {pl:Sem Bool} (he:Ay X o C1) (c:JN X.K C) (hm:Meth X.K C m f) (F:G_ X.prog X.w X.K X.mg X.base CX k f fd Am sp) (B8:CM k X.A) (J:Binds X.K fd Am ds) (hd:Vals Gv ds) (AJ:Passes CX X E) (AB:G5 X (e::A2) t)(Gk:Cl:=by rfl) (DQ:(Cq pos (B9 A2 X.env)).any (·.1)=false:=by rfl)(Ax:BH (.Call (.Attribute o m apos) (e::A2) [] pos) X.env=(do
    let D1 <-BH o X.env
    N2 apos.atName
    let(f,first) <-JK [D1] (PH D1 m pl)
    Qq pos f first (Cq pos (B9 (e::A2) X.env)) (Gr pos (Gp [] X.env))):=by rfl) :
  Ay X (.Call (.Attribute o m apos) (e::A2) [] pos) (X2 C m sp Gv E C1 t):=by
 intro pins s σ H Q I h;refine g7 (pl:=pl) (Bd (he pins s σ H _ I h) λu s1⟨x,H1,B0,BS,a,Aj,Aw,ex,Av,l,q⟩=>?_) Ax;subst ex;obtain rfl:u=DF a:=BS;refine bk B0 Av c hm l ?_;refine fw (first:=[.ref a]) (h₀:=X.base) I.ok.mod.JA hm.kp (Bd (AB pos pins s1 σ H1 _ B0 q) λus s2⟨vs,B7,C3,r,BN⟩=>⟨C3.EA,?_⟩) Gk DQ;exact eN (us:=.ref a::us) (vs:=.ref a::vs) F B8 J hd AJ C3 (.cons rfl r) BN
def adL {pl:Sem Bool} (he:Ay X o C1) (c:JN X.K C) (hm:Meth X.K C m f) (F:G_ X.prog X.w X.K X.mg X.base CX k f fd Am sp) (B8:CM k X.A) (J:Binds X.K fd Am ds) (hd:Vals Gv ds) (AJ:Passes CX X E)(Ax:BH (.Call (.Attribute o m apos) [] [] pos) X.env=(do
    let D1 <-BH o X.env
    N2 apos.atName
    let(f,first) <-JK [D1] (PH D1 m pl)
    Qq pos f first (Cq pos (B9 [] X.env)) (Gr pos (Gp [] X.env))):=by rfl) :
  Ay X (.Call (.Attribute o m apos) [] [] pos) (X2 C m sp Gv E C1 b0):=by
 intro pins s σ H Q I h;refine g7 (pl:=pl) (Bd (he pins s σ H _ I h) λu s1⟨x,H1,B0,BS,a,Aj,Aw,ex,Av,l,q⟩=>?_) Ax;subst ex;obtain rfl:u=DF a:=BS;refine bk B0 Av c hm l ?_;exact PySem.W.callWith_K0 (first:=[.ref a]) B0.EA hm.kp (eN (us:=[.ref a]) (vs:=[.ref a]) F B8 J hd AJ B0 (.cons rfl .nil) q)
structure V7(K:AZ)(C f:A6):Prop where
 makes:gC K C=true
 init:Ju K (.ref C) "__init__"=some (some (.ref f))
 fn:Uj K (.ref f)=true
 kp:KV K (.ref C)=true
def adw{pins:υ}{σ :St}{H:AA}{s:AM}{Q:CQ}{us:List A4}{vs:List V}(M:V7 X.K C f)(F:G_ X.prog X.w X.K X.mg X.base CX k f fd Am sp)(B8:CM (k+1) X.A)(J:Binds X.K fd Am ds)(hd:Vals Gv ds)(AJ:Passes CX X E)(I:π)(r:Vals vs us)(h:∀x Aj,H x=none->H Aj=none->Aj≠x->sp (.ref x::(vs++Gv)) (upd (upd H Aj (.own x)) x (.ins C Aj [])) (λv B7=>v=.non/\Q (.ref x) B7) E) :
  AW ω X.A (call (.ref C) us) (GZ X pins σ Q) X.xe s:=by
 have AT:=h (s.heap.objs.size+1) s.heap.objs.size (I.BX.fresh (M3 _)) (I.BX.fresh (CS _)) (Eb (Uc _));have C3:=Inv.made (C:=C) I;have BA:Vals (V.ref (s.heap.objs.size+1)::(vs++Gv)) (DF (s.heap.objs.size+1)::(us++ds)):=.cons rfl (r.append hd);have AP:(DF (s.heap.objs.size+1)::us++ds).length=Am.length:=by have e:=BA.length;rw[F.len _ _ _ _ AT]at e;exact e.symm
 refine wpAny_call (aai (f:=f) I.EA M.makes M.init (beq_iff_eq.mp M.fn) (Sf (F.run _ X.stack _ _ ⟨DF (s.heap.objs.size+1)::us,[]⟩ (DF (s.heap.objs.size+1)::(us++ds)) _ _ E (B8.make C us [])
  (C3.jX.make C us []) (J _ (DF (s.heap.objs.size+1)::us) C3.EA AP) BA AT) λr s' Pc=>?_))
 cases r with
 |error e=>exact AJ pins σ _ _ e s' C3 Pc
 |ok G1=>
  cases G1 with
  |ret u=>obtain⟨v,H',DX,C9,ev,Dt⟩:=C3.after Pc;subst ev;exact⟨C9,⟨V.ref (s.heap.objs.size+1),H',DX,rfl,Dt⟩⟩
  |next=>exact KZ Pc
  |brk=>exact KZ Pc
  |cont=>exact KZ Pc
def oA(M:V7 X.K C f)(F:G_ X.prog X.w X.K X.mg X.base CX k f fd Am sp)(B8:CM (k+1) X.A)(Aa:Dg X x)(hm:X.mg x=some (.ref C))(J:Binds X.K fd Am ds)(hd:Vals Gv ds)(AJ:Passes CX X E)(AB:G5 X (e::A2) t)(GB:ι:=by decide)(he:Cl:=by rfl)(DQ:(Cq pos (B9 A2 X.env)).any (·.1)=false:=by rfl) :
  Ay X (.Call (.Name x p) (e::A2) [] pos) (fc C sp Gv E t):=by
 intro pins s σ H Q I h;refine Uh (aX I Aa hm ?_ GB);refine fw (h₀:=X.base) I.ok.mod.JA M.kp (Bd (AB pos pins s σ H _ I h) λus s1⟨vs,H1,B0,r,q⟩=>⟨B0.EA,?_⟩) he DQ;exact adw M F B8 J hd AJ B0 r q
end
noncomputable def K2(X:Ad)(lE:List FS)(t:En):Prop:=
 ∀(pos:Pos)(pins:υ)(s:AM)(σ :St)(H:AA)(Q:List V->AA->Prop),π->t σ H Q->AW ω X.A (evalAll ((Gr pos (Gp lE X.env)).map (·.2))) (i4 X pins σ Q) X.xe s
section
variable{X:Ad}{CX:Kd}{k:Nat}{f C:A6}{fd:G3}{Am ks:List Str}{sp:BJ}{E:D0}{x m:Str}{p pos apos ajd:Pos}{e o:AS}{A2:List AS}{lE:List FS}{Dv C1:TE}{t BU:En}{nm:Option Str}
variable{g:List A4->List A4->List A4}{ajq:List V->List V->List V}
end
structure CT(N P:List Str)(sc:Dn):Prop where
 kind:sc.kind=.function
 co:sc.isCoroutine=false
 gen:sc.isGenerator=false
 CW:N.Nodup
 pre:N.take P.length=P
 par:∀x∈P,sc.names.lookup x=some .local\/sc.names.lookup x=some .cell
 acJ:∀y∈sc.names,y.2≠.free
theorem ic{JL:Str->Option K_}{x:Str}:∀{binds:List (Str×A4)}{m:Str->Option A4},(∀v,(x,v)∉binds)->bindL JL binds m x=m x
 |[],_,_=>rfl
 |(n,v)::r,m,h=>by
  unfold bindL;rw[ic λw hw=>h w (FG _ hw)]
  split
  .have:x≠n:=by rintro rfl;exact h v LJ
   simp[this]
  .rfl
theorem ia{JL:Str->Option K_}{x:Str}:∀{binds:List (Str×A4)}{m:Str->Option A4},(∀v,(x,v)∉binds)->bindC JL binds m x=m x
 |[],_,_=>rfl
 |(n,v)::r,m,h=>by
  unfold bindC;rw[ia λw hw=>h w (FG _ hw)]
  split
  .rfl
  .have:x≠n:=by rintro rfl;exact h v LJ
   simp[this]
theorem ib{JL:Str->Option K_}{x:Str}{v:A4}:∀{P:List Str}{vs:List A4}{i:Nat}{m:Str->Option A4},P.Nodup->P[i]?=some x->vs[i]?=some v->JL x=some .local->
  bindL JL (P.zip vs) m x=some v
 |[],_,_,_,_,h,_,_=>by simp at h
 |_::_,[],_,_,_,_,h,_=>by simp at h
 |p::P,w::vs,0,m,CW,A5,A8,AG=>by simp at A5 A8;subst A5;subst A8;show bindL JL ((p,w)::P.zip vs) m p=_;unfold bindL;rw[ic λv BE=>(List.nodup_cons.mp CW).1 (Xo BE).1,if_pos AG];simp
 |p::P,w::vs,i+1,m,CW,A5,A8,AG=>by show bindL JL ((p,w)::P.zip vs) m x=_;unfold bindL;exact ib (i:=i) (List.nodup_cons.mp CW).2 (A5:) (A8:) AG
theorem i_{JL:Str->Option K_}{x:Str}{v:A4}:∀{P:List Str}{vs:List A4}{i:Nat}{m:Str->Option A4},P.Nodup->P[i]?=some x->vs[i]?=some v->JL x≠some .local->
  bindC JL (P.zip vs) m x=some v
 |[],_,_,_,_,h,_,_=>by simp at h
 |_::_,[],_,_,_,_,h,_=>by simp at h
 |p::P,w::vs,0,m,CW,A5,A8,AG=>by simp at A5 A8;subst A5;subst A8;show bindC JL ((p,w)::P.zip vs) m p=_;unfold bindC;rw[ia λv BE=>(List.nodup_cons.mp CW).1 (Xo BE).1,if_neg AG];simp
 |p::P,w::vs,i+1,m,CW,A5,A8,AG=>by show bindC JL ((p,w)::P.zip vs) m x=_;unfold bindC;exact i_ (i:=i) (List.nodup_cons.mp CW).2 (A5:) (A8:) AG
noncomputable def start(N:List Str)(vs:List V):St:=vs.map some++GF (N.length-vs.length) none
noncomputable def F0(CX:Kd)(P:Ba)(w:BL)(K:AZ)(mg:Str->Option A4)(base:B2)(N:List Str)(qual:Str)(scope:Dn)(f:A6)(cd:A4)(A:Bt)(outer:List Env)(s:AM)(H:AA)(E:D0):Ad where
 prog:=P
 w:=w
 K:=K
 mg:=mg
 base:=base
 A:=A.deeper (O5 qual scope s.heap.objs.size f cd)
 N:=N
 Fm:=s
 R5:=H
 env:=O5 qual scope s.heap.objs.size f cd
 outer:=outer
 stack:=O5 qual scope s.heap.objs.size f cd::outer
 ex:=[]
 calm:=true
 fn:=λ_=>true
 Bl:=[]
 xe:=λe s'=>AW (Aq P w) (A.deeper (O5 qual scope s.heap.objs.size f cd)) (leaving (O5 qual scope s.heap.objs.size f cd) e) (λ_ Jn=>CX outer H s E e Jn) (λCF Jn=>CX outer H s E CF Jn) s'
def cW{sc:Dn}{n:Nat}{x:Str}(h:sc.names.lookup x=some .cell):∃c,(HZ n sc.names []).lookup x=some c:=by have q:=rz sc.names n [] (.inl h);exact Option.isSome_iff_exists.mp q
def yy{CX:Kd}{P:Ba}{w:BL}{K:AZ}{mg:Str->Option A4}{base:B2}{N Am:List Str}{qual:Str}{scope:Dn}{f:A6}{cd:A4}{A:Bt}{outer:List Env}{s s1:AM}{H:AA}{E:D0}{us:List A4}{vs:List V}(S:CT N Am scope)(hd:A.handled=none)(D7:R4 P w K mg base A outer s H)(AP:vs.length=Am.length)(r:Vals vs us)(x:InCallC s s.heap.objs.size (bindL (O5 qual scope s.heap.objs.size f cd).kindOf (Am.zip us) λ_=>none) (HZ (s.heap.objs.size+1) scope.names []) (bindC (O5 qual scope s.heap.objs.size f cd).kindOf (Am.zip us) λ_=>none) s1) :
  Inv (F0 CX P w K mg base N qual scope f cd A outer s H E) [] (start N vs) H s1:=by
 have DQ:Am.length<=N.length:=by have:=congrArg M4 S.pre;rw[Sb]at this;lia
 obtain⟨A5,BU,rfl,AG⟩:=x.done;have WS:∀b:A6,b∉(F0 CX P w K mg base N qual scope f cd A outer s H E).ex:=λb z=>absurd (show b∈([]:List A6)from z) γ
 refine⟨⟨D7.mod,S.kind,rfl,rfl,CS _,λy z c A5 A8=>?_,λy BO=>?_,λy c _ h=>?_,λ_=>hd,Around.frames_deeper D7.frames,.inr ⟨rfl,rfl⟩,λb z=>absurd z (WS b),D7.bs,D7.QA,λb _ _=>WS b,λb z=>absurd z (WS b),D7.K8,D7.S0⟩,
  rfl,D7.bare,GI.kept AG,⟨_,x.toInCall.ns,λi y v A5 A8 Au=>?_⟩,λy c h=>⟨_,x.cell y c h⟩,D7.BX.fresh (CS _),λy c h=>?_,λp AX=>absurd (show p∈([]:υ)from AX) γ,D7.BX.kept AG,?_⟩
 .exact name_of_addr x.apart (Mx A5) (Mx A8)
 .have BO:scope.names.lookup y=some .cell\/scope.names.lookup y=some .free:=BO;rcases BO with BO|BO
  .exact cW BO
  .exact absurd rfl (S.acJ _ (Mx BO))
 .exact Nx (x.above y c (Mx h))
 .have AC:i<vs.length:=by
    unfold start at A8;by_cases AC:i<vs.length
    .exact AC
    .rw[Nq (AC:)]at A8;rw[P6]at A8
     split at A8<;>cases A8
  have AB:vs[i]?=some v:=by
   unfold start at A8;rw[Ms (AC:),Dm]at A8;cases e:vs[i]? with
   |none=>rw[e]at A8;cases A8
   |some a=>rw[e]at A8;cases A8;rfl
  obtain⟨u,BD,C9⟩:=r.get AB;have AX:Am[i]?=some y:=by rw[<-S.pre,List.getElem?_take_of_lt δ];exact A5
  have mY:Am.Nodup:=by rw[<-S.pre];exact S.CW.sublist (List.take_sublist _ _)
  refine⟨u,C9,?_⟩;rcases S.par y (HY AX)with k|k
  .exact .inl ⟨k,ib mY AX BD k⟩
  .obtain⟨c,e⟩:=cW (n:=s.heap.objs.size+1) k;refine .inr ⟨.inl k,c,e,?_⟩;have q:=x.cell y c e;rw[i_ mY AX BD (by show scope.names.lookup y≠_;rw[k];decide)]at q;exact q
 .exact D7.BX.fresh (Nx (x.above y c (Mx h)))
 .unfold start;show _=N.length;rw[KX,Ea,SV];lia
def kr {CX:Kd} {P:Ba} {w:BL} {K:AZ} {mg:Str->Option A4} {base:B2} {k:Nat} {f:A6} {name qual:Str} {params:Arguments} {body:List BZ} {scope:Dn} {Zd D_ doc pm CA Di Hs:A4} {an E0:Option A6}{Mj:Array (Option A4)} {N Am:List Str} {sp:BJ} (lk:K.lookup f=some ⟨Hs,E0,.func (JH name qual params body scope Zd D_ doc pm an CA Di),Mj⟩) (D8:P8 K CA qual=true) (S:CT N Am scope)(len:∀vs H Q E,sp vs H Q E->vs.length=Am.length)(dQ:∀(A:Bt)(outer:List Env)(s:AM)(H:AA)(vs:List V)(Q:CQ)(E:D0),CM k (A.deeper (O5 qual scope s.heap.objs.size f CA))->sp vs H Q E->
    ∃t,Gb (F0 CX P w K mg base N qual scope f CA A outer s H E) body t/\t { BG:=λ_ H'=>Q .non H',Du:=Q } (start N vs) H) :
  G_ P w K mg base CX (k+1) f (JH name qual params body scope Zd D_ doc pm an CA Di) Am sp:=by
 refine⟨len,λA outer s H args us vs Q E B8 D7 J r Pd=>?_⟩;have AP:=len _ _ _ _ Pd;have ID:K.In s.heap:=D7.mod.JA.keeps λb o e=>(D7.bs b o e).1;have lim:s.heap.NoLimit:=D7.mod.nolimit.keeps λb o e=>(D7.bs b o e).1;have x9:∀y∈Am.zip us,scope.names.lookup y.1=some .local\/(scope.names.lookup y.1=some .cell/\((HZ (s.heap.objs.size+1) scope.names []).lookup y.1).isSome=true):=λ⟨n,v⟩ BO=>by
  rcases S.par n (Xo BO).1 with q|q
  .exact .inl q
  .exact .inr ⟨q,rz _ _ _ (.inl q)⟩
 refine codeAny_call_function B8.depth (ID _ _ lk) rfl S.co S.gen rfl (PySem.W.codeRec_of ID D8) (J _ _ _ _ ?_);refine wpAny_newFunctionEnv_cells S.kind x9 λenv he s1 x=>?_;subst he;refine⟨lim.keeps x.toInCall.keep,codeAny_func ?_⟩;obtain⟨t,Ax,AT⟩:=dQ A outer s H vs Q E (B8.deeper _) Pd;have I:Inv (F0 CX P w K mg base N qual scope f CA A outer s H E) [] (start N vs) H s1:=yy S B8.hd D7 AP r x;refine Ha (Ax [] s1 (start N vs) H _ I AT) (λG1 s' AK=>?_) λe s' AK=>AK;have fin:∀{σ' :St}{H':AA}{v:V}{u:A4},Inv (F0 CX P w K mg base N qual scope f CA A outer s H E) [] σ' H' s'->RelV v u->Q v H'->gn outer P w K H s Q u s':=
  λ{σ' H' v u} Cb C9 q=>⟨v,H',Cb.os,Cb.bare,Cb.base,Cb.BX,C9,q⟩
 cases G1 with
 |ret u=>obtain⟨v,σ',H',Cb,C9,q⟩:=AK;exact fin Cb C9 q
 |next=>obtain⟨σ',H',Cb,q⟩:=AK;exact fin (v:=V.non) (u:=FF) Cb rfl q
 |brk=>obtain⟨_,_,_,q⟩:=AK;exact KZ q
 |cont=>obtain⟨_,_,_,q⟩:=AK;exact KZ q
section
variable{X:Ad}{x:Str}{p pos:Pos}{e:AS}{A2:List AS}{t:En}{id T:String}{r:List V->AA->CQ->Prop}
def aw(r:List V->AA->CQ->Prop)(t:En):TE:=λσ H Q=>t σ H λvs H1=>r vs H1 Q
def W2(AO:HM X (.builtin id) r)(Aa:Dg X x)(hm:X.mg x=none)(BE:LM x=some (.builtin id))(AB:G5 X (e::A2) t)(AQ:x≠"__name__":=by decide)(GB:ι:=by decide)(he:Cl:=by rfl)(DQ:(Cq pos (B9 A2 X.env)).any (·.1)=false:=by rfl):Ay X (.Call (.Name x p) (e::A2) [] pos) (aw r t):=by intro pins s σ H Q I h;refine Uh (OT I Aa hm BE ?_ AQ GB);exact PyProof.Rows.callWith_builtin1 (Bd (AB pos pins s σ H _ I h) λus s1⟨vs,H1,B0,AL,Al⟩=>AO pins s1 σ H1 vs us Q B0 AL Al) he DQ
def e8(AO:HM X (.type T) r)(Aa:Dg X x)(hm:X.mg x=none)(BE:LM x=some (.type T))(AB:G5 X (e::A2) t)(AQ:x≠"__name__":=by decide)(GB:ι:=by decide)(he:Cl:=by rfl)(DQ:(Cq pos (B9 A2 X.env)).any (·.1)=false:=by rfl):Ay X (.Call (.Name x p) (e::A2) [] pos) (aw r t):=by intro pins s σ H Q I h;refine Uh (OT I Aa hm BE ?_ AQ GB);exact QZ (Bd (AB pos pins s σ H _ I h) λus s1⟨vs,H1,B0,AL,Al⟩=>AO pins s1 σ H1 vs us Q B0 AL Al) he DQ
end
end Bv
namespace Ec
open PySem PyProof.Rows
section
open PySem.SeqAt
open PySem.AutoSeq1 (wpAny_loadPart')
open PySem.MeetsSeq PySem.MeetsSeq2 PySem.MeetsSeq3
end
section
variable{prog:Ba}{w:BL}{A:Bt}{E:ξ}{s:AM}
noncomputable def FD(n d:Nat):Option Int->Nat
 |none=>d
 |some v=>if v<0 then(v+(n:Int)).toNat else min v.toNat n
def adW(n d:Nat):FD n d none=d:=rfl
def adV(n d k:Nat):FD n d (some (k:Int))=min k n:=by show(if(k:Int)<0 then((k:Int)+(n:Int)).toNat else min (k:Int).toNat n)=min k n;rw[if_neg δ,LK]
end
end Ec
namespace Bv
open PySem PySem.Spec PyProof.Rows
abbrev CC:=St->AA->(Option Int->AA->Prop)->Prop
noncomputable def Vh(X:Ad)(e:Option AS)(t:CC):Prop:=
 ∀(pins:υ)(s:AM)(σ :St)(H:AA)(Q:Option Int->AA->Prop),π->t σ H Q->
  AW ω X.A (evalPart e X.env) (λu s'=>∃o H',Inv X pins σ H' s'/\IsPart u o/\Q o H') X.xe s
def afg:CC:=λ_ H Q=>Q none H
def afh(t:TE):CC:=λσ H Q=>t σ H λx H1=>∃i,x=.int i/\Q (some i) H1
section
variable{X:Ad}{e:AS}{Dv:TE}{lo AC:Option AS}{Ei b3:CC}{pos DU:Pos}
def acw:Vh X none afg:=by intro pins s σ H Q I h;rw[evalPart_none];exact Ag ⟨none,H,I,.none,h⟩
def acx(h:Ay X e Dv):Vh X (some e) (afh Dv):=by intro pins s σ H Q I hw;rw[evalPart_some];refine Bd (h pins s σ H _ I hw) λu s1⟨x,H1,B0,AL,Al⟩=>?_;obtain⟨i,rfl,q⟩:=Al;obtain⟨t,rfl⟩:=AL;exact⟨some i,H1,B0,.int i t,q⟩
noncomputable def RF(X:Ad)(r:V->Option Int->Option Int->AA->CQ->Prop):Prop:=
 ∀(pins:υ)(s:AM)(σ :St)(H:AA)(x:V)(v Lp Lq:A4)(lo AC:Option Int)(CJ:A6)(Q:CQ),π->RelV x v->s.heap.IsSliceOf CJ Lp Lq .none->IsPart Lp lo->IsPart Lq AC->r x lo AC H Q->
  ∃T id,typeLookup (.type T) "__getitem__"=pure (some (.builtin id))/\s.TypeIs v T/\AW ω X.A (getItem v (.ref CJ)) (GZ X pins σ Q) X.xe s
def RF.or{r BB:V->Option Int->Option Int->AA->CQ->Prop}(h:RF X r)(h':RF X BB):RF X (λx lo AC H Q=>r x lo AC H Q\/BB x lo AC H Q):=by
 intro pins s σ H x v Lp Lq lo AC CJ Q I BS AK pl pu q;rcases q with q|q
 .exact h pins s σ H x v Lp Lq lo AC CJ Q I BS AK pl pu q
 .exact h' pins s σ H x v Lp Lq lo AC CJ Q I BS AK pl pu q
def rH(r:V->Option Int->Option Int->AA->CQ->Prop)(Dv:TE)(Ei b3:CC):TE:=λσ H Q=>Dv σ H λx H1=>Ei σ H1 λl B7=>b3 σ B7 λu Cx=>r x l u Cx Q
def adQ{r:V->Option Int->Option Int->AA->CQ->Prop}(B8:RF X r)(he:Ay X e Dv)(AP:Vh X lo Ei)(BD:Vh X AC b3):Ay X (.Subscript e (.Slice lo AC none DU) pos) (rH r Dv Ei b3):=by intro pins s σ H Q I h;refine Subscript_ (Bd (he pins s σ H _ I h) λv s1⟨x,H1,B0,AL,Al⟩=>?_);refine wpAny_Slice (Bd (AP pins s1 σ H1 _ B0 Al) λLp s2⟨l,B7,C3,pl,BN⟩=>Bd (BD pins s2 σ B7 _ C3 BN) λLq s3⟨u,Cx,DX,pu,Dt⟩=>?_);rw[evalPart_none];refine Ag ?_;have LY:Inv X pins σ Cx { s3 with heap:=s3.heap.push { cls:=.type "slice",data:=.fields #[Lp,Lq,.none] } }:=DX.kept (t':=s3.toks) λb ob q=>Cp _ q;obtain⟨T,id,C7,Ax,Aa⟩:=B8 pins { s3 with heap:=s3.heap.push { cls:=.type "slice",data:=.fields #[Lp,Lq,.none] } } σ Cx x v Lp Lq l u s3.heap.objs.size Q LY AL (Heap.IsSliceOf.new ..) pl pu Dt;show AW ω X.A (subscriptTail e (.Slice lo AC none DU) v (.ref s3.heap.objs.size)) (GZ X pins σ Q) X.xe { s3 with heap:=s3.heap.push { cls:=.type "slice",data:=.fields #[Lp,Lq,.none] } };exact tail_any (ops:=[.ref s3.heap.objs.size,v]) Ax C7 Aa (by with_unfolding_all rfl)
def Tn(xs:List V)(lo AC:Option Int):List V:=(xs.drop (Ec.FD xs.length 0 lo)).take (Ec.FD xs.length xs.length AC-Ec.FD xs.length 0 lo)
def uC(xs:List V)(lo AC:Option Int):(Tn xs lo AC).length<=xs.length:=by unfold Tn;rw[Sb,List.length_drop];lia
end
noncomputable def KA(n:Nat)(i:Int):Option Nat:=if 0<=i then(if i<n then some i.toNat else none)else if-(n:Int)<=i then some (i+n).toNat else none
def H7{α:Type}(xs:List α)(i:Int):Option α:=(KA xs.length i).bind λj=>xs[j]?
def lK{n:Nat}{i:Int}{j:Nat}(h:KA n i=some j):Sk i n=some j/\j<n/\-(n:Int)<=i/\i<n:=by
 unfold KA at h;by_cases h0:0<=i
 .rw[if_pos h0]at h;by_cases A5:i<n
  .rw[if_pos A5]at h;have e:i.toNat=j:=E_ h;exact⟨by rw[seqIndex_of h0 A5,e],δ,δ,A5⟩
  .rw[if_neg A5]at h;cases h
 .rw[if_neg h0]at h;by_cases A5: -(n:Int)<=i
  .rw[if_pos A5]at h;have e:(i+n).toNat=j:=E_ h;exact⟨by rw[seqIndex_neg δ A5,e],δ,A5,δ⟩
  .rw[if_neg A5]at h;cases h
def hB{α:Type}{xs:List α}{i:Int}{v:α}(h:H7 xs i=some v):∃j,Sk i xs.length=some j/\xs[j]?=some v/\j<xs.length/\-(xs.length:Int)<=i/\i<xs.length:=by
 unfold H7 at h;cases e:KA xs.length i with
 |none=>rw[e]at h;cases h
 |some j=>rw[e]at h;obtain⟨A5,A8,Au,BC⟩:=lK e;exact⟨j,A5,h,A8,Au,BC⟩
def hq(b:AS):Prop:=∀o i,YG b false o i=operate [o,i] (getItem o i)
noncomputable def O9(X:Ad)(r:F3):Prop:=
 ∀(value slice:AS)(pins:υ)(s:AM)(σ :St)(H:AA)(x y:V)(v u:A4)(Q:CQ),π->RelV x v->RelV y u->r x y H Q->
  YG slice false v u=operate [v,u] (getItem v u)->AW ω X.A (subscriptTail value slice v u) (GZ X pins σ Q) X.xe s
noncomputable def ip(X:Ad)(id:String)(r:V->List V->AA->CQ->Prop):Prop:=
 ∀(pins:υ)(s:AM)(σ :St)(H:AA)(x:V)(xs:List V)(v:A4)(us:List A4)(Q:CQ),π->RelV x v->Vals xs us->r x xs H Q->
  AW ω X.A (call (.builtin id) (v::us)) (GZ X pins σ Q) X.xe s
section
variable{X:Ad}{a b:AS}{C1 tb:TE}{pos:Pos}
def O9.or{r BB:F3}(h:O9 X r)(h':O9 X BB):O9 X (λx y H Q=>r x y H Q\/BB x y H Q):=by
 intro value slice pins s σ H x y v u Q I BS C0 q AK;rcases q with q|q
 .exact h value slice pins s σ H x y v u Q I BS C0 q AK
 .exact h' value slice pins s σ H x y v u Q I BS C0 q AK
def adI{r:F3}(B8:O9 X r)(AB:Ay X a C1)(J:Ay X b tb)(AK:hq b):Ay X (.Subscript a b pos) (X3 r C1 tb):=by intro pins s σ H Q I h;exact Subscript_ (cO AB J I h λv u s2 x y B7 C3 BS C0 q=>B8 a b pins s2 σ B7 x y v u Q C3 BS C0 q (AK _ _))
def ng(K:AZ):F3:=λx y H Q=>∃p xs i v,x=.ref p/\y=.int i/\C4 K H p xs/\H7 xs i=some v/\Q v H
def ni(K:AZ):F3:=λx y H Q=>∃p xs i v,x=.ref p/\y=.int i/\Ct K H p xs/\H7 xs i=some v/\Q v H
def nh:F3:=λx y H Q=>∃z i c,x=.str z/\y=.int i/\z.length<=CK/\H7 z.cps.toList i=some c/\Q (.str ⟨#[c]⟩) H
def yp:O9 X (ng X.K):=by
 intro value slice pins s σ H x y v u Q I BS C0 h AK;obtain⟨p,xs,i,z,rfl,rfl,AT,he,q⟩:=h;cases BS;obtain⟨t,rfl⟩:=C0;obtain⟨its,r,pl,Ao⟩:=I.list AT;obtain⟨j,A5,A8,Au,BC,EL⟩:=hB he;obtain⟨w,HS,Kt⟩:=r.get A8;have AP:=r.length;have AQ:=Sv;have fin:GZ X pins σ Q w s:=⟨z,H,I,Kt,q⟩;by_cases h0:0<=i
 .have Bs:i.toNat=j:=by
    rw[seqIndex_of h0 EL]at A5;exact E_ A5
  exact item_listR pl.isList h0 δ (by rw[Bs];simpa using HS) fin AK
 .have Bs:(i+(its.toArray.size:Int)).toNat=j:=by
    rw[seqIndex_neg δ BC]at A5;rw[Dx,<-AP];exact E_ A5
  exact subscriptTail_builtinR (x:=w) pl.isList.typeIs slot_list_getitem.lookup
   (wpAny_getItem_list_neg (Q:=λr s'=>r=w/\GZ X pins σ Q r s') pl.isList δ (by rw[Dx]<;>lia) δ (by rw[Bs];simpa using HS) ⟨rfl,fin⟩) AK
def aa9:O9 X (ni X.K):=by
 intro value slice pins s σ H x y v u Q I BS C0 h AK;obtain⟨p,xs,i,z,rfl,rfl,AT,he,q⟩:=h;cases BS;obtain⟨t,rfl⟩:=C0;obtain⟨its,r,pl,Ao⟩:=I.tuple AT;obtain⟨j,A5,A8,Au,BC,EL⟩:=hB he;obtain⟨w,HS,Kt⟩:=r.get A8;have AP:=r.length;have AQ:=Sv;have fin:GZ X pins σ Q w s:=⟨z,H,I,Kt,q⟩
 exact subscriptTail_builtinR (x:=w) pl.typeIs slot_tuple_getitem.lookup
  (getItem_tuple (j:=j) (Q:=λr s'=>r=w/\GZ X pins σ Q r s') pl δ δ (by rw[Dx,<-AP];exact A5) (HS:) ⟨rfl,fin⟩) AK
def aa8:O9 X nh:=by
 intro value slice pins s σ H x y v u Q I BS C0 h AK;obtain⟨z,i,c,rfl,rfl,Ao,he,q⟩:=h;obtain⟨t,rfl⟩:=BS;obtain⟨t',rfl⟩:=C0;obtain⟨j,A5,A8,Au,BC,EL⟩:=hB he;have AP:z.cps.toList.length=z.length:=by simp[Str.length]
 rw[AP]at A5 BC EL;have AQ:=Sv;exact tail_any (Qn s z t) slot_str_getitem.lookup (getItem_str (c:=c) (by have A7:decide (i< -(2^63:Int))=false:=decide_eq_false δ;have AH:decide (i≥2^63)=false:=decide_eq_false δ;rw[A7,AH,Bool.or_false]) (by rw[A5];simpa using A8) ⟨.str ⟨#[c]⟩,H,I.tok _,⟨_,rfl⟩,q⟩) AK
def nf(K:AZ):F3:=λx y H Q=>ng K x y H Q\/ni K x y H Q\/nh x y H Q
def zD:O9 X (nf X.K):=yp.or (aa9.or aa8)
def aak(its:List A4)(n j:Nat)(u:A4):Go (·.setIfInBounds j u) { cls:=.type "list",data:=.seq its.toArray n }={ cls:=.type "list",data:=.seq (its.set j u).toArray n }:=by simp[Go]
theorem Inv.lst{pins:υ}{σ :St}{H:AA}{s:AM}{p:A6}{xs:List V}(I:π)(h:H p=some (.lst xs)) :
  ∃(its:List A4)(n:Nat),Vals xs its/\s.heap.get? p=some { cls:=.type "list",data:=.seq its.toArray n }/\xs.length<=CK:=by
 obtain⟨z,its,n,r,e⟩:=I.BX p _ h;exact⟨its,n,r,e,z⟩
def Inv.abT{pins:υ}{σ :St}{H:AA}{s:AM}{p:A6}{xs ys:List V}{its its':List A4}{n GV:Nat}{f:Obj->Obj}(I:π)(h:H p=some (.lst xs))(AN:s.heap.get? p=some { cls:=.type "list",data:=.seq its.toArray n })(hf:f { cls:=.type "list",data:=.seq its.toArray n }={ cls:=.type "list",data:=.seq its'.toArray GV })(r:Vals ys its')(Ao:ys.length<=CK)(t:Nat) :
  Inv X pins σ (upd H p (.lst ys)) { s with heap:=s.heap.update p f,toks:=t }:=by
 have e:(s.heap.update p f).get? p=some { cls:=.type "list",data:=.seq its'.toArray GV }:=by rw[KU f AN (by rw[hf]<;>rfl),hf]
 refine I.write (x:=p) (e:=p) (by rw[h];trivial) (.inl rfl) (λb u J q=>(SN _ _ (He J)).trans q) ⟨_,e⟩ ?_;exact⟨Ao,its',GV,r,e⟩
def aeL:V->V->V->AA->(AA->Prop)->Prop:=λo i v H Q=>∃p xs k j,o=.ref p/\i=.int k/\H p=some (.lst xs)/\KA xs.length k=some j/\Q (upd H p (.lst (xs.set j v)))
def set_list:iu X aeL:=by
 intro pins s σ H o i v D1 Fs u Q I JD NV C9 h;obtain⟨p,xs,k,j,rfl,rfl,AX,Bs,q⟩:=h;cases JD;obtain⟨t,rfl⟩:=NV;obtain⟨its,n,r,AN,Ao⟩:=I.lst AX;obtain⟨A5,A8,Au,BC⟩:=lK Bs;have AP:=r.length;have AQ:=Sv;have Na:Inv X pins σ (upd H p (.lst (xs.set j v))) { s with heap:=s.heap.update p (Go (·.setIfInBounds j u)) }:=
  I.abT AX AN (aak its n j u) (r.set C9 j) (by rw[List.length_set];exact Ao) s.toks
 by_cases h0:0<=k
 .have AG:k.toNat=j:=by
    rw[seqIndex_of h0 BC]at A5;exact E_ A5
  exact PySem.W.ki_setAt AN h0 δ (by rw[Dx,<-AP];exact BC) (by rw[AG];exact⟨_,Na,q⟩)
 .have AG:(k+(its.toArray.size:Int)).toNat=j:=by
    rw[seqIndex_neg δ Au]at A5;rw[Dx,<-AP];exact E_ A5
  exact PySem.W.ki_setBack AN δ (by rw[Dx,<-AP];exact Au) δ (by rw[AG];exact⟨_,Na,q⟩)
def af2(lo AC:Option Int)(n:Nat):(Ql lo AC none n).1=((Ec.FD n 0 lo:Nat):Int)/\(Ql lo AC none n).2.1=((Ec.FD n n AC:Nat):Int)/\(Ql lo AC none n).2.2=1:=by
 refine⟨?_,?_,rfl⟩
 .cases lo with
  |none=>simp[Ql,Ec.FD]
  |some i=>
   erw[Ql,Ec.FD,gG,show(1:Int)>0 by decide,if_true];by_cases h:i<0
   .erw[h,if_true]<;>lia
   .erw[h,if_false]<;>lia
 .cases AC with
  |none=>simp[Ql,Ec.FD]
  |some i=>
   erw[Ql,Ec.FD,gG,show(1:Int)>0 by decide,if_true];by_cases h:i<0
   .erw[h,if_true]<;>lia
   .erw[h,if_false]<;>lia
def af1(its:List A4)(lo AC:Option Int):slicePick its.toArray lo AC none=((its.drop (Ec.FD its.length 0 lo)).take (Ec.FD its.length its.length AC-Ec.FD its.length 0 lo)).toArray:=by obtain⟨A5,A8,Au⟩:=af2 lo AC its.toArray.size;unfold slicePick;rw[A5,A8,Au];erw[sliceRange_one,pick_run,Dx]<;>rfl
def nk(K:AZ):V->Option Int->Option Int->AA->CQ->Prop:=λx lo AC H Q=>∃a xs,x=.ref a/\C4 K H a xs/\∀p,H p=none->Q (.ref p) (upd H p (.lst (Tn xs lo AC)))
def aez:RF X (nk X.K):=by intro pins s σ H x v Lp Lq lo AC CJ Q I BS AK pl pu h;obtain⟨a,xs,rfl,AJ,q⟩:=h;cases BS;obtain⟨its,r,Ax,Ao⟩:=I.list AJ;have hlen:=r.length;refine⟨"list",_,slot_list_getitem.lookup,Ax.isList.typeIs,?_⟩;refine wpAny_getItem_list_slice Ax.isList AK pl pu .none γ ?_ (by rw[Dx]<;>lia);rw[af1,<-hlen];refine⟨.ref s.heap.objs.size,_,I.laid (t':=s.toks) (o:=.lst (Tn xs lo AC)) (λb ob q=>Cp _ q) (CS _) ?_,rfl,q _ (I.BX.fresh (CS _))⟩;exact⟨Fp (uC xs lo AC) Ao,_,0,(r.drop (Ec.FD xs.length 0 lo)).take (Ec.FD xs.length xs.length AC-Ec.FD xs.length 0 lo),EB _ rfl⟩
def HM.or{f:A4}{r BB:List V->AA->CQ->Prop}(h:HM X f r)(h':HM X f BB):HM X f (λxs H Q=>r xs H Q\/BB xs H Q):=by
 intro pins s σ H xs us Q I rs q;rcases q with q|q
 .exact h pins s σ H xs us Q I rs q
 .exact h' pins s σ H xs us Q I rs q
def ua:HM X (.type "list") (λxs H Q=>∃p ys,xs=[.ref p]/\(C4 X.K H p ys\/Ct X.K H p ys)/\∀l,H l=none->Q (.ref l) (upd H l (.lst ys))):=by
 intro pins s σ H xs us Q I r h;obtain⟨p,ys,rfl,AT,q⟩:=h;obtain⟨u,rfl,BS⟩:=vals1 r;cases BS
 have fin:∀(its:List A4),Vals ys its->ys.length<=CK->∀(h':B2)(Eo:Nat),(∀b Bo,s.heap.get? b=some Bo->h'.get? b=some Bo)->
   h'.get? s.heap.objs.size=some { cls:=.type "list",dict:=none,data:=.seq its.toArray Eo,slots:= #[] }->GZ X pins σ Q (.ref s.heap.objs.size) i8:=λits BB Ao h' Eo kp e=>
  ⟨.ref s.heap.objs.size,_,I.laid (t':=s.toks) kp (CS _) (show Em X.prog X.w X.K _ h' _ (.lst ys)from⟨Ao,its,Eo,BB,e⟩),rfl,q _ (I.BX.fresh (CS _))⟩
 rcases AT with AT|AT
 .obtain⟨its,BB,pl,Ao⟩:=I.list AT;have hlen:=BB.length;obtain⟨o,AN,AO,n,hd⟩:=pl.isList;exact call_list_seq p (.inl rfl) AN AO hd (λh' Eo kp e=>fin its BB Ao h' Eo kp e) (by erw[Dx]<;>lia)
 .obtain⟨its,BB,pl,Ao⟩:=I.tuple AT;have hlen:=BB.length;obtain⟨o,AN,AO,n,hd⟩:=pl;exact call_list_seq p (.inr rfl) AN AO hd (λh' Eo kp e=>fin its BB Ao h' Eo kp e) (by erw[Dx]<;>lia)
def tv:HM X (.type "tuple") (λxs H Q=>∃p ys,xs=[.ref p]/\((C4 X.K H p ys/\∀l,H l=none->Q (.ref l) (upd H l (.tup ys)))\/(Ct X.K H p ys/\Q (.ref p) H))):=by
 intro pins s σ H xs us Q I r h;obtain⟨p,ys,rfl,h⟩:=h;obtain⟨u,rfl,BS⟩:=vals1 r;cases BS;rcases h with⟨AT,q⟩|⟨AT,q⟩
 .obtain⟨its,BB,pl,Ao⟩:=I.list AT;have hlen:=BB.length;refine call_tuple_list pl.isList (λh' kp=>?_) (by erw[Dx]<;>lia);have B0:Inv X pins σ H i8:=I.kept (t':=s.toks) kp;have C3:Inv X pins σ (upd H h'.objs.size (.tup ys)) { s with heap:=h'.push { cls:=.type "tuple",data:=.seq its.toArray } }:=
   B0.laid (t':=s.toks) (λb o e=>Cp _ e) (CS _) (show Em X.prog X.w X.K _ _ _ (.tup ys)from⟨Ao,its,BB,IsTup.new _ _⟩)
  exact⟨.ref h'.objs.size,_,C3,rfl,q _ (B0.BX.fresh (CS _))⟩
 .obtain⟨its,BB,pl,Ao⟩:=I.tuple AT;exact call_tuple_same pl ⟨.ref p,H,I,rfl,q⟩
noncomputable def rW(K:AZ)(T:String)(x:V)(H:AA):Prop:=match x with
 |.str _=>T="str"
 |.int _=>T="int"
 |.ref p=>(T="list"/\∃xs,C4 K H p xs)\/(T="tuple"/\∃o,K.lookup p=some o/\o.cls=.type "tuple"/\o.dict=none)\/
     (T="dict"/\((∃Ac,H p=some (.De Ac))\/∃Ac,H p=some (.B5 Ac)))\/(T="set"/\∃S n,H p=some (.set S n))
 |_=>False
def afW{pins:υ}{σ :St}{H:AA}{s:AM}{T:String}{x:V}{v:A4}(I:π)(r:RelV x v)(ty:rW X.K T x H) :
  s.TypeIs v T/\∀a,v=.ref a->∃ob,s.heap.get? a=some ob/\ob.dict=none:=by
 cases x with
 |str z=>obtain⟨t,rfl⟩:=r;cases(show T="str" from ty);exact⟨Qn s z t,λ_ e=>nomatch e⟩
 |int i=>obtain⟨t,rfl⟩:=r;cases(show T="int" from ty);exact⟨Uu s i t,λ_ e=>nomatch e⟩
 |ref p=>
  cases r;rcases ty with⟨rfl,xs,AT⟩|⟨rfl,o,AG,AO,hd⟩|⟨rfl,AG⟩|⟨rfl,S,n,AG⟩
  .obtain⟨its,_,pl,_⟩:=I.list AT;refine⟨pl.isList.typeIs,λa e=>?_⟩;cases e;obtain⟨o,n,e,c,hd,_⟩:=pl;exact⟨o,e,hd⟩
  .refine⟨⟨o,I.EA p o AG,AO⟩,λa e=>?_⟩;cases e;exact⟨o,I.EA _ o AG,hd⟩
  .have z:∃o,s.heap.get? p=some o/\o.ExactDict:=by
     rcases AG with⟨Ac,AG⟩|⟨Ac,AG⟩
     .obtain⟨_,_,_,_,o,_,_,e,ex,_⟩:=I.BX p _ AG;exact⟨o,e,ex⟩
     .obtain⟨_,_,_,_,o,_,_,e,ex,_⟩:=I.BX p _ AG;exact⟨o,e,ex⟩
   obtain⟨o,e,ex⟩:=z;refine⟨⟨o,e,ex.1⟩,λa AH=>?_⟩;cases AH;exact⟨o,e,ex.2.1⟩
  .obtain⟨o,_,_,_,e,ex,_⟩:=I.BX p _ AG;refine⟨⟨o,e,ex.1⟩,λa AH=>?_⟩;cases AH;exact⟨o,e,ex.2.1⟩
 |_=>exact KZ ty
def agR(K:AZ)(T:String)(r:V->List V->AA->CQ->Prop)(to:TE)(t:En):TE:=λσ H Q=>to σ H λx H1=>rW K T x H1/\t σ H1 λxs B7=>r x xs B7 Q
variable{o e:AS}{A2:List AS}{to:TE}{t:En}{name:Str}{apos Bn:Pos}{T id:String}{r:V->List V->AA->CQ->Prop}
def Tt (ac4:PlainAttrs T) (slot:Slot T name id) (yQ:typeOf (.builtin id)=pure (.type "method_descriptor")) (hm:ip X id r) (AN:Ay X o to) (AB:G5 X (e::A2) t)(L4:Hz o name X.env (BH o X.env)=BH o X.env:=by rfl)(L5:((Cq Bn (B9 (e::A2) X.env)).all (λx=>!x.1)&&(Gr Bn (Gp [] X.env)).all (λx=>x.1.isSome)
    &&decide ((e::A2).length+([]:List FS).length+(if([]:List FS).isEmpty then 0 else 1)<30))=true:=by rfl)
  (L6:(apos.endLine==Bn.line)=true:=by rfl) (AK:Cl:=by rfl) (L7:(Cq Bn (B9 A2 X.env)).any (·.1)=false:=by rfl) :
  Ay X (.Call (.Attribute o name apos) (e::A2) [] Bn) (agR X.K T r to t):=by
 intro pins s σ H Q I h;refine wpAny_Call_method_late L4 L5 L6 rfl (Bd (AN pins s σ H _ I h) λv s1⟨x,H1,B0,AL,ty,Al⟩=>?_);obtain⟨A5,A8⟩:=afW B0 AL ty;refine⟨T,id,ac4,slot,yQ,A5,A8,?_⟩;have Gj:=AB Bn pins s1 σ H1 _ B0 Al;rw[AK]at Gj |-;refine Xc (by show(false||(Cq Bn (B9 A2 X.env)).any (·.1))=false;rw[L7]<;>rfl) (XZ ?_);exact Bd Gj λus s2⟨vs,B7,C3,BA,BN⟩=>hm pins s2 σ B7 x vs v us Q C3 AL BA BN
end
noncomputable def hn(X:Ad)(id:String)(r:V->List V->AA->CQ->Prop):Prop:=
 ∀(pins:υ)(s:AM)(σ :St)(H:AA)(x:V)(xs:List V)(v:A4)(us:List A4)(Q:CQ),π->RelV x v->Vals xs us->r x xs H Q->
  AW ω X.A (call (.builtin id) (v::us)) (GZ X pins σ Q) X.xe s
def Vals.one:∀{x:V}{us:List A4},Vals [x] us->∃u,us=[u]/\RelV x u
 |_,_,.cons r .nil=>⟨_,rfl,r⟩
theorem Vals.eraseIdx:∀{xs:List V}{us:List A4}(i:Nat),Vals xs us->Vals (xs.eraseIdx i) (us.eraseIdx i)
 |_,_,_,.nil=>.nil
 |_,_,0,.cons _ t=>t
 |_,_,i+1,.cons r t=>.cons r (Vals.eraseIdx i t)
theorem Vals.rep{xs:List V}{us:List A4}(h:Vals xs us):∀k:Nat,Vals (GF k xs).flatten (GF k us).flatten
 |0=>.nil
 |k+1=>by rw[QX,QX,Qi,Qi];exact Vals.append h (Vals.rep h k)
theorem lH{α:Type}:∀(l:List α)(i:Nat),(l.eraseIdx i).length<=l.length
 |[],_=>CS _
 |_::_,0=>M3 _
 |_::r,i+1=>Nat.succ_le_succ (lH r i)
theorem foldl_rep(its:List A4):∀(k:Nat)(acc:List A4),
  List.foldl (λE2 E3=>E2++E3) acc.toArray (GF k its.toArray)=(acc++(GF k its).flatten).toArray
 |0,acc=>γ
 |k+1,acc=>by
  have e:acc.toArray++its.toArray=(acc++its).toArray:=γ
  have AH:(acc++its)++(GF k its).flatten=acc++(GF (k+1) its).flatten:=by rw[QX,Qi,Qj]
  rw[<-AH,<-foldl_rep its k (acc++its),<-e,QX,List.foldl_cons]
section
variable{X:Ad}{pins:υ}{σ :St}{H:AA}{s:AM}{l b:A6}{xs ys zs:List V}
def Inv.ck{its its':List A4}{n:Nat}{f:Array A4->Array A4}{t':Nat}(I:π)(Gz:H l=some (.lst xs))(e:s.heap.get? l=some { cls:=.type "list",data:=.seq its.toArray n })(hf:f its.toArray=its'.toArray)(BE:Vals ys its')(Ao:ys.length<=CK) :
  Inv X pins σ (upd H l (.lst ys)) { s with heap:=s.heap.update l (Go f),toks:=t' }:=by
 have q:=PySem.IsL.update e f;rw[hf]at q;refine I.write (x:=l) (e:=l) (by rw[Gz];exact trivial) (.inl rfl) (λG8 u J BD=>(SN s.heap (Go f) (He J)).trans BD) ⟨_,q⟩ ?_;exact⟨Ao,its',_,BE,q⟩
def Inv.cj{its:List A4}{t':Nat}(I:π)(BE:Vals ys its)(Ao:ys.length<=CK) :
  Inv X pins σ (upd H s.heap.objs.size (.lst ys)) { s with heap:=s.heap.push { cls:=.type "list",data:=.seq its.toArray },toks:=t' }:=
 I.laid (λ_ _ q=>Cp _ q) (CS _) ⟨Ao,its,0,BE,EB _ rfl⟩
theorem Inv.fresh(I:π):H s.heap.objs.size=none:=I.BX.fresh (CS _)
def Inv.SH(I:π)(Gz:H l=some (.lst xs)):xs.length<=CK/\∃(its:List A4)(n:Nat),Vals xs its/\xs.length=its.length/\s.heap.get? l=some { cls:=.type "list",data:=.seq its.toArray n }:=by obtain⟨z,its,n,r,e⟩:=I.BX l _ Gz;exact⟨z,its,n,r,r.length,e⟩
def mf{n:Nat}(h:n<=CK):XJ n=false:=by unfold XJ;exact decide_eq_false δ
end
section
variable{X:Ad}
def aeG:V->List V->AA->CQ->Prop:=λx vs H Q=>∃l xs y,x=.ref l/\vs=[y]/\H l=some (.lst xs)/\xs.length<CK/\Q .non (upd H l (.lst (xs++[y])))
theorem eX:hn X "list.append" aeG:=by intro pins s σ H x vs v us Q I BS C9 h;obtain⟨l,xs,y,rfl,rfl,Gz,Ao,q⟩:=h;cases BS;obtain⟨u,rfl,FA⟩:=C9.one;obtain⟨z,its,n,r,AP,e⟩:=I.SH Gz;refine Sm F.slot_list_append ⟨_,e,rfl⟩ F.entry_list_append (F.args_list_append_2 _ _) (PySem.list_append l its.toArray n u (by rw[Dx];lia)) ⟨e,?_⟩;refine⟨.non,_,I.ck (its':=its++[u]) Gz e γ (r.append (.cons FA .nil)) ?_,rfl,q⟩;rw[KX,Xg];lia
def aeH:V->List V->AA->CQ->Prop:=λx vs H Q=>∃l b xs zs,x=.ref l/\vs=[.ref b]/\H l=some (.lst xs)/\H b=some (.lst zs)/\xs.length+zs.length<=CK/\Q .non (upd H l (.lst (xs++zs)))
theorem nK:hn X "list.extend" aeH:=by
 intro pins s σ H x vs v us Q I BS C9 h;obtain⟨l,b,xs,zs,rfl,rfl,Gz,Ox,Ao,q⟩:=h;cases BS;obtain⟨u,rfl,FA⟩:=C9.one;cases FA;obtain⟨z,its,n,r,AP,e⟩:=I.SH Gz;obtain⟨Db,J8,DW,BA,J5,AH⟩:=I.SH Ox;have hsz:its.toArray.size+J8.toArray.size<=CK:=by rw[Dx,Dx];lia
 have d_:¬(!its.toArray.isEmpty&&XJ (its.toArray.size+J8.toArray.size))=true:=by rw[mf hsz,gc];exact Fq
 refine Sm F.slot_list_extend ⟨_,e,rfl⟩ F.entry_list_extend (F.args_list_extend_2 _ _)
  (AutoSeq1.list_extend_list_list_0 l its.toArray n b J8.toArray DW d_ (by rw[Dx];lia) δ) ⟨e,AH,?_⟩
 refine⟨.non,_,I.ck (its':=its++J8) Gz e γ (r.append BA) ?_,rfl,q⟩;rw[KX];lia
def aeK:V->List V->AA->CQ->Prop:=λx vs H Q=>∃l xs i k y,x=.ref l/\vs=[.int i]/\H l=some (.lst xs)/\-(2^63)<=i/\i<2^63/\Sk i xs.length=some k/\xs[k]?=some y/\Q y (upd H l (.lst (xs.eraseIdx k)))
theorem ab3:hn X "list.pop" aeK:=by
 intro pins s σ H x vs v us Q I BS C9 h;obtain⟨l,xs,i,k,y,rfl,rfl,Gz,A5,A8,AG,BO,q⟩:=h;cases BS;obtain⟨u,rfl,FA⟩:=C9.one;obtain⟨t,rfl⟩:=FA;obtain⟨z,its,n,r,AP,e⟩:=I.SH Gz;obtain⟨w,hw,Kt⟩:=r.get BO
 refine Sm F.slot_list_pop ⟨_,e,rfl⟩ F.entry_list_pop (F.args_list_pop_2 _ _)
  (MeetsSeq.list_pop_at l its.toArray n i t k w (fitsIndex_both A5 A8) (by rw[Dx,<-AP];exact AG) (by rw[<-UU];exact hw) (by rw[Dx];lia)) ⟨e,?_⟩
 refine⟨y,_,I.ck (its':=its.eraseIdx k) Gz e ?_ (r.eraseIdx k) ?_,Kt,q⟩
 .show its.toArray.eraseIdxIfInBounds k=(its.eraseIdx k).toArray;rw[List.eraseIdxIfInBounds_toArray]
 .have:=lH xs k;lia
def nd:F3:=λx y H Q=>∃l b xs zs,x=.ref l/\y=.ref b/\H l=some (.lst xs)/\H b=some (.lst zs)/\xs.length+zs.length<=CK/\∀p,H p=none->Q (.ref p) (upd H p (.lst (xs++zs)))
def e3:E7 X (M9 .Add) nd:=by
 intro pins s σ H x y v u Q I BS C0 h;obtain⟨l,b,xs,zs,rfl,rfl,Gz,Ox,Ao,q⟩:=h;cases BS;cases C0;obtain⟨z,its,n,r,AP,e⟩:=I.SH Gz;obtain⟨Db,J8,DW,BA,J5,AH⟩:=I.SH Ox;refine PySem.P.add_list e AH ?_ (by rw[Dx,Dx];lia);have Av:its.toArray++J8.toArray=(its++J8).toArray:=γ
 rw[Av];exact⟨.ref _,_,I.cj (t':=s.toks) (r.append BA) (by rw[KX];lia),rfl,q _ I.fresh⟩
def nj:F3:=λx y H Q=>∃l k xs,x=.ref l/\y=.int k/\H l=some (.lst xs)/\-(2^63)<=k/\k<2^63/\xs.length*k.toNat<=CK/\
 ∀p,H p=none->Q (.ref p) (upd H p (.lst (GF k.toNat xs).flatten))
def len_rep{α:Type}(xs:List α)(k:Nat):(GF k xs).flatten.length=k*xs.length:=by
 induction k with
 |zero=>simp
 |succ k BW=>rw[QX,Qi,KX,BW,Nat.succ_mul,Nat.add_comm]
theorem abY:E7 X (M9 .Mult) nj:=by
 intro pins s σ H x y v u Q I BS C0 h;obtain⟨l,k,xs,rfl,rfl,Gz,A5,A8,Ao,q⟩:=h;cases BS;obtain⟨t,rfl⟩:=C0;obtain⟨z,its,n,r,AP,e⟩:=I.SH Gz;have hlen:its.toArray.size*k.toNat<=CK:=by rw[Dx,<-AP];exact Ao
 have xd:¬its.toArray.size*k.toNat>(2^63-1)/8:=by
  have:(CK:Nat)<=(2^63-1)/8:=ε
  lia
 have TH:¬(!Builtin.List.listFitsIndex k)=true:=by rw[fitsIndex_both A5 A8];exact Fq
 have d_:¬XJ (its.toArray.size*k.toNat)=true:=by rw[mf hlen];exact Fq
 have wj:List.foldl (λE2 E3=>E2++E3) #[] (GF (if its.toArray.isEmpty=true then 0 else k.toNat) its.toArray)=(GF k.toNat its).flatten.toArray:=by
  have f0:∀m:Nat,List.foldl (λE2 E3=>E2++E3) #[] (GF m its.toArray)=(GF m its).flatten.toArray:=λm=>by have:=foldl_rep its m [];rw[Xp]at this;exact this
  rw[f0];cases its with
  |nil=>simp
  |cons a BB=>rw[if_neg γ]
 refine wpAny_binaryOp_repeat_ref (T:="list") (U:="int") ε ⟨_,e,rfl⟩ (λs'=>Uu s' k t) noFill_list_mul F.fills_int_mul F.slot_int_rmul repeat_list F.slot_int_index.lookup
  (Sm F.slot_int_rmul (Uu s k t) F.entry_int_rmul (F.args_int_rmul_2 _ _) (int___rmul___int_list k t l its.toArray n)
    ⟨e,rfl,⟨_,e,rfl⟩,Sm F.slot_list_mul ⟨_,e,rfl⟩ F.entry_list_mul (F.args_list_mul_2 _ _) (AutoListH.list___mul___list_int_3 l its.toArray n k t TH xd d_) ⟨e,?_⟩⟩)
 rw[wj];exact⟨.ref _,_,I.cj (t':=s.toks) (r.rep k.toNat) (by rw[len_rep,Nat.mul_comm];exact Ao),rfl,q _ I.fresh⟩
end
section
variable{prog:Ba}{w:BL}{A:Bt}{E:ξ}{s:AM}
end
section
variable{X:Ad}
end
section
variable{κ:Type}[DecidableEq κ]
noncomputable def Fa(Ac:List (κ×V))(k:κ):Option V:=(Ac.find? λCv=>decide (Cv.1=k)).map (·.2)
def putK(Ac:List (κ×V))(k:κ)(v:V):List (κ×V):=
 if(Ac.any λCv=>decide (Cv.1=k))=true then Ac.map (λCv=>if Cv.1=k then(Cv.1,v)else Cv)else Ac++[(k,v)]
def fA{p:κ×V}{r:List (κ×V)}{k:κ}(e:p.1=k):Fa (p::r) k=some p.2:=by simp[Fa,Jt,e]
def f9{p:κ×V}{r:List (κ×V)}{k:κ}(e:¬p.1=k):Fa (p::r) k=Fa r k:=by simp[Fa,Jt,e]
theorem f8(k:κ):∀Ac:List (κ×V),(Ac.any λCv=>decide (Cv.1=k))=(Fa Ac k).isSome
 |[]=>rfl
 |p::r=>by
  rw[N0];by_cases e:p.1=k
  .erw[fA e,decide_eq_true e,Bool.true_or,g5]
  .rw[f9 e,decide_eq_false e,Y2];exact f8 k r
def dL(Ac:List (κ×V))(k:κ)(v:V):(putK Ac k v).length<=Ac.length+1:=by
 unfold putK
 split
 .rw[Ea];lia
 .rw[KX,HL,Lz];lia
def eG{Ac:List (κ×V)}{k:κ}(v:V)(h:Fa Ac k=none):putK Ac k v=Ac++[(k,v)]:=by unfold putK;rw[f8,h];exact if_neg ε
def IG.Wg{o:Option V}{u:Option A4}(r:IG o u):o.isSome=u.isSome:=by
 cases o with
 |none=>cases u with
  |none=>rfl
  |some _=>exact(show False from r).elim
 |some _=>cases u with
  |none=>exact(show False from r).elim
  |some _=>rfl
theorem IG.getD{o:Option V}{u:Option A4}{d:V}{d':A4}(r:IG o u)(Rq:RelV d d'):RelV (o.getD d) (u.getD d'):=by
 cases o with
 |none=>cases u with
  |none=>exact Rq
  |some _=>exact(show False from r).elim
 |some _=>cases u with
  |none=>exact(show False from r).elim
  |some _=>exact r
def H4.val{Ac:List (κ×V)}{vs:List (κ×A4)}(r:H4 Ac vs)(k:κ):IG (Fa Ac k) (Qo vs k):=by
 unfold H4 at r;induction r with
 |nil=>exact M8
 | @cons p q Am NU h t BW=>
   obtain⟨A5,A8⟩:=h;by_cases e:p.1=k
   .have CF:q.1=k:=A5.symm.trans e;have b:Qo (q::NU) k=some q.2:=by simp[Qo,Jt,CF]
    rw[fA e,b];exact A8
   .have CF:¬q.1=k:=λz=>e (A5.trans z);have b:Qo (q::NU) k=Qo NU k:=by simp[Qo,Jt,CF]
    rw[f9 e,b];exact BW
theorem H4.any{Ac:List (κ×V)}{vs:List (κ×A4)}(r:H4 Ac vs)(k:κ):(Ac.any λCv=>decide (Cv.1=k))=vs.any λCv=>decide (Cv.1=k):=by
 unfold H4 at r;induction r with
 |nil=>rfl
 |cons h t BW=>rw[N0,N0,BW,h.1]
def H4.eL{Ac:List (κ×V)}{vs:List (κ×A4)}(r:H4 Ac vs)(k:κ){y:V}{u:A4}(C0:RelV y u) :
  H4 (Ac.map λCv=>if Cv.1=k then(Cv.1,y)else Cv) (vs.map λCv=>if Cv.1=k then(Cv.1,u)else Cv):=by
 unfold H4 at r |-;induction r with
 |nil=>exact .nil
 | @cons p q Am NU h t BW=>
   rw[Dc,Dc];refine .cons ?_ BW;obtain⟨A5,A8⟩:=h;by_cases e:p.1=k
   .rw[if_pos e,if_pos (A5.symm.trans e)];exact⟨A5,C0⟩
   .rw[if_neg e,if_neg (λz=>e (A5.trans z))];exact⟨A5,A8⟩
def H4.put{Ac:List (κ×V)}{vs:List (κ×A4)}(r:H4 Ac vs)(k:κ){y:V}{u:A4}(C0:RelV y u):H4 (putK Ac k y) (stored vs k u):=by
 unfold putK stored;rw[r.any k];by_cases e:(vs.any λCv=>decide (Cv.1=k))=true
 .rw[if_pos e,if_pos e];exact r.eL k C0
 .rw[if_neg e,if_neg e];exact Paired.snoc r ⟨rfl,C0⟩
theorem H4.length{Ac:List (κ×V)}{vs:List (κ×A4)}(r:H4 Ac vs):Ac.length=vs.length:=Paired.length r
end
def SC{P:Ba}{w:BL}{k:Key}{u:A4}(r:RelV (D_ k) u):(HB P w).is k u=true:=by
 cases k with
 |inl i=>obtain⟨t,e⟩:=(show ∃t,u=Jv i t from r);subst e;exact aap P w i t
 |inr x=>obtain⟨t,e⟩:=(show ∃t,u=YP x t from r);subst e;exact aaq P w x t
theorem mJ{P:Ba}{w:BL}:∀{ks:List Key}{us:List A4},Vals (ks.map D_) us->ItemsAre (HB P w) ks us
 |[],_,r=>by rw[PE]at r;cases r;exact .nil
 |k::ks,_,r=>by
  rw[Dc]at r;cases r with
  |cons h t=>exact .cons (SC h) (mJ t)
abbrev KT(K:AZ)(H:AA):List (Bq×V)->List (Bq×A6×A4)->Prop:=Paired λp q=>p.1=q.1/\Iv K H p.1 q.2.1/\RelV p.2 q.2.2
def KT.val{K:AZ}{H:AA}{Ac:List (Bq×V)}{xs:List (Bq×A6×A4)}(r:KT K H Ac xs)(k:Bq):IG (Fa Ac k) ((Kb xs k).map (·.2)):=by
 induction r with
 |nil=>exact M8
 | @cons p q Am NU h t BW=>
   obtain⟨A5,_,A8⟩:=h;by_cases e:p.1=k
   .have CF:q.1=k:=A5.symm.trans e;have b:Kb (q::NU) k=some q.2:=by simp[Kb,Jt,CF]
    rw[fA e,b];exact A8
   .have CF:¬q.1=k:=λz=>e (A5.trans z);have b:Kb (q::NU) k=Kb NU k:=by simp[Kb,Jt,CF]
    rw[f9 e,b];exact BW
def KT.eL{K:AZ}{H:AA}{Ac:List (Bq×V)}{xs:List (Bq×A6×A4)}(r:KT K H Ac xs)(k:Bq){y:V}{u:A4}(C0:RelV y u) :
  KT K H (Ac.map λCv=>if Cv.1=k then(Cv.1,y)else Cv) (xs.map (putAt k u)):=by
 induction r with
 |nil=>exact .nil
 | @cons p q Am NU h t BW=>
   rw[Dc,Dc];refine .cons ?_ BW;obtain⟨A5,A8,Au⟩:=h;unfold putAt;by_cases e:p.1=k
   .rw[if_pos e,if_pos (A5.symm.trans e)];exact⟨A5,A8,C0⟩
   .rw[if_neg e,if_neg (λz=>e (A5.trans z))];exact⟨A5,A8,Au⟩
def KT.put{K:AZ}{H:AA}{Ac:List (Bq×V)}{xs:List (Bq×A6×A4)}(r:KT K H Ac xs)(k:Bq){b:A6}{y:V}{u:A4}(J:Iv K H k b)(C0:RelV y u) :
  KT K H (putK Ac k y) (PJ xs k b u):=by
 have e:(Ac.any λCv=>decide (Cv.1=k))=(Kb xs k).isSome:=by rw[f8,(r.val k).Wg,gN]
 unfold putK PJ;rw[e];by_cases q:(Kb xs k).isSome=true
 .rw[if_pos q,if_pos q];exact r.eL k C0
 .rw[if_neg q,if_neg q];exact Paired.snoc r ⟨rfl,J,C0⟩
def KT.keeps{K:AZ}{H H':AA}{Ac:List (Bq×V)}{xs:List (Bq×A6×A4)}(r:KT K H Ac xs)(Ax:∀b ys,H b=some (.tup ys)->H' b=some (.tup ys)):KT K H' Ac xs:=
 Paired.dM r λ_ _ z=>⟨z.1,z.2.1.mono Ax,z.2.2⟩
section
variable{P:Ba}{w:BL}{K:AZ}{H:AA}{h:B2}{a:A6}
def nv{u:Dd}(ok:E6 P w K H h)(e:Fc H a u):Em P w K H h a u:=e.ok ok
def Qt{Ac:List (Key×V)}(ok:E6 P w K H h)(e:Fc H a (.De Ac)):Ac.length<=CK/\(a==H_)=false/\∃vs,H4 Ac vs/\h.DictOf (HB P w) a vs:=
 show Em P w K H h a (.De Ac)from nv ok e
def vP{Ac:List (Key×V)}(ok:E6 P w K H h)(e:H a=some (.De Ac)):Ac.length<=CK/\(a==H_)=false/\∃vs,H4 Ac vs/\h.DictOf (HB P w) a vs:=Qt ok (.inl e)
def aaL{ks:List Key}(ok:E6 P w K H h)(e:H a=some (.tup (ks.map D_))):Ut (HB P w) h ks a:=by obtain⟨_,its,r,o,A5,A8,n,Au⟩:=(show Em P w K H h a (.tup (ks.map D_))from ok a _ e);exact⟨o,its.toArray,n,A5,A8,Au,(mJ r:)⟩
theorem ed(ok:E6 P w K H h):∀{ks:Bq}{vs:List V}{us:List A4},Paired (Nd H) ks vs->Vals vs us->Ga P w h ks us
 |_,_,_,.nil,.nil=>.nil
 |.inl _::_,_,_,.cons e t,.cons r q=>.cons (k:=.inl _) (SC (P:=P) (w:=w) (by rw[<-show _=D_ _ from e];exact r)) (ed ok t q)
 |.inr _::_,_,_,.cons ⟨b,e,z⟩ t,.cons r q=>.cons (k:=.inr _) ⟨b,by subst e;exact r,aaL ok z⟩ (ed ok t q)
def TS{ks:Bq}(ok:E6 P w K H h)(e:JU H ks a):(Mh P w).is h ks a:=by obtain⟨vs,e,p⟩:=e;obtain⟨_,its,r,o,A5,A8,n,Au⟩:=(show Em P w K H h a (.tup vs)from ok a _ e);exact⟨o,its.toArray,n,A5,A8,Au,(ed ok p r:)⟩
def dH{ks:Bq}(ok:E6 P w K H h)(JA:K.In h)(e:Iv K H ks a):(Mh P w).is h ks a:=by
 rcases e with e|⟨x,o,n,t,rfl,AG,AO,hd⟩
 .exact TS ok e
 .exact⟨o,_,n,JA a o AG,AO,hd,(Ga.cons (k:=.inl (.inr x)) (lX x t) .nil:)⟩
def Vz{Ac:List (Bq×V)}(ok:E6 P w K H h)(JA:K.In h)(e:Fc H a (.B5 Ac)):Ac.length<=CK/\(a==H_)=false/\
  ∃xs,KT K H Ac xs/\LE.IR (Mh P w) h a xs:=by
 obtain⟨z,y,xs,r,o,A2,Ak,A5,A8,Au,BC,EL⟩:=(show Em P w K H h a (.B5 Ac)from nv ok e);refine⟨z,y,xs,r,o,A2,Ak,A5,A8,Au,BC,λx AJ=>?_,EL⟩;have all:∀{l:List (Bq×V)}{m:List (Bq×A6×A4)},KT K H l m->∀x∈m,(Mh P w).is h x.1 x.2.1:=by
  intro l m q;induction q with
  |nil=>intro x AJ;exact nomatch AJ
  | @cons p q Am NU AT t BW=>
    intro x AJ;rcases List.mem_cons.mp AJ with e|AJ
    .subst e;exact dH ok JA (by rw[<-AT.1];exact AT.2.1)
    .exact BW x AJ
 exact all r x AJ
def T2{Ac:List (Bq×V)}(ok:E6 P w K H h)(JA:K.In h)(e:Fc H a (.B5 Ac)):Ac.length<=CK/\(a==H_)=false/\
  ∃xs,KT K H Ac xs/\h.DictOfH (Mh P w) a xs:=
 let⟨z,y,xs,r,d⟩:=Vz ok JA e;⟨z,y,xs,r,d.of⟩
end
def Ir(H:AA)(a:A6)(y:V)(r:Option V):Prop:=
 (∃Ac k,Fc H a (.De Ac)/\y=D_ k/\r=Fa Ac k)\/∃Ac k b,Fc H a (.B5 Ac)/\y=.ref b/\JU H k b/\r=Fa Ac k
noncomputable def Pw(H:AA)(a:A6)(y v:V)(H':AA):Prop:=
 (∃Ac k,H a=some (.De Ac)/\y=D_ k/\Ac.length<CK/\H'=upd H a (.De (putK Ac k v)))\/
 ∃Ac k b,H a=some (.B5 Ac)/\y=.ref b/\JU H k b/\Ac.length<CK/\H'=upd H a (.B5 (putK Ac k v))
def Ir.t{H:AA}{a b:A6}{Ac:List (Bq×V)}{k:Bq}(e:H a=some (.B5 Ac))(Bh:JU H k b):Ir H a (.ref b) (Fa Ac k):=.inr ⟨Ac,k,b,.inl e,rfl,Bh,rfl⟩
def Pw.t{H:AA}{a b:A6}{Ac:List (Bq×V)}{k:Bq}{v:V}(e:H a=some (.B5 Ac))(Bh:JU H k b)(AP:Ac.length<CK) :
  Pw H a (.ref b) v (upd H a (.B5 (putK Ac k v))):=.inr ⟨Ac,k,b,e,rfl,Bh,AP,rfl⟩
section
variable{X:Ad}{pins:υ}{σ :St}{H:AA}{s:AM}{a:A6}{y v:V}{u r:A4}{o:Option V}{A:Bt}{E:ξ}
def Inv.big(I:π):H_<s.heap.objs.size:=by have h:Ev<s.heap.objs.size:=(I.mod.glob.keeps I.Ed).lt;exact LN ε h
def uG{Q:ξ}(BD:A.units+16<DH)(I:π)(g:Ir H a y (some v))(C0:RelV y u)(h:∀Fn s',Inv X pins σ H s'->RelV v Fn->Q Fn s') :
  AW ω A (getItem (.ref a) u) Q E s:=by
 rcases g with⟨Ac,k,e,DZ,l⟩|⟨Ac,k,b,e,DZ,Bh,l⟩
 .subst DZ;obtain⟨z,hd,vs,rel,dd⟩:=Qt I.BX e;obtain⟨Fn,hw,Kt⟩:=IG.some_of (v:=v) (o:=Qo vs k) (by rw[l];exact rel.val k);exact wpAny_getItem_of (SC C0) dd.mapOf hw (h Fn _ (I.tok _) Kt)
 .subst DZ;cases(show u=DF b from C0);obtain⟨z,hd,xs,rel,dd⟩:=T2 I.BX I.EA e;obtain⟨Fn,hw,Kt⟩:=IG.some_of (v:=v) (o:=(Kb xs k).map (·.2)) (by rw[l];exact rel.val k);obtain⟨p,AX,yI⟩:=Option.map_eq_some_iff.mp hw;refine wpAny_getItem_heap (nest_room BD) (TS I.BX Bh) dd AX ?_;rw[yI];exact h Fn _ (I.tok _) Kt
def uH{Q:ξ}(BD:A.units+16<DH)(I:π)(g:Ir H a y o)(C0:RelV y u)(h:∀s',Inv X pins σ H s'->Q (.bool o.isSome) s') :
  AW ω A (GG .In u (.ref a)) Q E s:=by
 rcases g with⟨Ac,k,e,DZ,l⟩|⟨Ac,k,b,e,DZ,Bh,l⟩
 .subst DZ;obtain⟨z,hd,vs,rel,dd⟩:=Qt I.BX e;refine wpAny_in_of (SC C0) hd dd.mapOf ?_;rw[<-(rel.val k).Wg,<-l];exact h _ (I.tok _)
 .subst DZ;cases(show u=DF b from C0);obtain⟨z,hd,xs,rel,dd⟩:=T2 I.BX I.EA e;refine wpAny_in_heap (nest_room BD) (TS I.BX Bh) hd dd ?_;have q:=(rel.val k).Wg;rw[gN]at q;rw[<-q,<-l];exact h _ (I.tok _)
def tf{Q:ξ}(BD:A.units+16<DH)(I:π)(g:Ir H a y o)(C0:RelV y u)(h:∀s',Inv X pins σ H s'->Q (.bool (!o.isSome)) s') :
  AW ω A (GG .NotIn u (.ref a)) Q E s:=by
 rcases g with⟨Ac,k,e,DZ,l⟩|⟨Ac,k,b,e,DZ,Bh,l⟩
 .subst DZ;obtain⟨z,hd,vs,rel,dd⟩:=Qt I.BX e;refine wpAny_notIn_of (SC C0) hd dd.mapOf ?_;rw[<-(rel.val k).Wg,<-l];exact h _ (I.tok _)
 .subst DZ;cases(show u=DF b from C0);obtain⟨z,hd,xs,rel,dd⟩:=T2 I.BX I.EA e;refine wpAny_notIn_heap (nest_room BD) (TS I.BX Bh) hd dd ?_;have q:=(rel.val k).Wg;rw[gN]at q;rw[<-q,<-l];exact h _ (I.tok _)
def cg{h':B2}{t':Nat}{ob:Dd}(I:π)(KH:Vf (H a))(AK:I0 a s.heap h')(he:∃q,h'.get? a=some q)(new:Em X.prog X.w X.K (upd H a ob) h' a ob) :
  Inv X pins σ (upd H a ob) { s with heap:=h',toks:=t' }:=
 I.write (x:=a) (e:=a) KH (.inl rfl) (λb q J z=>(AK.2 b J).trans z) he new
def vO{P:Ba}{w:BL}{K:AZ}{H':AA}{h':B2}{Ac:List (Key×V)}{vs:List (Key×A4)}(z:Ac.length<=CK)(hd:(a==H_)=false)(rel:H4 Ac vs)(dd:h'.DictOf (HB P w) a vs) :
  Em P w K H' h' a (.De Ac):=⟨z,hd,vs,rel,dd⟩
def th{H':AA}{Q:Unit->ο}(BD:A.units+16<DH)(I:π)(g:Pw H a y v H')(C0:RelV y u)(C9:RelV v r)(h:∀s',Inv X pins σ H' s'->Q () s') :
  AW ω A (setItem (.ref a) u r) Q E s:=by
 rcases g with⟨Ac,k,e,DZ,l,bx⟩|⟨Ac,k,b,e,DZ,Bh,l,bx⟩
 .subst DZ bx;obtain⟨z,hd,vs,rel,dd⟩:=vP I.BX e;have Ao:vs.length<=CK:=by rw[<-rel.length];exact z
  have AP:(putK Ac k v).length<=CK:=by have:=dL Ac k v;lia
  refine wpAny_setItem_pairs (hsz:=Ao) (SC C0) dd λh' Tr AK=>h _ ?_;have he:∃q,h'.get? a=some q:=let⟨q,_,_,AT,_⟩:=Tr;⟨q,AT⟩
  exact cg I (by rw[e];exact M8) AK he (vO AP hd (rel.put k C9) Tr)
 .subst DZ bx;cases(show u=DF b from C0);obtain⟨z,hd,xs,rel,dd⟩:=Vz I.BX I.EA (.inl e);have Ao:xs.length<=CK:=by rw[<-Paired.length rel];exact z
  have AP:(putK Ac k v).length<=CK:=by have:=dL Ac k v;lia
  refine LE.aek (hsz:=Ao) (nest_room BD) (TS I.BX Bh) dd λh' Tr AK=>h _ ?_;obtain⟨q,A2,Ak,AT,A8,Au,BC,_,EL⟩:=Tr;refine cg I (by rw[e];exact M8) AK ⟨q,AT⟩ ⟨AP,hd,_,(rel.put k (.inl Bh) C9).keeps λc ys ec=>?_,q,A2,Ak,AT,A8,Au,BC,EL⟩;rw[DT (m_ ec e (λz=>nomatch z))];exact ec
end
section
variable{X:Ad}{pins:υ}{σ :St}{H:AA}{s:AM}{a:A6}{Ac:List (Key×V)}{k:Key}{u:A4}{A:Bt}{E:ξ}
end
def Ya(i:AS):Prop:=∀D1 Fs,YG i false D1 Fs=operate [D1,Fs] (getItem D1 Fs)
def agM{prog:Ba}{w:BL}{A:Bt}{E:ξ}{s:AM}{env:Env}{value slice:AS}{pos:Pos}{T id:String}{Q:ξ}(AP:typeLookup (.type T) "__getitem__"=pure (some (.builtin id)))(AK:Ya slice)(h:AW ψ A (BH value env) (λo D4=>AW ψ A (BH slice env) (λi Io=>Io.TypeIs o T/\AW ψ A (getItem o i) Q E Io) E D4) E s) :
  AW ψ A (BH (.Subscript value slice pos) env) Q E s:=by
 refine Subscript_ (Ha h (λo D4 L9=>Ha L9 (λi Io MX=>?_) λ_ _ x=>x) λ_ _ x=>x);obtain⟨C7,MX⟩:=MX;unfold subscriptTail;refine AF ?_;rw[getitemInPython_of_ne C7.not_modules];refine AF (Qf C7 AP ?_);have fin:AW ψ A (YG slice false o i) (λr QU=>AW ψ A (letTemporaryGo value o r>>=λ_=>pure r) Q E QU) E Io:=by rw[AK o i];exact wpAny_operating (Ha MX (λr QU ND=>AF (wpAny_letTemporaryGo (Ag ND))) λ_ _ x=>x)
 first
  |exact Ag (AF fin)
  |exact AF (Ag (AF fin))
  |exact AF fin
def vL{X:Ad}{pins:υ}{σ :St}{H:AA}{s:AM}{a:A6}{y:V}{o:Option V}(I:π)(g:Ir H a y o):s.TypeIs (.ref a) "dict":=by
 rcases g with⟨Ac,k,e,_,_⟩|⟨Ac,k,b,e,_,_,_⟩
 .obtain⟨_,_,vs,_,dd⟩:=Qt I.BX e;exact dd.typeIs
 .obtain⟨_,_,xs,_,dd⟩:=T2 I.BX I.EA e;exact dd.typeIs
def pa(EV ty:TE):TE:=λσ H Q=>EV σ H λx H1=>ty σ H1 λy B7=>∃a v,x=.ref a/\Ir B7 a y (some v)/\Q v B7
def pc(ty EV:TE):TE:=λσ H Q=>ty σ H λy H1=>EV σ H1 λx B7=>∃a o,x=.ref a/\Ir B7 a y o/\Q (.AV o.isSome) B7
def pe(ty EV:TE):TE:=λσ H Q=>ty σ H λy H1=>EV σ H1 λx B7=>∃a o,x=.ref a/\Ir B7 a y o/\Q (.AV (!o.isSome)) B7
def ae4(EV ty OJ:TE):F4:=λD σ H=>OJ σ H λv H1=>EV σ H1 λx B7=>ty σ B7 λy Cx=>∃a HN,x=.ref a/\Pw Cx a y v HN/\D.BG σ HN
section
variable{X:Ad}{o i e value:AS}{pos pos' QD:Pos}{EV ty OJ:TE}
def o7(BD:X.A.units+16<DH)(AN:Ay X o EV)(AC:Ay X i ty)(AK:Ya i):Ay X (.Subscript o i pos) (pa EV ty):=by intro pins s σ H Q I h;refine agM PySem.F.slot_dict_getitem.lookup AK (Bd (AN pins s σ H _ I h) λu s1⟨x,H1,B0,BS,Al⟩=>Bd (AC pins s1 σ H1 _ B0 Al) λFs s2⟨y,B7,C3,C0,a,v,ex,g,BN⟩=>?_);subst ex;obtain rfl:u=DF a:=BS;exact⟨vL C3 g,uG BD C3 g C0 λFn s3 DX Kt=>⟨v,B7,DX,Kt,BN⟩⟩
def o4(BD:X.A.units+16<DH)(AC:Ay X i ty)(AN:Ay X o EV):Yb X .In i o (pc ty EV):=by intro pins s σ H Q I h;refine Bd (AC pins s σ H _ I h) λFs s1⟨y,H1,B0,C0,Al⟩=>Bd (AN pins s1 σ H1 _ B0 Al) λu s2⟨x,B7,C3,BS,a,D1,ex,g,BN⟩=>?_;subst ex;obtain rfl:u=DF a:=BS;exact uH BD C3 g C0 λs3 DX=>⟨.AV D1.isSome,B7,DX,rfl,BN⟩
def o5(BD:X.A.units+16<DH)(AC:Ay X i ty)(AN:Ay X o EV):Yb X .NotIn i o (pe ty EV):=by intro pins s σ H Q I h;refine Bd (AC pins s σ H _ I h) λFs s1⟨y,H1,B0,C0,Al⟩=>Bd (AN pins s1 σ H1 _ B0 Al) λu s2⟨x,B7,C3,BS,a,D1,ex,g,BN⟩=>?_;subst ex;obtain rfl:u=DF a:=BS;exact tf BD C3 g C0 λs3 DX=>⟨.AV (!D1.isSome),B7,DX,rfl,BN⟩
def oR(BD:X.A.units+16<DH)(AN:Ay X o EV)(AC:Ay X i ty)(BE:Ay X value OJ)(AK:M6 value (some (.Subscript o i pos')) pos.line X.env=pure false) :
  Cz X (.Assign [.Subscript o i pos'] value pos) (ae4 EV ty OJ):=by
 intro pins s σ H D I h;refine wpAny_Assign_Subscript (Bd (BE pins s σ H _ I h) λr s1⟨v,H1,B0,C9,Al⟩=>Bd (AN pins s1 σ H1 _ B0 Al) λu s2⟨x,B7,C3,BS,BN⟩=>Bd (AC pins s2 σ B7 _ C3 BN) λFs s3⟨y,Cx,DX,C0,a,HN,ex,g,Dt⟩=>?_) AK;subst ex;obtain rfl:u=DF a:=BS;exact th BD DX g C0 C9 λs4 LY=>⟨σ,HN,LY,Dt⟩
end
def vV{P:Ba}{w:BL}{K:AZ}{H:AA}(h:B2)(J:H_<h.objs.size):Em P w K H (h.push { cls:=.type "dict",data:=.dict #[] }) h.objs.size (.B5 []):=
 ⟨Hy _,beq_eq_false_iff_ne.mpr (He (Eb J)),[],.nil,_,#[],0,EB _ rfl,⟨rfl,rfl,rfl⟩,rfl,rfl,Um,rfl⟩
def agS:TE:=λ_ H Q=>∀p,H p=none->Q (.ref p) (upd H p (.B5 []))
section
variable{X:Ad}{pos:Pos}
def o8:Ay X (.Dict [] [] pos) agS:=λpins s σ H Q I h=>
 wpAny_Dict_empty ⟨.ref s.heap.objs.size,_,I.laid (a:=s.heap.objs.size) (o:=.B5 []) (t':=s.toks) (λ_ _ q=>Cp _ q) (CS _) (vV s.heap I.big),rfl,h _ (I.BX.fresh (CS _))⟩
end
structure tV(X:Ad)(o:AS)(m:Str)(apos:Pos)(e:AS)(Bn:Pos):Prop where
 base:Hz o m X.env (BH o X.env)=BH o X.env
 few:((Cq Bn (B9 [e] X.env)).all (λx=>!x.1)&&(Gr Bn (Gp [] X.env)).all (λx=>x.1.isSome)
  &&decide (([e]:List AS).length+([]:List FS).length+(if([]:List FS).isEmpty then 0 else 1)<30))=true
 line:(apos.endLine==Bn.line)=true
 trees:Cq Bn (B9 [e] X.env)=[(false,BH e X.env)]
structure M2(X:Ad)(o:AS)(m:Str)(apos:Pos)(e f:AS)(Bn:Pos):Prop where
 base:Hz o m X.env (BH o X.env)=BH o X.env
 few:((Cq Bn (B9 [e,f] X.env)).all (λx=>!x.1)&&(Gr Bn (Gp [] X.env)).all (λx=>x.1.isSome)
  &&decide (([e,f]:List AS).length+([]:List FS).length+(if([]:List FS).isEmpty then 0 else 1)<30))=true
 line:(apos.endLine==Bn.line)=true
 trees:Cq Bn (B9 [e,f] X.env)=[(false,BH e X.env),(false,BH f X.env)]
def gt(H:AA)(a:A6):Prop:=(∃Ac,Fc H a (.De Ac))\/∃Ac,Fc H a (.B5 Ac)
def d4{X:Ad}{pins:υ}{σ :St}{H:AA}{s:AM}{a:A6}(I:π)(d:gt H a) :
  s.TypeIs (.ref a) "dict"/\(∀b,DF a=.ref b->∃ob,s.heap.get? b=some ob/\ob.dict=none)/\(a==H_)=false:=by
 rcases d with⟨Ac,e⟩|⟨Ac,e⟩
 .obtain⟨_,hd,vs,_,dd⟩:=Qt I.BX e;refine⟨dd.typeIs,λb q=>?_,hd⟩;cases q;obtain⟨ob,_,_,A5,A8,_⟩:=dd;exact⟨ob,A5,A8.2.1⟩
 .obtain⟨_,hd,xs,_,dd⟩:=T2 I.BX I.EA e;refine⟨dd.typeIs,λb q=>?_,hd⟩;cases q;obtain⟨ob,_,_,A5,A8,_⟩:=dd;exact⟨ob,A5,A8.2.1⟩
section
variable{X:Ad}{pins:υ}{σ :St}{H:AA}{s:AM}{a:A6}{y d:V}{u r:A4}{o:Option V}{A:Bt}{E:ξ}
def uF{Q:ξ}(BD:A.units+16<DH)(I:π)(g:Ir H a y o)(C0:RelV y u)(h:∀Fn s',Inv X pins σ H s'->RelV (o.getD .non) Fn->Q Fn s') :
  AW ω A (call (.builtin "dict.get") [.ref a,u]) Q E s:=by
 rcases g with⟨Ac,k,e,DZ,l⟩|⟨Ac,k,b,e,DZ,Bh,l⟩
 .subst DZ;obtain⟨z,hd,vs,rel,dd⟩:=Qt I.BX e;refine Y0 g8 dd.typeIs s6 (ru _ _) (meets_dict_get (HB X.prog X.w) a (SC C0) hd) ⟨_,dd.mapOf,h _ _ (I.tok _) ?_⟩;rw[l];exact(rel.val k).getD rfl
 .subst DZ;cases(show u=DF b from C0);obtain⟨z,hd,xs,rel,dd⟩:=T2 I.BX I.EA e;refine Y0 g8 dd.typeIs s6 (ru _ _) (meetsH_dict_get (Mh X.prog X.w) a b hd) ⟨nest_room BD,k,xs,TS I.BX Bh,dd,h _ _ (I.tok _) ?_⟩;rw[l];exact(rel.val k).getD rfl
end
def pb(EV ty:TE):TE:=λσ H Q=>EV σ H λx H1=>∃a,x=.ref a/\gt H1 a/\ty σ H1 λy B7=>∃o,Ir B7 a y o/\Q (o.getD .non) B7
section
variable{X:Ad}{o e f:AS}{apos Bn:Pos}{EV ty X9:TE}
def adE(BD:X.A.units+16<DH)(AN:Ay X o EV)(he:Ay X e ty)(m:tV X o "get" apos e Bn):Ay X (.Call (.Attribute o "get" apos) [e] [] Bn) (pb EV ty):=by intro pins s σ H Q I h;refine gO m.base m.few m.line fs g8 PySem.F.type_dict_get (Bd (AN pins s σ H _ I h) λu s1⟨x,H1,B0,BS,a,ex,d,Al⟩=>?_);subst ex;obtain rfl:u=DF a:=BS;obtain⟨t1,DO,_⟩:=d4 B0 d;refine⟨t1,DO,?_⟩;rw[m.trees];refine Xc rfl (XZ (SS (Bd (he pins s1 σ H1 _ B0 Al) λFs s2⟨y,B7,C3,C0,D1,g,BN⟩=>UZ ?_)));exact uF BD C3 g C0 λFn s3 DX Kt=>⟨_,B7,DX,Kt,BN⟩
end
section
variable{X:Ad}{pins:υ}{σ :St}{H:AA}{s:AM}{a:A6}{Ac:List (Key×V)}{A:Bt}{E:ξ}
end
section
variable{X:Ad}{pins:υ}{σ :St}{H:AA}{s:AM}{a:A6}{y:V}{u:A4}{A:Bt}{E:ξ}
end
end Bv
namespace i5
open PySem PySem.W PySem.Calls PyProof.Rows
def yw{P:Params}{h:B2}:∀(ns:List Int)(vs:List A4),WellAll P h vs (ns.map WData.int)->IntsAre vs ns:=by
 intro ns;induction ns with
 |nil=>intro vs w;rw[PE]at w;cases w;exact .nil
 |cons n ns BW=>
  intro vs w;rw[Dc]at w;cases w with
  |cons a b=>cases a;exact .cons _ _ (BW _ b)
def afR{l:OpenLaw}{n:Nat}(AQ:l.most=some n){P:Params}{h:B2}{args:List WData}{vals:List A4}(Z0:l.row.toRowW.claim.pre args=true)(dj:WellAll P h vals args) :
  ∃a vs ns,vals=[DF a]/\args=[WData.list (ns.map WData.int)]/\h.get? a=some { cls:=.type "list",data:=.seq vs.toArray }/\IntsAre vs ns/\ns.length<=n:=by
 have Z2:WShape.hasAll [] args [.list .int]=true:=(pre_splitW Z0).1;have AO:l.pre.holds [] { args:=args }=true:=(pre_splitW Z0).2;obtain⟨d,r,rfl,A5,A8⟩:=hasAllW_cons Z2;obtain rfl:=hasAllW_nil A8;obtain⟨xs,rfl,Au⟩:=hasW_list A5;obtain⟨ns,rfl⟩:=items_int Au;have hlen:ns.length<=n:=by
  unfold OpenLaw.pre at AO;have BC:(WTm.not (.lt (.lit (.int (n:Int))) (.len (.arg 0)))).holds [] { args:=[.list (ns.map .int)] }=true:=by have BC:=(holds_andW AO).1;rw[AQ]at BC;exact BC
  have EL:=condW_of BC (w_not (w_lt w_lit (w_len_list (w_arg rfl))));rw[Ea]at EL;refine Nat.le_of_not_lt λq=>?_;have Dl:(n:Int)<((ns.length:Nat):Int):=δ
  first
   |(rw[decide_eq_true Dl]at EL;exact absurd EL ε)
   |(simp at EL;lia)
 cases dj with
 |cons Fo FQ=>
  cases FQ;cases Fo with
  |list AN Np=>exact⟨_,_,ns,rfl,rfl,AN,yw ns _ Np,hlen⟩
def acy(l:OpenLaw)(args:List WData):l.row.toRowW.claim.post args (.bool true) args=true:=
 postW_of (r:=l.row.toRowW) (X:=(true==true))
  (show WShape.has [] (.bool true) .bool=true by first|rfl|decide|simp[WShape.has,WShape.arms,WShape.armsAll])
  (show(WTm.eq .res (.lit (.bool true))).value [] { args:=args,res:=some (.bool true),after:=args }=some (.bool (true==true))from w_eq_bool (w_res rfl) w_lit) rfl
def tA {l:OpenLaw} {n:Nat} {q:Ba} {loose:List Str} {Tb:(Str->Option A4)->B2->Prop} {Q5:BL->B2->Prop} {d:DefRec}(AQ:l.most=some n) (V_:d.params.defaults=[])(call:∀(w:BL)(Fm D4:AM)(mg HA:Str->Option A4)(GL:A6)(o:Obj)(pm cd doc:A4)(a:A6)(vs:List A4)(ns:List Int),
    Ground q loose [] Tb w Fm mg HA D4.heap->Q5 w D4.heap->
    D4.heap.get? GL=some o->o.data=.func (docDef d.name d.params d.body d.scope pm cd doc)->D4.heap.CodeRec cd d.name->mg d.name=some (.ref GL)->
    D4.heap.get? a=some { cls:=.type "list",data:=.seq vs.toArray }->IntsAre vs ns->ns.length<=n->D4.gens= #[]->
    MB (Aq l.prog w) Qp (.call (.ref GL) ⟨[.ref a],[]⟩) (λr s'=>r=.ok (.ret (.bool true))/\OldK D4.heap s'.heap/\s'.os=D4.os/\N1 s'.gens) D4) :
  WalkO q loose Tb Q5 l.row.toRowW d [] (λf vs=>PySem.call f vs):=by
 intro w Fm D4 mg HA G Y GL o pm cd doc Zd D_ AN hd D8 l7 VB Aa args vals as Z0 ajz ak4 dj ak0;obtain rfl:Zd=.none:=Dflts.none l7 V_;obtain rfl:D_=.none:=Dflts.noKw l7;obtain⟨a,vs,ns,rfl,rfl,dc,hints,hlen⟩:=afR AQ Z0 dj;refine enter_call (Sf (call w Fm D4 mg HA GL o pm cd doc a vs ns G Y AN (fd_plain hd) D8 VB dc hints hlen Aa) λr s' AT=>?_);obtain⟨rfl,A8,Au,BC⟩:=AT;exact⟨.inl ⟨.bool true,.bool true,[],rfl,λ_=>rfl,.bool true,acy l _,λ_=>⟨sI,λ_ hm=>(nomatch hm)⟩⟩,A8,Au,BC⟩
section
variable{prog:Ba}{w:BL}{A:Bt}{E:ξ}{s:AM}{K:Frag}
end
end i5
namespace Bv
open PySem PySem.Spec PyProof.Rows
theorem qz:∀{vs:List A4}{ns:List Int},IntsAre vs ns->Vals (ns.map V.int) vs
 |_,_,.nil=>.nil
 |_,_,.cons n t h=>.cons ⟨t,rfl⟩ (qz h)
def hp(H:AA):Prop:=∀b,H b=none\/∃o xs,H b=some (.L0 o (.lst xs))
def abH{P:Ba}{w:BL}{K:AZ}{mg HA:Str->Option A4}{CX:Kd}{k:Nat}{GL a:A6}{fd:G3}{x:Str}{sp:BJ}{D4:AM}{vs:List A4}{ns:List Int}(ID:K.In D4.heap)(kb:D4.heap.Ns Ev mg)(J:D4.heap.Ns builtinsNs HA)(VY:∀x:Str,x≠"__name__"->HA x=LM x)(xD:D4.heap.NoLimit)(Aa:D4.gens= #[])(AB:D4.heap.get? a=some { cls:=.type "list",data:=.seq vs.toArray })(AC:IntsAre vs ns)(AP:ns.length<=CK)(B8:CM k Qp)(F:∀base:B2,K.In base->base.Ns Ev mg->G_ P w K mg base CX k GL fd [x] sp)(xa:∀(s:AM)(u:A4),BindsTo s fd ⟨[u],[]⟩ [(x,u)])(Pd:∀H:AA,hp H->C4 K H a (ns.map V.int)->sp [.ref a] H (λv _=>v=.AV true) λ_ _ _=>False)(bo:∀H e s',CX [] H D4 (λ_ _ _=>False) e s'->False) :
  MB (Aq P w) Qp (.call (.ref GL) ⟨[.ref a],[]⟩) (λr s'=>r=.ok (.ret (.bool true))/\OldK D4.heap s'.heap/\s'.os=D4.os/\N1 s'.gens) D4:=by
 have C9:=qz AC;have abN:=AC.length
 have core:∀H:AA,hp H->C4 K H a (ns.map V.int)->E6 P w K H D4.heap->(∀b,H b≠none->b=a)->(H a≠none->K.lookup a=none)->
   MB (Aq P w) Qp (.call (.ref GL) ⟨[.ref a],[]⟩) (λr s'=>r=.ok (.ret (.bool true))/\OldK D4.heap s'.heap/\s'.os=D4.os/\N1 s'.gens) D4:=by
  intro H MU IZ BX Gj Ar;have iX:∀{b:A6}{o:Obj},D4.heap.get? b=some o->H b=none->(P2 D4.heap H).get? b=some o:=λe n=>x5 e n;have WS:∀{b:A6}{o:Obj}{A2:Array M7}{Ak:Nat},D4.heap.get? b=some o->o.data=.dict A2 Ak->H b=none:=λ{b o A2 Ak} e d=>by
   cases q:H b with
   |none=>rfl
   |some u=>have CF:b=a:=Gj b (by rw[q];simp);subst CF;rw[AB]at e;cases e;have d':Data.seq vs.toArray _=Data.dict A2 Ak:=d;cases d'
  have aI:∀{b:A6}{m:Str->Option A4},D4.heap.Ns b m->(P2 D4.heap H).Ns b m:=λ{b m}⟨o,A2,Ak,e,d,r⟩=>⟨o,A2,Ak,iX e (WS e d),d,r⟩;have l8:K.In (P2 D4.heap H):=λb o e=>iX (ID b o e) (by
   cases q:H b with
   |none=>rfl
   |some u=>have CF:b=a:=Gj b (by rw[q];simp);subst CF;rw[Ar (by rw[q];simp)]at e;cases e)
  have ZM:Mod K mg (P2 D4.heap H):=⟨l8,aI kb,⟨HA,aI J,VY⟩,let⟨a4,A5,A8⟩:=xD;⟨a4,aI A5,A8⟩⟩;have D7:R4 P w K mg (P2 D4.heap H) Qp [] D4 H:=⟨rfl,ZM,λb o e=>abh e,gS (x6 _ _),trivial,λb J=>absurd (show b∈([]:List A6)from J) γ,BX,.of_eq Aa⟩;refine Sf ((F _ l8 (aI kb)).run Qp [] D4 H ⟨[.ref a],[]⟩ [.ref a] [.ref a] _ _ B8 D7 (xa D4 (.ref a)) (.cons rfl .nil) (Pd H MU IZ)) λr s' h=>?_;cases r with
  |error e=>exact(bo H e s' h).elim
  |ok G1=>
   cases G1 with
   |next=>exact KZ h
   |brk=>exact KZ h
   |cont=>exact KZ h
   |ret u=>
    obtain⟨v,H',os,bare,un,wp,BB,q⟩:=h;have Dl:v=.AV true:=q;subst Dl;obtain rfl:u=Sl true:=BB;refine⟨rfl,OldK.of_keep λb o e=>?_,os,bare⟩;cases q:H b with
    |none=>exact un.keep b o e q (by intro z;exact absurd (show b∈([]:List A6)from z) γ) γ
    |some u=>
     rcases MU b with z|⟨ob,xs,z⟩
     .rw[q]at z;cases z
     .have Db:=un.L2 b ob _ z;obtain⟨A7,_⟩:=BX b _ z;obtain⟨AH,_⟩:=wp b _ Db;rw[e]at A7;cases A7;exact AH
 cases AG:K.lookup a with
 |some o=>have e:=ID a o AG;rw[AB]at e;cases e;refine core (λ_=>none) (λ_=>.inl rfl) (.inr ⟨_,vs.toArray,_,AG,rfl,rfl,rfl,by rw[Dx,abN];exact AP,(C9:)⟩) (λb u z=>by have Fw:(none:Option Dd)=some u:=z;cases Fw) (λb z=>absurd rfl z) λz=>absurd rfl z
 |none=>
  refine core (λb=>if b=a then some (.L0 { cls:=.type "list",data:=.seq vs.toArray } (.lst (ns.map V.int)))else none) (λb=>?_) (.inl (.inr ⟨{ cls:=.type "list",data:=.seq vs.toArray },if_pos rfl⟩)) (λb u z=>?_) (λb z=>?_) λ_=>AG
  .by_cases J:b=a
   .exact .inr ⟨_,_,if_pos J⟩
   .exact .inl (if_neg J)
  .by_cases J:b=a
   .have Fw:=(if_pos J).symm.trans z;cases Fw;subst J;exact⟨AB,by rw[Ea];exact AP,vs,_,C9,AB⟩
   .have Fw:=(if_neg J).symm.trans z;cases Fw
  .by_cases J:b=a
   .exact J
   .exact absurd (if_neg J) z
def ahQ {l:gD} {n k:Nat} {q:Ba} {loose:List Str} {Tb:(Str->Option A4)->B2->Prop} {Q5:BL->B2->Prop} {d:DefRec} {K:Params->AZ} {CX:BL->Kd} {sp:BL->BJ} {x:Str}(AQ:l.most=some n) (Yy:n<=CK) (V_:d.params.defaults=[]) (B8:CM k Qp)(dO:∀(w:BL)(h:B2),Q5 w h->(K w.params).In h)(F:∀(w:BL)(mg:Str->Option A4)(GL:A6)(h:B2),(K w.params).In h->h.Ns Ev mg->mg d.name=some (.ref GL)->
    ∃fd:G3,(∀(s:AM)(u:A4),BindsTo s fd ⟨[u],[]⟩ [(x,u)])/\
     ∀base:B2,(K w.params).In base->base.Ns Ev mg->G_ l.prog w (K w.params) mg base (CX w) k GL fd [x] (sp w))
  (Pd:∀(w:BL)(H:AA)(a:A6)(ns:List Int),ns.length<=n->hp H->C4 (K w.params) H a (ns.map V.int)->sp w [.ref a] H (λv _=>v=.AV true) λ_ _ _=>False)
  (bo:∀(w:BL)(H:AA)(s:AM)(e:A4)(s':AM),CX w [] H s (λ_ _ _=>False) e s'->False) :
  PySem.W.WalkO q loose Tb Q5 l.row.toRowW d [] (λf vs=>PySem.call f vs):=by
 refine i5.tA AQ V_ λw Fm D4 mg HA GL o pm cd doc a vs ns G Y AN hd D8 VB dc hints hlen Aa=>?_;have ID:=dO w _ Y;obtain⟨fd,J,GN⟩:=F w mg GL _ ID G.T.g VB;exact abH ID G.T.g G.T.b G.T.builtins G.T.nolimit Aa dc hints (Fp hlen Yy) B8 GN J (λH MU IZ=>Pd w H a ns hlen MU IZ) λH e s'=>bo w H D4 e s'
noncomputable def inClass(s:BZ)(j:Nat):BZ:=match s with
 |.ClassDef _ _ _ body _ _ _ _ _ _ _=>body.getD j (.Pass ⟨0,0,0,0⟩)
 |_=>.Pass ⟨0,0,0,0⟩
noncomputable def Ky(s:BZ):Arguments:=match s with
 |.FunctionDef _ a _ _ _ _ _ _ _ _=>a
 |_=>{ posonlyargs:=[],args:=[],vararg:=none,kwonlyargs:=[],kw_defaults:=[],kwarg:=none,defaults:=[] }
noncomputable def GJ(s:BZ):List BZ:=match s with
 |.FunctionDef _ _ b _ _ _ _ _ _ _=>b
 |_=>[]
noncomputable def Br(s:BZ):Dn:=match s with
 |.FunctionDef _ _ _ _ _ _ sc _ _ _=>sc
 |_=>{ kind:=.function,names:=[],isGenerator:=false,isCoroutine:=false }
abbrev H2:Kd:=λ_ _ _ _ _ _=>False
abbrev gp:D0:=λ_ _ _=>False
def Rn{X:Ad}:Passes H2 X gp:=λ_ _ _ _ _ _ _ h=>h.elim
structure NZ(K:AZ)(x qual:Str)(st:BZ)(f:A6)(fd:G3):Prop where
 ex:∃(Hs:A4)(E0:Option A6)(D_ doc pm:A4)(an:Option A6)(CA Di:A4)(Mj:Array (Option A4)),
  fd=JH x qual (Ky st) (GJ st) (Br st) .none D_ doc pm an CA Di/\K.lookup f=some ⟨Hs,E0,.func fd,Mj⟩/\P8 K CA qual=true
 kp:KV K (.ref f)=true
section
variable{P:Ba}{w:BL}{K:AZ}{mg:Str->Option A4}{base:B2}
def NZ.ok {x qual:Str} {st:BZ} {f:A6} {fd:G3} {N Am:List Str} {k:Nat} {sp:BJ} (F:NZ K x qual st f fd) (S:CT N Am (Br st)) (len:∀vs H Q E,sp vs H Q E->vs.length=Am.length)(dQ:∀(CA:A4)(A:Bt)(outer:List Env)(s:AM)(H:AA)(vs:List V)(Q:CQ)(E:D0),CM k (A.deeper (O5 qual (Br st) s.heap.objs.size f CA))->sp vs H Q E->
    ∃t,Gb (F0 H2 P w K mg base N qual (Br st) f CA A outer s H E).Hr (GJ st) t/\t { BG:=λ_ H'=>Q .non H',Du:=Q } (start N vs) H):G_ P w K mg base H2 (k+1) f fd Am sp:=by
 obtain⟨Hs,E0,D_,doc,pm,an,CA,Di,Mj,rfl,lk,D8⟩:=F.ex;refine kr lk D8 S len λA outer s H vs Q E B8 Pd=>?_;obtain⟨t,h,q⟩:=dQ CA A outer s H vs Q E B8 Pd;exact⟨t,h.Hr,q⟩
def NZ.binds{x qual:Str}{st:BZ}{f:A6}{fd:G3}{Am:List Str}(F:NZ K x qual st f fd)(h:∀(D_ doc pm:A4)(an:Option A6)(CA Di:A4)(us:List A4),us.length=Am.length->So (JH x qual (Ky st) (GJ st) (Br st) .none D_ doc pm an CA Di) ⟨us,[]⟩=pure (Am.zip us)):Binds K fd Am []:=by obtain⟨Hs,E0,D_,doc,pm,an,CA,Di,Mj,rfl,lk,D8⟩:=F.ex;exact .all (h D_ doc pm an CA Di)
def S1{x qual:Str}{st:BZ}{f:A6}{Hs:A4}{E0 an:Option A6}{Mj:Array (Option A4)}{D_ doc pm CA Di:A4}(l:K.lookup f=some ⟨Hs,E0,.func (JH x qual (Ky st) (GJ st) (Br st) .none D_ doc pm an CA Di),Mj⟩)(c:P8 K CA qual=true)(k:KV K (.ref f)=true):NZ K x qual st f (JH x qual (Ky st) (GJ st) (Br st) .none D_ doc pm an CA Di):=⟨⟨Hs,E0,D_,doc,pm,an,CA,Di,Mj,rfl,l,c⟩,k⟩
end
section
variable{X:Ad}
def HU(i:Nat){x:Str}{pos:Pos}(hN:ς:=by rfl)(BE:Gf X.env.scope x:=by rw?)(hd:ι:=by decide)(D8:μ:=by decide):Ay X (.Name x pos) (X4 i):=II hN BE hd D8
end
def iy(H H':AA):Prop:=∀b o,H b=some o->H' b=some o
def iy.seq{K:AZ}{H H':AA}{a:A6}{xs:List V}(e:iy H H')(h:C4 K H a xs):C4 K H' a xs:=by
 rcases h with(h|⟨o,h⟩)|h
 .exact .inl (.inl (e _ _ h))
 .exact .inl (.inr ⟨o,e _ _ h⟩)
 .exact .inr h
section
variable{X:Ad}
end
section
variable{κ:Type}[DecidableEq κ]
end
noncomputable def HR(env:Env):List (Str×K_)->List (Str×A6)->List (Str×A6)
 |[],cs=>cs
 |(x,k)::r,cs=>HR env r (if k==.free then(x,(env.cells.lookup x).getD 0)::cs else cs)
theorem iL{env:Env}:∀(names:List (Str×K_))(cs:List (Str×A6)),(∀p∈names,p.2=.free->∃c,env.cells.lookup p.1=some c)->
 (forIn (m:=Sem) names cs λ(x:Str×K_) cs=>if(x.2==JG)=true then do
   let a <-cellOf env x.1
   pure (Ny ((x.1,a)::cs))else pure (Ny cs))=pure (HR env names cs)
 |[],cs,_=>rfl
 |(x,k)::r,cs,h=>by
  rw[Qb];have BW:=iL (env:=env) r;by_cases AG:k=.free
  .subst AG;obtain⟨c,AO⟩:=h (x,.free) LJ rfl;have A7:cellOf env x=pure c:=by unfold cellOf;rw[AO]
   erw[beq_self_eq_true,if_true,HR,A7,AO,Xz,pure_bind];exact BW _ λp AX=>h p (FG _ AX)
  .have J:(k==JG)=false:=by simpa using AG
   erw[J,HJ,if_false,HR,pure_bind];exact BW _ λp AX=>h p (FG _ AX)
def iK{env:Env}{scope:Dn}(h:∀p∈scope.names,p.2=.free->∃c,env.cells.lookup p.1=some c):closureFor scope env=pure (HR env scope.names []):=by
 have e:=iL (env:=env) scope.names [] h;unfold closureFor
 refine Eq.trans (b:=(forIn (m:=Sem) scope.names [] λ(x:Str×K_) cs=>if(x.2==JG)=true then do
   let a <-cellOf env x.1
   pure (Ny ((x.1,a)::cs))else pure (Ny cs))>>=pure) rfl ?_
 rw[e];rfl
theorem iJ{env:Env}{x:Str}:∀(names:List (Str×K_))(cs:List (Str×A6)),(∀p∈names,p.2=.free->∃c,env.cells.lookup p.1=some c)->
  (HR env names cs).lookup x=if(x,JG)∈names then env.cells.lookup x else cs.lookup x
 |[],cs,_=>by simp[HR]
 |(y,k)::r,cs,h=>by
  rw[HR,iJ r _ λp AX=>h p (FG _ AX)];by_cases hm:(x,JG)∈r
  .rw[if_pos hm,if_pos (FG _ hm)]
  .rw[if_neg hm];by_cases AG:k=.free
   .subst AG;obtain⟨c,AO⟩:=h (y,.free) LJ rfl;by_cases AJ:x=y
    .subst AJ;rw[if_pos LJ];simp[Ud,AO]
    .have nm:¬(x,JG)∈(y,JG)::r:=λz=>by
       rcases List.mem_cons.mp z with e|e
       .exact AJ (by injection e)
       .exact hm e
     rw[if_neg nm];have J:(x==y)=false:=(AJ:)
     simp[Ud,J]
   .have J:(k==JG)=false:=by simpa using AG
    have nm:¬(x,JG)∈(y,k)::r:=λz=>by
     rcases List.mem_cons.mp z with e|e
     .exact AG (by injection e with _ AH;exact AH.symm)
     .exact hm e
    rw[if_neg nm];simp[J]
def u1 {prog:Ba} {w:BL} {A:Bt} {R:Result->ο} {s:AM} {elt target iter:AS} {ifs:List AS} {scope:Dn} {pos:Pos} {it acc:A4} {env:Env} (I:Nat->ο)(turn:∀n s,I n s->AW ψ A (Gs it) (λr D4=>match r with
    |none=>R (.ok .next) D4
    |some v=>AW (Aq prog w) A (Xn target it v) (λ_ q9=>AW (Aq prog w) A (Ka target env v) (λ_ Io=>
       AW ψ A (forIn ifs true λc r=>if r=true then do let ok <-isTrue c env (BH c env);pure (Ny ok)else pure (Ny r)) (λok QU=>
        if ok=true then AW ψ A (BH elt env) (λx au=>
         AW ψ A (call (.builtin "list.append") [acc,x]) (λ_ qA=>∃m,m<n/\I m qA) (PK ψ A env λe s'=>R (.error e) s') au) (PK ψ A env λe s'=>R (.error e) s') QU
        else ∃m,m<n/\I m QU) (PK ψ A env λe s'=>R (.error e) s') Io) (PK ψ A env λe s'=>R (.error e) s') q9) (PK ψ A env λe s'=>R (.error e) s') D4) (PK ψ A env λe s'=>R (.error e) s') s)
  (n:Nat) (h:I n s):MB ψ A (.compLoop (.ListComp elt [⟨target,iter,ifs,0⟩] scope pos) 0 it acc env) R s:=by
 refine codeAny_loop rfl I (λn s GO=>?_) n h;show AW _ A ((compTurn (.ListComp elt [⟨target,iter,ifs,0⟩] scope pos) 0 it acc env).onRaise (λx=>do noteFrame x env;theTreesLotGoes x)) _ _ s;refine wpAny_noted ?_;rw[compTurn_list];refine AF (wpAny_standAt (AF (Ha (turn n s GO) (λr D4 L9=>?_) λ_ _ h'=>h')));cases r with
 |none=>exact Ag L9
 |some v=>
  refine AF (Ha L9 (λ_ q9 yV=>?_) λ_ _ h'=>h');refine AF (Ha yV (λ_ Io MX=>AF (Ha MX (λok QU ND=>?_) λ_ _ h'=>h')) λ_ _ h'=>h');cases ok with
  |false=>exact Ag ⟨rfl,ND⟩
  |true=>exact AF (AF (Ha ND (λx au Wa=>AF (Ha Wa (λ_ qA Ho=>Ag (Ag ⟨rfl,Ho⟩)) λ_ _ h'=>h')) λ_ _ h'=>h'))
noncomputable abbrev Ff(X:Ad)(scope:Dn)(N:List Str)(cl:List (Str×A6))(C:A6)(s:AM)(H:AA)(Ah:List A6):Ad where
 prog:=X.prog
 w:=X.w
 K:=X.K
 mg:=X.mg
 base:=X.base
 A:=X.A
 N:=N
 Fm:=s
 R5:=H
 env:=compEnvC scope cl C X.env
 outer:=X.stack
 stack:=X.stack
 ex:=Ah
 calm:=X.calm
 fn:=λx=>scope.names.lookup x==some .cell
 Bl:=[]
 xe:=λ_ _=>False
noncomputable def Nh(nl:Nat)(caps:φ)(σ :St):St:=GF nl none++caps.map λj=> σ.getD j none
def aM:Option K_->Bool
 |some .cell=>true
 |some .free=>true
 |_=>false
structure Mm(sc:Dn)(Nf:List Str)(scope:Dn)(N:List Str)(nl:Nat)(caps:φ):Prop where
 kind:scope.kind=.function
 uniq:∀x∈scope.names,scope.names.lookup x.1=some x.2
 free:∀x∈scope.names,x.2=.free->aM (sc.names.lookup x.1)=true
 len:N.length=nl+caps.length
 tx:∀k j,caps[k]?=some j->∃x,Nf[j]?=some x/\N[nl+k]?=some x/\scope.names.lookup x=some .free/\aM (sc.names.lookup x)=true
noncomputable def RL(sc:Dn)(Nf:List Str)(scope:Dn)(N:List Str)(nl:Nat)(caps:φ):Bool:=
 (scope.kind==.function)&&scope.names.all (λx=>scope.names.lookup x.1==some x.2&&(x.2 !=.free||aM (sc.names.lookup x.1)))&&
 (N.length==nl+caps.length)&&(caps.zipIdx.all λdA=>match Nf[dA.1]? with
   |none=>false
   |some x=>N[nl+dA.2]?==some x&&scope.names.lookup x==some .free&&aM (sc.names.lookup x))
def Mm.of{sc:Dn}{Nf:List Str}{scope:Dn}{N:List Str}{nl:Nat}{caps:φ}(h:RL sc Nf scope N nl caps=true):Mm sc Nf scope N nl caps:=by
 unfold RL at h;rw[FR,FR,FR]at h;obtain⟨⟨⟨A5,A8⟩,Au⟩,BC⟩:=h;rw[Mv]at A8 BC;refine⟨eq_of_beq A5,λx AJ=>?_,λx AJ e=>?_,eq_of_beq Au,λk j e=>?_⟩
 .have:=A8 x AJ;rw[FR]at this;exact eq_of_beq this.1
 .have:=A8 x AJ;rw[FR]at this;have q:=this.2;rw[e]at q;simpa using q
 .have m:(j,k)∈caps.zipIdx:=by
    rw[List.mem_zipIdx_iff_getElem?];exact e
  have q:=BC _ m;dsimp only at q
  split at q
  .cases q
  .rename_i x ex;rw[FR,FR]at q;exact⟨x,ex,eq_of_beq q.1.1,eq_of_beq q.1.2,q.2⟩
def Mm.locs{sc:Dn}{Nf:List Str}{scope:Dn}{N:List Str}{nl:Nat}{caps:φ}(S:Mm sc Nf scope N nl caps):∀x∈scope.names,x.2=.local->scope.names.lookup x.1=some .local:=λx AJ e=>e▸S.uniq x AJ
theorem cX:∀(ns:List (Str×K_))(n:Nat)(a b:List (Str×A6)),HZ n ns (a++b)=HZ n ns a++b
 |[],_,_,_=>rfl
 |(x,k)::r,n,a,b=>by
  unfold HZ
  split
  .exact cX r (n+1) ((x,n)::a) b
  .exact cX r n a b
theorem Za{x:Str}{c:A6}:∀(ns:List (Str×K_))(n:Nat)(a:List (Str×A6)),(x,c)∈HZ n ns a->(x,NameKind.cell)∈ns\/(x,c)∈a
 |[],_,_,h=>.inr h
 |(y,k)::r,n,a,h=>by
  unfold HZ at h
  split at h
  .rename_i AG;rcases Za r _ _ h with z|z
   .exact .inl (FG _ z)
   .rcases List.mem_cons.mp z with e|z
    .injection e with A7 AH;subst A7;rw[eq_of_beq AG];exact .inl LJ
    .exact .inr z
  .rcases Za r _ _ h with z|z
   .exact .inl (FG _ z)
   .exact .inr z
def ac7{M:Model}{A:Bt}{E:ξ}{s:AM}{scope:Dn}{globals:A6}{cl:List (Str×A6)}{qual:Str}{env:Env}{Q:Env->ο}(CI:Q { scope:=scope,locals:=s.heap.objs.size,globals:=globals,cells:=HZ (s.heap.objs.size+1) scope.names cl,qual:=qual,func:=none,code:=env.code,frame:=env.frame,builtins:=env.builtins } { s with heap:=pushCells (s.heap.push { cls:=.type "dict",data:=.dict #[] }) scope.names }) :
  AW M A (gd scope globals cl [] qual none .none (some env)) Q E s:=by
 erw[gd,g5,if_true];refine AF (wpAny_alloc ?_);refine AF (wpAny_layCells _ (λname kind cells=>by cases x8:kind==NameKind.cell<;>simp[x8]) _ _ _ _ ?_);rw[show({ s with heap:=s.heap.push { cls:=.type "dict",data:=.dict #[] } }:AM).heap.objs.size=s.heap.objs.size+1 from KW ..];exact AF (Ag (Ag CI))
def eK{scope:Dn}{env:Env}{x:Str}{k:K_}(h:(MC scope env).names.lookup x=some k):(x,k)∈scope.names\/(k=.cell/\(x,JG)∈scope.names):=by
 have m:=Mx h;obtain⟨⟨y,q⟩,BO,e⟩:=List.mem_map.mp m;dsimp only at e
 split at e
 .rename_i AO;injection e with A7 AH;subst A7;have hf:q=.free:=by
   rw[FR,FR]at AO;exact eq_of_beq AO.1.1
  subst hf;exact .inr ⟨AH.symm,BO⟩
 .injection e with A7 AH;subst A7;subst AH;exact .inl BO
noncomputable def ay(Iq:TI)(g:IW)(GX:TT)(Dv:TE)(nl:Nat)(caps:φ):TE:=λσ H Q=>
 Iq σ H λCb H1=>∀acc,H1 acc=none->∃W:Nat->Nat->St->AA->Prop,(∃m,W 0 m (Nh nl caps σ) (upd H1 acc (.lst [])))/\
  ∀i m σ' H',W i m σ' H'->(Cb.stop i H'/\Q (.ref acc) H')\/
   (Cb.go i H'/\∀x B7,Cb.Jq i H' x B7->g x σ' B7 λσ2 Cx=>GX σ2 Cx λb HN=>
      if b=true then Dv σ2 HN λy JP=>∃ys,JP acc=some (.lst ys)/\ys.length<CK/\∃Ds,Ds<m/\W (i+1) Ds σ2 (upd JP acc (.lst (ys++[y])))
      else ∃Ds,Ds<m/\W (i+1) Ds σ2 HN)
section
variable{X:Ad}{elt target iter:AS}{ifs:List AS}{scope:Dn}{pos:Pos}{N:List Str}{nl:Nat}{caps:φ}{Iq:TI}{g:IW}{GX:TT}{Dv:TE}
noncomputable def Q0(X:Ad)(ifs:List AS)(t:TT):Prop:=
 ∀(pins:υ)(s:AM)(σ :St)(H:AA)(Q:Bool->AA->Prop),π->t σ H Q->
  AW ω X.A (forIn ifs true λc r=>if r=true then do let ok <-isTrue c X.env (BH c X.env);pure (Ny ok)else pure (Ny r)) (Yc X pins σ Q) X.xe s
def afi:TT:=λ_ H Q=>Q true H
def acX:Q0 X [] afi:=λ_ _ _ H _ I h=>wpAny_tests_nil ⟨H,I,h⟩
def acY{c:AS}{t:TT}(h:FH X c t):Q0 X [c] t:=λpins s σ H Q I hw=>wpAny_tests_one (h pins s σ H Q I hw)
def yx{pins:υ}{σ :St}{H:AA}{s s4:AM}{cl:List (Str×A6)}{Ah:List A6}(S:Mm X.env.scope X.N scope N nl caps)(I:π)(k1:∀x c,cl.lookup x=some c->X.env.cells.lookup x=some c\/(scope.names.lookup x=some .cell/\s.heap.objs.size<c/\s4.heap.IsCell c none))(k2:∀x,(x,JG)∈scope.names->cl.lookup x=X.env.cells.lookup x)(k3:∀x,scope.names.lookup x=some .cell->∃c,cl.lookup x=some c/\s.heap.objs.size<c)(I7:∀x y c,cl.lookup x=some c->cl.lookup y=some c->x=y)(hf:∀b∈Ah,Jz X pins H b)(F9:∀b∈Ah,b<s.heap.objs.size)(wt:s4.os=s.os)(Aa:s4.gens=s.gens)(AQ:∃m,s4.heap.Ns s.heap.objs.size m)(AG:∀b o,dl->s4.heap.get? b=some o) :
  Inv (Ff X scope N cl s.heap.objs.size s H Ah) [] (Nh nl caps σ) H s4:=by
 refine⟨⟨I.ok.mod,?_,I.ok.glob,I.ok.blt,CS _,I7,λx AJ=>?_,λx c z e=>?_,I.ok.hd,I.ok.frames,.inl rfl,λb J=>⟨Eb (F9 b J),λx c e=>(k1 x c e).elim (λe=>(hf b J).2.2.2.2.1 x c e) λe=>M5 (LN (F9 b J) e.2.1)⟩,I.bs,Fp I.ok.QA I.Ll,λb o e J=>?_,λb J AK=>?_,I.stack,I.fV⟩,
  wt,?_,GI.kept AG,?_,λx c e=>?_,I.BX.fresh (CS _),λx c e=>(k1 x c e).elim (I.Nm x c) λe=>I.BX.fresh (Nx e.2.1),λp AX=>absurd (show p∈([]:υ)from AX) γ,I.BX.kept AG,?_⟩
 .show(MC scope X.env).kind=.function;exact S.kind
 .have AJ:(MC scope X.env).names.lookup x=some .cell\/(MC scope X.env).names.lookup x=some .free:=AJ;have hm:(x,JG)∈scope.names\/scope.names.lookup x=some .cell:=by
   rcases AJ with h|h
   .rcases eK h with m|⟨_,m⟩
    .exact .inr (S.uniq _ m)
    .exact .inl m
   .rcases eK h with m|⟨e,_⟩
    .exact .inl m
    .cases e
  rcases hm with hm|hm
  rotate_left
  .obtain⟨c,e,_⟩:=k3 x hm;exact⟨c,e⟩
  have AT:=S.free _ hm rfl;have AO:∃c,X.env.cells.lookup x=some c:=by
   apply I.ok.has x;show X.env.scope.names.lookup x=some .cell\/X.env.scope.names.lookup x=some .free;cases e:X.env.scope.names.lookup x with
   |none=>rw[e]at AT;cases AT
   |some k=>
    rw[e]at AT
    cases k<;>first
     |exact .inl rfl
     |exact .inr rfl
     |cases AT
  obtain⟨c,e⟩:=AO;exact⟨c,by show cl.lookup x=some c;rw[k2 x hm];exact e⟩
 .obtain⟨Eo,CF,q⟩:=k3 x (eq_of_beq z);rw[show cl.lookup x=some c from e]at CF;cases CF;exact Nx q
 .rcases(hf b J).2.2.2.1 with z|z
  .exact I.ok.Rl b o e z
  .exact absurd (HK (Cr (I.ok.bs b o e).1) z) (Hc _)
 .rcases List.mem_cons.mp (I.aq b AK)with z|z
  .exact(hf b J).2.1 z
  .exact(hf b J).2.2.1 z
 .rw[Aa];exact I.bare
 .obtain⟨m,AQ⟩:=AQ;refine⟨m,AQ,λi x v A5 A8 Au=>?_⟩;have hN:N[i]?=some x:=A5;unfold Nh at A8;by_cases AC:i<nl
  .rw[Ms (AC:),P6,if_pos AC]at A8;cases A8
  .rw[Nq (AC:),SV,Dm]at A8;cases e:caps[i-nl]? with
   |none=>rw[e]at A8;cases A8
   |some j=>
    rw[e]at A8;have A8: σ.getD j none=some v:=E_ A8;obtain⟨y,A7,AH,br,GK⟩:=S.tx _ _ e;have B1:(y,JG)∈scope.names:=Mx br;have CV:Gf X.env.scope y:=by
     cases q:X.env.scope.names.lookup y with
     |none=>rw[q]at GK;cases GK
     |some k=>
      rw[q]at GK
      cases k<;>first
       |exact .inr (.inl q)
       |exact .inr (.inr q)
       |cases GK
    have Fz:nl+(i-nl)=i:=δ
    rw[Fz,hN]at AH;cases AH;have AK: σ[j]?=some (some v):=by
     rw[HI]at A8;cases q: σ[j]? with
     |none=>rw[q]at A8;cases A8
     |some o=>rw[q]at A8;exact congrArg some A8
    obtain⟨m0,_,AP⟩:=I.loc;obtain⟨u,r,l⟩:=AP j x v A7 AK CV;refine⟨u,r,.inr ⟨?_,?_⟩⟩
    .show(MC scope X.env).names.lookup x=some .cell\/(MC scope X.env).names.lookup x=some .free;rcases Au with Au|Au|Au
     .have Au:(MC scope X.env).names.lookup x=some .local:=Au;rcases eK Au with z|⟨z,_⟩
      .have Db:scope.names.lookup x=some .local:=S.locs _ z rfl;rw[Db]at br;cases br
      .cases z
     .exact .inl Au
     .exact .inr Au
    .have AT:X.env.scope.names.lookup x≠some .local:=λz=>by rw[z]at GK;cases GK
     rcases l with⟨z,_⟩|⟨_,c,Dw,Db⟩
     .exact absurd z AT
     .refine⟨c,?_,Db.keeps AG⟩;show cl.lookup x=some c;rw[k2 x B1];exact Dw
 .rcases k1 x c e with e|e
  .obtain⟨v,z⟩:=I.cell x c e;exact⟨v,z.keeps AG⟩
  .exact⟨_,e.2.2⟩
 .show(Nh nl caps σ).length=N.length;unfold Nh;rw[KX,SV,Ea,S.len]
def yz{pins:υ}{σ σ' :St}{H H':AA}{s s':AM}{cl:List (Str×A6)}{Ah:List A6}{h':B2}(I:π)(hf:∀b∈Ah,Jz X pins H b)(Cb:Inv (Ff X scope N cl s.heap.objs.size s H Ah) [] σ' H' s')(AK:I0 s.heap.objs.size s'.heap h'):Inv X pins σ H' { s' with heap:=h' }:=by
 have ne:∀b o,dl->b≠s.heap.objs.size:=λb o e=>Eb (Cr e);have u:GI (Ef X.stack) Ah H H' s.heap s'.heap:=Cb.base;have fr:H' s.heap.objs.size=none:=Cb.free;refine I.uV (ch:=Ah) (s':={ s' with heap:=h' }) Cb.os ⟨λb o e n J AJ=>(AK.2 b (ne b o e)).trans (u.keep b o e n J AJ),λb o e n J AJ=>?_,u.free,λb o e AJ=>?_,u.Ln,u.L2,u.Lm⟩ (λb o e=>?_) Cb.bare λb J=>?_
 .obtain⟨CJ,q⟩:=u.slot b o e n J AJ;exact⟨CJ,(AK.2 b (ne b o e)).trans q⟩
 .obtain⟨Bo,q⟩:=u.there b o e AJ;exact⟨Bo,(AK.2 b (ne b o e)).trans q⟩
 .refine(Cb.BX b o e).OG (λc v AO q=>(AK.2 c ?_).trans q) (λ_ q=>q) λ_ _ q=>q;rintro rfl;rcases AO with z|z
  .rw[<-z,fr]at e;cases e
  .rw[fr]at z;cases z
 .obtain⟨_,f1,_,Fh,f4,GS⟩:=hf b J;exact⟨Fh,f1,f4,GS⟩
def im {pins:υ} {σ :St} {s2:AM} {B7:AA} {it:A6} {Ah:List A6} {HF:Nat->B2->Prop} {Cb:It} {E:ξ} {Q:AA->Prop} {W:Nat->Nat->St->AA->Prop} {m0:Nat}(S:Mm X.env.scope X.N scope N nl caps) (AO:X.calm=true) (C3:Inv X pins σ B7 s2) (T:Turn X.prog X.w X.K target Cb Ah it HF) (Lk:HF 0 s2.heap) (f2:∀b∈Ah,Jz X pins B7 b)(Aa:∀cl C s H Ah,K1 (Ff X scope N cl C s H Ah) target g) (Ax:∀cl C s H Ah,Q0 (Ff X scope N cl C s H Ah) ifs GX) (he:∀cl C s H Ah,Ay (Ff X scope N cl C s H Ah) elt Dv)(OK:W 0 m0 (Nh nl caps σ) (upd B7 s2.heap.objs.size (.lst [])))(turn:∀i m σ' H',W i m σ' H'->(Cb.stop i H'/\Q H')\/
    (Cb.go i H'/\∀x Cx,Cb.Jq i H' x Cx->g x σ' Cx λσ2 HN=>GX σ2 HN λb JP=>
       if b=true then Dv σ2 JP λy TY=>∃ys,TY s2.heap.objs.size=some (.lst ys)/\ys.length<CK/\∃Ds,Ds<m/\W (i+1) Ds σ2 (upd TY s2.heap.objs.size (.lst (ys++[y])))
       else ∃Ds,Ds<m/\W (i+1) Ds σ2 JP))
  (Vi:A4->A6->Result->ο)
  (xU:∀(C:A6) s' H',(∃m,s'.heap.Ns C m)->Jz X pins H' C->(∀h',I0 C s'.heap h'->Inv X pins σ H' { s' with heap:=h' })->Q H'->Vi (.ref s2.heap.objs.size) C (.ok .next) s') :
  AW ω X.A (newList []) (λacc QU=>AW ω X.A (gd scope X.env.globals (HR X.env scope.names []) [] X.env.qual none .none (some X.env)) (λiI au=>
   MB ω X.A (.compStart (.ListComp elt [⟨target,iter,ifs,0⟩] scope pos) 0 (.ref it) acc { iI with scope:=MC scope X.env }) (Vi acc iI.locals) au) E QU) E s2:=by
 have ZS:∀p∈scope.names,p.2=.free->∃c,X.env.cells.lookup p.1=some c:=λp AX e=>by
  have q:=S.free p AX e;apply C3.ok.has p.1;show X.env.scope.names.lookup p.1=some .cell\/X.env.scope.names.lookup p.1=some .free;cases AH:X.env.scope.names.lookup p.1 with
  |none=>rw[AH]at q;cases q
  |some k=>
   rw[AH]at q
   cases k<;>first
    |exact .inl rfl
    |exact .inr rfl
    |cases q
 have S4:∀x,(HR X.env scope.names []).lookup x=if(x,JG)∈scope.names then X.env.cells.lookup x else none:=λx=>iJ scope.names [] ZS
 have ZQ:B7 s2.heap.objs.size=none:=C3.BX.fresh (CS _);refine Ih (ac7 ?_);dsimp only;have DX:Inv X pins σ (upd B7 s2.heap.objs.size (.lst [])) { s2 with heap:=s2.heap.push { cls:=.type "list",dict:=none,data:=.seq ([]:List A4).toArray } }:=C3.cj (its:=[]) (ys:=[]) (t':=s2.toks) .nil (Hy _);generalize df:({ s2 with heap:=s2.heap.push { cls:=.type "list",dict:=none,data:=.seq ([]:List A4).toArray } }:AM)=s3 at DX;have dX:s2.heap.push { cls:=.type "list",dict:=none,data:=.seq ([]:List A4).toArray }=s3.heap:=by rw[<-df]
 rw[dX];have mx:∀b o,s2.heap.get? b=some o->s3.heap.get? b=some o:=λb o e=>by rw[<-dX];exact Cp _ e
 have aex:s3.heap.objs.size=s2.heap.objs.size+1:=by rw[<-dX,KW]
 have kc:=cX scope.names (s3.heap.objs.size+1) [] (HR X.env scope.names []);have ok:=cellsFrom_ok scope.names (s3.heap.push { cls:=.type "dict",data:=.dict #[] }) (s3.heap.objs.size+1) [] ⟨λ_ _ hm=>(nomatch hm),sI⟩ (by rw[KW];exact CS _);have ke:=(Heap.Ns.new s3.heap (.type "dict")).keeps (pushCells_keeps scope.names _);have aR:∀b o,s3.heap.get? b=some o->(pushCells (s3.heap.push { cls:=.type "dict",data:=.dict #[] }) scope.names).get? b=some o:=λb o e=>pushCells_keeps _ _ b o (Cp _ e);rw[KW]at ok;rw[Xp]at kc;rw[kc];generalize pushCells (s3.heap.push { cls:=.type "dict",data:=.dict #[] }) scope.names=L9 at ke aR ok |-;have old:∀x c,X.env.cells.lookup x=some c->c<s3.heap.objs.size:=λx c e=>by obtain⟨v,z⟩:=DX.cell x c e;exact z.lt
 have k0:∀x c,(HZ (s3.heap.objs.size+1) scope.names []++HR X.env scope.names []).lookup x=some c->((x,c)∈HZ (s3.heap.objs.size+1) scope.names []/\scope.names.lookup x=some .cell/\s3.heap.objs.size<c/\L9.IsCell c none)\/X.env.cells.lookup x=some c:=λx c e=>by
  rw[gJ]at e;cases A7:(HZ (s3.heap.objs.size+1) scope.names []).lookup x with
  |some Eo=>
   rw[A7]at e;have e:Eo=c:=E_ e;subst e;have m:=Mx A7;rcases Za _ _ _ m with z|z
   .exact .inl ⟨m,S.uniq _ z,(ok.empty _ _ m).2,(ok.empty _ _ m).1⟩
   .cases z
  |none=>
   rw[A7]at e;have e:(HR X.env scope.names []).lookup x=some c:=e;rw[S4]at e
   split at e
   .exact .inr e
   .cases e
 have k2:∀x,(x,JG)∈scope.names->(HZ (s3.heap.objs.size+1) scope.names []++HR X.env scope.names []).lookup x=X.env.cells.lookup x:=λx AJ=>by
  rw[gJ];cases A7:(HZ (s3.heap.objs.size+1) scope.names []).lookup x with
  |some Eo=>
   rcases Za _ _ _ (Mx A7)with z|z
   .have Al:=S.uniq _ z;have BN:=S.uniq _ AJ;dsimp only at Al BN;rw[Al]at BN;cases BN
   .cases z
  |none=>show(HR X.env scope.names []).lookup x=_;rw[S4,if_pos AJ]
 have k3:∀x,scope.names.lookup x=some .cell->∃c,(HZ (s3.heap.objs.size+1) scope.names []++HR X.env scope.names []).lookup x=some c/\s3.heap.objs.size<c:=λx AJ=>by obtain⟨c,e⟩:=cW (n:=s3.heap.objs.size+1) AJ;exact⟨c,by rw[gJ,e];rfl,(ok.empty _ _ (Mx e)).2⟩
 have I7:∀x y c,(HZ (s3.heap.objs.size+1) scope.names []++HR X.env scope.names []).lookup x=some c->(HZ (s3.heap.objs.size+1) scope.names []++HR X.env scope.names []).lookup y=some c->x=y:=λx y c A5 A8=>by
  rcases k0 x c A5 with Dw|Dw<;>rcases k0 y c A8 with Db|Db
  .exact name_of_addr ok.apart Dw.1 Db.1
  .exact absurd (old y c Db) (Nat.not_lt_of_gt Dw.2.2.1)
  .exact absurd (old x c Dw) (Nat.not_lt_of_gt Db.2.2.1)
  .exact DX.ok.inj x y c Dw Db
 have k1:∀x c,(HZ (s3.heap.objs.size+1) scope.names []++HR X.env scope.names []).lookup x=some c->X.env.cells.lookup x=some c\/(scope.names.lookup x=some .cell/\s3.heap.objs.size<c/\L9.IsCell c none):=λx c e=>(k0 x c e).elim (λz=>.inr z.2) .inl;generalize HZ (s3.heap.objs.size+1) scope.names []++HR X.env scope.names []=cl at k0 k1 k2 k3 I7 |-;have ka:∀b∈Ah,b<s2.heap.objs.size:=λb J=>by obtain⟨o,e,_⟩:=T.obj 0 _ Lk b J;exact Cr e
 have Fh:∀b∈Ah,Jz X pins (upd B7 s2.heap.objs.size (.lst [])) b:=λb J=>by obtain⟨Iy,a1⟩:=f2 b J;exact⟨by rw[DT (Eb (ka b J))];exact Iy,a1⟩
 have da:∀b∈Ah,b<s3.heap.objs.size:=λb J=>by rw[aex];exact U_ (ka b J)
 have loop:∀s4:AM,s4={ s3 with heap:=L9 }->
   MB ω X.A (.compLoop (.ListComp elt [⟨target,iter,ifs,0⟩] scope pos) 0 (.ref it) (.ref s2.heap.objs.size) (compEnvC scope cl s3.heap.objs.size X.env))
    (Vi (.ref s2.heap.objs.size) s3.heap.objs.size) s4:=by
  intro s4 TM;have LY:Inv (Ff X scope N cl s3.heap.objs.size s3 (upd B7 s2.heap.objs.size (.lst [])) Ah) [] (Nh nl caps σ) (upd B7 s2.heap.objs.size (.lst [])) s4:=
   yx S DX (by rw[TM];exact k1) k2 k3 I7 Fh da (by rw[TM]) (by rw[TM]) ⟨_,by rw[TM];exact ke⟩ (by rw[TM];exact aR)
  have ag8:HF 0 s4.heap:=T.keep 0 _ _ Lk λb J o e=>by rw[TM];exact aR b o (mx b o e)
  generalize Lh:Ff X scope N cl s3.heap.objs.size s3 (upd B7 s2.heap.objs.size (.lst [])) Ah=B at LY;have stat:∀{H':AA},(∀b∈Ah,H' b=none)->∀b∈Ah,Jz B [] H' b:=λ{H'} AQ b J=>by
   subst Lh;obtain⟨Iy,a1,a2,G7,Kk,Q6⟩:=Fh b J;refine⟨AQ b J,Eb (da b J),λz=>?_,.inl J,λx c e=>?_,λp AX=>absurd (show p∈([]:υ)from AX) γ⟩
   .rcases List.mem_cons.mp (DX.aq b z)with q|q
    .exact a1 q
    .exact a2 q
   .rcases k1 x c e with e|e
    .exact Kk x c e
    .exact M5 (LN (da b J) e.2.1)
  have wz:K1 B target g:=by subst Lh;exact Aa _ _ _ _ _
  have yP:Q0 B ifs GX:=by subst Lh;exact Ax _ _ _ _ _
  have ww:Ay B elt Dv:=by subst Lh;exact he _ _ _ _ _
  have VH:B.prog=X.prog:=by subst Lh;rfl
  have HS:B.w=X.w:=by subst Lh;rfl
  have k8:B.K=X.K:=by subst Lh;rfl
  have vb:B.A=X.A:=by subst Lh;rfl
  have bw:B.env=compEnvC scope cl s3.heap.objs.size X.env:=by subst Lh;rfl
  have kB:B.calm=true:=by subst Lh;exact AO
  have vA:B.xe=λ_ _=>False:=by subst Lh;rfl
  rw[<-VH,<-HS,<-vb,<-bw];refine u1 (λn s'=>∃i σ' H',Inv B [] σ' H' s'/\HF i s'.heap/\(∀b∈Ah,H' b=none)/\W i n σ' H') ?_ m0 ⟨0,_,_,LY,ag8,λb J=>(Fh b J).1,OK⟩;rintro n s5 ⟨i,σ5,JP,TZ,U1,ZE,ahL⟩;have away:∀{α:Type}{t:Sem α}{iv:α->ο}{tK:ξ}{OD:AM},AW (Aq B.prog B.w) B.A t iv B.xe OD->AW (Aq B.prog B.w) B.A t iv tK OD:=λh=>Ha h (λ_ _ q=>q) λe s' z=>by rw[vA]at z;cases z
  rcases turn i n σ5 JP ahL with⟨stop,q⟩|⟨go,step⟩
  .have d:=T.done B VH HS k8 kB i [] s5 σ5 JP (PK (Aq B.prog B.w) B.A B.env λe s'=>Vi (.ref s2.heap.objs.size) s3.heap.objs.size (.error e) s') TZ (stat ZE) U1 stop;rw[<-VH,<-HS]at d;refine Bd d λr IM⟨B8,V5⟩=>?_;subst B8;refine xU _ IM JP ?_ (DX.Ou (CS _) ?_) (λh' Ic=>?_) q
   .obtain⟨m,AQ,_⟩:=V5.loc;rw[bw]at AQ;exact⟨m,AQ⟩
   .have z:=V5.free;rw[bw]at z;exact z
   .subst Lh;exact yz DX Fh V5 Ic
  .have d:=T.item B VH HS k8 kB i [] s5 σ5 JP (PK (Aq B.prog B.w) B.A B.env λe s'=>Vi (.ref s2.heap.objs.size) s3.heap.objs.size (.error e) s') TZ (stat ZE) U1 go;rw[<-VH,<-HS]at d;refine Bd d λr IM⟨u,B8,Cu⟩=>?_;subst B8;refine Bd Cu λ_ Da⟨x,Ge,Kf,Jm,ai_,fS,vi⟩=>?_;have tQ:=Kf.pinned (stat vi) (T.obj _ _ fS);refine away (Bd (wz _ Da σ5 Ge x u _ tQ Jm (step x Ge ai_)) λ_ s8⟨σ8,gr,tR,aeF⟩=>?_);refine away (Bd (yP _ s8 σ8 gr _ tR aeF) λb s9⟨tL,iC,nZ⟩=>?_);have again:∀{σa:St}{IC:AA}{OD:AM},Inv B ([]++W3 Ah Da.heap) σa IC OD->(∃Ds,Ds<n/\W (i+1) Ds σa IC)->∃m,m<n/\∃i σ' H',Inv B [] σ' H' OD/\HF i OD.heap/\(∀b∈Ah,H' b=none)/\W i m σ' H':=λ{σa IC OD} gs⟨Ds,hm,ahO⟩=>by
    refine⟨Ds,hm,i+1,σa,IC,gs.b6,T.keep _ _ _ fS λb J o e=>(gs.pin (b,o) (Fb _ (Fb _ (a6 J e)))).1,λb J=>?_,ahO⟩;obtain⟨o,e,d⟩:=T.obj _ _ fS b J;exact(gs.pin (b,o) (Fb _ (Fb _ (a6 J e)))).2.1
   cases b with
   |false=>exact again iC nZ
   |true=>show AW _ _ (BH elt B.env) _ _ s9;refine away (Bd (ww _ s9 σ8 tL _ iC nZ) λfM F_⟨y,iA,tN,C0,ys,AB,Ao,aeC⟩=>?_);refine away (Bd (eX _ F_ σ8 iA (.ref s2.heap.objs.size) [y] (.ref s2.heap.objs.size) [fM] (λ_ iB=>iB=upd iA s2.heap.objs.size (.lst (ys++[y]))) tN rfl (.cons C0 .nil) ⟨_,ys,y,rfl,rfl,AB,Ao,rfl⟩) λ_ Fu⟨z,iB,tO,_,vZ⟩=>?_);subst vZ;exact again tO aeC
 exact codeAny_compStart_list (loop _ (by rw[<-df])) (T.self X.A 0 _ _ _ (T.keep 0 _ _ Lk λb J o e=>aR b o (mx b o e)) (loop _ (by rw[<-df])))
def kV{pins:υ}{σ :St}{s:AM}{H:AA}(S:Mm X.env.scope X.N scope N nl caps)(I:π):∀p∈scope.names,p.2=.free->∃c,X.env.cells.lookup p.1=some c:=λp AX e=>by
 have q:=S.free p AX e;apply I.ok.has p.1;show X.env.scope.names.lookup p.1=some .cell\/X.env.scope.names.lookup p.1=some .free;cases AH:X.env.scope.names.lookup p.1 with
 |none=>rw[AH]at q;cases q
 |some k=>
  rw[AH]at q
  cases k<;>first
   |exact .inl rfl
   |exact .inr rfl
   |cases q
def adD(S:Mm X.env.scope X.N scope N nl caps)(AO:X.calm=true)(AC:G6 X target iter Iq)(Aa:∀cl C s H Ah,K1 (Ff X scope N cl C s H Ah) target g)(Ax:∀cl C s H Ah,Q0 (Ff X scope N cl C s H Ah) ifs GX)(he:∀cl C s H Ah,Ay (Ff X scope N cl C s H Ah) elt Dv)(AK:∀x,M1 iter X.env x=pure x:=by intro _;rfl):Ay X (.ListComp elt [⟨target,iter,ifs,0⟩] scope pos) (ay Iq g GX Dv nl caps):=by intro pins s σ H Q I h;rw[eval_ListComp];refine wpAny_comprehension_free (use:=none) rfl AK (iK (kV S I)) S.kind S.locs ?_;refine Bd (AC pins s σ H _ I h) λv s1 A5=>Bd A5 λaO s2 A8=>?_;obtain⟨it,Ah,HF,Cb,B7,e,C3,T,Lk,f2,k⟩:=A8;subst e;obtain⟨W,⟨m0,OK⟩,turn⟩:=k s2.heap.objs.size (C3.BX.fresh (CS _));refine im (Q:=λH'=>Q (.ref s2.heap.objs.size) H') S AO C3 T Lk f2 Aa Ax he OK turn (λacc C=>compPost ω X.A X.xe none (GZ X pins σ Q) acc C) ?_;intro C s' H' AQ _ GO q;obtain⟨m,AQ⟩:=AQ;exact⟨m,AQ,λh' Ic=>⟨.ref s2.heap.objs.size,H',GO h' Ic,rfl,q⟩⟩
def oQ{i:Nat}{y:Str}{py pz:Pos}(S:Mm X.env.scope X.N scope N nl caps)(AO:X.calm=true)(hN:X.N.Nodup)(BO:X.N[i]?=some y)(AP:X.env.kindOf y=some .local)(AC:G6 X target iter Iq)(Aa:∀cl C s H Ah,K1 (Ff X scope N cl C s H Ah) target g)(Ax:∀cl C s H Ah,Q0 (Ff X scope N cl C s H Ah) ifs GX)(he:∀cl C s H Ah,Ay (Ff X scope N cl C s H Ah) elt Dv)(ON:M6 (.ListComp elt [⟨target,iter,ifs,0⟩] scope pos) (some (.Name y py)) pz.line X.env=pure true:=by rfl)(AK:∀x,M1 iter X.env x=pure x:=by intro _;rfl):Cz X (.Assign [.Name y py] (.ListComp elt [⟨target,iter,ifs,0⟩] scope pos) pz) (MH (ay Iq g GX Dv nl caps) (J1 i)):=by
 intro pins s σ H CP I h;rw[exec_Assign_Name_used _ _ _ _ ON];refine AF (wpAny_standAt (AF ?_));show AW _ X.A (do let _ <-comprehension (.ListComp elt [⟨target,iter,ifs,0⟩] scope pos) scope X.env _ (newList []) false (BH iter X.env) (some (Ka (.Name y py) X.env))) _ _ s;refine AF (Ha (wpAny_comprehension_free (use:=some (Ka (.Name y py) X.env)) (Q:=λ_ s'=>RE X pins CP .next s') rfl AK (iK (kV S I)) S.kind S.locs ?_) (λ_ s' AT=>Ag (Ag AT)) λ_ _ e=>e);refine Bd (AC pins s σ H _ I h) λv s1 A5=>Bd A5 λaO s2 A8=>?_;obtain⟨it,Ah,HF,Cb,B7,e,C3,T,Lk,f2,k⟩:=A8;subst e;obtain⟨W,⟨m0,OK⟩,turn⟩:=k s2.heap.objs.size (C3.BX.fresh (CS _));refine im (Q:=λH'=>CP.BG (σ.set i (some (.ref s2.heap.objs.size))) H') S AO C3 T Lk f2 Aa Ax he OK turn (λacc C=>compPost ω X.A X.xe (some (Ka (.Name y py) X.env)) (λ_ s'=>RE X pins CP .next s') acc C) ?_;intro C s' H' AQ GT GO q;obtain⟨m,AQ⟩:=AQ;show AW _ X.A (Ka (.Name y py) X.env (.ref s2.heap.objs.size)) _ _ s';have Na:Inv X pins σ H' s':=GO s'.heap (sJ _ _);refine wpAny_assign_Name (q6 (v:=.ref s2.heap.objs.size) Na hN BO (.inl AP) (show RelV (V.ref _) _ from rfl) (λJn tM yL=>?_) (.inr AP));obtain⟨a,yK,AB⟩:=yL;obtain⟨Vo,B_,EQ,Hk,IH,uU⟩:=GT;have aaZ:C≠a:=by
  rcases AB with z|z
  .rw[z];exact B_
  .exact λw=>IH y a z w.symm
 refine⟨m,AQ.sameBut yK aaZ,λh' Ic=>?_⟩;exact⟨_,H',tM.turned (t':=Jn.toks) (it:=C) (λb o J e=>(Ic.2 b J).trans e) Vo B_ Hk IH uU,q⟩
end
structure YV(P:Ba)(w:BL)(K:AZ)(outer:List Env)(H H':AA)(s:AM)(a:A6)(C Iy:A4)(B:B2)(s':AM):Prop where
 os:s'.os=s.os
 bare:N1 s'.gens
 un:GI (Ef outer) [] H H' s.heap s'.heap
 cE:Heap.FlyingW B outer a C Iy s'.heap
 old:∀b o,dl->H b=none->b∉Ef outer->B.get? b=some o
 fi:∀b o,dl->b∉Ef outer->∃Bo,B.get? b=some Bo
 BX:E6 P w K H' B
 AB:H' a=none
def Hv(P:Ba)(w:BL)(K:AZ):Kd:=λouter H s E e s'=>∃(a:A6)(C Iy:A4)(B:B2)(H':AA),e=.ref a/\YV P w K outer H H' s a C Iy B s'/\E C (some a) H'
section
variable{X:Ad}{pins:υ}{σ :St}{H H':AA}{s s':AM}{a:A6}{C Iy:A4}{B:B2}
def E6.part(x:E6 X.prog X.w X.K H s.heap)(k:∀b u,(H b).isSome=true->s.heap.get? b=some u->B.get? b=some u):E6 X.prog X.w X.K H B:=λb o e=>
 (x b o e).OG (λc u AO q=>k c u (by rcases AO with rfl|AO<;>simp[*]) q) (λ_ q=>q) λ_ _ q=>q
def ky{env:Env}{outer:List Env}{L:A6}(h:env.frame=some L){b:A6}(J:b∈Ef (env::outer)):b=L\/b∈Ef outer:=by unfold Ef at J;rw[Ug,h]at J;exact List.mem_cons.mp J
def Inv.abL{M:Model}{A:Bt}{E:ξ}{h':B2}{vs:List A4}{Q:Unit->ο}(I:π)(Gk:X.stack=X.env::X.outer)(TJ:X.env.frame=some X.env.locals)(hex:X.ex=[])(Gj:A.frames=some X.stack)(AJ:Heap.MadeExcOf s.heap h' a C vs)(CI:∀Iy B Jn,YV X.prog X.w X.K X.outer X.R5 H X.Fm a C Iy B Jn->Q () Jn):AW M A (leaving X.env (.ref a)) Q E i8:=by
 have Vd:∀env∈X.stack,∀b,env.frame=some b->b∈Ef X.stack:=λenv he b J=>List.mem_filterMap.mpr ⟨env,he,J⟩;have Ox:∀b o,dl->b∉Ef X.stack->(Xl s.heap (Ef X.stack)).get? b=some o:=λb o q n=>sN _ q n;have OL:∀b o,X.Fm.heap.get? b=some o->b∉Ef X.outer->b∉Ef X.stack:=λb o q n z=>by
  rw[Gk]at z;rcases ky TJ z with r|r
  .subst r;exact absurd (HK (Cr q) I.ok.above) (Hc _)
  .exact n r
 have Ia:∀b,b∉X.ex:=λb z=>by rw[hex]at z;cases z
 refine PySem.wpAny_leaves_madeW (base:=Xl s.heap (Ef X.stack)) (h:=s.heap) (by rw[Gj,Gk]) TJ (λb o q=>sP _ q) (by have:=PySem.W.funFrames_hide (as:=Ef X.stack) I.stack Vd;rw[Gk]at this |-;exact this) AJ λl6 t E2 E3 HH Hu=>?_;refine CI (.ref t) (Xl s.heap (Ef X.stack)) _ ⟨I.os,I.bare,⟨?_,?_,?_,?_,I.base.Ln,I.base.L2,I.base.Lm⟩,E2,?_,?_,?_,?_⟩
 .exact λb o q n J _=>E2.1 b o (Ox b o (I.base.keep b o q n J (Ia b)) (OL b o q J))
 .intro b o q n J _;obtain⟨CJ,Al⟩:=I.base.slot b o q n J (Ia b);obtain⟨_,Bo,Dl,Jj⟩:=I.ok.K8.mem J;rw[q]at Dl;cases Dl;obtain⟨dx,BN⟩:=Hu b _ (AJ.keeps b _ Al) Jj;exact⟨dx,BN⟩
 .exact λb o q n _=>I.base.free b o q n (Ia b)
 .intro b o q _;by_cases J:b∈Ef X.outer
  .obtain⟨_,Bo,Dl,_⟩:=E2.2.2.1.mem J;exact⟨Bo,Dl⟩
  .obtain⟨Bo,Dl⟩:=I.base.there b o q (Ia b);exact⟨Bo,E2.1 b Bo (Ox b Bo Dl (OL b o q J))⟩
 .exact λb o q n J=>Ox b o (I.base.keep b o q n J (Ia b)) (OL b o q J)
 .intro b o q J;obtain⟨Bo,Dl⟩:=I.base.there b o q (Ia b);exact⟨Bo,Ox b Bo Dl (OL b o q J)⟩
 .exact E6.part (X:=X) (s:=s) I.BX λb u AK q=>Ox b u q λz=>by rw[I.fV b z]at AK;cases AK
 .cases q:H a with
  |none=>rfl
  |some o=>
   have k:∀o:Dd,Em X.prog X.w X.K H s.heap a o->∃u,s.heap.get? a=some u:=λo x=>by
    induction o with
    |lst xs=>obtain⟨_,_,_,_,e⟩:=x;exact⟨_,e⟩
    |tup xs=>obtain⟨_,_,_,_,e,_⟩:=x;exact⟨_,e⟩
    |De Ac=>obtain⟨_,_,_,_,o,_,_,e,_⟩:=x;exact⟨_,e⟩
    |B5 Ac=>obtain⟨_,_,_,_,o,_,_,e,_⟩:=x;exact⟨_,e⟩
    |set S n=>obtain⟨o,_,_,_,e,_⟩:=x;exact⟨_,e⟩
    |ins C Aj Aw=>obtain⟨_,_,_,e,_⟩:=x;exact⟨_,e⟩
    |own y=>obtain⟨_,e⟩:=x;exact⟨_,e⟩
    |bD Aw=>obtain⟨_,⟨_,_,_,e,_⟩,_⟩:=x;exact⟨_,e⟩
    |bP lo AC=>obtain⟨_,_,_,e⟩:=x;exact⟨_,e⟩
    |L0 ob u=>obtain⟨e,_⟩:=x;exact⟨_,e⟩
    |QC Am=>exact⟨_,(show s.heap.get? a=some _ from x)⟩
    |met f y=>exact⟨_,(show s.heap.get? a=some _ from x)⟩
    |ext Rx=>obtain⟨_,⟨_,e⟩,_⟩:=x;exact⟨_,e⟩
   obtain⟨u,e⟩:=k o (I.BX a o q);rw[AJ.new]at e;cases e
def Inv.abM{M:Model}{A:Bt}{E:ξ}{Q:Unit->ο}(I:π)(Gk:X.stack=X.env::X.outer)(TJ:X.env.frame=some X.env.locals)(hex:X.ex=[])(Gj:A.frames=some X.stack)(f:YV X.prog X.w X.K X.stack H H' s a C Iy B s')(CI:∀Jn,YV X.prog X.w X.K X.outer X.R5 H' X.Fm a C Iy B Jn->Q () Jn):AW M A (leaving X.env (.ref a)) Q E s':=by
 have OL:∀b o,X.Fm.heap.get? b=some o->b∉Ef X.outer->b∉Ef X.stack:=λb o q n z=>by
  rw[Gk]at z;rcases ky TJ z with r|r
  .subst r;exact absurd (HK (Cr q) I.ok.above) (Hc _)
  .exact n r
 have xL:∀b,b∈Ef X.outer->b∈Ef X.stack:=λb z=>by rw[Gk];unfold Ef;rw[Ug,TJ];exact FG _ z
 have Ia:∀b,b∉X.ex:=λb z=>by rw[hex]at z;cases z
 have no:∀b:A6,b∉([]:List A6):=λb z=>by cases z
 obtain⟨os,bare,un,cE,old,fi,BX,AB⟩:=f;rw[Gk]at cE;refine PySem.wpAny_leaves_onW (by rw[Gj,Gk]) TJ cE λl6 E2 E3=>?_;refine CI _ ⟨os.trans I.os,bare,⟨?_,?_,?_,?_,λb xs q=>un.Ln b xs (I.base.Ln b xs q),λb o u q=>un.L2 b o u (I.base.L2 b o u q),?_⟩,E2,?_,?_,BX,AB⟩
 .exact λb o q n J _=>E2.1 b o (old b o (I.base.keep b o q n J (Ia b)) (I.base.free b o q n (Ia b)) (OL b o q J))
 .intro b o q n J _;obtain⟨CJ,Al⟩:=I.base.slot b o q n J (Ia b);obtain⟨_,Bo,Dl,Jj⟩:=I.ok.K8.mem J;rw[q]at Dl;cases Dl;obtain⟨ak_,BN⟩:=un.slot b _ Al (I.base.free b o q n (Ia b)) (xL b J) (no b);obtain⟨dx,Dt⟩:=E3 b _ BN Jj;exact⟨dx,Dt⟩
 .intro b o q n _;obtain⟨Bo,Dl⟩:=I.base.there b o q (Ia b);exact un.free b Bo Dl (I.base.free b o q n (Ia b)) (no b)
 .intro b o q _;by_cases J:b∈Ef X.outer
  .obtain⟨_,Bo,Dl,_⟩:=E2.2.2.1.mem J;exact⟨Bo,Dl⟩
  .obtain⟨Bo,Dl⟩:=I.base.there b o q (Ia b);obtain⟨Cj,BN⟩:=fi b Bo Dl (OL b o q J);exact⟨Cj,E2.1 b Cj BN⟩
 .intro b Am q;obtain⟨Fk,A7⟩:=I.base.Lm b Am q;obtain⟨FY,AH⟩:=un.Lm b _ A7;exact⟨Fk++FY,by rw[AH,Array.append_assoc]⟩
 .exact λb o q n J=>old b o (I.base.keep b o q n J (Ia b)) (I.base.free b o q n (Ia b)) (OL b o q J)
 .intro b o q J;obtain⟨Bo,Dl⟩:=I.base.there b o q (Ia b);exact fi b Bo Dl (OL b o q J)
end
def v9{K:AZ}{h:B2}{C:A6}{Vn:List A4}{newId:String}(X:K.In h)(q:Uk K C Vn newId=true) :
  ∃bm N nm q bs hdct sn sub ab col dd k0 k1 k2 k3 k5 mN,h.get? C=some (excClassObj nm q C N bs bm hdct sn sub ab col dd k0 k1 k2 k3 k5 newId)/\h.Ns N mN/\mN "__init__"=none/\OwnTail h Vn bm:=by
 unfold Uk at q
 split at q
 .rename_i dd cd CJ AN
  split at q
  .rename_i IQ bm k0 k1 k2 k3 n k5 hm AK;erw[FR,beq_iff_eq,gP]at q;obtain⟨⟨⟨⟨⟨rfl,rfl⟩,kT⟩,Ax⟩,BX⟩,Yz⟩:=q;obtain⟨nm,bs,mro,ns,qn,hd,sn,sub,ab,col,del⟩:=cd;dsimp only at hm kT BX Yz;subst hm kT;have yM:CJ= #[k0,k1,k2,k3,some (.builtin n),k5]:=by
    obtain⟨l⟩:=CJ;simp only at AK;rw[AK]
   subst yM;exact⟨bm,ns,nm,qn,bs,hd,sn,sub,ab,col,dd,k0,k1,k2,k3,k5,_,X _ _ AN,.of_isNs (PySem.W.isNs_of_in X BX),PySem.W.nsMap_none_of_in X BX Yz,PySem.W.tail_of_in X Ax⟩
  .cases q
 .cases q
def rG(X:Ad)(C:A6):F4:=λ_ σ H=>∀pins s h' a vs,π->Heap.MadeExcOf s.heap h' a (.ref C) vs->X.xe (.ref a) i8
section
variable{X:Ad}{x:Str}{np Bn pos Zb:Pos}{C:A6}{Vn:List A4}{B newId yt:String}{m:Str}{j:Nat}
def ad1(FB:ExcBaseFacts B newId yt Vn)(q:Uk X.K C Vn newId=true)(hm:X.mg x=some (.ref C))(AO:X.calm=true:=by rfl)(Aa:Dg X x:=by rfl)(hd:ι:=by decide) :
  Cz X (.Raise (some (.Call (.Name x np) [.Constant (.str m) j Zb] [] Bn)) none pos) (rG X C):=by
 intro pins s σ H D I h;obtain⟨bm,N,nm,qn,bs,hdct,sn,sub,ab,col,dd,k0,k1,k2,k3,k5,mN,GT,hN,Yz,j0⟩:=v9 I.mod.JA q;refine wpAny_Raise_call_subT (mN:=mN) (C:=C) (nm:=nm) (q:=qn) (N:=N) (bs:=bs) (bm:=bm) (hdct:=hdct) (sn:=sn) (sub:=sub) (ab:=ab) (col:=col) (dd:=dd) (k0:=k0) (k1:=k1) (k2:=k2) (k3:=k3) (k5:=k5) FB (j0.hasType FB.hasBase) (I.ok.hd AO) rfl Yz (aX I Aa hm ⟨rfl,?_⟩ hd);refine XZ (SS (Bd (oC (X:=X) (x:=m) (j:=j) (pos:=Zb) pins s σ H (λ_ H1=>H1=H) I rfl) λu s1⟨v,H1,B0,AL,A7⟩=>?_));subst A7;refine UZ ⟨rfl,UV rfl,B0.Ed _ _ GT,hN.keeps B0.Ed,j0.keeps B0.Ed,λh' a AJ=>h pins s1 h' a _ B0 AJ⟩
def aiJ{P:Ba}{w:BL}{K:AZ}{mg:Str->Option A4}{base:B2}{N:List Str}{qual:Str}{scope:Dn}{f:A6}{cd:A4}{A:Bt}{outer:List Env}{s0:AM}{H0:AA}{E:D0}{σ :St}{H:AA}{CP:Ends}(h:∀a,H a=none->E (.ref C) (some a) H):rG (F0 (Hv P w K) P w K mg base N qual scope f cd A outer s0 H0 E) C CP σ H:=λpins s h' a vs I AJ=>
 I.abL (C:=.ref C) rfl rfl rfl I.ok.frames AJ λIy B Jn G1=>⟨a,.ref C,Iy,B,H,rfl,G1,h a G1.AB⟩
def ad5{P:Ba}{w:BL}{K:AZ}{mg:Str->Option A4}{base:B2}{N:List Str}{qual:Str}{scope:Dn}{f:A6}{cd:A4}{A:Bt}{outer:List Env}{s0:AM}{H0:AA}{E:D0} :
  Passes (Hv P w K) (F0 (Hv P w K) P w K mg base N qual scope f cd A outer s0 H0 E) E:=λpins σ H s e s' I AJ=>by
 obtain⟨a,C,Iy,B,H',rfl,G1,J3⟩:=AJ;exact I.abM (X:=F0 (Hv P w K) P w K mg base N qual scope f cd A outer s0 H0 E) rfl rfl rfl I.ok.frames G1 λJn wD=>⟨a,C,Iy,B,H',rfl,wD,J3⟩
end
abbrev v8(a:A6)(C:A4):Dd:=.ext λh=>∃ob,h.get? a=some ob/\ob.cls=C
section
variable{X:Ad}{pins:υ}{σ :St}{H H':AA}{s s':AM}{a:A6}{C Iy:A4}{B:B2}{l6:B2}
end
section
variable{X:Ad}{k:Nat}{f C:A6}{fd:G3}{Am:List Str}{sp:BJ}{E:D0}{x:Str}{p pos:Pos}{e:AS}{A2:List AS}{t:En}
end
section
variable{X:Ad}{pins:υ}{σ :St}{H H':AA}{s s':AM}{a:A6}
end
section
variable{X:Ad}{i:Nat}{x n:Str}{W:A6}{e:AS}{Dv:TE}{E:D0}{uT:BZ}{agO:List BZ}{Az:F4}{ad7 np AX pos:Pos}
end
end Bv
namespace CR
open PySem Bv
inductive D where
 |non|AV (b:Bool)|int (i:Int)|str (x:Str)
 |tup (xs:χ)|lst (xs:χ)|CO (xs:χ)
 |De (ks:List Key) (xs:χ)|B5 (ks:List Bq) (xs:χ)
 |ins (c:Str) (ns:List Str) (xs:χ)
 |PX (c:Str)
 |EI (xs:χ)
def Sub(G H:AA):Prop:=∀b o,G b=some o->H b=some o
def Sub.refl(G:AA):Sub G G:=λ_ _ e=>e
def Sub.trans{G H I:AA}(a:Sub G H)(b:Sub H I):Sub G I:=λc o e=>b c o (a c o e)
def Sub.gone{G H:AA}(a:Sub G H){b:A6}(h:H b=none):G b=none:=by
 cases e:G b with
 |none=>rfl
 |some o=>rw[a b o e]at h;cases h
theorem Sub.upd{G:AA}{a:A6}{o:Dd}(h:G a=none):Sub G (upd G a o):=λb u e=>by rw[DT (KJ e h)];exact e
def Sub.b7{G H:AA}{a:A6}{o:Dd}(s:Sub G H)(h:G a=none):Sub G (Bv.upd H a o):=λb u e=>by rw[DT (KJ e h)];exact s b u e
def Sub.both{G H:AA}{a:A6}{o:Dd}(s:Sub G H):Sub (Bv.upd G a o) (Bv.upd H a o):=λb u e=>by
 by_cases J:b=a
 .subst J;rw[Do]at e |-;exact e
 .rw[DT J]at e |-;exact s b u e
theorem Sub.at{G H:AA}{a:A6}{o:Dd}(s:Sub G H)(h:H a=some o):Sub (Bv.upd G a o) H:=λb u e=>by
 by_cases J:b=a
 .subst J;rw[Do]at e;rw[h];exact e
 .rw[DT J]at e;exact s b u e
def IE(H:AA)(b:A6):Prop:=H b≠none/\∀xs,H b≠some (.tup xs)
structure C5(G H G' H':AA):Prop where
 g:Sub G G'
 h:Sub H H'
 n:∀b,IE H b->G' b=G b
def Sub.some{G H:AA}(s:Sub G H){b:A6}(h:G b≠none):H b≠none:=λz=>h (s.gone z)
def Sub.Jk{G H:AA}(s:Sub G H){b:A6}(h:IE G b):IE H b:=by
 cases e:G b with
 |none=>exact absurd e h.1
 |some o=>exact⟨s.some h.1,λxs z=>h.2 xs (e.trans ((s b o e).symm.trans z))⟩
def IE.of{H:AA}{b:A6}{o:Dd}(e:H b=some o)(n:∀xs,o≠.tup xs):IE H b:=⟨by rw[e];exact(λz=>nomatch z),λxs z=>n xs (E_ (e.symm.trans z))⟩
theorem C5.refl(G H:AA):C5 G H G H:=⟨Sub.refl _,Sub.refl _,λ_ _=>rfl⟩
theorem C5.trans{G H Ai H1 Cw B7:AA}(a:C5 G H Ai H1)(b:C5 Ai H1 Cw B7):C5 G H Cw B7:=⟨a.g.trans b.g,a.h.trans b.h,λc AO=>(b.n c (a.h.Jk AO)).trans (a.n c AO)⟩
def C5.lay{G H:AA}{p:A6}{o:Dd}(s:Sub G H)(AX:H p=none):C5 G H (Bv.upd G p o) (Bv.upd H p o):=⟨Sub.upd (s.gone AX),Sub.upd AX,λb J=>by rw[DT];intro e;subst e;exact J.1 AX⟩
def C5.lay0{G H:AA}{p:A6}{o:Dd}(AX:H p=none):C5 G H G (Bv.upd H p o):=⟨Sub.refl _,Sub.upd AX,λ_ _=>rfl⟩
def C5.put{G H G' H':AA}{p:A6}{o:Dd}(u:C5 G H G' H')(AX:H p=none)(Aa:G' p=none):C5 G H (Bv.upd G' p o) H':=⟨u.g.trans (Sub.upd Aa),u.h,λb J=>by
 rw[DT]
 .exact u.n b J
 .intro e;subst e;exact J.1 AX⟩
def Fc.mono{G H:AA}(s:Sub G H){a:A6}{u:Dd}(r:Fc G a u):Fc H a u:=by
 rcases r with r|⟨o,r⟩
 .exact .inl (s _ _ r)
 .exact .inr ⟨o,s _ _ r⟩
theorem C4.mono{K:AZ}{G H:AA}(s:Sub G H){a:A6}{xs:List V}(r:C4 K G a xs):C4 K H a xs:=by
 rcases r with r|r
 .exact .inl (Fc.mono s r)
 .exact .inr r
theorem Ct.mono{K:AZ}{G H:AA}(s:Sub G H){a:A6}{xs:List V}(r:Ct K G a xs):Ct K H a xs:=by
 rcases r with r|r
 .exact .inl (Fc.mono s r)
 .exact .inr r
def FT(K:AZ)(c:Str)(C:A6):Prop:=LO K Ev c=some (some (.ref C))
mutual
noncomputable def At(K:AZ)(G:AA):D->V->Prop
 |.non,v=>v=.non
 |.AV b,v=>v=.AV b
 |.int i,v=>v=.int i
 |.str x,v=>v=.str x
 |.tup ds,v=>∃a xs,v=.ref a/\G a=some (.tup xs)/\AY K G ds xs
 |.EI ds,v=>∃a xs,v=.ref a/\Ct K G a xs/\AY K G ds xs
 |.lst ds,v=>∃a xs,v=.ref a/\G a=some (.lst xs)/\AY K G ds xs
 |.CO ds,v=>∃a xs,v=.ref a/\C4 K G a xs/\AY K G ds xs
 |.De ks ds,v=>∃a xs,v=.ref a/\G a=some (.De xs)/\xs.map (·.1)=ks/\AY K G ds (xs.map (·.2))
 |.B5 ks ds,v=>∃a xs,v=.ref a/\G a=some (.B5 xs)/\xs.map (·.1)=ks/\AY K G ds (xs.map (·.2))
 |.ins c ns ds,v=>∃a Aj xs,v=.ref a/\(∃C,FT K c C/\G a=some (.ins C Aj xs))/\xs.map (·.1)=ns/\AY K G ds (xs.map (·.2))
 |.PX c,v=>∃(a:A6)(xs:List V),v=.ref a/\(∃C,FT K c C/\G a=some (v8 a (.ref C)))/\xs=[]
noncomputable def AY(K:AZ)(G:AA):χ->List V->Prop
 |[],vs=>vs=[]
 |d::ds,vs=>∃v r,vs=v::r/\At K G d v/\AY K G ds r
end
mutual
theorem At.mono{K:AZ}{G H:AA}(s:Sub G H):∀{d:D}{v:V},At K G d v->At K H d v
 |.non,_,h=>by simpa only[At]using h
 |.AV _,_,h=>by simpa only[At]using h
 |.int _,_,h=>by simpa only[At]using h
 |.str _,_,h=>by simpa only[At]using h
 |.tup _,_,h=>by erw[At]at h |-;obtain⟨a,xs,e,q,r⟩:=h;exact⟨a,xs,e,s _ _ q,AY.mono s r⟩
 |.EI _,_,h=>by erw[At]at h |-;obtain⟨a,xs,e,q,r⟩:=h;exact⟨a,xs,e,Ct.mono s q,AY.mono s r⟩
 |.lst _,_,h=>by erw[At]at h |-;obtain⟨a,xs,e,q,r⟩:=h;exact⟨a,xs,e,s _ _ q,AY.mono s r⟩
 |.CO _,_,h=>by erw[At]at h |-;obtain⟨a,xs,e,q,r⟩:=h;exact⟨a,xs,e,C4.mono s q,AY.mono s r⟩
 |.De _ _,_,h=>by erw[At]at h |-;obtain⟨a,xs,e,q,k,r⟩:=h;exact⟨a,xs,e,s _ _ q,k,AY.mono s r⟩
 |.B5 _ _,_,h=>by erw[At]at h |-;obtain⟨a,xs,e,q,k,r⟩:=h;exact⟨a,xs,e,s _ _ q,k,AY.mono s r⟩
 |.ins _ _ _,_,h=>by erw[At]at h |-;obtain⟨a,Aj,xs,e,⟨C,B_,q⟩,k,r⟩:=h;exact⟨a,Aj,xs,e,⟨C,B_,s _ _ q⟩,k,AY.mono s r⟩
 |.PX _,_,h=>by erw[At]at h |-;obtain⟨a,xs,e,⟨C,B_,q⟩,r⟩:=h;exact⟨a,xs,e,⟨C,B_,s _ _ q⟩,r⟩
theorem AY.mono{K:AZ}{G H:AA}(s:Sub G H):∀{ds:χ}{vs:List V},AY K G ds vs->AY K H ds vs
 |[],_,h=>by simpa only[AY]using h
 |_::_,_,h=>by erw[AY]at h |-;obtain⟨v,r,e,q,t⟩:=h;exact⟨v,r,e,At.mono s q,AY.mono s t⟩
end
section
variable{K:AZ}{G:AA}
def AY.nil:AY K G [] []:=by erw[AY]
def AY.cons{d:D}{ds:χ}{v:V}{vs:List V}(h:At K G d v)(t:AY K G ds vs):AY K G (d::ds) (v::vs):=by erw[AY];exact⟨v,vs,rfl,h,t⟩
theorem AY.length:∀{ds:χ}{vs:List V},AY K G ds vs->ds.length=vs.length
 |[],_,h=>by erw[AY]at h;subst h;rfl
 |_::_,_,h=>by erw[AY]at h;obtain⟨v,r,rfl,_,t⟩:=h;simp[AY.length t]
theorem AY.get:∀{ds:χ}{vs:List V}{i:Nat}{d:D},AY K G ds vs->ds[i]?=some d->∃v,vs[i]?=some v/\At K G d v
 |[],_,_,_,_,e=>by simp at e
 |_::_,_,0,_,h,e=>by erw[AY]at h;obtain⟨v,r,rfl,q,t⟩:=h;simp at e;subst e;exact⟨v,γ,q⟩
 |_::_,_,i+1,d,h,e=>by erw[AY]at h;obtain⟨v,r,rfl,q,t⟩:=h;obtain⟨u,A5,A8⟩:=AY.get (i:=i) (d:=d) t (e:);exact⟨u,(A5:),A8⟩
def AY.TB{ds:χ}{vs:List V}{i:Nat}{v:V}(h:AY K G ds vs)(e:vs[i]?=some v):∃d,ds[i]?=some d/\At K G d v:=by
 have AC:i<ds.length:=by rw[h.length];exact(List.getElem?_eq_some_iff.mp e).1
 obtain⟨u,A5,A8⟩:=h.get (DV AC);rw[e]at A5;cases A5;exact⟨_,DV AC,A8⟩
theorem AY.append:∀{ds A2:χ}{vs ws:List V},AY K G ds vs->AY K G A2 ws->AY K G (ds++A2) (vs++ws)
 |[],_,_,_,h,t=>by erw[AY]at h;subst h;exact t
 |_::_,_,_,_,h,t=>by erw[AY]at h;obtain⟨v,r,rfl,q,s⟩:=h;exact .cons q (AY.append s t)
theorem AY.take:∀(n:Nat){ds:χ}{vs:List V},AY K G ds vs->AY K G (ds.take n) (vs.take n)
 |0,_,_,_=>(AY.nil:)
 |_+1,[],_,h=>by erw[AY]at h;subst h;simpa using AY.nil
 |n+1,_::_,_,h=>by erw[AY]at h;obtain⟨v,r,rfl,q,t⟩:=h;exact .cons q (AY.take n t)
theorem AY.drop:∀(n:Nat){ds:χ}{vs:List V},AY K G ds vs->AY K G (ds.drop n) (vs.drop n)
 |0,_,_,h=>(h:)
 |_+1,[],_,h=>by erw[AY]at h;subst h;simpa using AY.nil
 |n+1,_::_,_,h=>by erw[AY]at h;obtain⟨v,r,rfl,q,t⟩:=h;simpa using AY.drop n t
theorem AY.set{d:D}{v:V}(q:At K G d v):∀(n:Nat){ds:χ}{vs:List V},AY K G ds vs->AY K G (ds.set n d) (vs.set n v)
 |_,[],_,h=>by erw[AY]at h;subst h;simpa using AY.nil
 |0,_::_,_,h=>by erw[AY]at h;obtain⟨u,r,rfl,_,t⟩:=h;exact .cons q t
 |n+1,_::_,_,h=>by erw[AY]at h;obtain⟨u,r,rfl,p,t⟩:=h;exact .cons p (AY.set q n t)
def AY.snoc{ds:χ}{vs:List V}{d:D}{v:V}(h:AY K G ds vs)(q:At K G d v):AY K G (ds++[d]) (vs++[v]):=h.append (.cons q .nil)
end
inductive R(α:Type) where
 |ok (a:α)|exc (c:Str)|bad
namespace R
def bind{α β:Type}:R α->(α->R β)->R β
 |.ok a,k=>k a
 |.exc c,_=>.exc c
 |.bad,_=>.bad
def map{α β:Type}(f:α->β)(r:R α):R β:=r.bind λa=>.ok (f a)
def EF{α β:Type}(a:α)(k:α->R β):(R.ok a).bind k=k a:=rfl
end R
def rb{α β:Type}{P:R α->Prop}{K0:R β->Prop}{r:R α}{k:α->R β}(h:K0 (r.bind k))(f:∀a,r=.ok a->K0 (k a)->P (.ok a))(J:K0 .bad->P .bad:=by exact id)(AJ:∀c,K0 (.exc c)->P (.exc c):=by exact λ_=>id):P r:=by
 cases r with
 |ok a=>exact f a rfl h
 |exc c=>exact AJ c h
 |bad=>exact J h
inductive T where
 |A1 (d:D)|lst (Az:List T)|De (ks:List Key) (Az:List T)|B5 (ks:List Bq) (Az:List T)|ins (c:Str) (ns:List Str) (Az:List T)
mutual
noncomputable def toD:T->D
 |.A1 d=>d
 |.lst Az=>.lst (MJ Az)
 |.De ks Az=>.De ks (MJ Az)
 |.B5 ks Az=>.B5 ks (MJ Az)
 |.ins c ns Az=>.ins c ns (MJ Az)
noncomputable def MJ:List T->χ
 |[]=>[]
 |t::Az=>toD t::MJ Az
end
mutual
noncomputable def Ah(H:AA):T->V->List A6
 |.A1 _,_=>[]
 |.lst Az,v=>match v with
  |.ref a=>match H a with
   |some (.lst xs)=>a::Dz H Az xs
   |_=>[]
  |_=>[]
 |.De _ Az,v=>match v with
  |.ref a=>match H a with
   |some (.De xs)=>a::Dz H Az (xs.map (·.2))
   |_=>[]
  |_=>[]
 |.B5 _ Az,v=>match v with
  |.ref a=>match H a with
   |some (.B5 xs)=>a::Dz H Az (xs.map (·.2))
   |_=>[]
  |_=>[]
 |.ins _ _ Az,v=>match v with
  |.ref a=>match H a with
   |some (.ins _ _ xs)=>a::Dz H Az (xs.map (·.2))
   |_=>[]
  |_=>[]
noncomputable def Dz(H:AA):List T->List V->List A6
 |[],_=>[]
 |t::Az,vs=>match vs with
  |v::r=>Ah H t v++Dz H Az r
  |[]=>[]
end
mutual
noncomputable def C_(K:AZ)(G H:AA):T->V->Prop
 |.A1 d,v=>At K G d v
 |.lst Az,v=>∃a xs,v=.ref a/\H a=some (.lst xs)/\Bx K G H Az xs
 |.De ks Az,v=>∃a xs,v=.ref a/\H a=some (.De xs)/\xs.map (·.1)=ks/\Bx K G H Az (xs.map (·.2))
 |.B5 ks Az,v=>∃a xs,v=.ref a/\H a=some (.B5 xs)/\xs.map (·.1)=ks/\Bx K G H Az (xs.map (·.2))
 |.ins c ns Az,v=>∃a Aj xs,v=.ref a/\(∃C,FT K c C/\H a=some (.ins C Aj xs))/\xs.map (·.1)=ns/\Bx K G H Az (xs.map (·.2))
noncomputable def Bx(K:AZ)(G H:AA):List T->List V->Prop
 |[],vs=>vs=[]
 |t::Az,vs=>∃v r,vs=v::r/\C_ K G H t v/\Bx K G H Az r
end
section
variable{K:AZ}{G G' H H' P:AA}
def Rz{a:A6}{xs:List V}{Az:List T}(q:H a=some (.lst xs)):Ah H (.lst Az) (.ref a)=a::Dz H Az xs:=by erw[Ah,q]
def TA{a:A6}{xs:List (Key×V)}{ks:List Key}{Az:List T}(q:H a=some (.De xs)):Ah H (.De ks Az) (.ref a)=a::Dz H Az (xs.map (·.2)):=by erw[Ah,q]
def MR{a:A6}{xs:List (Bq×V)}{ks:List Bq}{Az:List T}(q:H a=some (.B5 xs)):Ah H (.B5 ks Az) (.ref a)=a::Dz H Az (xs.map (·.2)):=by erw[Ah,q]
def Ld{a C:A6}{Aj}{xs:List (Str×V)}{c:Str}{ns:List Str}{Az:List T}(q:H a=some (.ins C Aj xs)):Ah H (.ins c ns Az) (.ref a)=a::Dz H Az (xs.map (·.2)):=by erw[Ah,q]
def Hm{t:T}{Az:List T}{v:V}{r:List V}:Dz H (t::Az) (v::r)=Ah H t v++Dz H Az r:=by erw[Dz]
def T9{vs:List V}:Dz H [] vs=[]:=by erw[Dz]
mutual
theorem C_.mono(BI:Sub G G'):∀{t:T}{v:V},C_ K G H t v->C_ K G' H t v
 |.A1 _,_,h=>by erw[C_]at h |-;exact h.mono BI
 |.lst _,_,h=>by erw[C_]at h |-;obtain⟨a,xs,e,q,r⟩:=h;exact⟨a,xs,e,q,Bx.mono BI r⟩
 |.De _ _,_,h=>by erw[C_]at h |-;obtain⟨a,xs,e,q,n,r⟩:=h;exact⟨a,xs,e,q,n,Bx.mono BI r⟩
 |.B5 _ _,_,h=>by erw[C_]at h |-;obtain⟨a,xs,e,q,n,r⟩:=h;exact⟨a,xs,e,q,n,Bx.mono BI r⟩
 |.ins _ _ _,_,h=>by erw[C_]at h |-;obtain⟨a,Aj,xs,e,q,n,r⟩:=h;exact⟨a,Aj,xs,e,q,n,Bx.mono BI r⟩
theorem Bx.mono(BI:Sub G G'):∀{Az:List T}{vs:List V},Bx K G H Az vs->Bx K G' H Az vs
 |[],_,h=>by simpa only[Bx]using h
 |_::_,_,h=>by erw[Bx]at h |-;obtain⟨v,r,e,q,t⟩:=h;exact⟨v,r,e,C_.mono BI q,Bx.mono BI t⟩
end
mutual
theorem C_.keep:∀{t:T}{v:V},(∀b∈Ah H t v,H' b=H b)->C_ K G H t v->C_ K G H' t v/\Ah H' t v=Ah H t v
 |.A1 _,_,_,h=>by erw[C_]at h;exact⟨by erw[C_];exact h,by erw[Ah]⟩
 |.lst _,_,k,h=>by erw[C_]at h;obtain⟨a,xs,rfl,q,r⟩:=h;rw[Rz q]at k;have Mk:H' a=some (.lst xs):=(k a γ).trans q;obtain⟨AL,BA⟩:=Bx.keep (λb J=>k b (FG _ J)) r;exact⟨by erw[C_];exact⟨a,xs,rfl,Mk,AL⟩,by rw[Rz Mk,Rz q,BA]⟩
 |.De _ _,_,k,h=>by erw[C_]at h;obtain⟨a,xs,rfl,q,n,r⟩:=h;rw[TA q]at k;have Mk:H' a=some (.De xs):=(k a γ).trans q;obtain⟨AL,BA⟩:=Bx.keep (λb J=>k b (FG _ J)) r;exact⟨by erw[C_];exact⟨a,xs,rfl,Mk,n,AL⟩,by rw[TA Mk,TA q,BA]⟩
 |.B5 _ _,_,k,h=>by erw[C_]at h;obtain⟨a,xs,rfl,q,n,r⟩:=h;rw[MR q]at k;have Mk:H' a=some (.B5 xs):=(k a γ).trans q;obtain⟨AL,BA⟩:=Bx.keep (λb J=>k b (FG _ J)) r;exact⟨by erw[C_];exact⟨a,xs,rfl,Mk,n,AL⟩,by rw[MR Mk,MR q,BA]⟩
 |.ins _ _ _,_,k,h=>by erw[C_]at h;obtain⟨a,Aj,xs,rfl,⟨C,B_,q⟩,n,r⟩:=h;rw[Ld q]at k;have Mk:H' a=some (.ins C Aj xs):=(k a γ).trans q;obtain⟨AL,BA⟩:=Bx.keep (λb J=>k b (FG _ J)) r;exact⟨by erw[C_];exact⟨a,Aj,xs,rfl,⟨C,B_,Mk⟩,n,AL⟩,by rw[Ld Mk,Ld q,BA]⟩
theorem Bx.keep:∀{Az:List T}{vs:List V},(∀b∈Dz H Az vs,H' b=H b)->Bx K G H Az vs->Bx K G H' Az vs/\Dz H' Az vs=Dz H Az vs
 |[],_,_,h=>⟨by simpa only[Bx]using h,by erw[Dz]⟩
 |_::_,_,k,h=>by erw[Bx]at h;obtain⟨v,r,rfl,q,t⟩:=h;rw[Hm]at k;obtain⟨Al,BN⟩:=C_.keep (λb J=>k b (G2 _ J)) q;obtain⟨t1,DO⟩:=Bx.keep (λb J=>k b (Fb _ J)) t;exact⟨by erw[Bx];exact⟨v,r,rfl,Al,t1⟩,by rw[Hm,Hm,BN,DO]⟩
end
mutual
theorem C_.some:∀{t:T}{v:V},C_ K G H t v->∀b∈Ah H t v,H b≠none
 |.A1 _,_,_=>by intro b J;simp[Ah]at J
 |.lst _,_,h=>by
  erw[C_]at h;obtain⟨a,xs,rfl,q,r⟩:=h;rw[Rz q];intro b J;rcases List.mem_cons.mp J with rfl|J
  .rw[q];exact λz=>nomatch z
  .exact Bx.some r b J
 |.De _ _,_,h=>by
  erw[C_]at h;obtain⟨a,xs,rfl,q,n,r⟩:=h;rw[TA q];intro b J;rcases List.mem_cons.mp J with rfl|J
  .rw[q];exact λz=>nomatch z
  .exact Bx.some r b J
 |.B5 _ _,_,h=>by
  erw[C_]at h;obtain⟨a,xs,rfl,q,n,r⟩:=h;rw[MR q];intro b J;rcases List.mem_cons.mp J with rfl|J
  .rw[q];exact λz=>nomatch z
  .exact Bx.some r b J
 |.ins _ _ _,_,h=>by
  erw[C_]at h;obtain⟨a,Aj,xs,rfl,⟨C,B_,q⟩,n,r⟩:=h;rw[Ld q];intro b J;rcases List.mem_cons.mp J with rfl|J
  .rw[q];exact λz=>nomatch z
  .exact Bx.some r b J
theorem Bx.some:∀{Az:List T}{vs:List V},Bx K G H Az vs->∀b∈Dz H Az vs,H b≠none
 |[],_,_=>by intro b J;simp[Dz]at J
 |_::_,_,h=>by
  erw[Bx]at h;obtain⟨v,r,rfl,q,t⟩:=h;rw[Hm];intro b J;rcases List.mem_append.mp J with J|J
  .exact C_.some q b J
  .exact Bx.some t b J
end
mutual
theorem C_.Jk:∀{t:T}{v:V},C_ K G H t v->∀b∈Ah H t v,IE H b
 |.A1 _,_,_=>by intro b J;simp[Ah]at J
 |.lst _,_,h=>by
  erw[C_]at h;obtain⟨a,xs,rfl,q,r⟩:=h;rw[Rz q];intro b J;rcases List.mem_cons.mp J with rfl|J
  .exact .of q λ_ z=>nomatch z
  .exact Bx.Jk r b J
 |.De _ _,_,h=>by
  erw[C_]at h;obtain⟨a,xs,rfl,q,n,r⟩:=h;rw[TA q];intro b J;rcases List.mem_cons.mp J with rfl|J
  .exact .of q λ_ z=>nomatch z
  .exact Bx.Jk r b J
 |.B5 _ _,_,h=>by
  erw[C_]at h;obtain⟨a,xs,rfl,q,n,r⟩:=h;rw[MR q];intro b J;rcases List.mem_cons.mp J with rfl|J
  .exact .of q λ_ z=>nomatch z
  .exact Bx.Jk r b J
 |.ins _ _ _,_,h=>by
  erw[C_]at h;obtain⟨a,Aj,xs,rfl,⟨C,B_,q⟩,n,r⟩:=h;rw[Ld q];intro b J;rcases List.mem_cons.mp J with rfl|J
  .exact .of q λ_ z=>nomatch z
  .exact Bx.Jk r b J
theorem Bx.Jk:∀{Az:List T}{vs:List V},Bx K G H Az vs->∀b∈Dz H Az vs,IE H b
 |[],_,_=>by intro b J;simp[Dz]at J
 |_::_,_,h=>by
  erw[Bx]at h;obtain⟨v,r,rfl,q,t⟩:=h;rw[Hm];intro b J;rcases List.mem_append.mp J with J|J
  .exact C_.Jk q b J
  .exact Bx.Jk t b J
end
mutual
theorem C_.view(BI:Sub G P):∀{t:T}{v:V},(∀a∈Ah H t v,P a=H a)->C_ K G H t v->At K P (toD t) v
 |.A1 _,_,_,h=>by erw[C_,toD]at h |-;exact h.mono BI
 |.lst _,_,k,h=>by erw[C_]at h;obtain⟨a,xs,rfl,q,r⟩:=h;rw[Rz q]at k;erw[toD,At];exact⟨a,xs,rfl,by rw[k a γ];exact q,Bx.view BI (λb J=>k b (FG _ J)) r⟩
 |.De _ _,_,k,h=>by erw[C_]at h;obtain⟨a,xs,rfl,q,n,r⟩:=h;rw[TA q]at k;erw[toD,At];exact⟨a,xs,rfl,by rw[k a γ];exact q,n,Bx.view BI (λb J=>k b (FG _ J)) r⟩
 |.B5 _ _,_,k,h=>by erw[C_]at h;obtain⟨a,xs,rfl,q,n,r⟩:=h;rw[MR q]at k;erw[toD,At];exact⟨a,xs,rfl,by rw[k a γ];exact q,n,Bx.view BI (λb J=>k b (FG _ J)) r⟩
 |.ins _ _ _,_,k,h=>by erw[C_]at h;obtain⟨a,Aj,xs,rfl,⟨C,B_,q⟩,n,r⟩:=h;rw[Ld q]at k;erw[toD,At];exact⟨a,Aj,xs,rfl,⟨C,B_,by rw[k a γ];exact q⟩,n,Bx.view BI (λb J=>k b (FG _ J)) r⟩
theorem Bx.view(BI:Sub G P):∀{Az:List T}{vs:List V},(∀a∈Dz H Az vs,P a=H a)->Bx K G H Az vs->AY K P (MJ Az) vs
 |[],_,_,h=>by erw[Bx,MJ,AY]at h |-;exact h
 |_::_,_,k,h=>by erw[Bx]at h;obtain⟨v,r,rfl,q,t⟩:=h;rw[Hm]at k;erw[MJ,AY];exact⟨v,r,rfl,C_.view BI (λb J=>k b (G2 _ J)) q,Bx.view BI (λb J=>k b (Fb _ J)) t⟩
end
end
inductive La where
 |lst (ds:χ)|B5 (ks:List Bq) (ds:χ)|ins (c:Str) (ns:List Str) (ds:χ)
noncomputable def OA(K:AZ)(G:AA):La->Dd->Prop
 |.lst ds,AN=>∃xs,AN=.lst xs/\AY K G ds xs
 |.B5 ks ds,AN=>∃xs,AN=.B5 xs/\xs.map (·.1)=ks/\AY K G ds (xs.map (·.2))
 |.ins c ns ds,AN=>∃C Aj xs,FT K c C/\AN=.ins C Aj xs/\xs.map (·.1)=ns/\AY K G ds (xs.map (·.2))
theorem OA.mono{K:AZ}{G H:AA}(s:Sub G H):∀{o:La}{AN:Dd},OA K G o AN->OA K H o AN
 |.lst _,_,⟨xs,e,q⟩=>⟨xs,e,q.mono s⟩
 |.B5 _ _,_,⟨xs,e,k,q⟩=>⟨xs,e,k,q.mono s⟩
 |.ins _ _ _,_,⟨C,Aj,xs,c,e,k,q⟩=>⟨C,Aj,xs,c,e,k,q.mono s⟩
def Oc:La->D
 |.lst ds=>.lst ds
 |.B5 ks ds=>.B5 ks ds
 |.ins c ns ds=>.ins c ns ds
def OA.at{K:AZ}{G:AA}{o:La}{AN:Dd}{a:A6}(h:OA K G o AN)(e:G a=some AN):At K G (Oc o) (.ref a):=by
 cases o with
 |lst ds=>obtain⟨xs,rfl,q⟩:=h;erw[Oc,At];exact⟨a,xs,rfl,e,q⟩
 |B5 ks ds=>obtain⟨xs,rfl,k,q⟩:=h;erw[Oc,At];exact⟨a,xs,rfl,e,k,q⟩
 |ins c ns ds=>obtain⟨C,Aj,xs,B_,rfl,k,q⟩:=h;erw[Oc,At];exact⟨a,Aj,xs,rfl,⟨C,B_,e⟩,k,q⟩
inductive Bw where
 |un|A1 (d:D)|ob (o:La)|EY (t:T)|Bl (k:Nat) (t:T)
abbrev Bw.C8(ds:χ):Bw:=.ob (.lst ds)
abbrev AI:=List Bw
structure B6 where
 K:AZ
 G0:AA
 H0:AA
 EX:Str->AA->Prop
 pin:Nat->Option V
def IA:Nat->Option V:=λ_=>none
structure EW(F:B6)(G H:AA):Prop where
 sub:Sub G H
 Dq:Sub F.G0 G
 An:Sub F.H0 H
 new:∀b,IE F.H0 b->G b=F.G0 b
structure Mr(F:B6)(G H:AA)(t:T)(v:V):Prop where
 at_:C_ F.K G H t v
 CW:(Ah H t v).Nodup
 own:∀b∈Ah H t v,G b=none/\F.H0 b=none
noncomputable def IV(F:B6)(G H:AA)(o:Option V):Bw->Prop
 |.un=>True
 |.A1 d=>∃v,o=some v/\At F.K G d v
 |.ob ob=>∃a AN,o=some (.ref a)/\H a=some AN/\G a=none/\F.H0 a=none/\OA F.K G ob AN
 |.EY t=>∃v,o=some v/\Mr F G H t v
 |.Bl k t=>∃v,o=some v/\Mr F G H t v/\F.pin k=some v
def Ey(H:AA):Bw->Option V->A6->Prop
 |.un,_,_=>False
 |.A1 _,_,_=>False
 |.ob _,o,a=>o=some (.ref a)
 |.EY t,o,a=>∃v,o=some v/\a∈Ah H t v
 |.Bl _ t,o,a=>∃v,o=some v/\a∈Ah H t v
structure Rel(F:B6)(G H:AA)(σ :St)(ρ:AI):Prop where
 kp:EW F G H
 len: σ.length=ρ.length
 CJ:∀(i:Nat)(s:Bw),ρ[i]?=some s->∃o,σ[i]?=some o/\IV F G H o s
 Nj:∀(i j:Nat)(a:A6)(s s':Bw)(o Bo:Option V),ρ[i]?=some s->ρ[j]?=some s'-> σ[i]?=some o-> σ[j]?=some Bo->Ey H s o a->Ey H s' Bo a->i=j
def CU(H:AA)(σ :St)(ρ:AI)(a:A6):Prop:=∃(i:Nat)(s:Bw)(o:Option V),ρ[i]?=some s/\ σ[i]?=some o/\Ey H s o a
def ph{α:Type}{l:List α}{i:Nat}{x:α}(e:l[i]?=some x):l.set i x=l:=by
 apply SP;intro j;rw[gQ];by_cases h:i=j
 .subst h;rw[if_pos rfl,if_pos (List.getElem?_eq_some_iff.mp e).1];exact e.symm
 .simp[h]
section
variable{F:B6}{G G' H H':AA}{σ :St}{ρ:AI}
theorem CU.ob{a:A6}{i:Nat}{o:La}(A7:ρ[i]?=some (.ob o))(AH: σ[i]?=some (some (.ref a))):CU H σ ρ a:=⟨i,_,_,A7,AH,rfl⟩
theorem IV.keep{o:Option V}{s:Bw}(h:IV F G H o s)(BI:Sub G G')(k:∀a,Ey H s o a->H' a=H a/\G' a=none):IV F G' H' o s/\(∀a,Ey H' s o a->Ey H s o a):=by
 cases s with
 |un=>exact⟨trivial,λ_ z=>z⟩
 |A1 d=>obtain⟨v,AH,a⟩:=h;exact⟨⟨v,AH,a.mono BI⟩,λ_ z=>z⟩
 |ob ds=>obtain⟨a,xs,AH,A5,A8,Au,BC⟩:=h;exact⟨⟨a,xs,AH,by rw[(k a AH).1];exact A5,(k a AH).2,Au,BC.mono BI⟩,λ_ z=>z⟩
 |EY t=>
  obtain⟨v,AH,Al,BN,Dt⟩:=h;obtain⟨Fo,FQ⟩:=Al.keep λb J=>(k b ⟨v,AH,J⟩).1;refine⟨⟨v,AH,⟨Fo.mono BI,by rw[FQ];exact BN,λb J=>?_⟩⟩,λa z=>?_⟩
  .rw[FQ]at J;exact⟨(k b ⟨v,AH,J⟩).2,(Dt b J).2⟩
  .obtain⟨u,B1,J⟩:=z;rw[AH]at B1;cases B1;rw[FQ]at J;exact⟨v,AH,J⟩
 |Bl n t=>
  obtain⟨v,AH,⟨Al,BN,Dt⟩,AX⟩:=h;obtain⟨Fo,FQ⟩:=Al.keep λb J=>(k b ⟨v,AH,J⟩).1;refine⟨⟨v,AH,⟨Fo.mono BI,by rw[FQ];exact BN,λb J=>?_⟩,AX⟩,λa z=>?_⟩
  .rw[FQ]at J;exact⟨(k b ⟨v,AH,J⟩).2,(Dt b J).2⟩
  .obtain⟨u,B1,J⟩:=z;rw[AH]at B1;cases B1;rw[FQ]at J;exact⟨v,AH,J⟩
def IV.foot{o:Option V}{s:Bw}(h:IV F G H o s){a:A6}(f:Ey H s o a):H a≠none/\G a=none/\F.H0 a=none:=by
 cases s with
 |un=>cases f
 |A1 d=>cases f
 |ob ds=>obtain⟨b,xs,AH,A5,A8,Au,BC⟩:=h;have f:o=some (.ref a):=f;rw[AH]at f;cases f;exact⟨by rw[A5];exact(λz=>nomatch z),A8,Au⟩
 |EY t=>obtain⟨v,AH,Al,BN,Dt⟩:=h;obtain⟨u,B1,J⟩:=f;rw[AH]at B1;cases B1;exact⟨Al.some a J,Dt a J⟩
 |Bl n t=>obtain⟨v,AH,⟨Al,BN,Dt⟩,_⟩:=h;obtain⟨u,B1,J⟩:=f;rw[AH]at B1;cases B1;exact⟨Al.some a J,Dt a J⟩
def IV.VO{o:Option V}{s:Bw}{a:A6}(h:IV F G H o s)(f:Ey H s o a):IE H a:=by
 cases s with
 |un=>cases f
 |A1 _=>cases f
 |ob ob=>
  obtain⟨b,AN,AH,A5,_,_,BC⟩:=h;have B1:o=some (.ref a):=f;rw[AH]at B1;cases B1;cases ob with
  |lst _=>obtain⟨xs,rfl,_⟩:=BC;exact .of A5 λ_ z=>nomatch z
  |B5 _ _=>obtain⟨xs,rfl,_⟩:=BC;exact .of A5 λ_ z=>nomatch z
  |ins _ _ _=>obtain⟨C,Aj,xs,_,rfl,_⟩:=BC;exact .of A5 λ_ z=>nomatch z
 |EY t=>obtain⟨v,AH,Al,BN,Dt⟩:=h;obtain⟨u,B1,J⟩:=f;rw[AH]at B1;cases B1;exact Al.Jk a J
 |Bl n t=>obtain⟨v,AH,⟨Al,BN,Dt⟩,_⟩:=h;obtain⟨u,B1,J⟩:=f;rw[AH]at B1;cases B1;exact Al.Jk a J
theorem Rel.VO(r:Rel F G H σ ρ){a:A6}(h:CU H σ ρ a):IE H a:=by obtain⟨i,s,o,A7,AH,f⟩:=h;obtain⟨Bo,B1,q⟩:=r.CJ i s A7;rw[AH]at B1;cases B1;exact q.VO f
theorem Rel.foot(r:Rel F G H σ ρ){a:A6}(h:CU H σ ρ a):H a≠none/\G a=none/\F.H0 a=none:=by obtain⟨i,s,o,A7,AH,f⟩:=h;obtain⟨Bo,B1,q⟩:=r.CJ i s A7;rw[AH]at B1;cases B1;exact q.foot f
def Rel.over{F':B6}(r:Rel F G H σ ρ)(Ar:F'.K=F.K)(kp:EW F' G' H')(BI:Sub G G')(k:∀a,CU H σ ρ a->H' a=H a/\G' a=none/\F'.H0 a=none)(hP:F'.pin=F.pin:=by rfl):Rel F' G' H' σ ρ:=by
 have one:∀(i:Nat)(s:Bw),ρ[i]?=some s->∃o,σ[i]?=some o/\IV F' G' H' o s/\(∀a,Ey H' s o a->Ey H s o a):=λi s e=>by
  obtain⟨o,A7,q⟩:=r.CJ i s e;obtain⟨Al,BN⟩:=q.keep BI λa f=>⟨(k a ⟨i,s,o,e,A7,f⟩).1,(k a ⟨i,s,o,e,A7,f⟩).2.1⟩;refine⟨o,A7,?_,BN⟩;cases s with
  |un=>trivial
  |A1 d=>obtain⟨v,AH,a⟩:=Al;exact⟨v,AH,by rw[Ar];exact a⟩
  |ob ds=>obtain⟨a,xs,AH,A5,A8,Au,BC⟩:=Al;exact⟨a,xs,AH,A5,A8,(k a ⟨i,_,o,e,A7,AH⟩).2.2,by rw[Ar];exact BC⟩
  |EY t=>obtain⟨v,AH,Fo,FQ,IP⟩:=Al;exact⟨v,AH,by rw[Ar];exact Fo,FQ,λb J=>⟨(IP b J).1,(k b ⟨i,_,o,e,A7,BN b ⟨v,AH,J⟩⟩).2.2⟩⟩
  |Bl n t=>obtain⟨v,AH,⟨Fo,FQ,IP⟩,XE⟩:=Al;exact⟨v,AH,⟨by rw[Ar];exact Fo,FQ,λb J=>⟨(IP b J).1,(k b ⟨i,_,o,e,A7,BN b ⟨v,AH,J⟩⟩).2.2⟩⟩,by rw[hP];exact XE⟩
 refine⟨kp,r.len,λi s e=>let⟨o,A7,q,_⟩:=one i s e;⟨o,A7,q⟩,λi j a s s' o Bo A7 AH B1 CV f1 f2=>?_⟩;obtain⟨u,Dw,_,Db⟩:=one i s A7;rw[B1]at Dw;cases Dw;obtain⟨u,QG,_,RV⟩:=one j s' AH;rw[CV]at QG;cases QG;exact r.Nj i j a s s' o Bo A7 AH B1 CV (Db a f1) (RV a f2)
def Rel.grow(r:Rel F G H σ ρ)(BI:Sub G G')(HE:Sub G' H')(An:Sub H H')(nw:∀b,IE H b->G' b=G b):Rel F G' H' σ ρ:=by
 refine r.over rfl ⟨HE,r.kp.Dq.trans BI,r.kp.An.trans An,λb J=>?_⟩ BI λa AB=>?_
 .rw[nw b (r.kp.An.Jk J)];exact r.kp.new b J
 .obtain⟨A5,A8,Au⟩:=r.foot AB;refine⟨?_,(nw a (r.VO AB)).trans A8,Au⟩;cases e:H a with
  |none=>exact absurd e A5
  |some o=>exact An a o e
def Rel.lay(r:Rel F G H σ ρ){p:A6}{o:Dd}(AX:H p=none):Rel F (upd G p o) (upd H p o) σ ρ:=by have xR:G p=none:=r.kp.sub.gone AX;refine r.grow (Sub.upd xR) (Sub.both r.kp.sub) (Sub.upd AX) λb J=>?_;rw[DT];intro e;subst e;exact J.1 AX
def Rel.lay0(r:Rel F G H σ ρ){p:A6}{o:Dd}(AX:H p=none):Rel F G (upd H p o) σ ρ:=
 r.grow (Sub.refl _) (Sub.b7 r.kp.sub (r.kp.sub.gone AX)) (Sub.upd AX) λ_ _=>rfl
def Rel.take(r:Rel F G H σ ρ){p:A6}{o:Dd}(AX:H p=some o)(Aa:G p=none)(h0:F.H0 p=none)(no:¬CU H σ ρ p):Rel F (upd G p o) H σ ρ:=by
 refine r.over rfl ⟨Sub.at r.kp.sub AX,r.kp.Dq.trans (Sub.upd Aa),r.kp.An,λb J=>?_⟩ (Sub.upd Aa) λa AB=>?_
 .rw[DT]
  .exact r.kp.new b J
  .intro e;subst e;exact J.1 h0
 .obtain⟨A5,A8,Au⟩:=r.foot AB;exact⟨rfl,by rw[DT (λz=>no (by rw[<-z];exact AB))];exact A8,Au⟩
theorem Rel.A1(r:Rel F G H σ ρ){i:Nat}{d:D}(e:ρ[i]?=some (.A1 d)):∃v,σ[i]?=some (some v)/\At F.K G d v:=by obtain⟨o,A7,v,rfl,a⟩:=r.CJ i _ e;exact⟨v,A7,a⟩
def Rel.obj(r:Rel F G H σ ρ){i:Nat}{o:La}(e:ρ[i]?=some (.ob o)):∃a AN,σ[i]?=some (some (.ref a))/\H a=some AN/\G a=none/\F.H0 a=none/\OA F.K G o AN:=by obtain⟨v,A7,a,AN,rfl,A5,A8,Au,BC⟩:=r.CJ i _ e;exact⟨a,AN,A7,A5,A8,Au,BC⟩
def Rel.own{G H:AA}{σ :St}{ρ:AI}(r:Rel F G H σ ρ){i:Nat}{ds:χ}(e:ρ[i]?=some (.C8 ds)):∃a xs,σ[i]?=some (some (.ref a))/\H a=some (.lst xs)/\G a=none/\F.H0 a=none/\AY F.K G ds xs:=by obtain⟨a,AN,A7,A5,A8,Au,xs,rfl,BC⟩:=r.obj e;exact⟨a,xs,A7,A5,A8,Au,BC⟩
def get_set{α:Type}{l:List α}{i j:Nat}{x y:α}(e:(l.set i x)[j]?=some y):(i=j/\y=x)\/(i≠j/\l[j]?=some y):=by
 rw[gQ]at e;by_cases h:i=j
 .rw[if_pos h]at e
  split at e
  .cases e;exact .inl ⟨h,rfl⟩
  .cases e
 .rw[if_neg h]at e;exact .inr ⟨h,e⟩
def Rel.bW(r:Rel F G H σ ρ){i:Nat}{s:Bw}{o:Option V}(AC:i<ρ.length)(q:IV F G H o s)(no:∀a,Ey H s o a->∀(j:Nat)(s':Bw)(Bo:Option V),j≠i->ρ[j]?=some s'-> σ[j]?=some Bo->¬Ey H s' Bo a):Rel F G H (σ.set i o) (ρ.set i s):=by
 have AK:i< σ.length:=by rw[r.len];exact AC
 refine⟨r.kp,by simp[r.len],λj s e=>?_,λj k b s1 s2 Ci Cj A7 AH B1 CV f1 f2=>?_⟩
 .rcases get_set e with⟨rfl,rfl⟩|⟨ne,e⟩
  .exact⟨o,by simp[AK],q⟩
  .rw[SW ne];exact r.CJ j s e
 .rcases get_set A7 with⟨Bf,Dw⟩|⟨DC,HW⟩
  .subst Bf Dw;rw[Xb AK]at B1;cases B1;rcases get_set AH with⟨By,Db⟩|⟨DW,GE⟩
   .exact By
   .rw[SW DW]at CV;exact absurd f2 (no b f1 k s2 Cj (He DW) GE CV)
  .rw[SW DC]at B1;rcases get_set AH with⟨By,Db⟩|⟨DW,GE⟩
   .subst By Db;rw[Xb AK]at CV;cases CV;exact absurd f1 (no b f2 j s1 Ci (He DC) HW B1)
   .rw[SW DW]at CV;exact r.Nj j k b s1 s2 Ci Cj HW GE B1 CV f1 f2
theorem Rel.set(r:Rel F G H σ ρ){i:Nat}{d:D}{v:V}(AC:i<ρ.length)(a:At F.K G d v):Rel F G H (σ.set i (some v)) (ρ.set i (.A1 d)):=
 r.bW AC ⟨v,rfl,a⟩ λ_ f=>f.elim
def Rel.setB(r:Rel F G H σ ρ){i:Nat}{ob:La}{a:A6}{AN:Dd}(AC:i<ρ.length)(AB:H a=some AN)(Aa:G a=none)(h0:F.H0 a=none)(q:OA F.K G ob AN)(no:∀(j:Nat)(s:Bw)(o:Option V),j≠i->ρ[j]?=some s-> σ[j]?=some o->¬Ey H s o a):Rel F G H (σ.set i (some (.ref a))) (ρ.set i (.ob ob)):=
 r.bW AC ⟨a,AN,rfl,AB,Aa,h0,q⟩ λb f=>by have f:some (V.ref a)=some (.ref b):=f;cases f;exact no
def Rel.aei(r:Rel F G H σ ρ){i:Nat}{ds:χ}{a:A6}{xs:List V}(AC:i<ρ.length)(AB:H a=some (.lst xs))(Aa:G a=none)(h0:F.H0 a=none)(q:AY F.K G ds xs)(no:∀(j:Nat)(s:Bw)(o:Option V),j≠i->ρ[j]?=some s-> σ[j]?=some o->¬Ey H s o a):Rel F G H (σ.set i (some (.ref a))) (ρ.set i (.C8 ds)):=r.setB AC AB Aa h0 ⟨xs,rfl,q⟩ no
def Rel.eY(r:Rel F G H σ ρ){i:Nat}{s s':Bw}{o:Option V}{a:A6}{AN:Dd}(e:ρ[i]?=some s)(Av: σ[i]?=some o)(GL:Ey H s o a)(q:IV F G (upd H a AN) o s')(f:∀b,Ey (upd H a AN) s' o b->Ey H s o b\/¬CU H σ ρ b) :
  Rel F G (upd H a AN) σ (ρ.set i s'):=by
 have AC:i<ρ.length:=(List.getElem?_eq_some_iff.mp e).1;obtain⟨A5,A8,Au⟩:=r.foot ⟨i,s,o,e,Av,GL⟩;have Kq:∀(j:Nat)(t:Bw),i≠j->ρ[j]?=some t->∃u,σ[j]?=some u/\IV F G (upd H a AN) u t/\(∀b,Ey (upd H a AN) t u b->Ey H t u b):=λj t ne z=>by obtain⟨u,Dw,Db⟩:=r.CJ j t z;have na:¬Ey H t u a:=λw=>ne (r.Nj i j a s t o u e z Av Dw GL w);obtain⟨Al,BN⟩:=Db.keep (H':=upd H a AN) (Sub.refl G) λb Kz=>⟨DT λw=>na (w▸Kz),(Db.foot Kz).2.1⟩;exact⟨u,Dw,Al,BN⟩
 refine⟨⟨Sub.b7 r.kp.sub A8,r.kp.Dq,λc u z=>?_,r.kp.new⟩,by simp[r.len],λj t z=>?_,λj k c s1 s2 Ci Cj B1 CV GK QB f1 f2=>?_⟩
 .rw[DT (KJ z Au)];exact r.kp.An c u z
 .rcases get_set z with⟨rfl,rfl⟩|⟨ne,z⟩
  .exact⟨o,Av,q⟩
  .obtain⟨u,Dw,Db,_⟩:=Kq j t ne z;exact⟨u,Dw,Db⟩
 .rcases get_set B1 with⟨Bf,Dw⟩|⟨DC,HH⟩
  .subst Bf Dw;rw[Av]at GK;cases GK;rcases get_set CV with⟨By,Db⟩|⟨DW,Hu⟩
   .exact By
   .obtain⟨u,HW,_,GE⟩:=Kq k s2 DW Hu;rw[QB]at HW;cases HW;have g2:=GE c f2;rcases f c f1 with g1|g1
    .exact r.Nj i k c s s2 o Cj e Hu Av QB g1 g2
    .exact absurd ⟨k,s2,Cj,Hu,QB,g2⟩ g1
  .obtain⟨u,HW,_,GE⟩:=Kq j s1 DC HH;rw[GK]at HW;cases HW;have g1:=GE c f1;rcases get_set CV with⟨By,Db⟩|⟨DW,Hu⟩
   .subst By Db;rw[Av]at QB;cases QB;rcases f c f2 with g2|g2
    .exact r.Nj j i c s1 s Ci o HH e GK Av g1 g2
    .exact absurd ⟨j,s1,Ci,HH,GK,g1⟩ g2
   .obtain⟨u,RU,_,aiY⟩:=Kq k s2 DW Hu;rw[QB]at RU;cases RU;exact r.Nj j k c s1 s2 Ci Cj HH Hu GK QB g1 (aiY c f2)
def Rel.WP(r:Rel F G H σ ρ){i:Nat}{o Bo:La}{a:A6}{AN:Dd}(e:ρ[i]?=some (.ob o))(Av: σ[i]?=some (some (.ref a)))(q:OA F.K G Bo AN) :
  Rel F G (upd H a AN) σ (ρ.set i (.ob Bo)):=by
 obtain⟨b,ak3,A7,A5,A8,Au,BC⟩:=r.obj e;rw[Av]at A7;have Bh:b=a:=by cases A7;rfl
 subst Bh;exact r.eY e Av rfl ⟨b,AN,rfl,Do,A8,Au,q⟩ λc f=>.inl f
def Rel.mut(r:Rel F G H σ ρ){i:Nat}{ds ds':χ}{a:A6}{ys:List V}(e:ρ[i]?=some (.C8 ds))(Av: σ[i]?=some (some (.ref a)))(q:AY F.K G ds' ys) :
  Rel F G (upd H a (.lst ys)) σ (ρ.set i (.C8 ds')):=r.WP e Av ⟨ys,rfl,q⟩
def Rel.L0(r:Rel F G H σ ρ){i:Nat}{o:La}(e:ρ[i]?=some (.ob o)):∃G',Rel F G' H σ (ρ.set i (.A1 (Oc o)))/\Sub G G':=by
 have AC:i<ρ.length:=(List.getElem?_eq_some_iff.mp e).1;obtain⟨a,AN,A7,A5,A8,Au,BC⟩:=r.obj e;have un:Rel F G H σ (ρ.set i .un):=by have z:=r.bW (s:=.un) (o:=some (.ref a)) AC trivial λ_ f=>f.elim;rw[CR.ph A7]at z;exact z
 have no:¬CU H σ (ρ.set i .un) a:=λ⟨j,s,u,HW,GE,RU⟩=>by
  rcases get_set HW with⟨_,z⟩|⟨ne,HW⟩
  .subst z;exact RU
  .exact ne (r.Nj i j a _ s _ u e HW A7 GE rfl RU)
 have BA:=un.take A5 A8 Au no;have E9:=BA.bW (i:=i) (s:=.A1 (Oc o)) (o:=some (.ref a)) (AC:) ⟨.ref a,rfl,(BC.mono (Sub.upd A8)).at Do⟩ λ_ f=>f.elim;rw[CR.ph A7,List.set_set]at E9;exact⟨upd G a AN,E9,Sub.upd A8⟩
end
abbrev A_:=AI->R D
abbrev CG:=AI->R Bool
abbrev Ap:=AI->R χ
inductive Fy where
 |BG (ρ:AI)|Du (d:D)|JD (ds:χ)|Ed (ρ:AI)|Di (ρ:AI)|OB (t:T)|rs (d:D) (ρ:AI)
abbrev As:=AI->R Fy
def MZ(F:B6)(c:Str):Prop:=∀G' H',EW F G' H'->F.EX c H'
def Ie(F:B6)(G H:AA)(σ :St)(ρ:AI)(Q:CQ):R D->Prop
 |.ok d=>∀v H' G',Rel F G' H' σ ρ->C5 G H G' H'->At F.K G' d v->Q v H'
 |.exc c=>MZ F c
 |.bad=>False
def TR(F:B6)(G H:AA)(σ :St)(ρ:AI)(Q:Bool->AA->Prop):R Bool->Prop
 |.ok b=>∀H' G',Rel F G' H' σ ρ->C5 G H G' H'->Q b H'
 |.exc c=>MZ F c
 |.bad=>False
def aaA(F:B6)(G H:AA)(σ :St)(ρ:AI)(Q:List V->AA->Prop):R χ->Prop
 |.ok ds=>∀vs H' G',Rel F G' H' σ ρ->C5 G H G' H'->AY F.K G' ds vs->Q vs H'
 |.exc c=>MZ F c
 |.bad=>False
noncomputable def aaF(F:B6)(G H:AA)(σ :St)(ρ:AI)(Q:CQ):R χ->Prop
 |.ok ds=>∀a xs H' G',Rel F G' H' σ ρ->C5 G H G' H'->H a=none->H' a=some (.lst xs)->G' a=none->AY F.K G' ds xs->Q (.ref a) H'
 |.exc c=>MZ F c
 |.bad=>False
noncomputable def Hq(F:B6)(G:AA)(CP:Ends):R Fy->Prop
 |.ok (.BG BK)=>∀ σ' G' H',Rel F G' H' σ' BK->Sub G G'->CP.BG σ' H'
 |.ok (.Ed BK)=>∀ σ' G' H',Rel F G' H' σ' BK->Sub G G'->CP.Ed σ' H'
 |.ok (.Di BK)=>∀ σ' G' H',Rel F G' H' σ' BK->Sub G G'->CP.Di σ' H'
 |.ok (.Du d)=>∀v G' H',EW F G' H'->At F.K G' d v->CP.Du v H'
 |.ok (.JD ds)=>∀a xs G' H',EW F G' H'->G' a=none->F.H0 a=none->H' a=some (.lst xs)->AY F.K G' ds xs->CP.Du (.ref a) H'
 |.ok (.OB t)=>∀v G' H',EW F G' H'->Mr F G' H' t v->CP.Du v H'
 |.ok (.rs d BK)=>∀v σ' G' H',Rel F G' H' σ' BK->At F.K G' d v->CP.Du v H'
 |.exc c=>MZ F c
 |.bad=>False
def Cg(F:B6)(m:A_):TE:=λσ H Q=>∃G ρ,Rel F G H σ ρ/\Ie F G H σ ρ Q (m ρ)
def GW(F:B6)(m:CG):TT:=λσ H Q=>∃G ρ,Rel F G H σ ρ/\TR F G H σ ρ Q (m ρ)
def EU(F:B6)(m:Ap):En:=λσ H Q=>∃G ρ,Rel F G H σ ρ/\aaA F G H σ ρ Q (m ρ)
def Ht(F:B6)(m:Ap):TE:=λσ H Q=>∃G ρ,Rel F G H σ ρ/\aaF F G H σ ρ Q (m ρ)
def FP(F:B6)(m:As):F4:=λCP σ H=>∃G ρ,Rel F G H σ ρ/\Hq F G CP (m ρ)
section
variable{F:B6}{G Ai H H1:AA}{σ :St}{ρ:AI}
def Ie.mono{Q:CQ}(s:C5 G H Ai H1):∀{r:R D},Ie F G H σ ρ Q r->Ie F Ai H1 σ ρ Q r
 |.ok _,h=>λv H' G' r BI a=>h v H' G' r (s.trans BI) a
 |.exc _,h=>h
 |.bad,h=>h
def TR.mono{Q:Bool->AA->Prop}(s:C5 G H Ai H1):∀{r:R Bool},TR F G H σ ρ Q r->TR F Ai H1 σ ρ Q r
 |.ok _,h=>λH' G' r BI=>h H' G' r (s.trans BI)
 |.exc _,h=>h
 |.bad,h=>h
def Hq.mono{CP:Ends}(s:Sub G Ai):∀{r:R Fy},Hq F G CP r->Hq F Ai CP r
 |.ok (.BG _),h=>λσ' G' H' r BI=>h σ' G' H' r (s.trans BI)
 |.ok (.Ed _),h=>λσ' G' H' r BI=>h σ' G' H' r (s.trans BI)
 |.ok (.Di _),h=>λσ' G' H' r BI=>h σ' G' H' r (s.trans BI)
 |.ok (.Du _),h=>h
 |.ok (.JD _),h=>h
 |.ok (.OB _),h=>h
 |.ok (.rs _ _),h=>h
 |.exc _,h=>h
 |.bad,h=>h
end
abbrev EO(t' t:TE):Prop:=∀ σ H Q,t' σ H Q->t σ H Q
abbrev O8(t' t:TT):Prop:=∀ σ H Q,t' σ H Q->t σ H Q
abbrev YY(t' t:En):Prop:=∀ σ H Q,t' σ H Q->t σ H Q
abbrev Hf(t' t:F4):Prop:=∀CP σ H,t' CP σ H->t CP σ H
def A0(i:Nat):A_:=λρ=>match ρ[i]? with
 |some (.A1 d)=>.ok d
 |_=>.bad
def AD(d:D):A_:=λ_=>.ok d
section
variable{F:B6}
def zR(i:Nat):EO (Cg F (A0 i)) (X4 i):=by
 rintro σ H Q ⟨G,ρ,r,h⟩;unfold A0 at h;cases e:ρ[i]? with
 |none=>rw[e]at h;cases h
 |some s=>
  rw[e]at h;cases s with
  |un=>cases h
  |ob _=>cases h
  |EY _=>cases h
  |Bl _ _=>cases h
  |A1 d=>obtain⟨v,A7,a⟩:=r.A1 e;exact⟨v,A7,h v H G r (C5.refl _ _) a⟩
def Wc{d:D}{v:V}(a:∀G,At F.K G d v):EO (Cg F (AD d)) (Rw v):=by rintro σ H Q ⟨G,ρ,r,h⟩;exact h v H G r (C5.refl _ _) (a G)
def A9(f:D->D->R D)(a b:A_):A_:=λρ=>(a ρ).bind λx=>(b ρ).bind λy=>f x y
def Hh(F:B6)(r:F3)(f:D->D->R D):Prop:=∀ σ ρ G H x y Aj Gh Q,Rel F G H σ ρ->At F.K G Aj x->At F.K G Gh y->Ie F G H σ ρ Q (f Aj Gh)->r x y H Q
def Z6{r:F3}{f:D->D->R D}{ma HA:A_}(AN:Hh F r f):EO (Cg F (A9 f ma HA)) (X3 r (Cg F ma) (Cg F HA)):=by delta A9 r;refine rb h λAj Av h x H1 Ai AL s1 Bu=>?_;refine⟨Ai,ρ,AL,?_⟩;refine rb h λGh Bh h y B7 Cw BA s2 Ck=>?_;exact AN σ ρ Cw B7 x y Aj Gh Q BA (Bu.mono s2.g) Ck (h.mono (s1.trans s2))
def Ch(f:D->R D)(a:A_):A_:=λρ=>(a ρ).bind f
def j4(F:B6)(r:V->AA->CQ->Prop)(f:D->R D):Prop:=∀ σ ρ G H x Aj Q,Rel F G H σ ρ->At F.K G Aj x->Ie F G H σ ρ Q (f Aj)->r x H Q
def zQ{r:V->AA->CQ->Prop}{f:D->R D}{ma:A_}(AN:j4 F r f):EO (Cg F (Ch f ma)) (rJ r (Cg F ma)):=by delta Ch r;refine rb h λAj Av h x H1 Ai AL s1 Bu=>?_;exact AN σ ρ Ai H1 x Aj Q AL Bu (h.mono s1)
def AE:Ap:=λ_=>.ok []
def A3(a:A_)(r:Ap):Ap:=λρ=>(a ρ).bind λx=>(r ρ).bind λxs=>.ok (x::xs)
def xo:YY (EU F AE) b0:=by rintro σ H Q ⟨G,ρ,r,h⟩;exact h [] H G r (C5.refl _ _) .nil
def xz{ma:A_}{aA:Ap}:YY (EU F (A3 ma aA)) (p_ (Cg F ma) (EU F aA)):=by delta A3 r;refine rb h λAj Av h x H1 Ai AL s1 Bu=>?_;refine⟨Ai,ρ,AL,?_⟩;refine rb h λGh Bh h y B7 Cw BA s2 Ck=>?_;exact h (x::y) B7 Cw BA (s1.trans s2) (.cons (Bu.mono s2.g) Ck)
def DS(m:Ap):A_:=λρ=>(m ρ).bind λxs=>if xs.length<=1000000 then .ok (.tup xs)else .bad
def zO{m:Ap}:EO (Cg F (DS m)) (rI (EU F m)):=by
 delta DS r;refine rb h λds Av h vs H1 Ai AL s1 a=>?_;by_cases AP:ds.length<=1000000
 .rw[if_pos AP]at h;refine⟨by rw[<-a.length];exact Fp AP ε,λp AX=>?_⟩;refine h (.ref p) _ _ (AL.lay AX) (s1.trans (C5.lay AL.kp.sub AX)) ?_;erw[At];exact⟨p,vs,rfl,Do,a.mono (Sub.upd (AL.kp.sub.gone AX))⟩
 .rw[if_neg AP]at h;cases h
theorem CU.some{G H:AA}{σ :St}{ρ:AI}(r:Rel F G H σ ρ){a:A6}(h:CU H σ ρ a):∃xs,H a=some xs:=by
 cases e:H a with
 |none=>exact absurd e (r.foot h).1
 |some o=>exact⟨o,rfl⟩
def CU.back{G H H':AA}{σ :St}{ρ:AI}(r:Rel F G H σ ρ)(s:Sub H H'){a:A6}(h:CU H' σ ρ a):CU H σ ρ a:=by
 obtain⟨i,CJ,o,A7,AH,f⟩:=h;refine⟨i,CJ,o,A7,AH,?_⟩;obtain⟨Bo,B1,q⟩:=r.CJ i CJ A7;rw[AH]at B1;cases B1;exact(q.keep (G':=G) (H':=H') (Sub.refl _) λb Kz=>⟨by
  cases e:H b with
  |none=>exact absurd e (q.foot Kz).1
  |some u=>exact s b u e,(q.foot Kz).2.1⟩).2 a f
def CU.fresh{G H H':AA}{σ :St}{ρ:AI}(r:Rel F G H σ ρ)(s:Sub H H'){a:A6}(n:H a=none):¬CU H' σ ρ a:=λh=>(r.foot (h.back r s)).1 n
def lim(xs:χ):R χ:=if xs.length<=1000000 then .ok xs else .bad
def CL(m:Ap):Ap:=λρ=>(m ρ).bind lim
def yE{m:Ap}:EO (Ht F (CL m)) (rA (EU F m)):=by
 rintro σ H Q ⟨G,ρ,r,h⟩;unfold CL lim at h;refine⟨G,ρ,r,?_⟩;refine rb h λds Av h vs H1 Ai AL s1 a=>?_;by_cases AP:ds.length<=1000000
 .rw[if_pos AP]at h;refine⟨by rw[<-a.length];exact Fp AP ε,λp AX=>?_⟩;exact h p vs _ Ai (AL.lay0 AX) (s1.trans (C5.lay0 AX)) (s1.h.gone AX) Do (AL.kp.sub.gone AX) a
 .rw[if_neg AP]at h;cases h
def BQ(m:Ap):A_:=λρ=>(m ρ).bind λxs=>.ok (.lst xs)
def y7{m:Ap}:EO (Cg F (BQ m)) (Ht F m):=by delta BQ r;refine rb h λds Av h a xs H' G' BB s' AQ AB Aa q=>?_;refine h (.ref a) H' _ (BB.take AB Aa (r.kp.An.gone AQ) (CU.fresh r s'.h AQ)) (s'.put AQ Aa) ?_;erw[At];exact⟨a,xs,rfl,Do,q.mono (Sub.upd Aa)⟩
def MP:D->R Bool
 |.AV b=>.ok b
 |_=>.bad
def BF(m:A_):CG:=λρ=>(m ρ).bind MP
def Z5{m:A_}:O8 (GW F (BF m)) (fZ (Cg F m)):=by
 delta BF r;refine rb h λd Av h x H1 Ai AL s1 Bu=>?_
 cases d<;>first
  |(cases h)
  |(erw[At]at Bu;exact⟨_,Bu,h H1 Ai AL s1⟩)
def lz{m:A_}:O8 (GW F (BF m)) (fh (Cg F m)):=Z5
def Ig(a b:CG):CG:=λρ=>(a ρ).bind λc=>if c=true then b ρ else .ok false
def JC(a b:CG):CG:=λρ=>(a ρ).bind λc=>if c=true then .ok true else b ρ
def ES(a:CG):CG:=λρ=>(a ρ).bind λc=>.ok (!c)
def yX{a b:CG}:O8 (GW F (Ig a b)) (pY (GW F a) (GW F b)):=by
 delta Ig r;refine rb h λc Av h H1 Ai AL s1=>?_;cases c with
 |true=>exact⟨Ai,ρ,AL,TR.mono s1 h⟩
 |false=>exact h H1 Ai AL s1
def xt{a b:CG}:O8 (GW F (JC a b)) (rE (GW F a) (GW F b)):=by
 delta JC r;refine rb h λc Av h H1 Ai AL s1=>?_;cases c with
 |true=>exact h H1 Ai AL s1
 |false=>exact⟨Ai,ρ,AL,TR.mono s1 h⟩
def xp{a:CG}:O8 (GW F (ES a)) (rC (GW F a)):=by
 delta ES r;cases Av:a ρ with
 |bad=>rw[Av]at h;cases h
 |exc c=>rw[Av]at h;exact h
 |ok c=>rw[Av,R.EF]at h;exact h
def Mb(a b:A_):A_:=λρ=>(a ρ).bind λx=>(MP x).bind λc=>if c=true then b ρ else .ok (.AV false)
def WA(a b:A_):A_:=λρ=>(a ρ).bind λx=>(MP x).bind λc=>if c=true then .ok (.AV true)else b ρ
def aj(a:A_):A_:=λρ=>(a ρ).bind λx=>(MP x).bind λc=>.ok (.AV (!c))
def yY{a b:A_}:EO (Cg F (Mb a b)) (pZ (Cg F a) (Cg F b)):=by
 delta Mb r;refine rb h λd Av h x H1 Ai AL s1 Bu=>?_;cases d with
 |AV c=>
  erw[At]at Bu;refine⟨c,Bu,?_⟩;cases c with
  |true=>exact⟨Ai,ρ,AL,Ie.mono s1 h⟩
  |false=>exact h _ H1 Ai AL s1 ζ
 |_=>cases h
def xu{a b:A_}:EO (Cg F (WA a b)) (rF (Cg F a) (Cg F b)):=by
 delta WA r;refine rb h λd Av h x H1 Ai AL s1 Bu=>?_;cases d with
 |AV c=>
  erw[At]at Bu;refine⟨c,Bu,?_⟩;cases c with
  |false=>exact⟨Ai,ρ,AL,Ie.mono s1 h⟩
  |true=>exact h _ H1 Ai AL s1 ζ
 |_=>cases h
def xq{a:A_}:EO (Cg F (aj a)) (rD (Cg F a)):=by
 delta aj r;refine rb h λd Av h x H1 Ai AL s1 Bu=>?_;cases d with
 |AV c=>erw[At]at Bu;exact⟨c,Bu,h _ H1 Ai AL s1 ζ⟩
 |_=>cases h
def LS(c:CG)(a b:A_):A_:=λρ=>(c ρ).bind λk=>if k=true then a ρ else b ρ
def y9{c:CG}{a b:A_}:EO (Cg F (LS c a b)) (qB (GW F c) (Cg F a) (Cg F b)):=by
 delta LS r;refine rb h λk Av h H1 Ai AL s1=>?_;cases k with
 |true=>exact⟨Ai,ρ,AL,Ie.mono s1 h⟩
 |false=>exact⟨Ai,ρ,AL,Ie.mono s1 h⟩
def Cs:As:=λρ=>.ok (.BG ρ)
def Ab(a b:As):As:=λρ=>(a ρ).bind λf=>match f with
 |.BG BK=>b BK
 |f=>.ok f
def xn:Hf (FP F Cs) fe:=by rintro CP σ H ⟨G,ρ,r,h⟩;exact h σ G H r (Sub.refl _)
def zI{a b:As}:Hf (FP F (Ab a b)) (fg (FP F a) (FP F b)):=by
 delta Ab;refine⟨G,ρ,r,?_⟩;refine rb h λf Av h=>?_;cases f with
 |BG BK=>exact λσ' G' H' BB s'=>⟨G',BK,BB,Hq.mono s' h⟩
 |Du d=>exact h
 |JD d=>exact h
 |Ed d=>exact h
 |Di d=>exact h
 |OB d=>exact h
 |rs d _=>exact h
def Ws(a:A_):As:=λρ=>(a ρ).bind λ_=>.ok (.BG ρ)
def y2{a:A_}:Hf (FP F (Ws a)) (fa (Cg F a)):=by
 delta Ws;refine⟨G,ρ,r,?_⟩;cases Av:a ρ with
 |bad=>rw[Av]at h;cases h
 |exc c=>rw[Av]at h;exact h
 |ok d=>rw[Av,R.EF]at h;exact λv H' G' BB s' _=>h σ G' H' BB s'.g
def Cc(a:A_):As:=λρ=>(a ρ).bind λd=>.ok (.Du d)
def zF{a:A_}:Hf (FP F (Cc a)) (b1 (Cg F a)):=by
 delta Cc;refine⟨G,ρ,r,?_⟩;cases Av:a ρ with
 |bad=>rw[Av]at h;cases h
 |exc c=>rw[Av]at h;exact h
 |ok d=>rw[Av,R.EF]at h;exact λv H' G' BB s' a=>h v G' H' BB.kp a
def GP(a:Ap):As:=λρ=>(a ρ).bind λd=>.ok (.JD d)
def zG{a:Ap}:Hf (FP F (GP a)) (b1 (Ht F a)):=by
 delta GP;refine⟨G,ρ,r,?_⟩;cases Av:a ρ with
 |bad=>rw[Av]at h;cases h
 |exc c=>rw[Av]at h;exact h
 |ok d=>rw[Av,R.EF]at h;exact λa xs H' G' BB s' A5 A8 Au BC=>h a xs G' H' BB.kp Au (r.kp.An.gone A5) A8 BC
def Jh(i:Nat):Ap:=λρ=>match ρ[i]? with
 |some (.ob (.lst d))=>.ok d
 |_=>.bad
def zH(i:Nat):Hf (FP F (GP (Jh i))) (b1 (X4 i)):=by
 rintro CP σ H ⟨G,ρ,r,h⟩;unfold GP Jh at h;cases e:ρ[i]? with
 |none=>rw[e]at h;cases h
 |some s=>
  rw[e]at h;cases s with
  |un=>cases h
  |A1 _=>cases h
  |EY _=>cases h
  |Bl _ _=>cases h
  |ob o=>
   cases o with
   |lst ds=>obtain⟨a,xs,A7,A5,A8,Au,BC⟩:=r.own e;exact⟨.ref a,A7,h a xs G H r.kp A8 Au A5 BC⟩
   |B5 _ _=>cases h
   |ins _ _ _=>cases h
def Cf(c:CG)(a b:As):As:=λρ=>(c ρ).bind λk=>if k=true then a ρ else b ρ
def yA{c:CG}{a b:As}:Hf (FP F (Cf c a b)) (fb (GW F c) (FP F a) (FP F b)):=by
 delta Cf;refine⟨G,ρ,r,?_⟩;refine rb h λk Av h H1 Ai AL s1=>?_;cases k with
 |true=>exact⟨Ai,ρ,AL,Hq.mono s1.g h⟩
 |false=>exact⟨Ai,ρ,AL,Hq.mono s1.g h⟩
def BR(i:Nat)(d:D)(ρ:AI):R AI:=if i<ρ.length then .ok (ρ.set i (.A1 d))else .bad
def Bc(i:Nat)(a:A_):As:=λρ=>(a ρ).bind λd=>(BR i d ρ).bind λBK=>.ok (.BG BK)
def zJ{i:Nat}{a:A_}:Hf (FP F (Bc i a)) (MH (Cg F a) (J1 i)):=by
 rintro CP σ H ⟨G,ρ,r,h⟩;unfold Bc BR at h;refine⟨G,ρ,r,?_⟩;refine rb h λd Av h v H1 Ai AL s1 B4=>?_;by_cases AC:i<ρ.length
 .rw[if_pos AC]at h;exact h _ Ai H1 (AL.set AC B4) s1.g
 .rw[if_neg AC]at h;cases h
def Eg(i:Nat)(a:Ap):As:=λρ=>(a ρ).bind λds=>if i<ρ.length then .ok (.BG (ρ.set i (.C8 ds)))else .bad
def cx{i:Nat}{a:Ap}:Hf (FP F (Eg i a)) (MH (Ht F a) (J1 i)):=by
 delta Eg;refine⟨G,ρ,r,?_⟩;refine rb h λds Av h b xs H1 Ai AL s1 A5 A8 Au BC=>?_;by_cases AC:i<ρ.length
 .rw[if_pos AC]at h;exact h _ Ai H1 (AL.aei AC A8 Au (r.kp.An.gone A5) BC λj A2 o _ A7 AH f=>CU.fresh r s1.h A5 ⟨j,A2,o,A7,AH,f⟩) s1.g
 .rw[if_neg AC]at h;cases h
def L1(i:Nat)(ρ:AI):AI:=match ρ[i]? with
 |some (.ob o)=>ρ.set i (.A1 (Oc o))
 |_=>ρ
theorem Rel.L1{G H:AA}{σ :St}{ρ:AI}(r:Rel F G H σ ρ)(i:Nat):∃G',Rel F G' H σ (CR.L1 i ρ)/\Sub G G':=by
 unfold CR.L1;cases e:ρ[i]? with
 |none=>exact⟨G,r,Sub.refl _⟩
 |some s=>
  cases s with
  |un=>exact⟨G,r,Sub.refl _⟩
  |A1 _=>exact⟨G,r,Sub.refl _⟩
  |EY _=>exact⟨G,r,Sub.refl _⟩
  |Bl _ _=>exact⟨G,r,Sub.refl _⟩
  |ob o=>exact r.L0 e
def SK(i:Nat)(m:As):As:=λρ=>m (L1 i ρ)
def y6{i:Nat}{m:As}:Hf (FP F (SK i m)) (FP F m):=by rintro CP σ H ⟨G,ρ,r,h⟩;obtain⟨Ai,AL,s1⟩:=r.L1 i;exact⟨Ai,_,AL,Hq.mono s1 h⟩
def HD:D->Bool
 |.non=>true|.AV _=>true|.int _=>true|.str _=>true
 |_=>false
def At.qM{K:AZ}{G G':AA}{d:D}{v:V}(h:HD d=true)(a:At K G d v):At K G' d v:=by
 cases d<;>first
  |(erw[At]at a |-;exact a)
  |(cases h)
def K7:Bw->Bw
 |.ob o=>.A1 (Oc o)
 |.EY t=>.A1 (toD t)
 |.Bl _ t=>.A1 (toD t)
 |s=>s
def EK(ρ:AI):AI:=ρ.map K7
open Classical in
noncomputable def I5(σ :St)(ρ:AI)(G H:AA):AA:=λb=>if CU H σ ρ b then H b else G b
def VR{G H:AA}{σ :St}{ρ:AI}(r:Rel F G H σ ρ):Sub G (I5 σ ρ G H):=λb o e=>by
 unfold I5
 split
 .exact r.kp.sub b o e
 .exact e
def Ov{G H:AA}{σ :St}{ρ:AI}{b:A6}(h:CU H σ ρ b):I5 σ ρ G H b=H b:=by unfold I5;rw[if_pos h]
def vk{H:AA}{ρ:AI}{i:Nat}{s:Bw}(e:(EK ρ)[i]?=some s)(o:Option V)(a:A6):¬Ey H s o a:=by
 unfold EK at e;rw[Dm]at e;cases AH:ρ[i]? with
 |none=>rw[AH]at e;cases e
 |some t=>rw[AH]at e;have A2:K7 t=s:=E_ e;subst A2;cases t<;>exact λz=>z
def Rel.plus{G H:AA}{σ :St}{ρ:AI}(r:Rel F G H σ ρ):Rel F (I5 σ ρ G H) H σ (EK ρ):=by
 have BI:=VR r;refine⟨⟨λb o e=>?_,r.kp.Dq.trans BI,r.kp.An,λb J=>?_⟩,by simp[EK,r.len],λi s e=>?_,λi j a s s' o Bo A7 _ _ _ f _=>absurd f (vk A7 o a)⟩
 .unfold I5 at e
  split at e
  .exact e
  .exact r.kp.sub b o e
 .unfold I5
  split
  .rename_i z;exact absurd (r.foot z).2.2 J.1
  .exact r.kp.new b J
 .unfold EK at e;rw[Dm]at e;cases A7:ρ[i]? with
  |none=>rw[A7]at e;cases e
  |some t=>
   rw[A7]at e;have A2:K7 t=s:=E_ e;obtain⟨o,AH,q⟩:=r.CJ i t A7;refine⟨o,AH,?_⟩;subst A2;cases t with
   |un=>trivial
   |A1 d=>obtain⟨v,B1,a⟩:=q;exact⟨v,B1,a.mono BI⟩
   |ob ds=>obtain⟨a,AN,B1,A5,A8,Au,BC⟩:=q;subst B1;exact⟨.ref a,rfl,(BC.mono BI).at (by rw[Ov (.ob A7 AH)];exact A5)⟩
   |EY t=>obtain⟨v,B1,q⟩:=q;exact⟨v,B1,q.at_.view BI λa AB=>Ov ⟨i,_,o,A7,AH,v,B1,AB⟩⟩
   |Bl n t=>obtain⟨v,B1,q,_⟩:=q;exact⟨v,B1,q.at_.view BI λa AB=>Ov ⟨i,_,o,A7,AH,v,B1,AB⟩⟩
def Rel.back{G H G' H':AA}{σ :St}{ρ:AI}(r:Rel F G H σ ρ)(BB:Rel F G' H' σ (EK ρ))(s:Sub (I5 σ ρ G H) G'):Rel F G H' σ ρ:=
 r.over rfl ⟨(VR r).trans (s.trans BB.kp.sub),r.kp.Dq,BB.kp.An,r.kp.new⟩ (Sub.refl _) λa AB=>by
   obtain⟨A5,A8,Au⟩:=r.foot AB;refine⟨?_,A8,Au⟩;cases e:H a with
   |none=>exact absurd e A5
   |some o=>exact BB.kp.sub _ _ (s _ _ (by rw[Ov AB];exact e))
def Zm(d:D):R D:=if HD d=true then .ok d else .bad
def Mc(m:A_):A_:=λρ=>(m (EK ρ)).bind Zm
def yZ{m:A_}:EO (Cg F (Mc m)) (Cg F m):=by
 rintro σ H Q ⟨G,ρ,r,h⟩;refine⟨I5 σ ρ G H,EK ρ,r.plus,?_⟩;unfold Mc Zm at h;refine rb h λd Av h v H' G' BB s' a=>?_;by_cases hd:HD d=true
 .rw[if_pos hd]at h;exact h v H' G (r.back BB s'.g) ⟨Sub.refl _,s'.h,λ_ _=>rfl⟩ (a.qM hd)
 .rw[if_neg hd]at h;cases h
def KF(m:CG):CG:=λρ=>m (EK ρ)
def yf{m:CG}:O8 (GW F (KF m)) (GW F m):=by
 rintro σ H Q ⟨G,ρ,r,h⟩;refine⟨I5 σ ρ G H,EK ρ,r.plus,?_⟩;unfold KF at h;cases Av:m (EK ρ)with
 |bad=>rw[Av]at h;cases h
 |exc c=>rw[Av]at h;exact h
 |ok d=>rw[Av]at h;exact λH' G' BB s'=>h H' G (r.back BB s'.g) ⟨Sub.refl _,s'.h,λ_ _=>rfl⟩
end
section
variable{F:B6}
def H6(G H:AA):AA:=λb=>match H b with
 |some (.tup xs)=>some (.tup xs)
 |_=>G b
def i2{G H:AA}{b:A6}{xs:List V}(e:H b=some (.tup xs)):H6 G H b=some (.tup xs):=by unfold H6;rw[e]
def jB{G H:AA}{b:A6}(h:IE H b):H6 G H b=G b:=by
 unfold H6
 split
 .rename_i xs e;exact absurd e (h.2 xs)
 .rfl
def i1{G H:AA}(s:Sub G H):Sub G (H6 G H):=λb o e=>by
 unfold H6
 split
 .rename_i xs z;rw[s b o e]at z;rw[z]
 .exact e
def su{G H:AA}(s:Sub G H):Sub (H6 G H) H:=λb o e=>by
 unfold H6 at e
 split at e
 .rename_i xs z;rw[z];exact e
 .exact s b o e
theorem Rel.H6{G H:AA}{σ :Bv.St}{ρ:AI}(r:Rel F G H σ ρ):Rel F (H6 G H) H σ ρ:=r.grow (i1 r.kp.sub) (su r.kp.sub) (Sub.refl _) λb h=>jB h
theorem C5.H6{G H:AA}(s:Sub G H):C5 G H (H6 G H) H:=⟨i1 s,Sub.refl _,λb h=>jB h⟩
structure Mp(K:AZ)(Cb:It)(ds:χ)(G:AA):Prop where
 go:∀(i:Nat)(H:AA),Sub G H->i<ds.length->Cb.go i H
 Jq:∀(i:Nat)(H:AA)(x:V)(H':AA),Sub G H->i<ds.length->Cb.Jq i H x H'->∃d,ds[i]?=some d/\
  ((H'=H/\At K G d x)\/∃p xs A2,H p=none/\H'=upd H p (.tup xs)/\x=.ref p/\d=.tup A2/\∀Ai,Sub G Ai->(∀b ys,H b=some (.tup ys)->Ai b=some (.tup ys))->AY K Ai A2 xs)
 stop:∀(H:AA),Sub G H->Cb.stop ds.length H
def aaD(F:B6)(G H:AA)(σ :St)(ρ:AI)(Q:It->AA->Prop):R χ->Prop
 |.ok ds=>∀Cb H' G',Rel F G' H' σ ρ->C5 G H G' H'->Mp F.K Cb ds G'->Q Cb H'
 |.exc c=>MZ F c
 |.bad=>False
def Ku(F:B6)(m:Ap):TI:=λσ H Q=>∃G ρ,Rel F G H σ ρ/\aaD F G H σ ρ Q (m ρ)
abbrev O7(t' t:TI):Prop:=∀ σ H Q,t' σ H Q->t σ H Q
def Mp.turn{Cb:It}{ds:χ}{G Ai H H':AA}{σ :St}{ρ:AI}{i:Nat}{x:V}(t:Mp F.K Cb ds G)(r:Rel F Ai H σ ρ)(s:Sub G Ai)(AC:i<ds.length)(y:Cb.Jq i H x H') :
  ∃d G',ds[i]?=some d/\Rel F G' H' σ ρ/\C5 Ai H G' H'/\At F.K G' d x:=by
 obtain⟨d,e,h⟩:=t.Jq i H x H' (s.trans r.kp.sub) AC y;rcases h with⟨rfl,a⟩|⟨p,xs,A2,AX,rfl,rfl,rfl,a⟩
 .exact⟨d,Ai,e,r,C5.refl _ _,a.mono s⟩
 .have BA:=r.H6;refine⟨_,_,e,BA.lay AX,(C5.H6 r.kp.sub).trans (C5.lay BA.kp.sub AX),?_⟩;erw[At];exact⟨p,xs,rfl,Do,(a _ (s.trans (i1 r.kp.sub)) λ_ _ e=>i2 e).mono (Sub.upd (BA.kp.sub.gone AX))⟩
def Py(F:B6)(g:IW)(set:D->AI->R AI):Prop:=∀ σ ρ G H v d Q BK,Rel F G H σ ρ->At F.K G d v->set d ρ=.ok BK->(∀ σ',Rel F G H σ' BK->Q σ' H)->g v σ H Q
def ZH(i:Nat):Py F (J1 i) (BR i):=by
 intro σ ρ G H v d Q BK r a e h;unfold BR at e;by_cases AC:i<ρ.length
 .rw[if_pos AC]at e;cases e;exact h _ (r.set AC a)
 .rw[if_neg AC]at e;cases e
def IJ:List (D->AI->R AI)->χ->AI->R AI
 |[],[],ρ=>.ok ρ
 |f::Aw,d::ds,ρ=>(f d ρ).bind λBK=>IJ Aw ds BK
 |_,_,_=>.bad
def V4(F:B6)(g:Nc)(set:χ->AI->R AI):Prop:=∀ σ ρ G H vs ds Q BK,Rel F G H σ ρ->AY F.K G ds vs->set ds ρ=.ok BK->(∀ σ',Rel F G H σ' BK->Q σ' H)->g vs σ H Q
def l0:V4 F ZF (IJ []):=by
 intro σ ρ G H vs ds Q BK r a e h;cases ds with
 |nil=>erw[AY]at a;cases e;exact⟨a,h σ r⟩
 |cons d ds=>cases e
def bj{g:IW}{MT:Nc}{f:D->AI->R AI}{Aw:List (D->AI->R AI)}(A5:Py F g f)(A8:V4 F MT (IJ Aw)):V4 F (VQ g MT) (IJ (f::Aw)):=by
 intro σ ρ G H vs ds Q BK r a e h;cases ds with
 |nil=>cases e
 |cons d ds=>
  erw[AY]at a;obtain⟨v,Kv,rfl,B4,MO⟩:=a;erw[IJ]at e;cases A7:f d ρ with
  |bad=>rw[A7]at e;cases e
  |exc c=>rw[A7]at e;cases e
  |ok ED=>rw[A7,R.EF]at e;refine⟨v,Kv,rfl,A5 σ ρ G H v d _ ED r B4 A7 λσ1 AL=>?_⟩;exact A8 σ1 ED G H Kv ds Q BK AL MO e h
def Fv(Aw:List (D->AI->R AI)):D->AI->R AI
 |.tup ds,ρ=>IJ Aw ds ρ
 |_,_=>.bad
theorem qX:∀{Aw:List (D->AI->R AI)}{ds:χ}{ρ BK:AI},IJ Aw ds ρ=.ok BK->ds.length=Aw.length
 |[],[],_,_,_=>rfl
 |[],_::_,_,_,e=>by cases e
 |_::_,[],_,_,e=>by cases e
 |f::Aw,d::ds,ρ,BK,e=>by
  erw[IJ]at e;cases A7:f d ρ with
  |bad=>rw[A7]at e;cases e
  |exc c=>rw[A7]at e;cases e
  |ok ED=>rw[A7,R.EF]at e;simp[qX e]
def l1{MT:Nc}{Aw:List (D->AI->R AI)}{n:Nat}(AQ:n=Aw.length)(h:V4 F MT (IJ Aw)):Py F (ZG F.K n MT) (Fv Aw):=by
 intro σ ρ G H v d Q BK r a e k;cases d with
 |tup ds=>erw[At]at a;obtain⟨p,xs,rfl,AT,al⟩:=a;refine⟨p,xs,rfl,Ct.of (r.kp.sub _ _ AT),?_,h σ ρ G H xs ds Q BK r al e k⟩;rw[<-al.length,AQ];exact qX e
 |_=>cases e
noncomputable def JX(set:D->AI->R AI)(body:As):χ->AI->R Fy
 |[],ρ=>.ok (.BG ρ)
 |d::ds,ρ=>(set d ρ).bind λED=>(body ED).bind λf=>match f with
  |.BG Ej=>JX set body ds Ej
  |.Di Ej=>JX set body ds Ej
  |.Ed Ej=>.ok (.BG Ej)
  |f=>.ok f
def Ep(mi:Ap)(set:D->AI->R AI)(body:As):As:=λρ=>(mi ρ).bind λds=>JX set body ds ρ
def y5{mi:Ap}{set:D->AI->R AI}{body:As}{g:IW}(Aa:Py F g set)(AJ:∀d ρ c,set d ρ≠.exc c):Hf (FP F (Ep mi set body)) (pf (Ku F mi) g (FP F body)):=by
 delta Ep;refine⟨G,ρ,r,?_⟩;refine rb h λds Av h Cb H1 Ai AL s1 it=>?_;refine⟨λi m σ2 B7=>m=ds.length-i/\i<=ds.length/\∃Cw Ej,Rel F Cw B7 σ2 Ej/\Sub Ai Cw/\Hq F Cw CP (JX set body (ds.drop i) Ej),⟨ds.length,γ,Hy _,Ai,ρ,AL,Sub.refl _,Hq.mono s1.g (h:)⟩,?_⟩;rintro i m σ2 B7 ⟨rfl,AC,Cw,Ej,BA,s2,k2⟩;by_cases F9:i<ds.length
 .refine .inr ⟨it.go i B7 (s2.trans BA.kp.sub) F9,λσ3 Cx=>∃H3 ao,Rel F H3 Cx σ3 ao/\Sub Ai H3/\Hq F H3 CP (JX set body (ds.drop (i+1)) ao),λσ3 Cx⟨H3,ao,E9,s3,k3⟩=>⟨ds.length-(i+1),δ,rfl,F9,H3,ao,E9,s3,k3⟩,λx Cx y=>?_⟩;obtain⟨d,H3,B1,E9,s3,G7⟩:=it.turn BA s2 F9 y;have F7:ds.drop i=d::ds.drop (i+1):=by
   rw[fo F9];have:=DV F9;rw[B1]at this;rw[E_ this]
  rw[F7]at k2;erw[JX]at k2;cases CV:set d Ej with
  |bad=>rw[CV]at k2;cases k2
  |exc c=>exact absurd CV (AJ d Ej c)
  |ok Jr=>
   rw[CV,R.EF]at k2;refine Aa σ2 Ej H3 Cx x d _ Jr E9 G7 CV λσ5 Rp=>⟨H3,Jr,Rp,?_⟩;have Ww:Sub Cw H3:=s3.g;refine rb k2 λf QB k2=>?_;cases f with
   |BG P4=>exact λσ7 Mn Ge Jm Da=>⟨Mn,P4,Jm,s2.trans (Ww.trans Da),Hq.mono (Ww.trans Da) k2⟩
   |Di P4=>exact λσ7 Mn Ge Jm Da=>⟨Mn,P4,Jm,s2.trans (Ww.trans Da),Hq.mono (Ww.trans Da) k2⟩
   |Ed P4=>exact λσ7 Mn Ge Jm Da=>k2 σ7 Mn Ge Jm (Ww.trans Da)
   |Du d=>exact k2
   |JD ds=>exact k2
   |OB t=>exact k2
   |rs t _=>exact k2
 .have e:ds.drop i=[]:=s7 δ;rw[e]at k2;have Fz:i=ds.length:=δ
  subst Fz;exact .inl ⟨it.stop B7 (s2.trans BA.kp.sub),k2 σ2 Cw B7 BA (Sub.refl _)⟩
def bY(i:Nat):∀d ρ c,BR i d ρ≠.exc c:=λd ρ c=>by
 unfold BR
 split<;>exact λz=>nomatch z
theorem qY:∀{Aw:List (D->AI->R AI)},(∀f∈Aw,∀d ρ c,f d ρ≠.exc c)->∀ds ρ c,IJ Aw ds ρ≠.exc c
 |[],_,[],_,_,e=>nomatch e
 |[],_,_::_,_,_,e=>nomatch e
 |_::_,_,[],_,_,e=>nomatch e
 |f::Aw,h,d::ds,ρ,c,e=>by
  erw[IJ]at e;cases A7:f d ρ with
  |bad=>rw[A7]at e;cases e
  |exc c=>exact h f γ d ρ c A7
  |ok ED=>rw[A7,R.EF]at e;exact qY (λg Aa=>h g (by simp[Aa])) ds ED c e
def q_{Aw:List (D->AI->R AI)}(h:∀f∈Aw,∀d ρ c,f d ρ≠.exc c):∀d ρ c,Fv Aw d ρ≠.exc c:=λd ρ c e=>by
 cases d<;>first
  |(exact qY h _ _ _ e)
  |(cases e)
def mF{K:AZ}{G:AA}{a:A6}{xs:List V}{ds:χ}(h:C4 K G a xs)(q:AY K G ds xs):Mp K (ha K a) ds G where
 go:=λi H s AC=>by obtain⟨v,e,_⟩:=q.get (DV AC);exact⟨xs,v,C4.mono s h,e⟩
 Jq:=λi H x H' s AC y=>by obtain⟨rfl,y⟩:=y;obtain⟨d,e,a⟩:=q.TB (y xs (C4.mono s h));exact⟨d,e,.inl ⟨rfl,a⟩⟩
 stop:=λH s=>⟨xs,C4.mono s h,by rw[<-q.length];exact CS _⟩
def mI{K:AZ}{G:AA}{a:A6}{xs:List V}{ds:χ}(h:Ct K G a xs)(q:AY K G ds xs):Mp K (hc K a) ds G where
 go:=λi H s AC=>by obtain⟨v,e,_⟩:=q.get (DV AC);exact⟨xs,v,Ct.mono s h,e⟩
 Jq:=λi H x H' s AC y=>by obtain⟨rfl,y⟩:=y;obtain⟨d,e,a⟩:=q.TB (y xs (Ct.mono s h));exact⟨d,e,.inl ⟨rfl,a⟩⟩
 stop:=λH s=>⟨xs,Ct.mono s h,by rw[<-q.length];exact CS _⟩
def Ft(lo:Int)(n:Nat):χ:=(DK n).map λ(i:Nat)=>.int (lo+(i:Int))
def mG{K:AZ}{G:AA}(lo:Int)(n:Nat):Mp K (Ux lo n) (Ft lo n) G where
 go:=λi H s AC=>by
  have h:i<n:=by simpa[Ft]using AC
  exact h
 Jq:=λi H x H' s AC y=>by
  have h:i<n:=by simpa[Ft]using AC
  obtain⟨A7,AH⟩:=y;refine⟨.int (lo+(i:Int)),?_,.inl ⟨A7,?_⟩⟩
  .unfold Ft;rw[Dm,QY h];rfl
  .erw[At];exact AH
 stop:=λH s=>by
  have h:n<=(Ft lo n).length:=by simp[Ft]
  exact h
def Tw:D->R χ
 |.lst ds=>.ok ds
 |.CO ds=>.ok ds
 |_=>.bad
def afu:D->R χ
 |.tup ds=>.ok ds
 |.EI ds=>.ok ds
 |_=>.bad
def Er(m:A_):Ap:=λρ=>(m ρ).bind Tw
def yC{m:A_}:O7 (Ku F (Er m)) (lp F.K (Cg F m)):=by
 delta Er r;refine rb h λd Av h v H1 Ai AL s1 a=>?_;cases d with
 |lst ds=>erw[At]at a;obtain⟨p,xs,e,AT,al⟩:=a;exact⟨p,e,⟨xs,C4.of (AL.kp.sub _ _ AT)⟩,h _ H1 Ai AL s1 (mF (C4.of AT) al)⟩
 |CO ds=>erw[At]at a;obtain⟨p,xs,e,AT,al⟩:=a;exact⟨p,e,⟨xs,C4.mono AL.kp.sub AT⟩,h _ H1 Ai AL s1 (mF AT al)⟩
 |_=>cases h
def ag(m:A_):Ap:=λρ=>(m ρ).bind afu
def zP{m:A_}:O7 (Ku F (ag m)) (lx F.K (Cg F m)):=by
 delta ag r;refine rb h λd Av h v H1 Ai AL s1 a=>?_;cases d with
 |tup ds=>erw[At]at a;obtain⟨p,xs,e,AT,al⟩:=a;exact⟨p,e,⟨xs,Ct.of (AL.kp.sub _ _ AT)⟩,h _ H1 Ai AL s1 (mI (Ct.of AT) al)⟩
 |EI ds=>erw[At]at a;obtain⟨p,xs,e,AT,al⟩:=a;exact⟨p,e,⟨xs,Ct.mono AL.kp.sub AT⟩,h _ H1 Ai AL s1 (mI AT al)⟩
 |_=>cases h
def Rr:χ->R χ
 |[.int j]=>if-(2^62)<=j/\j<2^62 then .ok (Ft 0 j.toNat)else .bad
 |_=>.bad
def W_:χ->R χ
 |[.int i,.int j]=>if-(2^62)<=i/\i<2^62/\-(2^62)<=j/\j<2^62 then .ok (Ft i (j-i).toNat)else .bad
 |_=>.bad
def AY.ints1{K:AZ}{G:AA}{j:Int}{vs:List V}(a:AY K G [.int j] vs):vs=[.int j]:=by erw[AY,At]at a;obtain⟨v,r,rfl,rfl,rfl⟩:=a;rfl
def AY.ints2{K:AZ}{G:AA}{i j:Int}{vs:List V}(a:AY K G [.int i,.int j] vs):vs=[.int i,.int j]:=by erw[AY,At]at a;obtain⟨v,r,rfl,rfl,v,r,rfl,rfl,rfl⟩:=a;rfl
def FK(m:Ap):Ap:=λρ=>(m ρ).bind Rr
def TV(m:Ap):Ap:=λρ=>(m ρ).bind W_
def yG{m:Ap}:O7 (Ku F (FK m)) (lq (EU F m)):=by
 delta FK r;refine rb h λds Av h vs H1 Ai AL s1 a=>?_;unfold Rr at h
 split at h
 .rename_i j
  split at h
  .rename_i Bs;exact⟨j,a.ints1,Bs.1,Bs.2,h _ H1 Ai AL s1 (mG 0 j.toNat)⟩
  .exact h.elim
 .exact h.elim
def zE{m:Ap}:O7 (Ku F (TV m)) (lr (EU F m)):=by
 delta TV r;refine rb h λds Av h vs H1 Ai AL s1 a=>?_;unfold W_ at h
 split at h
 .rename_i i j
  split at h
  .rename_i Bs;exact⟨i,j,a.ints2,Bs,h _ H1 Ai AL s1 (mG i (j-i).toNat)⟩
  .exact h.elim
 .exact h.elim
inductive C2 where
 |v (d:D)|o (ds:χ)|t (t:T)
noncomputable def aaB(F:B6)(Q:CQ):R C2->Prop
 |.ok (.v d)=>∀v G' H',EW F G' H'->At F.K G' d v->Q v H'
 |.ok (.o ds)=>∀a xs G' H',EW F G' H'->G' a=none->F.H0 a=none->H' a=some (.lst xs)->AY F.K G' ds xs->Q (.ref a) H'
 |.ok (.t t)=>∀v G' H',EW F G' H'->Mr F G' H' t v->Q v H'
 |.exc c=>MZ F c
 |.bad=>False
def QS(K:AZ)(n:Nat)(xe:D0->Str->AA->Prop)(BP:χ->R C2):BJ:=λvs H Q E=>∃G ds,Sub G H/\AY K G ds vs/\ds.length=n/\aaB ⟨K,G,H,xe E,IA⟩ Q (BP ds)
def bb{K:AZ}{n:Nat}{xe:D0->Str->AA->Prop}{BP:χ->R C2}:∀vs H Q E,QS K n xe BP vs H Q E->vs.length=n:=λvs H Q E h=>by obtain⟨G,ds,_,a,l,_⟩:=h;rw[<-a.length];exact l
def outD:Fy->R C2
 |.BG _=>.ok (.v .non)
 |.Du d=>.ok (.v d)
 |.JD ds=>.ok (.o ds)
 |.OB t=>.ok (.t t)
 |_=>.bad
def J6(N:Nat)(ds:χ):AI:=ds.map .A1++GF (N-ds.length) .un
def D9(N:Nat)(m:As)(ds:χ):R C2:=(m (J6 N ds)).bind outD
def NY(N:Nat)(vs:List V):St:=vs.map some++GF (N-vs.length) none
def nz{K:AZ}{G H:AA}{EX:Str->AA->Prop}{N:Nat}{ds:χ}{vs:List V}(s:Sub G H)(a:AY K G ds vs):Rel ⟨K,G,H,EX,IA⟩ G H (NY N vs) (J6 N ds):=by
 have AP:=a.length;refine⟨⟨s,Sub.refl _,Sub.refl _,λ_ _=>rfl⟩,by simp[NY,J6,AP],λi t e=>?_,λi j b A2 es' o Bo A7 AH _ _ f _=>?_⟩
 .unfold J6 at e;unfold NY;by_cases AC:i<ds.length
  .rw[Ms (AC:),Dm,DV AC]at e;obtain⟨v,A7,B4⟩:=a.get (DV AC);rw[Ms (by rw[Ea,<-AP];exact AC),Dm,A7];have Hl:Bw.A1 ds[i]=t:=E_ e;subst Hl;exact⟨some v,rfl,v,rfl,B4⟩
  .rw[Nq (AC:),P6]at e;rw[Nq (by rw[Ea,<-AP];lia),P6,Ea,<-AP];rw[Ea]at e
   split at e
   .rename_i An;rw[if_pos An];cases e;exact⟨none,rfl,trivial⟩
   .cases e
 .exfalso;unfold J6 at A7;by_cases AC:i<ds.length
  .rw[Ms (AC:),Dm,DV AC]at A7;cases A7;exact f
  .rw[Nq (AC:),P6]at A7
   split at A7
   .cases A7;exact f
   .cases A7
def ZX{K:AZ}{xe:D0->Str->AA->Prop}{n N:Nat}{m:As}{vs:List V}{H:AA}{Q:CQ}{E:D0}(h:QS K n xe (D9 N m) vs H Q E) :
  ∃G,FP ⟨K,G,H,xe E,IA⟩ m { BG:=λ_ H'=>Q .non H',Du:=Q } (NY N vs) H:=by
 obtain⟨G,ds,s,a,l,k⟩:=h;refine⟨G,G,J6 N ds,nz s a,?_⟩;unfold D9 at k;refine rb k λf e k=>?_;cases f with
 |BG ρ=>exact λσ' G' H' r _=>k .non G' H' r.kp ζ
 |Du d=>exact k
 |JD ds=>exact k
 |OB t=>exact k
 |rs t _=>cases k
 |Ed ρ=>cases k
 |Di ρ=>cases k
def EW.of{G H G' H':AA}{σ :St}{ρ:AI}{EX:Str->AA->Prop}(r:Rel F G H σ ρ)(k:EW ⟨F.K,G,H,EX,IA⟩ G' H'):Rel F G' H' σ ρ:=r.grow k.Dq k.sub k.An λb J=>k.new b J
def Ks:C2->R D
 |.v d=>.ok d
 |.o ds=>.ok (.lst ds)
 |.t t=>.ok (toD t)
def bQ:C2->R χ
 |.o ds=>.ok ds
 |_=>.bad
def Nn(A:List A6)(G H:AA):AA:=λb=>if b∈A then H b else G b
def Rel.b2{G H G0 H0:AA}{σ :St}{ρ:AI}(r:Rel F G H σ ρ){F':B6}{t:T}{v:V}(Ar:F'.K=F.K)(q:Mr F' G H t v)(u:C5 G0 H0 G H)(n:∀b∈Ah H t v,H0 b=none/\F.H0 b=none/\¬CU H σ ρ b) :
  Rel F (Nn (Ah H t v) G H) H σ ρ/\C5 G0 H0 (Nn (Ah H t v) G H) H/\At F.K (Nn (Ah H t v) G H) (toD t) v:=by
 have BI:Sub G (Nn (Ah H t v) G H):=λb o e=>by
  unfold Nn;by_cases J:b∈Ah H t v
  .rw[(q.own b J).1]at e;cases e
  .rw[if_neg J];exact e
 refine⟨r.over rfl ⟨λb o e=>?_,r.kp.Dq.trans BI,r.kp.An,λb J=>?_⟩ BI λa AB=>?_,⟨u.g.trans BI,u.h,λb J=>?_⟩,?_⟩
 .unfold Nn at e
  split at e
  .exact e
  .exact r.kp.sub b o e
 .unfold Nn;rw[if_neg (λz=>J.1 (n b z).2.1)];exact r.kp.new b J
 .obtain⟨A5,A8,Au⟩:=r.foot AB;refine⟨rfl,?_,Au⟩;unfold Nn;rw[if_neg (λz=>(n a z).2.2 AB)];exact A8
 .unfold Nn;rw[if_neg (λz=>J.1 (n b z).1)];exact u.n b J
 .rw[<-Ar];exact q.at_.view BI λa AB=>by unfold Nn;rw[if_pos AB]
def CB(n:Nat)(BP:χ->R C2)(m:Ap):A_:=λρ=>(m ρ).bind λds=>if ds.length=n then(BP ds).bind Ks else .bad
def EM(n:Nat)(BP:χ->R C2)(m:Ap):Ap:=λρ=>(m ρ).bind λds=>if ds.length=n then(BP ds).bind bQ else .bad
def m1{n:Nat}{BP:χ->R C2}{m:Ap}{xe:D0->Str->AA->Prop}{E:D0}(AJ:F.EX=xe E):EO (Cg F (CB n BP m)) (ax (QS F.K n xe BP) [] E (EU F m)):=by
 delta CB r;refine rb h λds Av h vs H1 Ai AL s1 a=>?_;by_cases AQ:ds.length=n
 .rw[if_pos AQ]at h;rw[Ly];refine⟨Ai,ds,AL.kp.sub,a,AQ,?_⟩;cases e:BP ds with
  |bad=>rw[e]at h;cases h
  |exc c=>rw[e]at h;intro G' H' k;have z:=h G' H' (EW.of AL k).kp;rw[AJ]at z;exact z
  |ok t=>
   rw[e,R.EF]at h;cases t with
   |v d=>exact λv G' H' k B4=>h v H' G' (EW.of AL k) (s1.trans ⟨k.Dq,k.An,k.new⟩) B4
   |o A2=>intro p xs G' H' k A5 A8 Au BC;have A8:H1 p=none:=A8;have BB:=EW.of AL k;have no:¬CU H' σ ρ p:=CU.fresh AL k.An A8;refine h (.ref p) H' _ (BB.take Au A5 (AL.kp.An.gone A8) no) ((s1.trans ⟨k.Dq,k.An,k.new⟩).put (s1.h.gone A8) A5) ?_;erw[At];exact⟨p,xs,rfl,Do,BC.mono (Sub.upd A5)⟩
   |t t=>intro v G' H' k q;obtain⟨a1,a2,G7⟩:=(EW.of AL k).b2 (F':=⟨F.K,Ai,H1,xe E,IA⟩) rfl q (s1.trans ⟨k.Dq,k.An,k.new⟩) λb J=>⟨s1.h.gone (q.own b J).2,AL.kp.An.gone (q.own b J).2,CU.fresh AL k.An (q.own b J).2⟩;exact h v H' _ a1 a2 G7
 .rw[if_neg AQ]at h;cases h
def xw{n:Nat}{BP:χ->R C2}{m:Ap}{xe:D0->Str->AA->Prop}{E:D0}(AJ:F.EX=xe E):EO (Ht F (EM n BP m)) (ax (QS F.K n xe BP) [] E (EU F m)):=by
 delta EM r;refine rb h λds Av h vs H1 Ai AL s1 a=>?_;by_cases AQ:ds.length=n
 .rw[if_pos AQ]at h;rw[Ly];refine⟨Ai,ds,AL.kp.sub,a,AQ,?_⟩;cases e:BP ds with
  |bad=>rw[e]at h;cases h
  |exc c=>rw[e]at h;intro G' H' k;have z:=h G' H' (EW.of AL k).kp;rw[AJ]at z;exact z
  |ok t=>
   rw[e,R.EF]at h;cases t with
   |v d=>cases h
   |t t=>cases h
   |o A2=>intro p xs G' H' k A5 A8 Au BC;have A8:H1 p=none:=A8;have BB:=EW.of AL k;exact h p xs H' G' BB (s1.trans ⟨k.Dq,k.An,k.new⟩) (s1.h.gone A8) Au A5 BC
 .rw[if_neg AQ]at h;cases h
end
end CR
namespace CR
open PySem PySem.Spec Bv
noncomputable def H8:Bw->Bw
 |.A1 d=>.A1 d
 |_=>.un
def Ng(nl:Nat)(caps:φ)(ρ:AI):AI:=GF nl .un++caps.map λj=>H8 (ρ.getD j .un)
noncomputable def I3(set:D->AI->R AI)(tst:CG)(elt:A_):χ->AI->χ->R χ
 |[],_,ws=>.ok ws
 |d::ds,ρ,ws=>(set d ρ).bind λED=>(tst ED).bind λb=>if b=true then(elt ED).bind λy=>if ws.length<1000000 then I3 set tst elt ds ED (ws++[y])else .bad else I3 set tst elt ds ED ws
noncomputable def GC{α:Type}:R α->R α
 |.exc _=>.bad
 |r=>r
def D3(nl:Nat)(caps:φ)(mi:Ap)(set:D->AI->R AI)(tst:CG)(elt:A_):Ap:=λρ=>(mi ρ).bind λds=>GC (I3 set tst elt ds (Ng nl caps ρ) [])
noncomputable def FX(K:AZ)(G H:AA):B6:=⟨K,G,H,λ_ _=>False,IA⟩
def fJ(K:AZ)(m:CG):TT:=λσ H Q=>∃G0 H0,GW (FX K G0 H0) m σ H Q
def fI(K:AZ)(m:A_):TE:=λσ H Q=>∃G0 H0,Cg (FX K G0 H0) m σ H Q
def oM:Bw->Bool
 |.un=>true|.A1 _=>true
 |_=>false
def oN{H:AA}{s:Bw}(h:oM s=true)(o:Option V)(a:A6):¬Ey H s o a:=by
 cases s<;>first
  |exact λz=>z
  |cases h
def R9(ρ:AI):Prop:=∀(i:Nat)(s:Bw),ρ[i]?=some s->oM s=true
def mc(nl:Nat)(caps:φ)(ρ:AI):R9 (Ng nl caps ρ):=λi s A7=>by
 unfold Ng at A7;by_cases AC:i<nl
 .rw[Ms (AC:),P6,if_pos AC]at A7;cases A7;rfl
 .rw[Nq (AC:),SV,Dm]at A7;cases J0:caps[i-nl]? with
  |none=>rw[J0]at A7;cases A7
  |some j=>rw[J0]at A7;have A2:H8 (ρ.getD j .un)=s:=E_ A7;subst A2;cases AK:ρ.getD j .un<;>rfl
def Keeps(set:D->AI->R AI):Prop:=∀d ρ BK,set d ρ=.ok BK->R9 ρ->R9 BK
def bX(i:Nat):Keeps (BR i):=λd ρ BK e n j ds z=>by
 unfold BR at e
 split at e
 .cases e;rcases get_set z with⟨_,z⟩|⟨_,z⟩
  .subst z;rfl
  .exact n j ds z
 .cases e
theorem qW:∀{Aw:List (D->AI->R AI)},(∀f∈Aw,Keeps f)->∀ds ρ BK,IJ Aw ds ρ=.ok BK->R9 ρ->R9 BK
 |[],_,[],_,_,e,n=>by cases e;exact n
 |[],_,_::_,_,_,e,_=>by cases e
 |_::_,_,[],_,_,e,_=>by cases e
 |f::Aw,h,d::ds,ρ,BK,e,n=>by
  erw[IJ]at e;cases A7:f d ρ with
  |bad=>rw[A7]at e;cases e
  |exc c=>rw[A7]at e;cases e
  |ok ED=>rw[A7,R.EF]at e;exact qW (λg Aa=>h g (by simp[Aa])) ds ED BK e (h f γ d ρ ED A7 n)
def qZ{Aw:List (D->AI->R AI)}(h:∀f∈Aw,Keeps f):Keeps (Fv Aw):=λd ρ BK e n=>by
 cases d<;>first
  |(exact qW h _ _ _ e n)
  |(cases e)
section
variable{F:B6}
def adj{G H:AA}{σ :St}{ρ:AI}(r:Rel F G H σ ρ){acc:A6}(AB:H acc=none)(nl:Nat)(caps:φ) :
  Rel (FX F.K G H) G (upd H acc (.lst [])) (Nh nl caps σ) (Ng nl caps ρ):=by
 refine⟨⟨Sub.b7 r.kp.sub (r.kp.sub.gone AB),Sub.refl _,Sub.upd AB,λ_ _=>rfl⟩,by simp[Nh,Ng],λi s e=>?_,λi j b s s' o Bo A7 _ _ _ f _=>?_⟩
 .unfold Ng at e;unfold Nh;by_cases AC:i<nl
  .rw[Ms (AC:),P6,if_pos AC]at e;rw[Ms (AC:),P6,if_pos AC];cases e;exact⟨none,rfl,trivial⟩
  .rw[Nq (AC:),SV,Dm]at e;rw[Nq (AC:),SV,Dm];cases J0:caps[i-nl]? with
   |none=>rw[J0]at e;cases e
   |some j=>
    rw[J0]at e;refine⟨σ.getD j none,rfl,?_⟩;have A2:H8 (ρ.getD j .un)=s:=E_ e;subst A2;cases CY:ρ[j]? with
    |none=>
     have eg:ρ.getD j .un=.un:=by rw[HI,CY];rfl
     rw[eg];exact trivial
    |some t=>
     have eg:ρ.getD j .un=t:=by rw[HI,CY];rfl
     rw[eg];obtain⟨o,A7,q⟩:=r.CJ j t CY;cases t with
     |un=>exact trivial
     |ob ds=>exact trivial
     |EY t=>exact trivial
     |Bl _ t=>exact trivial
     |A1 d=>obtain⟨v,AH,a⟩:=q;refine⟨v,?_,a⟩;rw[HI,A7,AH];rfl
 .exact absurd f (oN (mc nl caps ρ i s A7) o b)
def xy{nl:Nat}{caps:φ}{mi:Ap}{set:D->AI->R AI}{tst:CG}{elt:A_}{g:IW}(Aa:∀G H,Py (FX F.K G H) g set)(AJ:∀d ρ c,set d ρ≠.exc c)(AG:Keeps set) :
  EO (Ht F (D3 nl caps mi set tst elt)) (ay (Ku F mi) g (fJ F.K tst) (fI F.K elt) nl caps):=by
 delta D3 r;refine rb h λds Av h Cb H1 Ai AL MK it acc AB=>?_;cases CY:I3 set tst elt ds (Ng nl caps ρ) []with
 |bad=>rw[CY]at h;cases h
 |exc c=>rw[CY]at h;cases h
 |ok res=>
  rw[CY]at h
  refine⟨λi m σ2 B7=>m=ds.length-i/\i<=ds.length/\∃Cw Ej ys ws,Rel (FX F.K Ai H1) Cw B7 σ2 Ej/\R9 Ej/\B7 acc=some (.lst ys)/\Cw acc=none/\AY F.K Cw ws ys/\I3 set tst elt (ds.drop i) Ej ws=.ok res,
   ⟨ds.length,γ,Hy _,Ai,_,[],[],adj AL AB nl caps,mc _ _ _,Do,AL.kp.sub.gone AB,.nil,(CY:)⟩,?_⟩
  rintro i m σ2 B7 ⟨rfl,AC,Cw,Ej,ys,ws,BA,DW,A5,A8,Au,BC⟩;have BI:Sub Ai Cw:=BA.kp.Dq;by_cases F9:i<ds.length
  .refine .inr ⟨it.go i B7 (BI.trans BA.kp.sub) F9,λx Cx y=>?_⟩;obtain⟨d,H3,B1,E9,N7,G7⟩:=Mp.turn (F:=FX F.K Ai H1) it BA BI F9 y;have F7:ds.drop i=d::ds.drop (i+1):=by
    rw[fo F9];have:=DV F9;rw[B1]at this;rw[E_ this]
   rw[F7]at BC;erw[I3]at BC;cases CV:set d Ej with
   |bad=>rw[CV]at BC;cases BC
   |exc c=>exact absurd CV (AJ d Ej c)
   |ok Jr=>
    rw[CV,R.EF]at BC;refine Aa Ai H1 σ2 Ej H3 Cx x d _ Jr E9 G7 CV λσ5 Rp=>⟨Ai,H1,H3,Jr,Rp,?_⟩;have UN:R9 Jr:=AG d Ej Jr CV DW;have j6:Cx acc=some (.lst ys):=N7.h _ _ A5;have g3:H3 acc=none:=by rw[N7.n acc (.of A5 λ_ z=>nomatch z)];exact A8
    cases GK:tst Jr with
    |bad=>rw[GK]at BC;cases BC
    |exc c=>rw[GK]at BC;cases BC
    |ok b=>
     rw[GK,R.EF]at BC;intro TY YW nc ew;have hy:TY acc=some (.lst ys):=ew.h _ _ j6;have Lg:YW acc=none:=by rw[ew.n acc (.of j6 λ_ z=>nomatch z)];exact g3
     have Td:AY F.K YW ws ys:=(Au.mono N7.g).mono ew.g;cases b with
     |false=>rw[if_neg Fq]at BC;rw[if_neg Fq];exact⟨_,δ,rfl,F9,YW,Jr,ys,ws,nc,UN,hy,Lg,Td,BC⟩
     |true=>
      rw[if_pos rfl]at BC;rw[if_pos rfl];refine⟨Ai,H1,YW,Jr,nc,?_⟩;cases bt:elt Jr with
      |bad=>rw[bt]at BC;cases BC
      |exc c=>rw[bt]at BC;cases BC
      |ok y=>
       rw[bt,R.EF]at BC;intro fM gr gq Tu u8 hx;have sm:gr acc=some (.lst ys):=u8.h _ _ hy;have bi:gq acc=none:=by rw[u8.n acc (.of hy λ_ z=>nomatch z)];exact Lg
       by_cases AP:ws.length<1000000
       .rw[if_pos AP]at BC;have j8:AY F.K gq ws ys:=Td.mono u8.g;refine⟨ys,sm,by rw[<-j8.length];exact LN AP ε,_,δ,rfl,F9,gq,Jr,ys++[fM],ws++[y],?_,UN,Do,bi,j8.snoc hx,BC⟩;have k0:(FX F.K Ai H1).H0 acc=none:=AB;refine⟨⟨Sub.b7 Tu.kp.sub bi,Tu.kp.Dq,λc o z=>?_,Tu.kp.new⟩,Tu.len,λj t z=>?_,λj k b s s' o Bo HW _ _ _ f _=>absurd f (oN (UN j s HW) o b)⟩
        .rw[DT (KJ z k0)];exact Tu.kp.An c o z
        .obtain⟨o,Dw,Db⟩:=Tu.CJ j t z;refine⟨o,Dw,?_⟩;cases t with
         |un=>exact trivial
         |A1 d=>exact Db
         |ob A2=>exact absurd (UN j _ z) (λw=>nomatch w)
         |EY A2=>exact absurd (UN j _ z) (λw=>nomatch w)
         |Bl _ A2=>exact absurd (UN j _ z) (λw=>nomatch w)
       .rw[if_neg AP]at BC;cases BC
  .have e:ds.drop i=[]:=s7 δ;rw[e]at BC;erw[I3]at BC;cases BC;have Fz:i=ds.length:=δ
   subst Fz;refine .inl ⟨it.stop B7 (BI.trans BA.kp.sub),?_⟩;have k:EW ⟨F.K,Ai,H1,λ_ _=>False,IA⟩ Cw B7:=BA.kp;exact h acc ys B7 Cw (EW.of AL k) (MK.trans ⟨k.Dq,k.An,k.new⟩) (MK.h.gone AB) A5 A8 Au
end
mutual
noncomputable def CE:D->D->Bool
 |.non,.non=>true
 |.AV a,.AV b=>a==b
 |.AV a,.int b=>(if a then 1 else 0)==b
 |.int a,.AV b=>a==(if b then 1 else 0)
 |.int a,.int b=>a==b
 |.str a,.str b=>a==b
 |.tup xs,.tup ys=>Dp xs ys
 |.tup xs,.EI ys=>Dp xs ys
 |.EI xs,.tup ys=>Dp xs ys
 |.EI xs,.EI ys=>Dp xs ys
 |.lst xs,.lst ys=>Dp xs ys
 |.lst xs,.CO ys=>Dp xs ys
 |.CO xs,.lst ys=>Dp xs ys
 |.CO xs,.CO ys=>Dp xs ys
 |_,_=>false
noncomputable def Dp:χ->χ->Bool
 |[],[]=>true
 |x::xs,y::ys=>CE x y&&Dp xs ys
 |_,_=>false
end
noncomputable def okN:Nat->D->Bool
 |_,.non=>true
 |_,.AV _=>true
 |_,.int _=>true
 |_,.str _=>true
 |n+1,.tup xs=>xs.all (okN n)
 |n+1,.EI xs=>xs.all (okN n)
 |n+1,.lst xs=>xs.all (okN n)
 |n+1,.CO xs=>xs.all (okN n)
 |_,_=>false
inductive Ki(s:AM)(P:D->A4->Prop):D->A4->Prop where
 |non:Ki s P .non .none
 |AV (b:Bool):Ki s P (.AV b) (.bool b)
 |int (i:Int) (t:Tok):Ki s P (.int i) (.int i t)
 |str (x:Str) (t:Tok):Ki s P (.str x) (.str x t)
 |tup (a:A6) (ds:χ) (its:List A4) (h:s.heap.IsTuple a its.toArray) (l:ds.length=its.length) (p:∀(i:Nat) d u,ds[i]?=some d->its[i]?=some u->P d u):Ki s P (.tup ds) (.ref a)
 |EI (a:A6) (ds:χ) (its:List A4) (h:s.heap.IsTuple a its.toArray) (l:ds.length=its.length) (p:∀(i:Nat) d u,ds[i]?=some d->its[i]?=some u->P d u):Ki s P (.EI ds) (.ref a)
 |lst (a:A6) (ds:χ) (its:List A4) (h:s.heap.IsList a its.toArray) (l:ds.length=its.length) (p:∀(i:Nat) d u,ds[i]?=some d->its[i]?=some u->P d u):Ki s P (.lst ds) (.ref a)
 |CO (a:A6) (ds:χ) (its:List A4) (h:s.heap.IsList a its.toArray) (l:ds.length=its.length) (p:∀(i:Nat) d u,ds[i]?=some d->its[i]?=some u->P d u):Ki s P (.CO ds) (.ref a)
def N3(K:AZ)(G:AA)(d:D)(u:A4):Prop:=∃x,At K G d x/\RelV x u
section
variable{X:Ad}{pins:υ}{σ :St}{H G:AA}{s:AM}
def TP{K:AZ}{ds:χ}{xs:List V}{its:List A4}(q:AY K G ds xs)(r:Vals xs its):∀(i:Nat) d u,ds[i]?=some d->its[i]?=some u->N3 K G d u:=λi d u A7 AH=>by obtain⟨v,B1,a⟩:=q.get A7;obtain⟨FE,CV,C9⟩:=r.get B1;rw[AH]at CV;cases CV;exact⟨v,a,C9⟩
def QQ(I:π)(BI:Sub G H){d:D}{u:A4}{n:Nat}(ok:okN n d=true)(h:N3 X.K G d u):Ki s (N3 X.K G) d u:=by
 obtain⟨x,a,r⟩:=h;cases d with
 |non=>erw[At]at a;subst a;cases r;exact .non
 |AV b=>erw[At]at a;subst a;cases r;exact .AV b
 |int i=>erw[At]at a;subst a;obtain⟨t,rfl⟩:=r;exact .int i t
 |str i=>erw[At]at a;subst a;obtain⟨t,rfl⟩:=r;exact .str i t
 |tup ds=>erw[At]at a;obtain⟨p,xs,rfl,AT,al⟩:=a;cases r;obtain⟨its,C9,Ax,_⟩:=I.tuple (Ct.of (BI _ _ AT));exact .tup p ds its Ax (al.length.trans C9.length) (TP al C9)
 |lst ds=>erw[At]at a;obtain⟨p,xs,rfl,AT,al⟩:=a;cases r;obtain⟨its,C9,Ax,_⟩:=I.list (C4.of (BI _ _ AT));exact .lst p ds its Ax.isList (al.length.trans C9.length) (TP al C9)
 |CO ds=>erw[At]at a;obtain⟨p,xs,rfl,AT,al⟩:=a;cases r;obtain⟨its,C9,Ax,_⟩:=I.list (C4.mono BI AT);exact .CO p ds its Ax.isList (al.length.trans C9.length) (TP al C9)
 |De ks xs=>cases n<;>cases ok
 |B5 ks xs=>cases n<;>cases ok
 |ins C ns xs=>cases n<;>cases ok
 |PX C=>cases n<;>cases ok
 |EI ds=>erw[At]at a;obtain⟨p,xs,rfl,AT,al⟩:=a;cases r;obtain⟨its,C9,Ax,_⟩:=I.tuple (Ct.mono BI AT);exact .EI p ds its Ax (al.length.trans C9.length) (TP al C9)
theorem c5:∀{xs ys:χ},xs.length≠ys.length->Dp xs ys=false
 |[],[],h=>absurd rfl h
 |[],_::_,_=>by erw[Dp]
 |_::_,[],_=>by erw[Dp]
 |x::xs,y::ys,h=>by erw[Dp];rw[c5 (λe=>h (by simp[e])),gc]
def MY(xs ys:χ)(j:Nat):Bool:=match xs[j]?,ys[j]? with
 |some x,some y=>CE x y
 |_,_=>true
def sx(f:Nat->Bool)(n:Nat):(DK (n+1)).all f=(f 0&&(DK n).all λj=>f (j+1)):=by rw[List.range_succ_eq_map,Qm,PF];rfl
theorem c6:∀{xs ys:χ},xs.length=ys.length->(DK xs.length).all (MY xs ys)=Dp xs ys
 |[],[],_=>by simp[Dp]
 |[],_::_,h=>by simp at h
 |_::_,[],h=>by simp at h
 |x::xs,y::ys,h=>by
  rw[HL,sx];have e:(λj=>MY (x::xs) (y::ys) (j+1))=MY xs ys:=by
   funext j
   simp[MY]
  rw[e,c6 (h:)];erw[Dp];rfl
def in1_units(A:Bt):A.in1.units=A.units+1:=rfl
def qN{A:Bt}{P:D->A4->Prop}{d1 Cm:D}{u v:A4}(A5:Ki s P d1 u)(A8:Ki s P Cm v)(Ci:HD d1=true)(Cj:HD Cm=true) :
  Uv A s u v (CE d1 Cm)/\YD A s u v (CE d1 Cm)/\Y1 A s u v (!CE d1 Cm):=by
 cases A5<;>cases A8<;>first
  |(cases Ci;done)
  |(cases Cj;done)
  |(erw[CE,PC,gb];refine⟨?_,?_,?_⟩<;>with_reducible first|exact .same _|exact .none_none|exact .none_bool _|exact .none_int _ _|exact .none_str _ _|exact .bool_none _|exact .bool_bool _ _|exact .bool_int _ _ _|exact .bool_str _ _ _|exact .int_none _ _|exact .int_bool _ _ _|exact .int_int _ _ _ _|exact .int_str _ _ _ _|exact .str_none _ _|exact .str_bool _ _ _|exact .str_int _ _ _ _|exact .str_str _ _ _ _)
def nD{A:Bt}{P:D->A4->Prop}{d1 Cm:D}{u v:A4}(BD:A.units<DH)(A5:Ki s P d1 u)(A8:Ki s P Cm v)(o:HD d1=true/\HD Cm=false\/HD d1=false/\HD Cm=true) :
  Uv A s u v (CE d1 Cm)/\YD A s u v (CE d1 Cm)/\Y1 A s u v (!CE d1 Cm):=by
 cases A5<;>cases A8<;>first
  |(rcases o with⟨Dw,Db⟩|⟨Dw,Db⟩<;>first|(cases Dw;done)|(cases Db;done))
  |(erw[CE,gb];refine⟨?_,?_,?_⟩<;>with_reducible first|exact .none_tuple ‹_› BD|exact .none_list ‹_› BD|exact .bool_tuple _ ‹_› BD|exact .bool_list _ ‹_› BD|exact .int_tuple _ _ ‹_› BD|exact .int_list _ _ ‹_› BD|exact .str_tuple _ _ ‹_› BD|exact .str_list _ _ ‹_› BD|exact .tuple_none ‹_› BD|exact .list_none ‹_› BD|exact .tuple_bool _ ‹_› BD|exact .list_bool _ ‹_› BD|exact .tuple_int _ _ ‹_› BD|exact .list_int _ _ ‹_› BD|exact .tuple_str _ _ ‹_› BD|exact .list_str _ _ ‹_› BD)
theorem j_:∀{xs ys:χ},xs.length=ys.length->(∀(i:Nat) x y,xs[i]?=some x->ys[i]?=some y->CE x y=true)->Dp xs ys=true
 |[],[],_,_=>by erw[Dp]
 |[],_::_,h,_=>by simp at h
 |_::_,[],h,_=>by simp at h
 |x::xs,y::ys,h,k=>by erw[Dp];rw[k 0 x y rfl rfl,j_ (h:) λi a b A7 AH=>k (i+1) a b (A7:) (AH:)];rfl
def qP{K:AZ}{d1 Cm:D}{x:V}(Ci:HD d1=true)(a1:At K G d1 x)(a2:At K G Cm x):CE d1 Cm=true:=by
 cases d1 with
 |non=>erw[At]at a1;subst a1;cases Cm<;>erw[At]at a2<;>first|(erw[CE];done)|(cases a2;done)|(obtain⟨a,xs,e,_⟩:=a2;cases e;done)|(obtain⟨a,Aj,xs,e,_⟩:=a2;cases e;done)
 |AV b=>erw[At]at a1;subst a1;cases Cm<;>erw[At]at a2<;>first|(cases a2;erw[CE,beq_self_eq_true];done)|(cases a2;done)|(obtain⟨a,xs,e,_⟩:=a2;cases e;done)|(obtain⟨a,Aj,xs,e,_⟩:=a2;cases e;done)
 |int b=>erw[At]at a1;subst a1;cases Cm<;>erw[At]at a2<;>first|(cases a2;erw[CE,beq_self_eq_true];done)|(cases a2;done)|(obtain⟨a,xs,e,_⟩:=a2;cases e;done)|(obtain⟨a,Aj,xs,e,_⟩:=a2;cases e;done)
 |str b=>erw[At]at a1;subst a1;cases Cm<;>erw[At]at a2<;>first|(cases a2;erw[CE,beq_self_eq_true];done)|(cases a2;done)|(obtain⟨a,xs,e,_⟩:=a2;cases e;done)|(obtain⟨a,Aj,xs,e,_⟩:=a2;cases e;done)
 |_=>cases Ci
def jY{d1 Cm:D}(Cj:HD Cm=true)(Ci:HD d1=false){K:AZ}{x:V}(a1:At K G d1 x)(a2:At K G Cm x):False:=by
 cases Cm<;>first
  |(cases Cj;done)
  |(erw[At]at a2;subst a2
    cases d1<;>first
     |(cases Ci;done)
     |(erw[At]at a1;obtain⟨a,xs,e,_⟩:=a1;cases e;done)
     |(erw[At]at a1;obtain⟨a,Aj,xs,e,_⟩:=a1;cases e;done))
inductive HP(K:AZ)(G:AA):D->A6->Bool->χ->List V->Prop where
 |tup {a ds xs} (h:Ct K G a xs) (q:AY K G ds xs):HP K G (.tup ds) a true ds xs
 |EI {a ds xs} (h:Ct K G a xs) (q:AY K G ds xs):HP K G (.EI ds) a true ds xs
 |lst {a ds xs} (h:G a=some (.lst xs)) (q:AY K G ds xs):HP K G (.lst ds) a false ds xs
 |CO {a ds xs} (h:C4 K G a xs) (q:AY K G ds xs):HP K G (.CO ds) a false ds xs
def U0{K:AZ}{n:Nat}{d:D}{x:V}(o:okN n d=true)(ns:HD d=false)(a:At K G d x):∃p b ds xs,x=.ref p/\HP K G d p b ds xs/\∃m,n=m+1/\ds.all (okN m)=true:=by
 cases d with
 |tup ds=>
  erw[At]at a;obtain⟨p,xs,e,h,q⟩:=a;cases n with
  |zero=>cases o
  |succ m=>exact⟨p,_,ds,xs,e,.tup (Ct.of h) q,m,rfl,o⟩
 |lst ds=>
  erw[At]at a;obtain⟨p,xs,e,h,q⟩:=a;cases n with
  |zero=>cases o
  |succ m=>exact⟨p,_,ds,xs,e,.lst h q,m,rfl,o⟩
 |CO ds=>
  erw[At]at a;obtain⟨p,xs,e,h,q⟩:=a;cases n with
  |zero=>cases o
  |succ m=>exact⟨p,_,ds,xs,e,.CO h q,m,rfl,o⟩
 |De _ _=>cases n<;>cases o
 |B5 _ _=>cases n<;>cases o
 |ins _ _ _=>cases n<;>cases o
 |PX _=>cases n<;>cases o
 |EI ds=>
  erw[At]at a;obtain⟨p,xs,e,h,q⟩:=a;cases n with
  |zero=>cases o
  |succ m=>exact⟨p,_,ds,xs,e,.EI h q,m,rfl,o⟩
 |_=>cases ns
def HP.Hi{K:AZ}{d:D}{p:A6}{b:Bool}{ds:χ}{xs:List V}(h:HP K G d p b ds xs):AY K G ds xs:=by cases h<;>assumption
def HP.eq{K:AZ}{d1 Cm:D}{Et DU:A6}{FV Ez:Bool}{Gg Gu:χ}{QF Ol:List V}(A5:HP K G d1 Et FV Gg QF)(A8:HP K G Cm DU Ez Gu Ol):CE d1 Cm=(FV==Ez&&Dp Gg Gu):=by cases A5<;>cases A8<;>simp[CE]
theorem HP.heap(I:π)(BI:Sub G H){d:D}{p:A6}{b:Bool}{ds:χ}{xs:List V}(h:HP X.K G d p b ds xs) :
  ∃its:List A4,Vals xs its/\(b=true->s.heap.IsTuple p its.toArray)/\(b=false->s.heap.IsList p its.toArray):=by
 cases h with
 |tup h q=>obtain⟨its,C9,Ax,_⟩:=I.tuple (Ct.mono BI h);exact⟨its,C9,λ_=>Ax,λz=>by cases z⟩
 |EI h q=>obtain⟨its,C9,Ax,_⟩:=I.tuple (Ct.mono BI h);exact⟨its,C9,λ_=>Ax,λz=>by cases z⟩
 |lst h q=>obtain⟨its,C9,Ax,_⟩:=I.list (C4.of (BI _ _ h));exact⟨its,C9,(λz=>by cases z),λ_=>Ax.isList⟩
 |CO h q=>obtain⟨its,C9,Ax,_⟩:=I.list (C4.mono BI h);exact⟨its,C9,(λz=>by cases z),λ_=>Ax.isList⟩
def HP.same(I:π)(BI:Sub G H){d1 Cm:D}{p:A6}{FV Ez:Bool}{Gg Gu:χ}{QF Ol:List V}(A5:HP X.K G d1 p FV Gg QF)(A8:HP X.K G Cm p Ez Gu Ol):FV=Ez/\QF=Ol:=by
 obtain⟨Pi,AL,t1,F1⟩:=A5.heap I BI;obtain⟨J8,BA,DO,DJ⟩:=A8.heap I BI;cases FV with
 |true=>
  cases Ez with
  |false=>exact absurd rfl (sA (DJ rfl) (t1 rfl))
  |true=>
   refine⟨rfl,?_⟩;cases A5<;>cases A8<;>
   exact I.et (Ct.mono BI (by assumption)) (Ct.mono BI (by assumption))
 |false=>
  cases Ez with
  |true=>exact absurd rfl (sA (F1 rfl) (DO rfl))
  |false=>
   refine⟨rfl,?_⟩;have g1:C4 X.K H p QF:=by
    cases A5 with
    |lst h q=>exact C4.of (BI _ _ h)
    |CO h q=>exact C4.mono BI h
   have g2:C4 X.K H p Ol:=by
    cases A8 with
    |lst h q=>exact C4.of (BI _ _ h)
    |CO h q=>exact C4.mono BI h
   exact I.ci g1 g2
def Tg{f:D->Bool}{ds:χ}(h:ds.all f=true){i:Nat}{d:D}(e:ds[i]?=some d):f d=true:=List.all_eq_true.mp h d (HY e)
def t9(I:π)(BI:Sub G H):∀(n:Nat){d1 Cm:D}{x:V},okN n d1=true->okN n Cm=true->At X.K G d1 x->At X.K G Cm x->CE d1 Cm=true:=by
 intro n;induction n with
 |zero=>intro d1 Cm x Ci Cj a1 a2;exact qP (by cases d1<;>first|rfl|(cases Ci)) a1 a2
 |succ n BW=>
  intro d1 Cm x Ci Cj a1 a2;cases s1:HD d1 with
  |true=>exact qP s1 a1 a2
  |false=>
   cases s2:HD Cm with
   |true=>exact(jY s2 s1 a1 a2).elim
   |false=>
    obtain⟨Et,FV,Gg,QF,A7,Al,Fk,kC,k1⟩:=U0 Ci s1 a1;obtain⟨DU,Ez,Gu,Ol,AH,BN,FY,jO,k2⟩:=U0 Cj s2 a2;subst A7;cases AH;have:n=Fk:=δ
    subst this;have:n=FY:=δ
    subst this;obtain⟨Bh,ex⟩:=Al.same I BI BN;subst Bh;subst ex;rw[Al.eq BN,beq_self_eq_true,Y3];refine j_ (Al.Hi.length.trans BN.Hi.length.symm) λi a b Av Bh=>?_;obtain⟨v,ev,B4⟩:=Al.Hi.get Av;obtain⟨Lo,VL,bv⟩:=BN.Hi.get Bh;rw[ev]at VL;cases VL;exact BW (Tg k1 Av) (Tg k2 Bh) B4 bv
def c4(I:π)(BI:Sub G H):∀(n:Nat){d1 Cm:D}{u v:A4}{A:Bt},okN n d1=true->okN n Cm=true->N3 X.K G d1 u->N3 X.K G Cm v->A.units+n<DH->
  Uv A s u v (CE d1 Cm)/\YD A s u v (CE d1 Cm)/\Y1 A s u v (!CE d1 Cm):=by
 intro n;induction n with
 |zero=>
  intro d1 Cm u v A Ci Cj a1 a2 BD;refine qN (QQ I BI Ci a1) (QQ I BI Cj a2) ?_ ?_
  .cases d1<;>first|rfl|(cases Ci)
  .cases Cm<;>first|rfl|(cases Cj)
 |succ n BW=>
  intro d1 Cm u v A Ci Cj a1 a2 BD;have LQ:A.units<DH:=δ
  cases s1:HD d1 with
  |true=>
   cases s2:HD Cm with
   |true=>exact qN (QQ I BI Ci a1) (QQ I BI Cj a2) s1 s2
   |false=>exact nD LQ (QQ I BI Ci a1) (QQ I BI Cj a2) (.inl ⟨s1,s2⟩)
  |false=>
   cases s2:HD Cm with
   |true=>exact nD LQ (QQ I BI Ci a1) (QQ I BI Cj a2) (.inr ⟨s1,s2⟩)
   |false=>
    obtain⟨E2,HQ,ae0⟩:=a1;obtain⟨E3,at2,ae1⟩:=a2;obtain⟨Et,FV,Gg,QF,A7,Al,Fk,kC,k1⟩:=U0 Ci s1 HQ;obtain⟨DU,Ez,Gu,Ol,AH,BN,FY,jO,k2⟩:=U0 Cj s2 at2;subst A7;subst AH;cases ae0;cases ae1;have:n=Fk:=δ
    subst this;have:n=FY:=δ
    subst this;obtain⟨Pi,AL,t1,F1⟩:=Al.heap I BI;obtain⟨J8,BA,DO,DJ⟩:=BN.heap I BI;have Ss:Gg.length=Pi.length:=Al.Hi.length.trans AL.length;have Wl:Gu.length=J8.length:=BN.Hi.length.trans BA.length;have item:∀j(A5:j<Pi.toArray.size)(A8:j<J8.toArray.size),Uv A.in1 s Pi.toArray[j] J8.toArray[j] (MY Gg Gu j):=λj A5 A8=>by
     have NE:j<Gg.length:=by rw[Ss];simpa using A5
     have TQ:j<Gu.length:=by rw[Wl];simpa using A8
     have g1:N3 X.K G Gg[j] Pi.toArray[j]:=TP Al.Hi AL j _ _ (DV NE) (by simp at A5;simp[A5]);have g2:N3 X.K G Gu[j] J8.toArray[j]:=TP BN.Hi BA j _ _ (DV TQ) (by simp at A8;simp[A8]);have:=(BW (A:=A.in1) (Tg k1 (DV NE)) (Tg k2 (DV TQ)) g1 g2 (by rw[in1_units];lia)).1;unfold MY;rw[DV NE,DV TQ];exact this
    have whole:YD A s (.ref Et) (.ref DU) (CE d1 Cm)/\Y1 A s (.ref Et) (.ref DU) (!CE d1 Cm):=by
     rw[Al.eq BN];cases FV with
     |true=>
      cases Ez with
      |false=>exact⟨SeqAt.RcAt.tuple_list (t1 rfl) (DJ rfl) LQ,SeqAt.RcNeAt.tuple_list (t1 rfl) (DJ rfl) LQ⟩
      |true=>
       have B_:=SeqAt.RcAt.tuples (e:=MY Gg Gu) (t1 rfl) (DO rfl) LQ item;have EQ:=SeqAt.RcNeAt.tuples (e:=MY Gg Gu) (t1 rfl) (DO rfl) LQ item;have eq:((DK (min Pi.toArray.size J8.toArray.size)).all (MY Gg Gu)&&Pi.toArray.size==J8.toArray.size)=(true==true&&Dp Gg Gu):=by
        rw[Dx,Dx,<-Ss,<-Wl,beq_self_eq_true,Y3];by_cases AP:Gg.length=Gu.length
        .rw[<-AP,Nat.min_self,c6 AP,beq_self_eq_true,S_]
        .rw[c5 AP];have:(Gg.length==Gu.length)=false:=by simpa using AP
         rw[this,gc]
       rw[eq]at B_;refine⟨B_,?_⟩
       first
        |(rw[eq]at EQ;exact EQ)
        |exact EQ
     |false=>
      cases Ez with
      |true=>exact⟨SeqAt.RcAt.list_tuple (F1 rfl) (DO rfl) LQ,SeqAt.RcNeAt.list_tuple (F1 rfl) (DO rfl) LQ⟩
      |false=>
       rw[beq_self_eq_true,Y3];by_cases AP:Gg.length=Gu.length
       .have B_:=SeqAt.RcAt.lists (e:=MY Gg Gu) (F1 rfl) (DJ rfl) (by rw[Dx,Dx,<-Ss,<-Wl];exact AP) LQ item;have EQ:=SeqAt.RcNeAt.lists (e:=MY Gg Gu) (F1 rfl) (DJ rfl) (by rw[Dx,Dx,<-Ss,<-Wl];exact AP) LQ item;rw[Dx,<-Ss,c6 AP]at B_ EQ;exact⟨B_,EQ⟩
       .have Ao:(Pi.toArray.size !=J8.toArray.size)=true:=by
          rw[Dx,Dx,<-Ss,<-Wl];simpa using AP
        rw[c5 AP];exact⟨SeqAt.RcAt.lists_lengths (F1 rfl) (DJ rfl) Ao LQ,SeqAt.RcNeAt.lists_lengths (F1 rfl) (DJ rfl) Ao LQ⟩
    refine⟨?_,whole⟩;by_cases AX:Et=DU
    .subst AX;rw[t9 I BI (n+1) Ci Cj HQ at2];exact SeqAt.EqAt.same _
    .exact SeqAt.EqAt.of_refs AX whole.1
end
def notStar:AS->Bool
 |.Starred .. =>false
 |_=>true
def agD(e:AS)(A2:List AS)(env:Env)(h:notStar e=true):B9 (e::A2) env=(false,BH e env)::B9 A2 env:=by cases e<;>first|rfl|(cases h)
def Oa:AS->Bool
 |.ListComp .. =>false
 |.SetComp .. =>false
 |.DictComp .. =>false
 |_=>true
def MG(e:AS)(t:Option AS)(l:Nat)(env:Env)(h:Oa e=true):M6 e t l env=pure false:=by cases e<;>first|rfl|(cases h)
def acM:AS->Bool
 |.Slice .. =>false
 |_=>true
def Cd{b:AS}(h:acM b=true:=by rfl):hq b:=λo i=>by cases b<;>first|rfl|(cases h)
section
variable{X:Ad}{F:B6}{e a b c:AS}{A2:List AS}{pos:Pos}
def Ay.imp{t t':TE}(h:Ay X e t)(i:EO t' t):Ay X e t':=λpins s σ H Q I hw=>h pins s σ H Q I (i σ H Q hw)
def FH.imp{t t':TT}(h:FH X e t)(i:O8 t' t):FH X e t':=λpins s σ H Q I hw=>h pins s σ H Q I (i σ H Q hw)
def H5.imp{t t':TT}(h:H5 X e t)(i:O8 t' t):H5 X e t':=λRQ pins s σ H Q I hw=>h RQ pins s σ H Q I (i σ H Q hw)
def G5.imp{t t':En}(h:G5 X A2 t)(i:YY t' t):G5 X A2 t':=λp pins s σ H Q I hw=>h p pins s σ H Q I (i σ H Q hw)
def Cz.imp{st:BZ}{t t':F4}(h:Cz X st t)(i:Hf t' t):Cz X st t':=λpins s σ H CP I hw=>h pins s σ H CP I (i CP σ H hw)
def Gb.imp{st:List BZ}{t t':F4}(h:Gb X st t)(i:Hf t' t):Gb X st t':=λpins s σ H CP I hw=>h pins s σ H CP I (i CP σ H hw)
def G6.imp{Bj:AS}{t t':TI}(h:G6 X Bj e t)(i:O7 t' t):G6 X Bj e t':=λpins s σ H Q I hw=>h pins s σ H Q I (i σ H Q hw)
abbrev JO(X:Ad)(F:B6)(e:AS)(m:A_):Prop:=Ay X e (Cg F m)
abbrev i9(X:Ad)(F:B6)(e:AS)(m:Ap):Prop:=Ay X e (Ht F m)
abbrev j1(X:Ad)(F:B6)(e:AS)(m:CG):Prop:=FH X e (GW F m)
abbrev i3(X:Ad)(F:B6)(A2:List AS)(m:Ap):Prop:=G5 X A2 (EU F m)
abbrev ix(X:Ad)(F:B6)(st:BZ)(m:As):Prop:=Cz X st (FP F m)
abbrev tI(X:Ad)(F:B6)(st:List BZ)(m:As):Prop:=Gb X st (FP F m)
abbrev V6(X:Ad)(F:B6)(Bj e:AS)(m:Ap):Prop:=G6 X Bj e (Ku F m)
def ve{x:Str}{v:V}{u:A4}{d:D}(hm:X.mg x=some u)(r:RelV v u)(at':∀G,At F.K G d v)(Aa:Dg X x:=by rfl)(hd:ι:=by decide):JO X F (.Name x pos) (AD d):=
 Ay.imp (o9 Aa hm r hd) (Wc at')
variable{st:BZ}{N5:List BZ}
def Qu{op:Operator}{r:F3}{f:D->D->R D}{m n:A_}(AN:E7 X (M9 op) r)(hf:Hh F r f)(AB:JO X F a m)(J:JO X F b n):JO X F (.BinOp a op b pos) (A9 f m n):=Ay.imp (eA AN AB J) (Z6 hf)
def Zh{op:Kc}{r:F3}{f:D->D->R D}{m n:A_}(AN:E7 X (GG op) r)(hf:Hh F r f)(AB:JO X F a m)(J:JO X F b n)(hm:IL op b=false):JO X F (.Compare a [op] [b] pos) (A9 f m n):=Ay.imp (adC AN AB J hm) (Z6 hf)
def QV{op:Kc}{r:F3}{f:D->D->R D}{m n:A_}(AN:E7 X (GG op) r)(hf:Hh F r f)(AB:JO X F a m)(J:JO X F b n)(hm:IL op b=false):j1 X F (.Compare a [op] [b] pos) (BF (A9 f m n)):=
 FH.imp (acU AN AB J hm) λσ H Q h=>by obtain⟨G,ρ,r,k⟩:=lz (F:=F) (m:=A9 f m n) σ H Q h;exact Z6 hf σ H _ ⟨G,ρ,r,k⟩
def vf{op:UnaryOp}{r:V->AA->CQ->Prop}{f:D->R D}{m:A_}(AN:Yd X (unaryOp op) r)(hf:j4 F r f)(AB:JO X F a m):JO X F (.UnaryOp op a pos) (Ch f m):=Ay.imp (adS AN AB) (zQ hf)
def LR(f:Int->Int->R D):D->D->R D
 |.int i,.int j=>f i j
 |_,_=>.bad
def WY{g:Int->Int->V}{f:Int->Int->D}(h:∀i j G,At F.K G (f i j) (g i j)):Hh F (MD g) (LR λi j=>.ok (f i j)):=by
 intro σ ρ G H x y Aj Gh Q r Bu Ck k;unfold LR at k
 split at k
 .rename_i i j;erw[At]at Bu Ck;exact⟨i,j,Bu,Ck,k _ H G r (C5.refl _ _) (h i j G)⟩
 .exact k.elim
def UR{C:Int->Int->Prop}[∀i j,Decidable (C i j)]{g:Int->Int->V}{f:Int->Int->D}(h:∀i j G,At F.K G (f i j) (g i j)):Hh F (Tv C g) (LR λi j=>if C i j then .ok (f i j)else .bad):=by
 intro σ ρ G H x y Aj Gh Q r Bu Ck k;unfold LR at k
 split at k
 .rename_i i j;erw[At]at Bu Ck;dsimp only at k
  split at k
  .rename_i AO;exact⟨i,j,Bu,Ck,AO,k _ H G r (C5.refl _ _) (h i j G)⟩
  .exact k.elim
 .exact k.elim
instance(i j:Int):Decidable (Yw i j):=by unfold Yw;infer_instance
instance(i j:Int):Decidable (Yx i j):=by unfold Yx;infer_instance
instance(i j:Int):Decidable (TW i j):=by unfold TW;infer_instance
def QT:=LR λi j=>.ok (.int (i-j))
def Mf:=LR λi j=>if TW i j then .ok (.int (i*j))else .bad
def ER:=LR λi j=>if Yw i j then .ok (.int (i/j))else .bad
def Cy:=LR λi j=>if 0<j then .ok (.int (i%j))else .bad
def Og:=LR λi j=>if Yx i j then .ok (.int (i^j.toNat))else .bad
def Wn:=LR λi j=>.ok (.AV (decide (i<j)))
def SF:=LR λi j=>.ok (.AV (decide (i<=j)))
def VS:=LR λi j=>.ok (.AV (decide (j<i)))
variable{m n:A_}
def NS:D->R D
 |.int i=>.ok (.int (-i))
 |_=>.bad
noncomputable def DP:D->D->R D
 |.int i,.int j=>.ok (.int (i+j))
 |.str x,.str y=>if x.length+y.length<=1000000 then .ok (.str (x++y))else .bad
 |.lst xs,.lst ys=>if xs.length+ys.length<=1000000 then .ok (.lst (xs++ys))else .bad
 |_,_=>.bad
def abj:Hh F (λx y H Q=>MD (λi j=>.int (i+j)) x y H Q\/(∃i j,x=.str i/\y=.str j/\i.length+j.length<=CK/\Q (.str (i++j)) H)\/nd x y H Q) DP:=by
 intro σ ρ G H x y Aj Gh Q r Bu Ck k;unfold DP at k
 split at k
 .rename_i i j;erw[At]at Bu Ck;exact .inl ⟨i,j,Bu,Ck,k _ H G r (C5.refl _ _) ζ⟩
 .rename_i i j;erw[At]at Bu Ck
  split at k
  .rename_i AP;exact .inr (.inl ⟨i,j,Bu,Ck,Fp AP ε,k _ H G r (C5.refl _ _) ζ⟩)
  .exact k.elim
 .rename_i ds A2;erw[At]at Bu Ck
  split at k
  .rename_i AP;obtain⟨p,xs,A7,A5,Al⟩:=Bu;obtain⟨DU,ys,AH,A8,BN⟩:=Ck;refine .inr (.inr ⟨p,DU,xs,ys,A7,AH,r.kp.sub _ _ A5,r.kp.sub _ _ A8,by rw[<-Al.length,<-BN.length];exact Fp AP ε,λl AQ=>?_⟩);refine k (.ref l) _ _ (r.lay AQ) (C5.lay r.kp.sub AQ) ?_;erw[At];exact⟨l,xs++ys,rfl,Do,(Al.append BN).mono (Sub.upd (r.kp.sub.gone AQ))⟩
  .exact k.elim
 .exact k.elim
def Bi(b:Bool)(x y:D):R D:=if okN 8 x=true/\okN 8 y=true then .ok (.AV (if b then CE x y else !CE x y))else .bad
def eH(F:B6)(b:Bool):F3:=λx y H Q=>∃G d1 Cm,Sub G H/\At F.K G d1 x/\At F.K G Cm y/\okN 8 d1=true/\okN 8 Cm=true/\Q (.AV (if b then CE d1 Cm else !CE d1 Cm)) H
def mO(Ar:F.K=X.K)(BD:X.A.units+64<DH):E7 X (GG .Eq) (eH F true):=by intro pins s σ H x y v u Q I BS C0 h;obtain⟨G,d1,Cm,BI,a1,a2,Ci,Cj,q⟩:=h;rw[Ar]at a1 a2;exact(c4 I BI 8 (A:=X.A) Ci Cj ⟨x,a1,BS⟩ ⟨y,a2,C0⟩ δ).2.1 X.prog X.w X.xe _ ⟨.AV _,H,I,rfl,q⟩
def mT(Ar:F.K=X.K)(BD:X.A.units+64<DH):E7 X (GG .NotEq) (eH F false):=by intro pins s σ H x y v u Q I BS C0 h;obtain⟨G,d1,Cm,BI,a1,a2,Ci,Cj,q⟩:=h;rw[Ar]at a1 a2;exact(c4 I BI 8 (A:=X.A) Ci Cj ⟨x,a1,BS⟩ ⟨y,a2,C0⟩ δ).2.2 X.prog X.w X.xe _ ⟨.AV _,H,I,rfl,q⟩
def aK(b:Bool):Hh F (eH F b) (Bi b):=by
 intro σ ρ G H x y Aj Gh Q r Bu Ck k;unfold Bi at k
 split at k
 .rename_i AN;exact⟨G,Aj,Gh,r.kp.sub,Bu,Ck,AN.1,AN.2,k _ H G r (C5.refl _ _) ζ⟩
 .exact k.elim
end
section
variable{X:Ad}{F:B6}{e a b c:AS}{A2:List AS}{pos:Pos}{m n:A_}
theorem ja:∀{ds ds':χ},ds.length=ds'.length->(∀(i:Nat) x y,ds[i]?=some x->ds'[i]?=some y->∀z,CE x z=CE y z)->∀A2,Dp ds A2=Dp ds' A2
 |[],[],_,_,_=>rfl
 |[],_::_,h,_,_=>by simp at h
 |_::_,[],h,_,_=>by simp at h
 |x::xs,y::ys,h,k,[]=>by erw[Dp]
 |x::xs,y::ys,h,k,e::A2=>by erw[Dp];rw[k 0 x y rfl rfl e,ja (h:) (λi a b A7 AH=>k (i+1) a b (A7:) (AH:)) A2]
def qO{K:AZ}{G:AA}{d d':D}{x:V}(o:HD d=true)(a1:At K G d x)(a2:At K G d' x):d=d':=by
 cases d with
 |non=>erw[At]at a1;subst a1;cases d'<;>erw[At]at a2<;>first|rfl|(cases a2;done)|(obtain⟨a,xs,e,_⟩:=a2;cases e;done)|(obtain⟨a,Aj,xs,e,_⟩:=a2;cases e;done)
 |AV b=>erw[At]at a1;subst a1;cases d'<;>erw[At]at a2<;>first|(cases a2;rfl)|(cases a2;done)|(obtain⟨a,xs,e,_⟩:=a2;cases e;done)|(obtain⟨a,Aj,xs,e,_⟩:=a2;cases e;done)
 |int b=>erw[At]at a1;subst a1;cases d'<;>erw[At]at a2<;>first|(cases a2;rfl)|(cases a2;done)|(obtain⟨a,xs,e,_⟩:=a2;cases e;done)|(obtain⟨a,Aj,xs,e,_⟩:=a2;cases e;done)
 |str b=>erw[At]at a1;subst a1;cases d'<;>erw[At]at a2<;>first|(cases a2;rfl)|(cases a2;done)|(obtain⟨a,xs,e,_⟩:=a2;cases e;done)|(obtain⟨a,Aj,xs,e,_⟩:=a2;cases e;done)
 |_=>cases o
def HP.val{K:AZ}{G:AA}{d:D}{p:A6}{b:Bool}{ds:χ}{xs:List V}(h:HP K G d p b ds xs)(e:D):CE d e=match e with
  |.tup A2=>b&&Dp ds A2
  |.EI A2=>b&&Dp ds A2
  |.lst A2=>!b&&Dp ds A2
  |.CO A2=>!b&&Dp ds A2
  |_=>false:=by
 cases h<;>cases e<;>simp[CE]
section
variable{pins:υ}{σ :St}{H G:AA}{s:AM}
def t8(I:π)(BI:Sub G H):∀(n:Nat){d d':D}{x:V},okN n d=true->okN n d'=true->At X.K G d x->At X.K G d' x->∀e,CE d e=CE d' e:=by
 intro n;induction n with
 |zero=>intro d d' x Ci Cj a1 a2 e;rw[qO (by cases d<;>first|rfl|(cases Ci)) a1 a2]
 |succ n BW=>
  intro d d' x Ci Cj a1 a2 e;cases s1:HD d with
  |true=>rw[qO s1 a1 a2]
  |false=>
   cases s2:HD d' with
   |true=>exact(jY s2 s1 a1 a2).elim
   |false=>
    obtain⟨Et,FV,Gg,QF,A7,Al,Fk,kC,k1⟩:=U0 Ci s1 a1;obtain⟨DU,Ez,Gu,Ol,AH,BN,FY,jO,k2⟩:=U0 Cj s2 a2;subst A7;cases AH;have:n=Fk:=δ
    subst this;have:n=FY:=δ
    subst this;obtain⟨Bh,ex⟩:=Al.same I BI BN;subst Bh;subst ex;have el:∀A2,Dp Gg A2=Dp Gu A2:=ja (Al.Hi.length.trans BN.Hi.length.symm) λi a b Av Bh z=>by obtain⟨v,ev,B4⟩:=Al.Hi.get Av;obtain⟨Lo,VL,bv⟩:=BN.Hi.get Bh;rw[ev]at VL;cases VL;exact BW (Tg k1 Av) (Tg k2 Bh) B4 bv z
    rw[Al.val,BN.val];cases e<;>first|rfl|(erw[el])
open Classical in
noncomputable def MN(K:AZ)(G:AA)(d:D)(u:A4):Bool:=if h:∃d',okN 7 d'=true/\N3 K G d' u then CE (sX h) d else false
def h7(I:π)(BI:Sub G H){d d1:D}{u:A4}(o:okN 7 d=true)(h:N3 X.K G d u):MN X.K G d1 u=CE d d1:=by have AJ:∃d',okN 7 d'=true/\N3 X.K G d' u:=⟨d,o,h⟩;unfold MN;rw[dif_pos AJ];obtain⟨Bo,h'⟩:=g9 AJ;obtain⟨x,a,r⟩:=h;obtain⟨U7,Ix,BB⟩:=h';have:U7=x:=BB.inj r;subst this;exact t8 I BI 7 Bo o Ix a d1
theorem h8(I:π)(BI:Sub G H){d1:D}:∀{ds:χ}{xs:List V}{its:List A4},AY X.K G ds xs->Vals xs its->ds.all (okN 7)=true->its.any (MN X.K G d1)=ds.any λy=>CE y d1
 |[],_,_,q,r,_=>by erw[AY]at q;subst q;cases r;rfl
 |d::ds,_,_,q,r,o=>by
  erw[AY]at q;obtain⟨v,Kv,rfl,B4,MO⟩:=q;cases r with
  |cons AL BA=>rw[Qm,FR]at o;rw[N0,N0,h7 I BI o.1 ⟨v,B4,AL⟩,h8 I BI MO BA o.2]
theorem a5(I:π)(BI:Sub G H){d1:D}{x:V}{v:A4}{A:Bt}(BD:A.units+8<DH)(Ci:okN 7 d1=true)(a1:At X.K G d1 x)(BS:RelV x v):∀{ds:χ}{xs:List V}{its:List A4},AY X.K G ds xs->Vals xs its->ds.all (okN 7)=true->
  ∀u∈its,Uv A s u v (MN X.K G d1 u)
 |[],_,_,q,r,_=>by erw[AY]at q;subst q;cases r;exact λu BD=>nomatch BD
 |d::ds,_,_,q,r,o=>by
  erw[AY]at q;obtain⟨w,wr,rfl,B4,MO⟩:=q;cases r with
  |cons AL BA=>
   rw[Qm,FR]at o;intro FE hm;rcases List.mem_cons.mp hm with e|hm
   .subst e;rw[h7 I BI o.1 ⟨w,B4,AL⟩];exact(c4 I BI 7 (A:=A) o.1 Ci ⟨w,B4,AL⟩ ⟨x,a1,BS⟩ δ).1
   .exact a5 I BI BD Ci a1 BS MO BA o.2 FE hm
end
def NW:D->Option χ
 |.tup ys=>some ys
 |.EI ys=>some ys
 |.lst ys=>some ys
 |.CO ys=>some ys
 |_=>none
def inD(b:Bool)(x y:D):R D:=match NW y with
 |some ys=>if okN 7 x=true/\ys.all (okN 7)=true then .ok (.AV (if b then ys.any (λy=>CE y x)else !ys.any λy=>CE y x))else .bad
 |none=>.bad
noncomputable def eI(F:B6)(b:Bool):F3:=λx y H Q=>∃G d1 Cm p ds xs k,Sub G H/\At F.K G d1 x/\y=.ref p/\HP F.K G Cm p k ds xs/\okN 7 d1=true/\ds.all (okN 7)=true/\Q (.AV (if b then ds.any (λy=>CE y d1)else !ds.any λy=>CE y d1)) H
def mP(Ar:F.K=X.K)(BD:X.A.units+64<DH):E7 X (GG .In) (eI F true):=by
 intro pins s σ H x y v u Q I BS C0 h;obtain⟨G,d1,Cm,p,ds,xs,k,BI,a1,rfl,Fl,Ci,Cj,q⟩:=h;rw[Ar]at a1 Fl;cases C0;obtain⟨its,AL,t1,F1⟩:=Fl.heap I BI;have q:Q (.AV (ds.any λy=>CE y d1)) H:=q;rw[<-h8 I BI Fl.Hi AL Cj]at q;have hm:=a5 I BI (A:=X.A.in1) (d1:=d1) (by rw[in1_units];lia) Ci a1 BS Fl.Hi AL Cj;cases k with
 |true=>exact SeqAt.in_tupleAt (MN X.K G d1) (t1 rfl) (λw hw=>hm w (hw:)) ⟨.AV _,H,I,rfl,(q:)⟩
 |false=>exact SeqAt.in_listAt (MN X.K G d1) (F1 rfl) (λw hw=>hm w (hw:)) ⟨.AV _,H,I,rfl,(q:)⟩
def ac3(Ar:F.K=X.K)(BD:X.A.units+64<DH):E7 X (GG .NotIn) (eI F false):=by
 intro pins s σ H x y v u Q I BS C0 h;obtain⟨G,d1,Cm,p,ds,xs,k,BI,a1,rfl,Fl,Ci,Cj,q⟩:=h;rw[Ar]at a1 Fl;cases C0;obtain⟨its,AL,t1,F1⟩:=Fl.heap I BI;have q:Q (.AV (!ds.any λy=>CE y d1)) H:=q;rw[<-h8 I BI Fl.Hi AL Cj]at q;have hm:=a5 I BI (A:=X.A.in1) (d1:=d1) (by rw[in1_units];lia) Ci a1 BS Fl.Hi AL Cj;cases k with
 |true=>exact SeqAt.notIn_tupleAt (MN X.K G d1) (t1 rfl) (λw hw=>hm w (hw:)) ⟨.AV _,H,I,rfl,(q:)⟩
 |false=>exact SeqAt.notIn_listAt (MN X.K G d1) (F1 rfl) (λw hw=>hm w (hw:)) ⟨.AV _,H,I,rfl,(q:)⟩
def aef{K:AZ}{G:AA}{d:D}{x:V}{ds:χ}(e:NW d=some ds)(a:At K G d x):∃p xs k,x=.ref p/\HP K G d p k ds xs:=by
 cases d<;>first
  |(cases e;done)
  |(cases e
    erw[At]at a;obtain⟨p,xs,e,h,q⟩:=a
    first
     |exact⟨p,xs,_,e,.tup (Ct.of h) q⟩
     |exact⟨p,xs,_,e,.EI h q⟩
     |exact⟨p,xs,_,e,.lst h q⟩
     |exact⟨p,xs,_,e,.CO h q⟩)
def dz(b:Bool):Hh F (eI F b) (inD b):=by
 intro σ ρ G H x y Aj Gh Q r Bu Ck k;unfold inD at k;cases e:NW Gh with
 |none=>rw[e]at k;cases k
 |some ys=>
  rw[e]at k;dsimp only at k
  split at k
  .rename_i AN;obtain⟨p,xs,Bp,DZ,Fl⟩:=aef e Ck;exact⟨G,Aj,Gh,p,ys,xs,Bp,r.kp.sub,Bu,DZ,Fl,AN.1,AN.2,k _ H G r (C5.refl _ _) ζ⟩
  .exact k.elim
def K9:D->Bool
 |.non=>true
 |_=>false
def Hp(b:Bool):D->D->R D
 |x,.non=>.ok (.AV (if b then K9 x else !K9 x))
 |_,_=>.bad
def d5{K:AZ}{G:AA}{d:D}{x:V}(a:At K G d x):K9 d=decide (x=.non):=by
 cases d<;>erw[At]at a<;>first
  |(subst a;simp[K9];done)
  |(obtain⟨p,xs,e,_⟩:=a;subst e;simp[K9];done)
  |(obtain⟨p,Aj,xs,e,_⟩:=a;subst e;simp[K9];done)
def OU(f g:D->D->R D)(a b c:A_):A_:=λρ=>(a ρ).bind λx=>(b ρ).bind λy=>(f x y).bind λz=>(MP z).bind λk=>if k=true then(c ρ).bind λw=>g y w else .ok (.AV false)
def m3{r BB:F3}{f g:D->D->R D}{l:A_}(hf:Hh F r f)(Aa:Hh F BB g):EO (Cg F (OU f g m n l)) (f_ r BB (Cg F m) (Cg F n) (Cg F l)):=by
 delta OU W8;refine rb h λAj Av h x H1 Ai AL s1 Bu=>?_;refine⟨Ai,ρ,AL,?_⟩;refine rb h λGh Bh h y B7 Cw BA s2 Ck=>?_;refine hf σ ρ Cw B7 x y Aj Gh _ BA (Bu.mono s2.g) Ck ?_;refine rb h λvX D2 h z Cx H3 E9 s3 Q9=>?_;cases vX with
 |AV k=>
  erw[At]at Q9;refine⟨k,Q9,?_⟩;have h:Ie F G H σ ρ Q (if k=true then(l ρ).bind λw=>g Gh w else .ok (.AV false)):=h;cases k with
  |false=>rw[if_neg Fq]at h |-;exact h _ Cx H3 E9 (s1.trans (s2.trans s3)) ζ
  |true=>rw[if_pos rfl]at h |-;refine⟨H3,ρ,E9,?_⟩;refine rb h λvW ec h w HN V3 Oi s4 Oo=>?_;exact Aa σ ρ V3 HN y w Gh vW Q Oi ((Ck.mono s3.g).mono s4.g) Oo (h.mono (s1.trans (s2.trans (s3.trans s4))))
 |_=>cases h
def abn:Hh F (MD λi j=>.AV (decide (i<j))) Wn:=WY λ_ _ _=>ζ
def WZ:Hh F (MD λi j=>.AV (decide (i<=j))) SF:=WY λ_ _ _=>ζ
end
section
variable{X:Ad}{F:B6}{e a b c:AS}{A2:List AS}{pos p:Pos}{m n:A_}{ma:Ap}
def Bz(f:χ->R D)(m:Ap):A_:=λρ=>(m ρ).bind f
def Pv(F:B6)(r:List V->AA->CQ->Prop)(f:χ->R D):Prop:=∀ σ ρ G H xs ds Q,Rel F G H σ ρ->AY F.K G ds xs->Ie F G H σ ρ Q (f ds)->r xs H Q
def m2{r:List V->AA->CQ->Prop}{f:χ->R D}(hf:Pv F r f):EO (Cg F (Bz f ma)) (aw r (EU F ma)):=by delta Bz W8;refine rb h λds Av h vs H1 Ai AL s1 a=>?_;exact hf σ ρ Ai H1 vs ds Q AL a (h.mono s1)
def k9{x:Str}{id:String}{r:List V->AA->CQ->Prop}{f:χ->R D}(AO:HM X (.builtin id) r)(hf:Pv F r f)(hm:X.mg x=none)(BE:LM x=some (.builtin id))(AB:i3 X F (e::A2) ma)(Aa:Dg X x:=by rfl)(AQ:x≠"__name__":=by decide)(GB:ι:=by decide)(he:Cl:=by rfl)(DQ:(Cq pos (B9 A2 X.env)).any (·.1)=false:=by rfl):JO X F (.Call (.Name x p) (e::A2) [] pos) (Bz f ma):=
 Ay.imp (W2 AO Aa hm BE AB AQ GB he DQ) (m2 hf)
def bz{x:Str}{T:String}{r:List V->AA->CQ->Prop}{f:χ->R D}(AO:HM X (.type T) r)(hf:Pv F r f)(hm:X.mg x=none)(BE:LM x=some (.type T))(AB:i3 X F (e::A2) ma)(Aa:Dg X x:=by rfl)(AQ:x≠"__name__":=by decide)(GB:ι:=by decide)(he:Cl:=by rfl)(DQ:(Cq pos (B9 A2 X.env)).any (·.1)=false:=by rfl):JO X F (.Call (.Name x p) (e::A2) [] pos) (Bz f ma):=
 Ay.imp (e8 AO Aa hm BE AB AQ GB he DQ) (m2 hf)
noncomputable def CN:χ->R D
 |[.str x]=>if x.length<=1000000 then .ok (.int x.length)else .bad
 |[.lst xs]=>.ok (.int xs.length)
 |[.CO xs]=>.ok (.int xs.length)
 |[.tup xs]=>.ok (.int xs.length)
 |[.EI xs]=>.ok (.int xs.length)
 |_=>.bad
def AY.one{K:AZ}{G:AA}{d:D}{vs:List V}(a:AY K G [d] vs):∃v,vs=[v]/\At K G d v:=by erw[AY]at a;obtain⟨v,r,rfl,h,rfl⟩:=a;exact⟨v,rfl,h⟩
def AY.two{K:AZ}{G:AA}{d e:D}{vs:List V}(a:AY K G [d,e] vs):∃v w,vs=[v,w]/\At K G d v/\At K G e w:=by erw[AY]at a;obtain⟨v,r,rfl,h,w,BB,rfl,h',rfl⟩:=a;exact⟨v,w,rfl,h,h'⟩
def abm(Ar:F.K=X.K):Pv F (λxs H Q=>∃x n,xs=[x]/\io X.K x H n/\Q (.int n) H) CN:=by
 intro σ ρ G H xs ds Q r al k;unfold CN at k
 split at k
 .rename_i x;obtain⟨v,rfl,B4⟩:=al.one;erw[At]at B4;subst B4
  split at k
  .rename_i AP;exact⟨_,x.length,rfl,⟨Fp AP ε,rfl⟩,k _ H G r (C5.refl _ _) ζ⟩
  .exact k.elim
 .rename_i ys;obtain⟨v,rfl,B4⟩:=al.one;erw[At]at B4;obtain⟨q,xs,rfl,h,al⟩:=B4;rw[al.length]at k;exact⟨_,xs.length,rfl,.inl ⟨xs,C4.of (r.kp.sub _ _ h),rfl⟩,k _ H G r (C5.refl _ _) ζ⟩
 .rename_i ys;obtain⟨v,rfl,B4⟩:=al.one;erw[At]at B4;obtain⟨q,xs,rfl,h,al⟩:=B4;rw[al.length]at k;rw[Ar]at h;exact⟨_,xs.length,rfl,.inl ⟨xs,C4.mono r.kp.sub h,rfl⟩,k _ H G r (C5.refl _ _) ζ⟩
 .rename_i ys;obtain⟨v,rfl,B4⟩:=al.one;erw[At]at B4;obtain⟨q,xs,rfl,h,al⟩:=B4;rw[al.length]at k;exact⟨_,xs.length,rfl,.inr ⟨xs,Ct.of (r.kp.sub _ _ h),rfl⟩,k _ H G r (C5.refl _ _) ζ⟩
 .rename_i ys;obtain⟨v,rfl,B4⟩:=al.one;erw[At]at B4;obtain⟨q,xs,rfl,h,al⟩:=B4;rw[al.length]at k;rw[Ar]at h;exact⟨_,xs.length,rfl,.inr ⟨xs,Ct.mono r.kp.sub h,rfl⟩,k _ H G r (C5.refl _ _) ζ⟩
 .exact k.elim
noncomputable def XA:D->Option String
 |.non=>some "NoneType"
 |.AV _=>some "bool"
 |.int _=>some "int"
 |.str _=>some "str"
 |.lst _=>some "list"
 |.CO _=>some "list"
 |.tup _=>some "tuple"
 |.EI _=>some "tuple"
 |.De _ _=>some "dict"
 |.B5 _ _=>some "dict"
 |_=>none
def fW(T U:String):Bool:=T==U||(T=="bool"&&U=="int")
def Jd(U:String)(d:D):R D:=match XA d with
 |some T=>.ok (.AV (fW T U))
 |none=>.bad
def RG(K:AZ)(U:String):Prop:=∀T,T="NoneType"\/T="bool"\/T="int"\/T="str"\/T="list"\/T="tuple"\/T="dict"->PySem.W.kitOne K (.type T) (.type U)=some (fW T U)
def afp(K:AZ):RG K "int":=λT h=>by rcases h with rfl|rfl|rfl|rfl|rfl|rfl|rfl<;>kernel_rfl
def afo(K:AZ):RG K "bool":=λT h=>by rcases h with rfl|rfl|rfl|rfl|rfl|rfl|rfl<;>kernel_rfl
def afr(K:AZ):RG K "str":=λT h=>by rcases h with rfl|rfl|rfl|rfl|rfl|rfl|rfl<;>kernel_rfl
def afq(K:AZ):RG K "list":=λT h=>by rcases h with rfl|rfl|rfl|rfl|rfl|rfl|rfl<;>kernel_rfl
def afs(K:AZ):RG K "tuple":=λT h=>by rcases h with rfl|rfl|rfl|rfl|rfl|rfl|rfl<;>kernel_rfl
def z6{pins:υ}{σ :St}{H G:AA}{s:AM}{Q:ξ}{E:ξ}{d:D}{x:V}{u:A4}{T U:String}{k:Bool}(I:π)(BI:Sub G H)(at':At X.K G d x)(BS:RelV x u)(e:XA d=some T)(tt:PySem.W.kitOne X.K (.type T) (.type U)=some k)(h:∀BU,Q (.bool k) { s with toks:=BU }):AW ω X.A (call (.builtin "isinstance") [u,.type U]) Q E s:=by
 cases d with
 |non=>cases e;erw[At]at at';subst at';cases BS;exact Mw PySem.W.kitx_none I.EA M8 tt (λz=>nomatch z) h
 |AV b=>cases e;erw[At]at at';subst at';cases BS;exact Mw PySem.W.kitx_bool I.EA M8 tt (λz=>nomatch z) h
 |int b=>cases e;erw[At]at at';subst at';obtain⟨t,rfl⟩:=BS;exact Mw PySem.W.kitx_int I.EA M8 tt (λz=>nomatch z) h
 |str b=>cases e;erw[At]at at';subst at';obtain⟨t,rfl⟩:=BS;exact Mw PySem.W.kitx_str I.EA M8 tt (λz=>nomatch z) h
 |lst ds=>cases e;erw[At]at at';obtain⟨q,xs,rfl,AT,_⟩:=at';cases BS;obtain⟨its,_,⟨o,n,A7,AH,_⟩,_⟩:=I.list (C4.of (BI _ _ AT));exact Mw sK I.EA ⟨o,A7,AH⟩ tt (λz=>nomatch z) h
 |CO ds=>cases e;erw[At]at at';obtain⟨q,xs,rfl,AT,_⟩:=at';cases BS;obtain⟨its,_,⟨o,n,A7,AH,_⟩,_⟩:=I.list (C4.mono BI AT);exact Mw sK I.EA ⟨o,A7,AH⟩ tt (λz=>nomatch z) h
 |tup ds=>cases e;erw[At]at at';obtain⟨q,xs,rfl,AT,_⟩:=at';cases BS;obtain⟨its,_,⟨o,A7,AH,_⟩,_⟩:=I.tuple (Ct.of (BI _ _ AT));exact Mw sQ I.EA ⟨o,A7,AH⟩ tt (λz=>nomatch z) h
 |EI ds=>cases e;erw[At]at at';obtain⟨q,xs,rfl,AT,_⟩:=at';cases BS;obtain⟨its,_,⟨o,A7,AH,_⟩,_⟩:=I.tuple (Ct.mono BI AT);exact Mw sQ I.EA ⟨o,A7,AH⟩ tt (λz=>nomatch z) h
 |De ks ds=>cases e;erw[At]at at';obtain⟨q,xs,rfl,AT,_⟩:=at';cases BS;obtain⟨_,_,vs,_,o,A2,Ak,A5,A8,_⟩:=(show Em X.prog X.w X.K H s.heap q (.De xs)from I.BX q _ (BI _ _ AT));exact Mw sL I.EA ⟨o,A5,A8.1⟩ tt (λz=>nomatch z) h
 |B5 ks ds=>cases e;erw[At]at at';obtain⟨q,xs,rfl,AT,_⟩:=at';cases BS;obtain⟨_,_,zs,_,o,A2,Ak,A5,A8,_⟩:=(show Em X.prog X.w X.K H s.heap q (.B5 xs)from I.BX q _ (BI _ _ AT));exact Mw sL I.EA ⟨o,A5,A8.1⟩ tt (λz=>nomatch z) h
 |ins C ns ds=>cases e
 |PX C=>cases e
def ag4{d:D}{T:String}(e:XA d=some T):T="NoneType"\/T="bool"\/T="int"\/T="str"\/T="list"\/T="tuple"\/T="dict":=by cases d<;>cases e<;>simp
def aeJ(F:B6)(U:String):List V->AA->CQ->Prop:=λxs H Q=>∃G d x T,Sub G H/\xs=[x,.ty U]/\At F.K G d x/\XA d=some T/\Q (.AV (fW T U)) H
def uZ{U:String}(Ar:F.K=X.K)(tt:RG X.K U):HM X (.builtin "isinstance") (aeJ F U):=by intro pins s σ H xs us Q I r h;obtain⟨G,d,x,T,BI,rfl,a,e,q⟩:=h;obtain⟨u,Fn,rfl,BS,FA⟩:=vals2 r;obtain rfl:Fn=JJ U:=FA;rw[Ar]at a;exact z6 I BI a BS e (tt T (ag4 e)) λBU=>⟨.AV _,H,I.tok BU,rfl,q⟩
noncomputable def AU:D->D->R D
 |.lst xs,.int i=>match H7 xs i with|some d=>.ok d|none=>.bad
 |.CO xs,.int i=>match H7 xs i with|some d=>.ok d|none=>.bad
 |.tup xs,.int i=>match H7 xs i with|some d=>.ok d|none=>.bad
 |.EI xs,.int i=>match H7 xs i with|some d=>.ok d|none=>.bad
 |.str x,.int i=>if x.length<=1000000 then match H7 x.cps.toList i with|some c=>.ok (.str ⟨#[c]⟩)|none=>.bad else .bad
 |_,_=>.bad
def Yl{K:AZ}{G:AA}{ds:χ}{xs:List V}{i:Int}{d:D}(q:AY K G ds xs)(e:H7 ds i=some d):∃v,H7 xs i=some v/\At K G d v:=by
 unfold H7 at e |-;rw[q.length]at e;cases J0:KA xs.length i with
 |none=>rw[J0]at e;cases e
 |some j=>rw[J0]at e;obtain⟨v,A7,a⟩:=q.get e;exact⟨v,A7,a⟩
def abl(Ar:F.K=X.K):Hh F (nf X.K) AU:=by
 intro σ ρ G H x y Aj Gh Q r Bu Ck k;unfold AU at k
 split at k
 .rename_i ds i;erw[At]at Bu Ck;obtain⟨p,xs,e,h,q⟩:=Bu
  split at k
  .rename_i d F7;obtain⟨v,ev,B4⟩:=Yl q F7;exact .inl ⟨p,xs,i,v,e,Ck,C4.of (r.kp.sub _ _ h),ev,k _ H G r (C5.refl _ _) B4⟩
  .exact k.elim
 .rename_i ds i;erw[At]at Bu Ck;obtain⟨p,xs,e,h,q⟩:=Bu
  split at k
  .rename_i d F7;obtain⟨v,ev,B4⟩:=Yl q F7;have h':=h;rw[Ar]at h';exact .inl ⟨p,xs,i,v,e,Ck,C4.mono r.kp.sub h',ev,k _ H G r (C5.refl _ _) B4⟩
  .exact k.elim
 .rename_i ds i;erw[At]at Bu Ck;obtain⟨p,xs,e,h,q⟩:=Bu
  split at k
  .rename_i d F7;obtain⟨v,ev,B4⟩:=Yl q F7;exact .inr (.inl ⟨p,xs,i,v,e,Ck,Ct.of (r.kp.sub _ _ h),ev,k _ H G r (C5.refl _ _) B4⟩)
  .exact k.elim
 .rename_i ds i;erw[At]at Bu Ck;obtain⟨p,xs,e,h,q⟩:=Bu
  split at k
  .rename_i d F7;obtain⟨v,ev,B4⟩:=Yl q F7;have h':=h;rw[Ar]at h';exact .inr (.inl ⟨p,xs,i,v,e,Ck,Ct.mono r.kp.sub h',ev,k _ H G r (C5.refl _ _) B4⟩)
  .exact k.elim
 .rename_i z i;erw[At]at Bu Ck
  split at k
  .rename_i AP
   split at k
   .rename_i c ec;exact .inr (.inr ⟨z,i,c,Bu,Ck,Fp AP ε,ec,k _ H G r (C5.refl _ _) ζ⟩)
   .exact k.elim
  .exact k.elim
 .exact k.elim
end
section
variable{X:Ad}{F:B6}{e a b c:AS}{A2:List AS}{pos p:Pos}{m n:A_}{ma:Ap}
def G9{α:Type}(xs:List α)(lo AC:Option Int):List α:=(xs.drop (Ec.FD xs.length 0 lo)).take (Ec.FD xs.length xs.length AC-Ec.FD xs.length 0 lo)
def RM(x:Str)(lo AC:Option Int):Str:=⟨(G9 x.cps.toList lo AC).toArray⟩
def agI(lo AC:Option Int)(n:Nat):rm lo AC 1 n=(DK (Ec.FD n n AC-Ec.FD n 0 lo)).map (Ec.FD n 0 lo+·):=by
 rw[<-sliceRange_one];unfold rm;erw[show(1:Int)>0 by decide,if_true]
 congr 1
 .cases lo with
  |none=>rfl
  |some i=>
   show max 0 (min (if i<0 then i+(n:Int)else i) (n:Int))=((if i<0 then(i+(n:Int)).toNat else min i.toNat n:Nat):Int)
   split<;>lia
 .cases AC with
  |none=>rfl
  |some i=>
   show max 0 (min (if i<0 then i+(n:Int)else i) (n:Int))=((if i<0 then(i+(n:Int)).toNat else min i.toNat n:Nat):Int)
   split<;>lia
def ae6(n:Nat)(v:Option Int){d:Nat}(hd:d<=n):Ec.FD n d v<=n:=by
 cases v with
 |none=>exact hd
 |some i=>
  show(if i<0 then(i+(n:Int)).toNat else min i.toNat n)<=n
  split<;>lia
def af3(x:Str)(lo AC:Option Int):Us x lo AC=RM x lo AC:=by
 have AP:x.cps.toList.length=x.length:=by simp[Str.length]
 unfold Us RM G9;rw[agI,AP]
 split
 .rename_i h;have h:Ec.FD x.length x.length AC-Ec.FD x.length 0 lo=x.length:=by simpa using h
  have A5:=ae6 x.length AC (CS _);have A8:Ec.FD x.length 0 lo=0\/x.length=0:=δ
  have e:(x.cps.toList.drop (Ec.FD x.length 0 lo)).take (Ec.FD x.length x.length AC-Ec.FD x.length 0 lo)=x.cps.toList:=by
   rw[h];rcases A8 with z|z
   .rw[z,List.drop_zero,UT δ]
   .have D7:x.cps.toList=[]:=List.length_eq_zero_iff.mp δ;rw[D7];simp
  rw[e]
 .rw[pick_run]
def nq:V->Option Int->Option Int->AA->CQ->Prop:=λx lo AC H Q=>∃z,x=.str z/\z.length<=CK/\Q (.str (RM z lo AC)) H
def mU{v:A4}{o:Option Int}(h:IsPart v o):∃l:Option (Int×Tok),v=partValue l/\l.map (·.1)=o:=by
 cases h with
 |none=>exact⟨none,rfl,rfl⟩
 |int i t=>exact⟨some (i,t),rfl,rfl⟩
theorem af0:RF X nq:=by
 intro pins s σ H x v Lp Lq lo AC CJ Q I BS AK pl pu h;obtain⟨z,rfl,Ao,q⟩:=h;obtain⟨t,rfl⟩:=BS;obtain⟨l,rfl,el⟩:=mU pl;obtain⟨u,rfl,I4⟩:=mU pu;refine⟨"str",_,F.slot_str_getitem.lookup,Qn s z t,wpAny_getItem_str_slice (l:=l) (u:=u) (st:=none) ?_ rfl ?_⟩
 .obtain⟨o,A5,A8,Au⟩:=AK;exact⟨o,A5,A8,Au⟩
 .have e:Us z lo AC=RM z lo AC:=af3 z lo AC;have fin:∀t' k,GZ X pins σ Q (.str (Us z lo AC) t') { s with toks:=k }:=λt' k=>⟨.str (RM z lo AC),H,I.tok k,⟨t',by rw[e]⟩,q⟩;unfold Us at fin;subst el I4;exact post_val_or_str ⟨Fp (Txt.slice_le z _ _) Ao,fin⟩
abbrev Pz:=AI->R (Option Int)
def NH:Pz:=λ_=>.ok none
def intD:D->R (Option Int)
 |.int i=>.ok (some i)
 |_=>.bad
def GU(m:A_):Pz:=λρ=>(m ρ).bind intD
def aaG(F:B6)(G H:AA)(σ :St)(ρ:AI)(Q:Option Int->AA->Prop):R (Option Int)->Prop
 |.ok o=>∀H' G',Rel F G' H' σ ρ->C5 G H G' H'->Q o H'
 |.exc c=>MZ F c
 |.bad=>False
def ff(F:B6)(m:Pz):CC:=λσ H Q=>∃G ρ,Rel F G H σ ρ/\aaG F G H σ ρ Q (m ρ)
def I9(f:D->Option Int->Option Int->R D)(m:A_)(lo AC:Pz):A_:=λρ=>(m ρ).bind λd=>(lo ρ).bind λl=>(AC ρ).bind λh=>f d l h
def HV(d:D)(l h:Option Int):R D:=match d with
 |.lst xs=>.ok (.lst (G9 xs l h))
 |.CO xs=>.ok (.lst (G9 xs l h))
 |.str x=>if x.length<=1000000 then .ok (.str (RM x l h))else .bad
 |_=>.bad
def AY.cut{K:AZ}{G:AA}{ds:χ}{xs:List V}(q:AY K G ds xs)(l h:Option Int):AY K G (G9 ds l h) (Tn xs l h):=by unfold G9 Tn;rw[q.length];exact(q.drop _).take _
def zL(Ar:F.K=X.K){lo AC:Pz}:EO (Cg F (I9 HV m lo AC)) (rH (λx lo AC H Q=>nk X.K x lo AC H Q\/nq x lo AC H Q) (Cg F m) (ff F lo) (ff F AC)):=by
 delta I9 r;refine rb h λd Av h x H1 Ai AL s1 Bu=>?_;refine⟨Ai,ρ,AL,?_⟩;refine rb h λl el h B7 Cw BA s2=>?_;refine⟨Cw,ρ,BA,?_⟩;refine rb h λu Qw h Cx H3 E9 s3=>?_;have up:=s1.trans (s2.trans s3);have Th:=(Bu.mono s2.g).mono s3.g;cases d with
 |lst ds=>erw[At]at Th;obtain⟨q,xs,rfl,AT,al⟩:=Th;refine .inl ⟨q,xs,rfl,C4.of (E9.kp.sub _ _ AT),λDJ AQ=>?_⟩;refine h (.ref DJ) _ _ (E9.lay AQ) (up.trans (C5.lay E9.kp.sub AQ)) ?_;erw[At];exact⟨DJ,_,rfl,Do,(al.cut l u).mono (Sub.upd (E9.kp.sub.gone AQ))⟩
 |CO ds=>erw[At]at Th;obtain⟨q,xs,rfl,AT,al⟩:=Th;have Pc:=AT;rw[Ar]at Pc;refine .inl ⟨q,xs,rfl,C4.mono E9.kp.sub Pc,λDJ AQ=>?_⟩;refine h (.ref DJ) _ _ (E9.lay AQ) (up.trans (C5.lay E9.kp.sub AQ)) ?_;erw[At];exact⟨DJ,_,rfl,Do,(al.cut l u).mono (Sub.upd (E9.kp.sub.gone AQ))⟩
 |str z=>
  erw[At]at Th;have h:Ie F G H σ ρ Q (if z.length<=1000000 then .ok (.str (RM z l u))else .bad):=h
  split at h
  .rename_i Ao;exact .inr ⟨z,Th,Fp Ao ε,h _ Cx H3 E9 up ζ⟩
  .exact h.elim
 |_=>cases h
def U3:χ->R D
 |[.int i]=>if i.natAbs.log2<1920 then .ok (.str (toString i))else .bad
 |_=>.bad
def abq:Pv F (λxs H Q=>∃i,xs=[.int i]/\i.natAbs.log2<1920/\Q (.str (toString i)) H) U3:=by
 intro σ ρ G H xs ds Q r al k;unfold U3 at k
 split at k
 .rename_i i
  split at k
  .rename_i AP;exact⟨i,al.ints1,AP,k _ H G r (C5.refl _ _) ζ⟩
  .exact k.elim
 .exact k.elim
def uY:HM X (.type "int") (λxs H Q=>(∃i,xs=[.int i]/\Q (.int i) H)\/∃x i,xs=[.str x]/\x.length<=640/\intText? x=some i/\Q (.int i) H):=by
 intro pins s σ H xs us Q I r h;rcases h with⟨i,rfl,q⟩|⟨x,i,rfl,AP,AC,q⟩
 .obtain⟨u,rfl,t,rfl⟩:=vals1 r;exact call_int_int ⟨.int i,H,I,⟨_,rfl⟩,q⟩
 .obtain⟨u,rfl,t,rfl⟩:=vals1 r;exact PySem.W.KIN.call_text AC AP ⟨.int i,H,I.tok _,⟨_,rfl⟩,q⟩
end
end CR
namespace Bv
open PySem PySem.Spec
section
variable{prog:Ba}{w:BL}{A:Bt}{E:ξ}{s:AM}
def ac9{it t:A6}{i:Nat}{items:Array A4}{x:A4}{Q:ξ}(hit:s.heap.IsTupleIter it t i)(Ax:s.heap.IsTuple t items)(AJ:items[i]?=some x)(CI:∀h',h'.IsTupleIter it t (i+1)->I0 it s.heap h'->Q x i8):AW ψ A (P5 (.ref it)) Q E s:=by
 obtain⟨o,AN,AO,hd⟩:=id hit;obtain⟨ol,TK,_,nl,TF⟩:=Ax;unfold P5
 refine AF (Lr (name:=Ek "__next__") hit.typeIs XO
  (Gn XO hit.typeIs rn ?_ (rl _)))
 show AW _ _ (field (.ref it) 0>>=_) _ _ s;refine AF (Ij AN hd (x:=.ref t) rfl ?_);show AW _ _ (if(DF t==FF)=true then _ else _) _ _ s;rw[if_neg (show¬((DF t==FF)=true)from Fq)];show AW _ _ (field (.ref it) 1>>=_) _ _ s;refine AF (Ij AN hd (x:=.int i 0) rfl ?_);show AW _ _ (seqItems? (.ref t)>>=_) _ _ s;refine AF (Mu TK TF ?_);erw[LK,AJ];refine AF (O0 AN hd γ (Ag ⟨x,rfl,Ag (CI _ ?_ (IK ..))⟩));exact⟨_,KU _ AN (UW (Nt hd _)),(X_ ..).trans AO,by
  rw[Nt hd];simp[I1]⟩
def ac8{it t:A6}{i:Nat}{items:Array A4}{Q:ξ}(An:A.handled=none)(hit:s.heap.IsTupleIter it t i)(Ax:s.heap.IsTuple t items)(AJ:items[i]?=none)(J3:∀h' e,YH it s.heap h'->(∃o,h'.get? e=some o/\o.cls=.type "StopIteration")->E (.ref e) i8):AW ψ A (P5 (.ref it)) Q E s:=by
 obtain⟨o,AN,AO,hd⟩:=id hit;obtain⟨ol,TK,_,nl,TF⟩:=Ax;unfold P5
 refine AF (Lr (name:=Ek "__next__") hit.typeIs XO
  (Gn XO hit.typeIs rn ?_ (rl _)))
 show AW _ _ (field (.ref it) 0>>=_) _ _ s;refine AF (Ij AN hd (x:=.ref t) rfl ?_);show AW _ _ (if(DF t==FF)=true then _ else _) _ _ s;rw[if_neg (show¬((DF t==FF)=true)from Fq)];show AW _ _ (field (.ref it) 1>>=_) _ _ s;refine AF (Ij AN hd (x:=.int i 0) rfl ?_);show AW _ _ (seqItems? (.ref t)>>=_) _ _ s;refine AF (Mu TK TF ?_);erw[LK,AJ];refine AF (JI (AF (O0 AN hd γ ?_)));show AW _ _ (newExc (.type "StopIteration") []>>=_) _ _ _;refine AF ?_;erw[newExc,newTuple];refine AF (Ih ?_ (by size_fits));refine AF (m:=P9 _ _) (Uq (a:=FF) (by first|rfl|(erw[P9];rfl)) ?_);refine Ih ?_ (by size_fits);erw[raiseNew];refine AF (Y4 ?_)
 first|rw[show A.in1.handled=none from An]|rw[An]
 refine AF (Ag (YI ?_));exact J3 _ _ (((IK ..).extBut.push _).push _) ⟨_,EB _ rfl,rfl⟩
def k4(An:A.handled=none)(it l:A6)(NC:l≠it)(items:Array A4) :
  Draws prog w A it [it,l] items.size (λi v=>items[i]?=some v) (λi h=>h.IsTupleIter it l i/\h.IsTuple l items) where
 live:=λ_ _ st=>let⟨o,AN,_⟩:=st.1;⟨o,AN⟩
 frame:=λ_ _ _ st AG=>⟨st.1.at λo e=>AG it γ o e,st.2.at λo e=>AG l γ o e⟩
 item:=λi s Q E AC st CI=>by refine ac9 st.1 st.2 (x:=items[i]) (by simp[AC]) λh' Pb Ic=>?_;exact CI _ h' s.toks (by simp[AC]) ⟨Pb,st.2.extBut Ic.extBut NC⟩ Ic
 done:=λs Q E st J3=>ac8 An st.1 st.2 γ J3
structure Tc(z TI CC Bf By:A6)(f1 f2:List A6):Prop where
 TIz:TI≠z
 TOz:CC≠z
 TITO:TI≠CC
 TIi1:TI≠Bf
 TIi2:TI≠By
 TOi1:CC≠Bf
 TOi2:CC≠By
 i1z:Bf≠z
 i2z:By≠z
 i12:Bf≠By
 c9:z∉f1
 jj:CC∉f1
 vC:By∉f1
 cB:z∉f2
 cA:CC∉f2
 jF:Bf∉f2
def Le{Ah:List A6}{n:Nat}{P:Nat->A4->Prop}{St:Nat->B2->Prop}{it b:A6}{h h':B2}{i:Nat}(D:Draws prog w A it Ah n P St)(st:St i h)(AK:I0 b h h')(J:b∉Ah):St i h':=
 D.frame i h h' st λc AO o e=>AK.extBut c o (λz=>J (z▸AO)) e
def ajR {z TI CC Bf By:A6} {f1 f2:List A6} {DC DW i:Nat} {Iw IF:Nat->A4->Prop} {JS JT:Nat->B2->Prop} {a b:A4} {Q:ξ} (IB:Draws prog w A Bf f1 DC Iw JS) (Hw:Draws prog w A By f2 DW IF JT) (ap:Tc z TI CC Bf By f1 f2)(Ao:Im s.heap z TI CC .none) (I_:Gd s.heap TI (.ref Bf) (.ref By)) (J4:Gd s.heap CC a b) (A5:JS i s.heap) (A8:JT i s.heap) (F1:i<DC) (DJ:i<DW)(CI:∀x y h' BU,Iw i x->IF i y->Im h' z TI CC (I1 s.heap.objs.size)->Gd h' CC x y->JS (i+1) h'->JT (i+1) h'->Gd h' s.heap.objs.size x y->h'.objs.size=s.heap.objs.size+1->
    (∀c o,c≠z->c≠CC->c≠Bf->c≠By->s.heap.get? c=some o->h'.get? c=some o)->Q (.ref s.heap.objs.size) BT) :
  AW ψ A (Gq.«zip.__next__» ⟨[.ref z],[]⟩) (λfin s'=>∃v,fin=.done (.ret v)/\Q v s') E s:=by
 show AW _ _ (field (.ref z) 2>>=_) _ _ _;refine AF (Ij Ao rfl (x:=.bool false) rfl ?_);show AW _ _ (field (.ref z) 3>>=_) _ _ _;refine AF (Ij Ao rfl (x:=.ref TI) rfl ?_);refine AF (Mu I_ rfl ?_);show AW _ _ (XI (.ref z)>>=_) _ _ _;refine AF ?_;unfold XI;refine AF (Ij Ao rfl (x:=.none) rfl (Ag ?_));erw[if_true];refine AF (JI ?_);refine AF (Ij Ao rfl (x:=.ref CC) rfl ?_);refine AF (SU Ao γ λL9 Pg MW=>?_);replace Pg:Im L9 z TI CC .ellipsis:=Pg;refine AF ?_;erw[Qe,Uf,Qb,Un];refine AF (AF (Y5 ?_));show AW _ _ (P5 (.ref Bf)>>=_) _ _ _;refine AF (IB.item i _ _ _ F1 (Le IB A5 MW ap.c9) λx MX rX AJ q7 L8=>Ag ?_);have VW:Gd MX CC a b:=L8.extBut _ _ ap.TOi1 (MW.extBut _ _ ap.TOz J4);refine AF (Mu VW rfl ?_);refine AF (fx VW λND ZN Lj=>?_);replace ZN:Gd ND CC x b:=ZN;refine AF (YJ (Ag ?_));refine AF (AF (Y5 ?_));show AW _ _ (P5 (.ref By)>>=_) _ _ _;have ag6:JT i ND:=Le Hw (Le Hw (Le Hw A8 MW ap.cB) L8 ap.jF) Lj ap.cA;refine AF (Hw.item i _ _ _ DJ ag6 λy Wa akg BO agL Pe=>Ag ?_);have kN:Gd Wa CC x b:=Pe.extBut _ _ ap.TOi2 ZN;refine AF (Mu kN rfl ?_);refine AF (fx kN λHo ZO Pf=>?_);replace ZO:Gd Ho CC x y:=ZO;refine AF (YJ (Ag (Ag ?_)));refine AF (Mu ZO rfl ?_);refine AF (gf ?_);have hsz:Ho.objs.size=s.heap.objs.size:=by rw[Pf.1,Pe.1,Lj.1,L8.1,MW.1]
 have kI:Im Ho z TI CC .ellipsis:=Pf.extBut _ _ ap.TOz.symm (Pe.extBut _ _ ap.i2z.symm (Lj.extBut _ _ ap.TOz.symm (L8.extBut _ _ ap.i1z.symm Pg)));have xB:∀c o,c≠z->c≠CC->c≠Bf->c≠By->s.heap.get? c=some o->Ho.get? c=some o:=λc o B_ EQ Hk IH e=>
  Pf.extBut _ _ EQ (Pe.extBut _ _ IH (Lj.extBut _ _ EQ (L8.extBut _ _ Hk (MW.extBut _ _ B_ e))))
 have af5:JS (i+1) Ho:=Le IB (Le IB (Le IB q7 Lj ap.jj) Pe ap.vC) Pf ap.jj;have ag7:JT (i+1) Ho:=Le Hw agL Pf ap.cA;have kF:z<Ho.objs.size:=Cr kI;show AW _ _ (ra (.ref z) (.ref Ho.objs.size)>>=_) _ _ _;refine AF ?_;unfold ra;have yU:Im (Ho.push { cls:=.type "tuple",data:=.seq #[x,y] }) z TI CC .ellipsis:=Cp _ kI;refine AF (SU yU γ λyW cw dg=>?_);replace cw:Im yW z TI CC (I1 Ho.objs.size):=cw;refine SU cw γ λWb Z4 dh=>?_;replace Z4:Im Wb z TI CC (I1 Ho.objs.size):=Z4;have up:∀c o,c≠z->Ho.get? c=some o->Wb.get? c=some o:=λc o B_ e=>dh.extBut _ _ B_ (dg.extBut _ _ B_ (Cp _ e));have kP:Gd Wb Ho.objs.size x y:=dh.extBut _ _ (M5 kF) (dg.extBut _ _ (M5 kF) (EB _ rfl));have kE:Wb.objs.size=Ho.objs.size+1:=by rw[dh.1,dg.1,KW]
 rw[hsz]at Z4 kP kE;refine Ag ⟨_,rfl,?_⟩;show Q (.ref Ho.objs.size) _;rw[hsz];exact CI x y Wb _ AJ BO Z4 (up _ _ ap.TOz ZO) (IB.frame _ _ _ af5 λc AO o e=>up c o (λq=>ap.c9 (q▸AO)) e) (Hw.frame _ _ _ ag7 λc AO o e=>up c o (λq=>ap.cB (q▸AO)) e) kP kE λc o B_ EQ Hk IH e=>up c o B_ (xB c o B_ EQ Hk IH e)
def ajQ{z TI CC Bf By:A6}{f1 f2:List A6}{DC DW i:Nat}{Iw IF:Nat->A4->Prop}{JS JT:Nat->B2->Prop}{a b:A4}{Q:Fin->ο}(IB:Draws prog w A Bf f1 DC Iw JS)(Hw:Draws prog w A By f2 DW IF JT)(ap:Tc z TI CC Bf By f1 f2)(Ao:Im s.heap z TI CC .none)(I_:Gd s.heap TI (.ref Bf) (.ref By))(J4:Gd s.heap CC a b)(A5:JS i s.heap)(A8:JT i s.heap)(dU:i=DC\/(i<DC/\i=DW))(J3:∀h' e BU,(∀c o,c≠z->c≠CC->c≠Bf->c≠By->s.heap.get? c=some o->h'.get? c=some o)->(∃o,h'.get? e=some o/\o.cls=.type "StopIteration")->E (.ref e) BT) :
  AW ψ A (Gq.«zip.__next__» ⟨[.ref z],[]⟩) Q E s:=by
 show AW _ _ (field (.ref z) 2>>=_) _ _ _;refine AF (Ij Ao rfl (x:=.bool false) rfl ?_);show AW _ _ (field (.ref z) 3>>=_) _ _ _;refine AF (Ij Ao rfl (x:=.ref TI) rfl ?_);refine AF (Mu I_ rfl ?_);show AW _ _ (XI (.ref z)>>=_) _ _ _;refine AF ?_;unfold XI;refine AF (Ij Ao rfl (x:=.none) rfl (Ag ?_));erw[if_true];refine AF (JI ?_);refine AF (Ij Ao rfl (x:=.ref CC) rfl ?_);refine AF (SU Ao γ λL9 Pg MW=>?_);replace Pg:Im L9 z TI CC .ellipsis:=Pg;refine AF ?_;erw[Qe,Uf,Qb,Un];refine AF (AF (Y5 ?_));show AW _ _ (P5 (.ref Bf)>>=_) _ _ _;have q2:JS i L9:=Le IB A5 MW ap.c9;rcases dU with A7|⟨F1,AH⟩
 .subst A7;refine AF (IB.done _ _ _ q2 λMX e L8 he=>?_);obtain⟨ei,S8,VZ⟩:=he;have kG:Im MX z TI CC .ellipsis:=L8 _ _ ap.i1z.symm Pg;have dV:e≠z:=λx=>by subst x;rw[kG]at S8;cases S8;simp at VZ
  refine SU kG γ λND _ Lj=>J3 ND e s.toks (λc o B_ _ Hk _ x=>Lj.extBut _ _ B_ (L8 _ _ Hk (MW.extBut _ _ B_ x))) ⟨ei,Lj.extBut _ _ dV S8,VZ⟩
 .subst AH;refine AF (IB.item _ _ _ _ F1 q2 λx MX rX AJ q7 L8=>Ag ?_);have VW:Gd MX CC a b:=L8.extBut _ _ ap.TOi1 (MW.extBut _ _ ap.TOz J4);refine AF (Mu VW rfl ?_);refine AF (fx VW λND ZN Lj=>?_);refine AF (YJ (Ag ?_));refine AF (AF (Y5 ?_));show AW _ _ (P5 (.ref By)>>=_) _ _ _;refine AF (Hw.done _ _ _ (Le Hw (Le Hw (Le Hw A8 MW ap.cB) L8 ap.jF) Lj ap.cA) λWa e Pe he=>?_);obtain⟨ei,S8,VZ⟩:=he;have kH:Im Wa z TI CC .ellipsis:=Pe _ _ ap.i2z.symm (Lj.extBut _ _ ap.TOz.symm (L8.extBut _ _ ap.i1z.symm Pg));have dV:e≠z:=λx=>by subst x;rw[kH]at S8;cases S8;simp at VZ
  refine SU kH γ λHo _ Pf=>J3 Ho e rX (λc o B_ EQ Hk IH x=>Pf.extBut _ _ B_ (Pe _ _ IH (Lj.extBut _ _ EQ (L8.extBut _ _ Hk (MW.extBut _ _ B_ x))))) ⟨ei,Pf.extBut _ _ dV S8,VZ⟩
theorem aeB {z TI CC Bf By:A6} {f1 f2:List A6} {DC DW i:Nat} {Iw IF:Nat->A4->Prop} {JS JT:Nat->B2->Prop} {a b:A4} {Q:Option A4->ο} (IB:Draws prog w A.in1 Bf f1 DC Iw JS) (Hw:Draws prog w A.in1 By f2 DW IF JT) (ap:Tc z TI CC Bf By f1 f2)(Ao:Im s.heap z TI CC .none) (I_:Gd s.heap TI (.ref Bf) (.ref By)) (J4:Gd s.heap CC a b) (A5:JS i s.heap) (A8:JT i s.heap) (F1:i<DC) (DJ:i<DW)(CI:∀x y h' BU,Iw i x->IF i y->Im h' z TI CC (I1 s.heap.objs.size)->Gd h' CC x y->JS (i+1) h'->JT (i+1) h'->Gd h' s.heap.objs.size x y->h'.objs.size=s.heap.objs.size+1->
    (∀c o,c≠z->c≠CC->c≠Bf->c≠By->s.heap.get? c=some o->h'.get? c=some o)->Q (some (.ref s.heap.objs.size)) BT) :
  AW ψ A (Gs (.ref z)) Q E s:=by
 have C7:s.TypeIs (.ref z) "zip":=⟨_,Ao,rfl⟩;unfold Gs
 exact AF (Nw (Lr (name:=Ek "__next__") C7 Xq
  (Gn Xq C7 F.entry_zip_next
    (ajR IB Hw ap Ao I_ J4 A5 A8 F1 DJ λx y h' BU a1 a2 G7 Kk Q6 Td td hx te=>Ag (CI x y h' BU a1 a2 G7 Kk Q6 Td td hx te)) (F.args_zip_next_1 _))))
theorem aeA{z TI CC Bf By:A6}{f1 f2:List A6}{DC DW i:Nat}{Iw IF:Nat->A4->Prop}{JS JT:Nat->B2->Prop}{a b:A4}{Q:Option A4->ο}(IB:Draws prog w A.in1 Bf f1 DC Iw JS)(Hw:Draws prog w A.in1 By f2 DW IF JT)(ap:Tc z TI CC Bf By f1 f2)(Ao:Im s.heap z TI CC .none)(I_:Gd s.heap TI (.ref Bf) (.ref By))(J4:Gd s.heap CC a b)(A5:JS i s.heap)(A8:JT i s.heap)(dU:i=DC\/(i<DC/\i=DW))(CI:∀h' BU,(∀c o,c≠z->c≠CC->c≠Bf->c≠By->s.heap.get? c=some o->h'.get? c=some o)->Q none BT):AW ψ A (Gs (.ref z)) Q E s:=by
 have C7:s.TypeIs (.ref z) "zip":=⟨_,Ao,rfl⟩;unfold Gs
 refine AF (Nw (Lr (name:=Ek "__next__") C7 Xq
  (Gn Xq C7 F.entry_zip_next (ajQ IB Hw ap Ao I_ J4 A5 A8 dU λh' e BU AG he=>?_) (F.args_zip_next_1 _))))
 obtain⟨o,AN,AO⟩:=he;refine AF (Nr (T:="StopIteration") (b:=true) ⟨o,AN,AO⟩ YA ?_);exact Ag (CI _ _ AG)
end
def Inv.X8{X:Ad}{pins:υ}{σ :St}{H:AA}{s:AM}{h':B2}{t':Nat}{ch:List A6}(I:π)(k:∀b o,b∉ch->dl->h'.get? b=some o)(hf:∀b∈ch,Jz X pins H b):Inv X pins σ H { s with heap:=h',toks:=t' }:=by
 have PR:∀b u,H b=some u->b∉ch:=λb u e z=>by rw[(hf b z).1]at e;cases e
 refine I.step (g':=s.gens) (d':=s.drawn) (ch:=ch) (λb J=>?_) (λb o _ _ AO e _=>k b o AO e) (λb o _ _ AO e _=>⟨o.slots,k b o AO e⟩) (λ_ _ _ _ n=>n)
  (λb o AO e=>⟨o,k b o AO e⟩) (λ_ _ e=>e) (λ_ _ _ e=>e) (λb Am e=>⟨#[],by rw[e];simp⟩) (λm hm=>?_) (λb u e=>?_) I.bare
 .obtain⟨_,f1,_,Fh,f4,GS⟩:=hf b J;exact⟨Fh,f1,f4,GS⟩
 .obtain⟨o,A2,Ak,AN,r⟩:=hm;exact⟨o,A2,Ak,k _ o (λz=>(hf _ z).2.1 rfl) AN,r⟩
 .refine(I.BX b u e).OG (λc v AO q=>k c v ?_ q) (λ_ q=>q) λ_ _ q=>q;rcases AO with z|z
  .rw[z];exact PR b u e
  .exact PR c _ z
def Inv.eu{X:Ad}{pins:υ}{σ :St}{H:AA}{s:AM}{h':B2}{t':Nat}{ch:List A6}{T:A6}{xs:List V}{its:List A4}(I:π)(k:∀b o,b∉ch->dl->h'.get? b=some o)(hf:∀b∈ch,Jz X pins H b)(C7:s.heap.objs.size<=T)(Ax:XV h' T its.toArray)(C9:Vals xs its)(Ao:xs.length<=CK):Inv X pins σ (upd H T (.tup xs)) { s with heap:=h',toks:=t' }:=by
 have PR:∀b u,H b=some u->b∉ch:=λb u e z=>by rw[(hf b z).1]at e;cases e
 have AQ:H T=none:=I.BX.fresh C7;have neT:∀b o,dl->b≠T:=λb o e=>Eb (HK (Cr e) C7)
 refine I.step (g':=s.gens) (d':=s.drawn) (ch:=ch) (λb J=>?_) (λb o _ _ AO e _=>k b o AO e) (λb o _ _ AO e _=>⟨o.slots,k b o AO e⟩) (λb o _ e n=>by rw[DT (neT b o e)];exact n)
  (λb o AO e=>⟨o,k b o AO e⟩) (λb ys e=>by rw[DT (KJ e AQ)];exact e) (λb _ _ e=>by rw[DT (KJ e AQ)];exact e) (λb Am e=>⟨#[],by rw[DT (KJ e AQ),e];simp⟩) (λm hm=>?_) (λb u e=>?_) I.bare
 .obtain⟨_,f1,_,Fh,f4,GS⟩:=hf b J;exact⟨Fh,f1,f4,GS⟩
 .obtain⟨o,A2,Ak,AN,r⟩:=hm;exact⟨o,A2,Ak,k _ o (λz=>(hf _ z).2.1 rfl) AN,r⟩
 .by_cases J:b=T
  .subst J;rw[Do]at e;cases e;exact⟨Ao,its,C9,Ax⟩
  .rw[DT J]at e;refine(I.BX b u e).OG (λc v AO q=>k c v ?_ q) (λc q=>by rw[DT (KJ q AQ)];exact q) λc ys q=>by rw[DT (KJ q AQ)];exact q
   rcases AO with z|z
   .rw[z];exact PR b u e
   .exact PR c _ z
def hb(x:Str):It:=⟨λi _=>i<x.cps.size,λi H v H'=>H'=H/\∃c,x.cps[i]?=some c/\v=.str ⟨#[c]⟩,λi _=>i=x.cps.size⟩
def r5{prog:Ba}{w:BL}{A:Bt}(An:A.handled=none)(I:A6)(x:Str)(t:Tok):Walks prog w A I [I] [I] x.cps.size (SignAt x) (λi h=>h.IsStrIter I (LP x) x t i):=by
 unfold LP;cases AB:x.cps.all (· <128)
 .rw[if_neg Fq];exact Walks.strWide An I x t
 .rw[if_pos rfl];exact Walks.strAscii An I x t
def jz{prog:Ba}{w:BL}{A:Bt}(An:A.handled=none)(I:A6)(x:Str)(t:Tok):Draws prog w A I [I] x.cps.size (λi v=>∃c u,x.cps[i]?=some c/\v=.str ⟨#[c]⟩ u) (λi h=>h.IsStrIter I (LP x) x t i):=by
 unfold LP;cases AB:x.cps.all (· <128)
 .rw[if_neg Fq];exact Draws.strWide An I x t
 .rw[if_pos rfl];exact Draws.strAscii An I x t
def agH(x:Str):["enumerate","zip","dict_itemiterator","dict_reverseitemiterator","odict_iterator","itertools.zip_longest","itertools.pairwise"].contains (LP x)=false:=by
 unfold LP
 split<;>decide
def ag0{P:Ba}{w:BL}{K:AZ}{Bj:AS}(it:A6)(x:Str)(t:Tok):Turn P w K Bj (hb x) [it] it (λi h=>h.IsStrIter it (LP x) x t i) where
 mem:=γ
 obj:=λi h st b J=>by
  have e:b=it:=(J:)
  subst e;obtain⟨o,e,c,d⟩:=st;exact⟨o,e,λv z=>by rw[d]at z;cases z⟩
 keep:=λi h h' st k=>by obtain⟨o,e,r⟩:=st;exact⟨o,k it γ o e,r⟩
 item:=by intro X hP hw Ar AO i pins s σ H E I hf st Aa;subst hP hw Ar;have W:=r5 (prog:=X.prog) (w:=X.w) (A:=X.A) (I.ok.hd AO) it x t;refine W.item i s _ _ Aa st λv h' BU BE MF Bp=>?_;obtain⟨c,u,TC,rfl⟩:=BE;have B0:Inv X pins σ H BT:=I.X8 (ch:=[it]) Bp hf;obtain⟨o,e,B_,d1⟩:=id MF;exact⟨_,rfl,ZL (s:=BT) e B_ d1 (agH x) ⟨.str ⟨#[c]⟩,H,B0,⟨u,rfl⟩,⟨rfl,c,TC,rfl⟩,MF,λb J=>(hf b J).1⟩⟩
 done:=by intro X hP hw Ar AO i pins s σ H E I hf st Aa;subst hP hw Ar;have W:=r5 (prog:=X.prog) (w:=X.w) (A:=X.A) (I.ok.hd AO) it x t;have AC:i=x.cps.size:=Aa;subst AC;exact W.done s _ _ st λh' BU Bp=>⟨rfl,I.X8 (ch:=[it]) Bp hf⟩
 self:=λA i s Q E st h=>by
  unfold LP at st;cases AB:x.cps.all (· <128)
  .rw[AB,if_neg Fq]at st;exact wpAny_pyIter_striter_wide st h
  .rw[AB,if_pos rfl]at st;exact wpAny_pyIter_striter_ascii st h
section
variable{X:Ad}{Bj:AS}
def lu(Ei:TE):TI:=λσ H R=>Ei σ H λv H1=>∃x,v=.str x/\R (hb x) H1
def acj{l:AS}{Ei:TE}(AP:Ay X l Ei):G6 X Bj l (lu Ei):=by
 intro pins s σ H R I h;refine Bd (AP pins s σ H _ I h) λv s1⟨y,H1,B0,AL,Al⟩=>?_;obtain⟨x,e,q⟩:=Al;subst e;obtain⟨t,rfl⟩:=AL;refine wpAny_pyIter_strU ?_;refine⟨s1.heap.objs.size,[s1.heap.objs.size],_,_,H1,rfl,B0.kept (t':=s1.toks) λb o e=>Cp _ e,ag0 _ x t,⟨_,EB _ rfl,rfl,rfl⟩,λb J=>?_,q⟩;have e:b=s1.heap.objs.size:=(J:)
 subst e;exact B0.Ou (CS _) (B0.BX.fresh (CS _))
end
noncomputable def gu(K:AZ)(l:A6):It:=⟨λi H=>∃xs x,C4 K H l xs/\xs[i]?=some x,λi H v H'=>∃p x,H p=none/\H'=upd H p (.tup [.int (i:Int),x])/\v=.ref p/\∀xs,C4 K H l xs->xs[i]?=some x,λi H=>∃xs,C4 K H l xs/\xs.length=i⟩
def afw{P:Ba}{w:BL}{K:AZ}{elts:List AS}{Bp:Nat}{pos:Pos}(e it l:A6)(kU:e≠it) :
  Turn P w K (.Tuple elts Bp pos) (gu K l) [e,it] e (λi h=>(∃old,IsEnum h e it i old)/\h.IsListIter it l i) where
 mem:=γ
 obj:=λi h st b J=>by
  obtain⟨⟨old,he⟩,o,A7,c,d⟩:=st;rcases List.mem_cons.mp J with z|z
  .subst z;exact⟨_,he,λv z=>by have Fw:YF _=Sj v:=z;cases Fw⟩
  .have z:b=it:=by simpa using z
   subst z;exact⟨o,A7,λv z=>by rw[d]at z;cases z⟩
 keep:=λi h h' st k=>by obtain⟨⟨old,he⟩,hit⟩:=st;exact⟨⟨old,k e γ _ he⟩,hit.at λo x=>k it γ o x⟩
 item:=by
  intro X hP hw Ar AO i pins s σ H E I hf st Aa;subst hP hw Ar;obtain⟨xs,x,AT,AJ⟩:=Aa;obtain⟨its,C9,pl,Ao⟩:=I.list AT;obtain⟨⟨old,he⟩,hit⟩:=st;have FJ:=pl.isList;have hle:l≠e:=λz=>by subst z;obtain⟨o,AN,JZ,_⟩:=FJ;rw[he]at AN;cases AN;have JZ:JJ "enumerate"=JJ "list":=JZ;injection JZ with JZ;exact absurd JZ ε
  have V9:l≠it:=λz=>by subst z;obtain⟨o,AN,JZ,_⟩:=FJ;obtain⟨Bo,Dr,P1,_⟩:=hit;rw[Dr]at AN;cases AN;rw[JZ]at P1;injection P1 with P1;exact absurd P1 ε
  have W:=WalksT.enumerate (prog:=X.prog) (w:=X.w) (A:=X.A) (I.ok.hd AO) e it l kU hle V9 its.toArray;have hlen:=C9.length;have dY:i<xs.length:=(List.getElem?_eq_some_iff.mp AJ).1;refine W.item i s _ _ (by rw[Dx,<-hlen];exact dY) ⟨⟨old,he⟩,hit,FJ⟩ λT vals h' BU hP C7 xX ZM AG=>?_;obtain⟨t,u,BD,rfl⟩:=hP;obtain⟨FE,Ve,FA⟩:=C9.get AJ;have I4:FE=u:=by rw[sB]at BD;rw[Ve]at BD;exact E_ BD
  subst I4;refine⟨_,rfl,?_⟩;refine W.go elts Bp pos i T BT _ _ ZM λA8 Lk Li=>?_;have kO:T∉[e,it]:=W.apart i T h' ZM;have keep:∀b o,b∉[e,it]->dl->A8.get? b=some o:=λb o J q=>Li b o J (AG b o J q);have VE:XV A8 T (#[.int i t,FE]:Array A4):=by obtain⟨o,AN,r⟩:=xX;exact⟨o,Li T o kO AN,r⟩
  have AQ:H T=none:=I.BX.fresh C7;have C3:Inv X pins σ (upd H T (.tup [.int (i:Int),x])) { s with heap:=A8,toks:=BU }:=I.eu (its:=[.int i t,FE]) (ch:=[e,it]) keep hf C7 VE (.cons ⟨t,rfl⟩ (.cons FA .nil)) (by show 2<=CK;decide);refine⟨.ref T,upd H T (.tup [.int (i:Int),x]),C3,rfl,⟨T,x,AQ,rfl,rfl,λys BO=>by rw[I.ci BO AT];exact AJ⟩,⟨Lk.1,Lk.2.1⟩,λb J=>?_⟩;have nb:b≠T:=λz=>kO (z▸J);rw[DT nb];exact(hf b J).1
 done:=by
  intro X hP hw Ar AO i pins s σ H E I hf st Aa;subst hP hw Ar;obtain⟨xs,AT,AJ⟩:=Aa;obtain⟨its,C9,pl,Ao⟩:=I.list AT;obtain⟨⟨old,he⟩,hit⟩:=st;have FJ:=pl.isList;have hle:l≠e:=λz=>by subst z;obtain⟨o,AN,JZ,_⟩:=FJ;rw[he]at AN;cases AN;have JZ:JJ "enumerate"=JJ "list":=JZ;injection JZ with JZ;exact absurd JZ ε
  have V9:l≠it:=λz=>by subst z;obtain⟨o,AN,JZ,_⟩:=FJ;obtain⟨Bo,Dr,P1,_⟩:=hit;rw[Dr]at AN;cases AN;rw[JZ]at P1;injection P1 with P1;exact absurd P1 ε
  have W:=WalksT.enumerate (prog:=X.prog) (w:=X.w) (A:=X.A) (I.ok.hd AO) e it l kU hle V9 its.toArray;have Fz:i=its.toArray.size:=by rw[Dx,<-C9.length];exact AJ.symm
  subst Fz;exact W.done s _ _ ⟨⟨old,he⟩,hit,FJ⟩ λh' BU Bp=>⟨rfl,I.X8 (ch:=[e,it]) Bp hf⟩
 self:=λA i s Q E st h=>by obtain⟨⟨old,he⟩,_⟩:=st;exact wpAny_pyIter_enum he h
section
variable{X:Ad}{elts:List AS}{Bp:Nat}{QD:Pos}
def kL(K:AZ)(C1:En):TI:=λσ H R=>C1 σ H λvs H1=>∃l,vs=[.ref l]/\(∃xs,C4 K H1 l xs)/\R (gu K l) H1
def ace{a:AS}{C1:En}{p pos:Pos}(Aa:Dg X "enumerate")(hm:X.mg "enumerate"=none)(AB:G5 X [a] C1)(AK:B9 [a] X.env=[(false,BH a X.env)]:=by rfl):G6 X (.Tuple elts Bp QD) (.Call (.Name "enumerate" p) [a] [] pos) (kL X.K C1):=by
 have J:LM "enumerate"=some (.type "enumerate"):=η
 intro pins s σ H R I h;refine sR (OT I Aa hm J (QZ (Bd (AB pos pins s σ H _ I h) λus s1⟨vs,H1,B0,AL,Al⟩=>?_) AK rfl));obtain⟨l,e,⟨xs,AT⟩,q⟩:=Al;subst e;obtain⟨u,rfl,FA⟩:=vals1 AL;cases FA;obtain⟨its,C9,pl,Ao⟩:=B0.list AT;refine call_enumerate_list pl.isList λh' he hit hsz AG=>?_;have C3:Inv X pins σ H1 { s1 with heap:=h' }:=B0.kept (t':=s1.toks) AG;refine wpAny_pyIter_enum he ?_;refine⟨s1.heap.objs.size+1,[s1.heap.objs.size+1,s1.heap.objs.size],_,_,H1,rfl,C3,afw _ _ l (Nat.succ_ne_self _),⟨⟨_,he⟩,hit⟩,λb J=>?_,q⟩;have J:b=s1.heap.objs.size+1\/b=s1.heap.objs.size:=(J:)
 rcases J with z|z
 .subst z;exact B0.Ou (M3 _) (B0.BX.fresh (M3 _))
 .subst z;exact B0.Ou (CS _) (B0.BX.fresh (CS _))
end
noncomputable abbrev bF(h:B2)(x:Str)(t:Tok):B2:=h.push { cls:=.type (LP x),data:=.fields #[.str x t,.int 0 0] }
abbrev bG(h:B2)(x:Str)(t:Tok)(l:A6):B2:=(bF h x t).push { cls:=.type "tuple_iterator",data:=.fields #[.ref l,.int 0 0] }
abbrev bH(h:B2)(x:Str)(t:Tok)(l:A6):B2:=(bG h x t l).push { cls:=.type "tuple",data:=.seq #[.ref h.objs.size,.ref (bF h x t).objs.size] }
abbrev am(h:B2)(x:Str)(t:Tok)(l:A6):B2:=(bH h x t l).push { cls:=.type "tuple",data:=.seq #[.none,.none] }
abbrev RX(h:B2)(x:Str)(t:Tok)(l:A6):B2:=(am h x t l).push { cls:=.type "zip",data:=.fields #[.none,.bool false,.bool false,.ref (bG h x t l).objs.size,.ref (bH h x t l).objs.size] }
set_option maxHeartbeats 4000000 in
def aam(x:Str)(t:Tok)(DJ:A6)(ys:Array A4) :
  Meets (Gq.«zip.__new__» ⟨[.type "zip",.str x t,.ref DJ],[]⟩) (λ_ R s=>s.heap.IsTuple DJ ys/\R (.ok (.ret (.ref (am s.heap x t DJ).objs.size))) { s with heap:=RX s.heap x t DJ }):=
 .of_wp λprog w A R s h=>by
   obtain⟨AX,g,d,BU,os⟩:=s;obtain⟨J5,h⟩:=h;have VD:=sub_zip;have xS:Heap.IsTuple (Shared.heap ⟨AX.push { cls:=.type (LP x),data:=.fields #[.str x t,.int 0 0] },g,d,BU,os⟩) DJ ys:=Heap.IsTuple.push J5 _
   wp_walk using wpAny_pyIter_strU,wpAny_pyIter_tuple xS
   exact⟨_,rfl,h⟩
theorem tw {prog:Ba} {w:BL} {A:Bt} {E:ξ} {s:AM} {x:Str} {t:Tok} {DJ:A6} {ys:Array A4} {Q:ξ} (J5:s.heap.IsTuple DJ ys)(h:∀h',Im h' (s.heap.objs.size+4) (s.heap.objs.size+2) (s.heap.objs.size+3) .none->Gd h' (s.heap.objs.size+2) (.ref s.heap.objs.size) (.ref (s.heap.objs.size+1))->
    Gd h' (s.heap.objs.size+3) .none .none->h'.IsStrIter s.heap.objs.size (LP x) x t 0->h'.IsTupleIter (s.heap.objs.size+1) DJ 0->h'.objs.size=s.heap.objs.size+5->
    (∀c o,s.heap.get? c=some o->h'.get? c=some o)->Q (.ref (s.heap.objs.size+4)) i8) :
  AW ψ A (call (.type "zip") [.str x t,.ref DJ]) Q E s:=by
 refine callType_new F.called_zip ε (F.typeCall_zip_2 _ _) (F.newCall_zip_2 _ _) (λobj=>F.args_object_init_3 obj _ _) F.entry_zip_new (aam x t DJ ys) ⟨J5,?_⟩;have Dw:(bF s.heap x t).objs.size=s.heap.objs.size+1:=KW ..;have Db:(bG s.heap x t DJ).objs.size=s.heap.objs.size+2:=by rw[KW,Dw]
 have QG:(bH s.heap x t DJ).objs.size=s.heap.objs.size+3:=by rw[KW,Db]
 have RV:(am s.heap x t DJ).objs.size=s.heap.objs.size+4:=by rw[KW,QG]
 have er:(RX s.heap x t DJ).objs.size=s.heap.objs.size+5:=by rw[KW,RV]
 have PY:(RX s.heap x t DJ).get? (am s.heap x t DJ).objs.size=some _:=EB _ rfl;have g4:(RX s.heap x t DJ).get? (bH s.heap x t DJ).objs.size=some _:=Cp _ (EB _ rfl);have g3:(RX s.heap x t DJ).get? (bG s.heap x t DJ).objs.size=some _:=Cp _ (Cp _ (EB _ rfl));have g2:(RX s.heap x t DJ).get? (bF s.heap x t).objs.size=some _:=Cp _ (Cp _ (Cp _ (EB _ rfl)));have g1:(RX s.heap x t DJ).get? s.heap.objs.size=some _:=Cp _ (Cp _ (Cp _ (Cp _ (EB _ rfl))));show _/\_;rw[Db,QG,RV]at PY;rw[Dw,Db]at g3;rw[QG]at g4;rw[Dw]at g2;rw[RV];exact⟨⟨_,PY,rfl⟩,h _ PY g3 g4 ⟨_,g1,rfl,rfl⟩ ⟨_,g2,rfl,rfl⟩ er λc o x=>
  Cp _ (Cp _ (Cp _ (Cp _ (Cp _ x))))⟩
noncomputable def hg(K:AZ)(x:Str)(l:A6):It:=⟨λi H=>i<x.cps.size/\∃ys y,Ct K H l ys/\ys[i]?=some y,
 λi H v H'=>∃p c y,x.cps[i]?=some c/\H p=none/\H'=upd H p (.tup [.str ⟨#[c]⟩,y])/\v=.ref p/\∀ys,Ct K H l ys->ys[i]?=some y,
 λi H=>∃ys,Ct K H l ys/\i=min x.cps.size ys.length⟩
structure j5(z TI CC Bf By:A6):Prop where
 TIz:TI≠z
 TOz:CC≠z
 TITO:TI≠CC
 TIi1:TI≠Bf
 TIi2:TI≠By
 TOi1:CC≠Bf
 TOi2:CC≠By
 i1z:Bf≠z
 i2z:By≠z
 i12:Bf≠By
def ag2{P:Ba}{w:BL}{K:AZ}{elts:List AS}{Bp:Nat}{pos:Pos}(x:Str)(t:Tok)(l z TI CC Bf By:A6)(ap:j5 z TI CC Bf By) :
  Turn P w K (.Tuple elts Bp pos) (hg K x l) [z,TI,CC,Bf,By] z (λi h=>Im h z TI CC .none/\Gd h TI (.ref Bf) (.ref By)/\(∃a b,Gd h CC a b)/\h.IsStrIter Bf (LP x) x t i/\h.IsTupleIter By l i) where
 mem:=γ
 obj:=λi h st b J=>by
  obtain⟨Ao,I_,⟨a,G8,J4⟩,⟨Ci,A7,B_,d1⟩,Cj,AH,EQ,Cm⟩:=st;have J:b=z\/b=TI\/b=CC\/b=Bf\/b=By:=(J:)
  rcases J with q|q|q|q|q<;>subst q
  .exact⟨_,Ao,λv z=>by have Fw:YF _=Sj v:=z;cases Fw⟩
  .exact⟨_,I_,λv z=>by have Fw:Data.seq _ _=Sj v:=z;cases Fw⟩
  .exact⟨_,J4,λv z=>by have Fw:Data.seq _ _=Sj v:=z;cases Fw⟩
  .exact⟨Ci,A7,λv z=>by rw[d1]at z;cases z⟩
  .exact⟨Cj,AH,λv z=>by rw[Cm]at z;cases z⟩
 keep:=λi h h' st k=>by obtain⟨Ao,I_,⟨a,G8,J4⟩,⟨Ci,A7,AL⟩,Cj,AH,BA⟩:=st;exact⟨k z γ _ Ao,k TI γ _ I_,⟨a,G8,k CC γ _ J4⟩,⟨Ci,k Bf γ _ A7,AL⟩,Cj,k By γ _ AH,BA⟩
 item:=by
  intro X hP hw Ar AO i pins s σ H E I hf st Aa;subst hP hw Ar;obtain⟨AC,ys,y,AT,BO⟩:=Aa;obtain⟨its,C9,Ax,dm⟩:=I.tuple AT;obtain⟨Ao,I_,⟨a,G8,J4⟩,Z1,Fi⟩:=st;have nl:∀b∈[z,TI,CC,Bf,By],l≠b:=λb J q=>by
   subst q;rcases AT with(h|⟨o,h⟩)|⟨o,z9,n,h,_⟩
   .rw[(hf l J).1]at h;cases h
   .rw[(hf l J).1]at h;cases h
   .have A5:=I.ok.mod.JA l o h;rcases(hf l J).2.2.2.1 with q|q
    .exact I.ok.Rl l o A5 q
    .exact absurd (HK (Cr (I.ok.bs l o A5).1) q) (Hc _)
  have An:X.A.in1.handled=none:=I.ok.hd AO;have IB:=jz (prog:=X.prog) (w:=X.w) (A:=X.A.in1) An Bf x t;have Hw:=k4 (prog:=X.prog) (w:=X.w) (A:=X.A.in1) An By l (nl By γ) its.toArray;have hlen:=C9.length;have dY:i<ys.length:=(List.getElem?_eq_some_iff.mp BO).1
  have Q9:Tc z TI CC Bf By [Bf] [By,l]:=⟨ap.TIz,ap.TOz,ap.TITO,ap.TIi1,ap.TIi2,ap.TOi1,ap.TOi2,ap.i1z,ap.i2z,ap.i12,(ap.i1z.symm:),(ap.TOi1:),(ap.i12.symm:),
   by erw[Lv,Lw,or_false,not_or];exact⟨ap.i2z.symm,(nl z γ).symm⟩,by erw[Lv,Lw,or_false,not_or];exact⟨ap.TOi2,(nl CC γ).symm⟩,by erw[Lv,Lw,or_false,not_or];exact⟨ap.i12,(nl Bf γ).symm⟩⟩
  refine aeB IB Hw Q9 Ao I_ J4 Z1 ⟨Fi,Ax⟩ AC (by rw[Dx,<-hlen];exact dY) λMK IN h' BU Et DU a1 a2 G7 Kk Q6 Td AG=>?_;obtain⟨c,t1,xg,rfl⟩:=Et;obtain⟨FE,Ve,FA⟩:=C9.get BO;have I4:FE=IN:=by rw[sB]at DU;rw[Ve]at DU;exact E_ DU
  subst I4;refine⟨_,rfl,?_⟩;refine wpAny_letOwnedTupleGo_zip a1 λA8 cv TL=>?_;have agQ:∀b∈[z,TI,CC,Bf,By],b<s.heap.objs.size:=λb J=>by
   have J:b=z\/b=TI\/b=CC\/b=Bf\/b=By:=(J:)
   obtain⟨Ci,A7,_⟩:=Z1;obtain⟨Cj,AH,_⟩:=Fi;rcases J with q|q|q|q|q<;>subst q
   .exact Cr Ao
   .exact Cr I_
   .exact Cr J4
   .exact Cr A7
   .exact Cr AH
  have mW:∀b∈[z,TI,CC,Bf,By],b≠s.heap.objs.size:=λb J=>Eb (agQ b J);have keep:∀b o,b∉[z,CC,Bf,By]->dl->A8.get? b=some o:=λb o J q=>by have J:¬(b=z\/b=CC\/b=Bf\/b=By):=λw=>J (w:);exact TL.extBut b o (λw=>J (.inl w)) (AG b o (λw=>J (.inl w)) (λw=>J (.inr (.inl w))) (λw=>J (.inr (.inr (.inl w)))) (λw=>J (.inr (.inr (.inr w)))) q)
  have VE:XV A8 s.heap.objs.size ([.str ⟨#[c]⟩ t1,FE]:List A4).toArray:=⟨_,TL.extBut _ _ (mW z γ).symm Q6,rfl,_,rfl⟩;have AQ:H s.heap.objs.size=none:=I.BX.fresh (CS _);have C3:Inv X pins σ (upd H s.heap.objs.size (.tup [.str ⟨#[c]⟩,y])) { s with heap:=A8,toks:=BU }:=I.eu (its:=[.str ⟨#[c]⟩ t1,FE]) (ch:=[z,CC,Bf,By]) keep (λb J=>hf b (by
   have J:b=z\/b=CC\/b=Bf\/b=By:=(J:)
   rcases J with q|q|q|q<;>simp[q])) (CS _) VE (.cons ⟨t1,rfl⟩ (.cons FA .nil)) (by show 2<=CK;decide)
  refine⟨.ref s.heap.objs.size,_,C3,rfl,⟨s.heap.objs.size,c,y,xg,AQ,rfl,rfl,λzs yT=>by rw[I.et yT AT];exact BO⟩,?_,λb J=>?_⟩
  .refine⟨cv,TL.extBut _ _ ap.TIz (AG _ _ ap.TIz ap.TITO ap.TIi1 ap.TIi2 I_),⟨_,_,TL.extBut _ _ ap.TOz a2⟩,?_,?_⟩
   .obtain⟨Ci,A7,AL⟩:=G7;exact⟨Ci,TL.extBut _ _ ap.i1z A7,AL⟩
   .obtain⟨⟨Cj,AH,BA⟩,_⟩:=Kk;exact⟨Cj,TL.extBut _ _ ap.i2z AH,BA⟩
  .rw[DT (mW b J)];exact(hf b J).1
 done:=by
  intro X hP hw Ar AO i pins s σ H E I hf st Aa;subst hP hw Ar;obtain⟨ys,AT,AC⟩:=Aa;obtain⟨its,C9,Ax,dm⟩:=I.tuple AT;obtain⟨Ao,I_,⟨a,G8,J4⟩,Z1,Fi⟩:=st;have nl:∀b∈[z,TI,CC,Bf,By],l≠b:=λb J q=>by
   subst q;rcases AT with(h|⟨o,h⟩)|⟨o,z9,n,h,_⟩
   .rw[(hf l J).1]at h;cases h
   .rw[(hf l J).1]at h;cases h
   .have A5:=I.ok.mod.JA l o h;rcases(hf l J).2.2.2.1 with q|q
    .exact I.ok.Rl l o A5 q
    .exact absurd (HK (Cr (I.ok.bs l o A5).1) q) (Hc _)
  have An:X.A.in1.handled=none:=I.ok.hd AO;have IB:=jz (prog:=X.prog) (w:=X.w) (A:=X.A.in1) An Bf x t;have Hw:=k4 (prog:=X.prog) (w:=X.w) (A:=X.A.in1) An By l (nl By γ) its.toArray;have hlen:=C9.length
  have Q9:Tc z TI CC Bf By [Bf] [By,l]:=⟨ap.TIz,ap.TOz,ap.TITO,ap.TIi1,ap.TIi2,ap.TOi1,ap.TOi2,ap.i1z,ap.i2z,ap.i12,(ap.i1z.symm:),(ap.TOi1:),(ap.i12.symm:),
   by erw[Lv,Lw,or_false,not_or];exact⟨ap.i2z.symm,(nl z γ).symm⟩,by erw[Lv,Lw,or_false,not_or];exact⟨ap.TOi2,(nl CC γ).symm⟩,by erw[Lv,Lw,or_false,not_or];exact⟨ap.i12,(nl Bf γ).symm⟩⟩
  refine aeA IB Hw Q9 Ao I_ J4 Z1 ⟨Fi,Ax⟩ ?_ λh' BU Bp=>⟨rfl,I.X8 (ch:=[z,CC,Bf,By]) (λb o J q=>?_) λb J=>hf b ?_⟩
  .have A2:its.toArray.size=its.length:=γ
   rw[A2,<-hlen];lia
  .have J:¬(b=z\/b=CC\/b=Bf\/b=By):=λw=>J (w:);exact Bp b o (λw=>J (.inl w)) (λw=>J (.inr (.inl w))) (λw=>J (.inr (.inr (.inl w)))) (λw=>J (.inr (.inr (.inr w)))) q
  .have J:b=z\/b=CC\/b=Bf\/b=By:=by simpa using J
   rcases J with q|q|q|q<;>simp[q]
 self:=λA i s Q E st h=>wpAny_pyIter_zip st.1 h
section
variable{X:Ad}{elts:List AS}{Bp:Nat}{QD:Pos}
def ajT(n:Nat):j5 (n+4) (n+2) (n+3) n (n+1):=
 ⟨(show n+2≠n+4 from Eb (show(n+2:Nat)<n+4 by lia)),
  (show n+3≠n+4 from Eb (show(n+3:Nat)<n+4 by lia)),
  (show n+2≠n+3 from Eb (show(n+2:Nat)<n+3 by lia)),
  (show n+2≠n from M5 (show(n:Nat)<n+2 by lia)),
  (show n+2≠n+1 from M5 (show(n+1:Nat)<n+2 by lia)),
  (show n+3≠n from M5 (show(n:Nat)<n+3 by lia)),
  (show n+3≠n+1 from M5 (show(n+1:Nat)<n+3 by lia)),
  (show n≠n+4 from Eb (show(n:Nat)<n+4 by lia)),
  (show n+1≠n+4 from Eb (show(n+1:Nat)<n+4 by lia)),
  (show n≠n+1 from Eb (show(n:Nat)<n+1 by lia))⟩
def ly(K:AZ)(C1:En):TI:=λσ H R=>C1 σ H λvs H1=>∃x l,vs=[.str x,.ref l]/\(∃ys,Ct K H1 l ys)/\R (hg K x l) H1
def acm{a b:AS}{C1:En}{p pos:Pos}(Aa:Dg X "zip")(hm:X.mg "zip"=none)(AB:G5 X [a,b] C1)(AK:B9 [a,b] X.env=[(false,BH a X.env),(false,BH b X.env)]:=by rfl)(Fi:B9 [b] X.env=[(false,BH b X.env)]:=by rfl) :
  G6 X (.Tuple elts Bp QD) (.Call (.Name "zip" p) [a,b] [] pos) (ly X.K C1):=by
 have J:LM "zip"=some (.type "zip"):=η
 intro pins s σ H R I h;refine sR (OT I Aa hm J (QZ (Bd (AB pos pins s σ H _ I h) λus s1⟨vs,H1,B0,AL,Al⟩=>?_) (by rw[AK,Fi]) (by rw[Fi];rfl)));obtain⟨x,l,e,⟨ys,AT⟩,q⟩:=Al;subst e;obtain⟨u,IN,rfl,⟨t,rfl⟩,FA⟩:=vals2 AL;cases FA;obtain⟨its,C9,Ax,Ao⟩:=B0.tuple AT;refine tw (show s1.heap.IsTuple l its.toArray from Ax) λh' a1 a2 G7 Kk Q6 Td AG=>?_;have C3:Inv X pins σ H1 { s1 with heap:=h' }:=B0.kept (t':=s1.toks) AG;refine wpAny_pyIter_zip a1 ?_;refine⟨s1.heap.objs.size+4,[s1.heap.objs.size+4,s1.heap.objs.size+2,s1.heap.objs.size+3,s1.heap.objs.size,s1.heap.objs.size+1],_,_,H1,rfl,C3,ag2 x t l _ _ _ _ _ (ajT s1.heap.objs.size),⟨a1,a2,⟨_,_,G7⟩,Kk,Q6⟩,λb J=>?_,q⟩;have J:s1.heap.objs.size<=b:=by
  have J:b=s1.heap.objs.size+4\/b=s1.heap.objs.size+2\/b=s1.heap.objs.size+3\/b=s1.heap.objs.size\/b=s1.heap.objs.size+1:=(J:)
  rcases J with q|q|q|q|q
  .rw[q];exact Sc _ _
  .rw[q];exact Sc _ _
  .rw[q];exact Sc _ _
  .rw[q];exact CS _
  .rw[q];exact Sc _ _
 exact B0.Ou J (B0.BX.fresh J)
end
end Bv
namespace CR
open PySem PySem.Spec Bv
section
variable{X:Ad}{F:B6}{e a b c Bj iter elt:AS}{A2:List AS}{pos p:Pos}{m n:A_}{ma:Ap}
noncomputable def Jo(c:Nat):D:=.str ⟨#[c]⟩
def dv:D->R χ
 |.str x=>.ok (x.cps.toList.map Jo)
 |_=>.bad
def zB{K:AZ}{G:AA}(x:Str):Mp K (hb x) (x.cps.toList.map Jo) G where
 go:=λi H s AC=>by
  have h:i<x.cps.size:=(AC:)
  exact h
 Jq:=λi H v H' s AC y=>by obtain⟨e,c,AO,rfl⟩:=y;refine⟨Jo c,?_,.inl ⟨e,by unfold Jo;erw[At]⟩⟩;rw[Dm,UU,AO];rfl
 stop:=λH s=>by
  have h:(x.cps.toList.map Jo).length=x.cps.size:=γ
  exact h
def Wu(m:A_):Ap:=λρ=>(m ρ).bind dv
def zM:O7 (Ku F (Wu m)) (lu (Cg F m)):=by
 delta Wu r;refine rb h λd Av h v H1 Ai AL s1 a=>?_;cases d with
 |str x=>erw[At]at a;exact⟨x,a,h _ H1 Ai AL s1 (zB x)⟩
 |_=>cases h
noncomputable def PW(ds:χ):χ:=ds.zipIdx.map λp=>.tup [.int (p.2:Int),p.1]
def v3{ds:χ}{i:Nat}{d:D}(e:ds[i]?=some d):(PW ds)[i]?=some (.tup [.int (i:Int),d]):=by unfold PW;rw[Dm,sU,e];simp
def T4:χ->R χ
 |[.lst ds]=>.ok (PW ds)
 |[.CO ds]=>.ok (PW ds)
 |_=>.bad
def mD{K:AZ}{G:AA}{l:A6}{ds:χ}{xs:List V}(h:C4 K G l xs)(q:AY K G ds xs):Mp K (gu K l) (PW ds) G where
 go:=λi H s AC=>by
  have AC:i<ds.length:=by simpa[PW]using AC
  obtain⟨v,e,_⟩:=q.get (DV AC);exact⟨xs,v,C4.mono s h,e⟩
 Jq:=λi H v H' s AC y=>by obtain⟨p,x,AX,rfl,rfl,y⟩:=y;have ex:=y xs (C4.mono s h);obtain⟨d,e,a⟩:=q.TB ex;exact⟨_,v3 e,.inr ⟨p,_,_,AX,rfl,rfl,rfl,λAi s1 _=>.cons ζ (.cons (a.mono s1) .nil)⟩⟩
 stop:=λH s=>⟨xs,C4.mono s h,by simp[PW,q.length]⟩
def T0(m:Ap):Ap:=λρ=>(m ρ).bind T4
def y4(Ar:F.K=X.K):O7 (Ku F (T0 ma)) (kL X.K (EU F ma)):=by
 delta T0 r;refine rb h λds Av h vs H1 Ai AL s1 al=>?_;unfold T4 at h
 split at h
 .rename_i ds;obtain⟨v,rfl,a⟩:=al.one;erw[At]at a;obtain⟨q,xs,rfl,AT,Fd⟩:=a;have Fl:C4 X.K Ai q xs:=C4.of AT;rw[<-Ar]at Fl;refine⟨q,rfl,⟨xs,by rw[<-Ar];exact C4.mono AL.kp.sub Fl⟩,?_⟩;rw[<-Ar];exact h _ H1 Ai AL s1 (mD Fl Fd)
 .rename_i ds;obtain⟨v,rfl,a⟩:=al.one;erw[At]at a;obtain⟨q,xs,rfl,AT,Fd⟩:=a;refine⟨q,rfl,⟨xs,by rw[<-Ar];exact C4.mono AL.kp.sub AT⟩,?_⟩;rw[<-Ar];exact h _ H1 Ai AL s1 (mD AT Fd)
 .exact h.elim
def RW(xs:φ)(ys:χ):χ:=(xs.zip ys).map λp=>.tup [Jo p.1,p.2]
def qi:χ->R χ
 |[.str x,.EI ys]=>.ok (RW x.cps.toList ys)
 |_=>.bad
def zC{K:AZ}{G:AA}{x:Str}{l:A6}{ds:χ}{xs:List V}(h:Ct K G l xs)(q:AY K G ds xs):Mp K (hg K x l) (RW x.cps.toList ds) G where
 go:=λi H s AC=>by
  have AC:i<min x.cps.size ds.length:=by simpa[RW]using AC
  have A5:i<ds.length:=δ
  obtain⟨v,e,_⟩:=q.get (DV A5);exact⟨δ,xs,v,Ct.mono s h,e⟩
 Jq:=λi H v H' s AC y=>by
  obtain⟨p,c,RT,AO,AX,rfl,rfl,y⟩:=y;have ex:=y xs (Ct.mono s h);obtain⟨d,e,a⟩:=q.TB ex;refine⟨.tup [Jo c,d],?_,.inr ⟨p,_,_,AX,rfl,rfl,rfl,λAi s1 _=>.cons (by unfold Jo;erw[At]) (.cons (a.mono s1) .nil)⟩⟩;unfold RW;rw[Dm];have RN:(x.cps.toList.zip ds)[i]?=some (c,d):=by rw[sC];exact⟨by rw[UU];exact AO,e⟩
  rw[RN];rfl
 stop:=λH s=>⟨xs,Ct.mono s h,by simp[RW,q.length]⟩
def ah(m:Ap):Ap:=λρ=>(m ρ).bind qi
def zT(Ar:F.K=X.K):O7 (Ku F (ah ma)) (ly X.K (EU F ma)):=by
 delta ah r;refine rb h λds Av h vs H1 Ai AL s1 al=>?_;unfold qi at h
 split at h
 .rename_i x ys;obtain⟨v,w,rfl,B4,Oo⟩:=al.two;erw[At]at B4 Oo;subst B4;obtain⟨q,xs,rfl,AT,Fd⟩:=Oo;refine⟨x,q,rfl,⟨xs,by rw[<-Ar];exact Ct.mono AL.kp.sub AT⟩,?_⟩;rw[<-Ar];exact h _ H1 Ai AL s1 (zC AT Fd)
 .exact h.elim
structure GM(X:Ad)(Bj:AS)(set:D->AI->R AI):Prop where
 ex:∃g,K1 X Bj g/\∀F:B6,F.K=X.K->Py F g set
 GC:∀d ρ c,set d ρ≠.exc c
 keeps:Keeps set
def aac(i:Nat){x:Str}(hN:X.N.Nodup)(AC:ς:=by rfl)(AJ:Loc X.env.scope x:=by first|exact Dk rfl|exact Cn rfl)(hf:X.fn x=true\/X.env.scope.names.lookup x=some .local:=by first|exact .inl rfl|exact .inr rfl):GM X (.Name x pos) (BR i):=
 ⟨⟨J1 i,Zr hN AC AJ hf,λ_ _=>ZH i⟩,bY i,bX i⟩
structure YX(X:Ad)(afl:List AS)(Aw:List (D->AI->R AI)):Prop where
 ex:∃g,Vg X afl g/\∀F:B6,F.K=X.K->V4 F g (IJ Aw)
 GC:∀f∈Aw,∀d ρ c,f d ρ≠.exc c
 keeps:∀f∈Aw,Keeps f
def aad:YX X [] []:=⟨⟨ZF,oF,λ_ _=>l0⟩,(λ_ h=>nomatch h),(λ_ h=>nomatch h)⟩
def aa_{f:D->AI->R AI}{Aw:List (D->AI->R AI)}(h:GM X e f)(t:YX X A2 Aw)(AK:(LL (e::A2) X.env).map (·.2)=Ka e X.env::(LL A2 X.env).map (·.2):=by rfl):YX X (e::A2) (f::Aw):=by obtain⟨⟨g,A5,A8⟩,Au,BC⟩:=h;obtain⟨⟨MT,t1,DO⟩,t3,fY⟩:=t;exact⟨⟨VQ g MT,eB A5 t1 AK,λF GN=>bj (A8 F GN) (DO F GN)⟩,λk AG=>by rcases List.mem_cons.mp AG with rfl|AG;exact Au;exact t3 k AG,λk AG=>by rcases List.mem_cons.mp AG with rfl|AG;exact BC;exact fY k AG⟩
def ab5{k:Nat}{Aw:List (D->AI->R AI)}(AO:X.calm=true)(h:YX X A2 Aw)(AQ:(LL A2 X.env).length=Aw.length:=by rfl)(Gk:(LL A2 X.env).findIdx? (·.1)=none:=by rfl):GM X (.Tuple A2 k pos) (Fv Aw):=by obtain⟨⟨MT,t1,DO⟩,t3,fY⟩:=h;exact⟨⟨ZG X.K Aw.length MT,oE AO t1 AQ Gk,λF GN=>by rw[<-GN];exact l1 rfl (DO F GN)⟩,q_ t3,qZ fY⟩
abbrev Uz(X:Ad)(scope:Dn)(N:List Str)(e:AS)(m:A_):Prop:=∀cl C s H Ah G0 H0,JO (Ff X scope N cl C s H Ah) (FX X.K G0 H0) e m
abbrev Ml(X:Ad)(scope:Dn)(N:List Str)(ifs:List AS)(m:CG):Prop:=∀cl C s H Ah G0 H0,Q0 (Ff X scope N cl C s H Ah) ifs (GW (FX X.K G0 H0) m)
abbrev V0(X:Ad)(scope:Dn)(N:List Str)(Bj:AS)(set:D->AI->R AI):Prop:=∃g,(∀cl C s H Ah,K1 (Ff X scope N cl C s H Ah) Bj g)/\(∀G0 H0,Py (FX X.K G0 H0) g set)
def ig{scope:Dn}{N:List Str}{g:IW}{set:D->AI->R AI}(h:∀cl C s H Ah,K1 (Ff X scope N cl C s H Ah) Bj g)(k:∀F:B6,F.K=X.K->Py F g set):V0 X scope N Bj set:=⟨g,h,λG0 H0=>k (FX X.K G0 H0) rfl⟩
def ET:CG:=λ_=>.ok true
def uJ{scope:Dn}{N:List Str}:Ml X scope N [] ET:=λcl C s H Ah G0 H0 pins s' σ H' Q I h=>by obtain⟨G,ρ,r,k⟩:=h;exact acX pins s' σ H' Q I (k H' G r (C5.refl _ _))
def tH{scope:Dn}{N:List Str}{mt:CG}(h:∀cl C s H Ah G0 H0,j1 (Ff X scope N cl C s H Ah) (FX X.K G0 H0) c mt):Ml X scope N [c] mt:=λcl C s H Ah G0 H0=>acY (h cl C s H Ah G0 H0)
def c_{scope:Dn}{N:List Str}{ifs:List AS}{nl:Nat}{caps:φ}{mi:Ap}{set:D->AI->R AI}{mt:CG}{Es:A_}(Ar:F.K=X.K)(AC:V6 X F Bj iter mi)(Aa:V0 X scope N Bj set)(Ax:Ml X scope N ifs mt)(he:Uz X scope N elt Es)(AJ:∀d ρ c,set d ρ≠.exc c)(AG:Keeps set){Q:TE->Prop}(k:∀g,(∀cl C s H Ah,K1 (Ff X scope N cl C s H Ah) Bj g)->(∀cl C s H Ah,Q0 (Ff X scope N cl C s H Ah) ifs (fJ X.K mt))->(∀cl C s H Ah,Ay (Ff X scope N cl C s H Ah) elt (fI X.K Es))->EO (Ht F (D3 nl caps mi set mt Es)) (ay (Ku F mi) g (fJ X.K mt) (fI X.K Es) nl caps)->Q (Ht F (D3 nl caps mi set mt Es))):Q (Ht F (D3 nl caps mi set mt Es)):=by
 obtain⟨g,g1,g2⟩:=Aa;refine k g g1 (λcl C s H Ah pins s' σ H' RC I h=>?_) (λcl C s H Ah pins s' σ H' RC I h=>?_) ?_
 .obtain⟨G0,H0,h⟩:=h;exact Ax cl C s H Ah G0 H0 pins s' σ H' RC I h
 .obtain⟨G0,H0,h⟩:=h;exact he cl C s H Ah G0 H0 pins s' σ H' RC I h
 .have z:=xy (F:=F) (nl:=nl) (caps:=caps) (mi:=mi) (tst:=mt) (elt:=Es) (g:=g) (set:=set) (λG0 H0=>by rw[Ar];exact g2 G0 H0) AJ AG;rw[Ar]at z;exact z
def acT{scope:Dn}{N:List Str}{ifs:List AS}{nl:Nat}{caps:φ}{mi:Ap}{set:D->AI->R AI}{mt:CG}{Es:A_}(S:Mm X.env.scope X.N scope N nl caps)(AC:V6 X F Bj iter mi)(Aa:V0 X scope N Bj set)(AJ:∀d ρ c,set d ρ≠.exc c)(AG:Keeps set)(Ax:Ml X scope N ifs mt)(he:Uz X scope N elt Es)(AO:X.calm=true:=by rfl)(Ar:F.K=X.K:=by rfl)(AK:∀x,M1 iter X.env x=pure x:=by intro _;rfl):i9 X F (.ListComp elt [⟨Bj,iter,ifs,0⟩] scope pos) (D3 nl caps mi set mt Es):=
 c_ (nl:=nl) (caps:=caps) (Q:=λt=>Ay X (.ListComp elt [⟨Bj,iter,ifs,0⟩] scope pos) t) Ar AC Aa Ax he AJ AG λg g1 t1 A7 imp=>Ay.imp (adD S AO AC g1 t1 A7 AK) imp
def adY(i:Nat){y:Str}{py:Pos}{scope:Dn}{N:List Str}{ifs:List AS}{nl:Nat}{caps:φ}{mi:Ap}{set:D->AI->R AI}{mt:CG}{Es:A_}{Bn:Pos}(hN:X.N.Nodup)(S:Mm X.env.scope X.N scope N nl caps)(AC:V6 X F Bj iter mi)(Aa:V0 X scope N Bj set)(AJ:∀d ρ c,set d ρ≠.exc c)(AG:Keeps set)(Ax:Ml X scope N ifs mt)(he:Uz X scope N elt Es)(BO:X.N[i]?=some y:=by rfl)(AP:X.env.kindOf y=some .local:=by rfl)(ON:M6 (.ListComp elt [⟨Bj,iter,ifs,0⟩] scope Bn) (some (.Name y py)) pos.line X.env=pure true:=by rfl)(AO:X.calm=true:=by rfl)(Ar:F.K=X.K:=by rfl)(AK:∀x,M1 iter X.env x=pure x:=by intro _;rfl) :
  ix X F (.Assign [.Name y py] (.ListComp elt [⟨Bj,iter,ifs,0⟩] scope Bn) pos) (Eg i (D3 nl caps mi set mt Es)):=by
 refine Cz.imp (t:=MH (Ht F (D3 nl caps mi set mt Es)) (J1 i)) ?_ cx;refine c_ (nl:=nl) (caps:=caps) (Q:=λt=>Cz X (.Assign [.Name y py] (.ListComp elt [⟨Bj,iter,ifs,0⟩] scope Bn) pos) (MH t (J1 i))) Ar AC Aa Ax he AJ AG λg g1 t1 A7 imp=>?_;exact Cz.imp (oQ S AO hN BO AP AC g1 t1 A7 ON AK) λCP σ H h=>imp σ H _ h
end
section
variable{X:Ad}{F:B6}{e a b c:AS}{A2:List AS}{pos p:Pos}{m n:A_}{ma:Ap}
noncomputable def RI:χ->Option (List Bool)
 |[]=>some []
 |.AV b::r=>(RI r).map (b::·)
 |_::_=>none
theorem ij{K:AZ}{G:AA}:∀{ds:χ}{xs:List V}{bs:List Bool},AY K G ds xs->RI ds=some bs->xs=bs.map V.AV
 |[],_,_,q,e=>by erw[AY]at q;subst q;cases e;rfl
 |d::ds,_,bs,q,e=>by
  erw[AY]at q;obtain⟨v,r,rfl,a,MO⟩:=q;cases d with
  |AV b=>
   erw[At]at a;subst a;erw[RI]at e;cases A7:RI ds with
   |none=>rw[A7]at e;cases e
   |some cs=>rw[A7]at e;have Bh:b::cs=bs:=E_ e;subst Bh;rw[ij MO A7];rfl
  |_=>cases e
theorem qy:∀{bs:List Bool}{us:List A4},Vals (bs.map V.AV) us->us=bs.map Sl
 |[],_,r=>by cases r;rfl
 |b::bs,_,r=>by
  cases r with
  |cons AL BA=>cases AL;rw[qy BA];rfl
def uW(AO:X.calm=true)(S4:X.A.handled=none):HM X (.builtin "all") (λxs H Q=>∃(p:A6)(bs:List Bool),xs=[.ref p]/\C4 X.K H p (bs.map V.AV)/\Q (.AV (bs.all id)) H):=by
 intro pins s σ H xs us Q I r h;obtain⟨p,bs,rfl,AT,q⟩:=h;obtain⟨u,rfl,FA⟩:=vals1 r;cases FA;obtain⟨its,C9,pl,Ao⟩:=I.list AT;have Fz:=qy C9;refine call_all_walk (gM pl.isList ?_);have NC:p≠s.heap.objs.size:=by obtain⟨o,AN,_⟩:=pl.isList;exact Eb (Cr AN)
 refine⟨s.heap.objs.size,_,_,_,_,_,λi=>(bs[i]?).getD true,rfl,Walks.list (prog:=X.prog) (w:=X.w) (A:=X.A.in1) S4 s.heap.objs.size p NC its.toArray,⟨⟨_,EB _ rfl,rfl,rfl⟩,pl.isList.push _⟩,?_,λh' BU Bp=>?_⟩
 .intro i v s' RC O6 hP cF;rw[Fz]at hP;have hP:(bs.map Sl)[i]?=some v:=by simpa using hP
  rw[Dm]at hP;cases Bh:bs[i]? with
  |none=>rw[Bh]at hP;cases hP
  |some b=>rw[Bh]at hP;have ev:Sl b=v:=E_ hP;subst ev;dsimp only at cF;rw[Bh]at cF;exact KY cF
 .have Np:(DK its.toArray.size).all (λi=>(bs[i]?).getD true)=bs.all id:=by
    have AP:its.toArray.size=bs.length:=by rw[Fz];simp
    rw[AP,Nz,Mv,Mv];constructor
    .intro An x AJ;obtain⟨i,AC,rfl⟩:=List.mem_iff_getElem.mp AJ;have:=An i (List.mem_range.mpr AC);rw[DV AC]at this;exact this
    .intro An i AC;have AC:=List.mem_range.mp AC;rw[DV AC];exact An _ (Lx AC)
  rw[Np];exact⟨.AV _,H,I.kept (t':=BU) λb o AH=>Bp b o (by
   intro z;have z:b=s.heap.objs.size:=(z:)
   exact absurd (Cr AH) (by rw[z];exact Hc _)) (Cp _ AH),rfl,q⟩
def CH:χ->R D
 |[.lst ds]=>match RI ds with|some bs=>.ok (.AV (bs.all id))|none=>.bad
 |_=>.bad
def abk:Pv F (λxs H Q=>∃(p:A6)(bs:List Bool),xs=[.ref p]/\C4 X.K H p (bs.map V.AV)/\Q (.AV (bs.all id)) H) CH:=by
 intro σ ρ G H xs ds Q r al k;unfold CH at k
 split at k
 .rename_i ds
  split at k
  .rename_i bs Bh;obtain⟨v,rfl,B4⟩:=al.one;erw[At]at B4;obtain⟨q,xs,rfl,AT,Fd⟩:=B4;have:=ij Fd Bh;subst this;exact⟨q,bs,rfl,C4.of (r.kp.sub _ _ AT),k _ H G r (C5.refl _ _) ζ⟩
  .exact k.elim
 .exact k.elim
end
section
variable{X:Ad}{F:B6}{e a b c:AS}{A2:List AS}{pos p:Pos}{m n:A_}{ma:Ap}
noncomputable def ownAt(i:Nat)(ρ:AI):R χ:=match ρ[i]? with
 |some (.ob (.lst ds))=>.ok ds
 |_=>.bad
def JB(i:Nat)(m:A_):As:=λρ=>(ownAt i ρ).bind λds=>(m ρ).bind λd=>if ds.length<1000000 then .ok (.BG (ρ.set i (.C8 (ds++[d]))))else .bad
end
abbrev OF(K:AZ)(n:Nat)(BP:χ->R C2):BJ:=QS K n (λ_ _ _=>False) BP
structure Dy(P:Ba)(w:BL)(K:AZ)(mg:Str->Option A4)(base:B2)(x:Str)(n k:Nat)(BP:χ->R C2):Prop where
 ex:∃(f:A6)(fd:G3)(Am:List Str),Am.length=n/\G_ P w K mg base H2 k f fd Am (OF K n BP)/\mg x=some (.ref f)/\KV K (.ref f)=true/\Binds K fd Am []
section
variable{X:Ad}{F:B6}{e:AS}{A2:List AS}{pos p:Pos}{ma:Ap}{x:Str}{n k:Nat}{BP:χ->R C2}
end
structure Df(K:AZ)(mg:Str->Option A4)(x:Str)(st:BZ)(Am:List Str):Prop where
 ex:∃(f:A6)(fd:G3),NZ K x x st f fd/\mg x=some (.ref f)/\Binds K fd Am []
def tg{P:Ba}{w:BL}{K:AZ}{mg:Str->Option A4}{base:B2}{x:Str}{st:BZ}{N Am:List Str}{k:Nat}{m:As}(d:Df K mg x st Am)(S:CT N Am (Br st))(h:∀(f:A6)(CA:A4)(A:Bt)(outer:List Env)(s:AM)(H:AA)(E:D0),CM k (A.deeper (My x (Br st) s.heap.objs.size f CA))->∀G0 H0,tI (F0 H2 P w K mg base N x (Br st) f CA A outer s H E).Hr (FX K G0 H0) (GJ st) m) :
  Dy P w K mg base x Am.length (k+1) (D9 N.length m):=by
 obtain⟨f,fd,fn,hm,J⟩:=d.ex;refine⟨f,fd,Am,rfl,fn.ok S bb λCA A outer s H vs Q E B8 AK=>?_,hm,fn.kp,J⟩;obtain⟨G,Ax⟩:=ZX AK;exact⟨_,h f CA A outer s H E B8 G H,Ax⟩
def w3{K:AZ}{h:B2}{mg:Str->Option A4}{x:Str}{st:BZ}{Am:List Str}{f:A6}{Hs:A4}{E0 an:Option A6}{Mj:Array (Option A4)}{D_ doc pm CA Di:A4}(X:K.In h)(G:h.Ns Ev mg)(a:LO K Ev x=some (some (.ref f)))(l:K.lookup f=some ⟨Hs,E0,.func (JH x x (Ky st) (GJ st) (Br st) .none D_ doc pm an CA Di),Mj⟩)(c:P8 K CA x=true)(k:KV K (.ref f)=true)(b:∀(D_ doc pm:A4)(an:Option A6)(CA Di:A4)(us:List A4),us.length=Am.length->So (JH x x (Ky st) (GJ st) (Br st) .none D_ doc pm an CA Di) ⟨us,[]⟩=pure (Am.zip us)):Df K mg x st Am:=
 ⟨f,_,S1 (st:=st) l c k,PD X G a,(S1 (st:=st) l c k).binds b⟩
def abI{K:AZ}{BP:χ->R C2}{H:AA}{a:A6}{ns:List Int}(IZ:C4 K H a (ns.map V.int))(h:BP [.CO (ns.map .int)]=.ok (.v (.AV true)))(E:D0):OF K 1 BP [.ref a] H (λv _=>v=.AV true) E:=by
 refine⟨H,[.CO (ns.map .int)],Sub.refl _,.cons ?_ .nil,rfl,?_⟩
 .erw[At];refine⟨a,_,rfl,IZ,?_⟩;induction ns with
  |nil=>exact .nil
  |cons n r BW=>exact .cons ζ (Z7 r)
 .rw[h];intro v G' H' _ B4;erw[At]at B4;exact B4
where
 Z7 {K:AZ} {H:AA}:∀r:List Int,AY K H (r.map .int) (r.map V.int)
  |[]=>.nil
  |n::r=>.cons ζ (Z7 r)
section
variable{X:Ad}{F:B6}{e a b c Bj iter elt:AS}{A2:List AS}{pos p:Pos}{m n:A_}{ma:Ap}{scope:Dn}{N:List Str}
structure R2(X:Ad)(scope:Dn)(N:List Str)(Bj:AS)(set:D->AI->R AI):Prop where
 g:V0 X scope N Bj set
 BG:∀d ρ c,set d ρ≠.exc c
 kp:Keeps set
def sb(i:Nat){x:Str}(hN:N.Nodup:=by decide+kernel)(AC:N[i]?=some x:=by rfl)(AP:(MC scope X.env).names.lookup x=some .local:=by rfl):R2 X scope N (.Name x pos) (BR i):=
 ⟨ig (g:=J1 i) (λcl C s H Ah=>Zr (X:=Ff X scope N cl C s H Ah) hN AC (.inl AP) (.inr AP)) λF _=>ZH i,bY i,bX i⟩
def sd(i j:Nat){x y:Str}{Cd py:Pos}{k:Nat}(AO:X.calm=true:=by rfl)(hN:N.Nodup:=by decide+kernel)(AC:N[i]?=some x:=by rfl)(Bs:N[j]?=some y:=by rfl)(AP:(MC scope X.env).names.lookup x=some .local:=by rfl)(hm:(MC scope X.env).names.lookup y=some .local:=by rfl) :
  R2 X scope N (.Tuple [.Name x Cd,.Name y py] k pos) (Fv [BR i,BR j]):=by
 refine⟨ig (g:=ZG X.K 2 (VQ (J1 i) (VQ (J1 j) ZF))) (λcl C s H Ah=>?_) (λF GN=>?_),q_ ?_,qZ ?_⟩
 .exact oE (X:=Ff X scope N cl C s H Ah) AO (eB (Zr (X:=Ff X scope N cl C s H Ah) hN AC (.inl AP) (.inr AP)) (eB (Zr (X:=Ff X scope N cl C s H Ah) hN Bs (.inl hm) (.inr hm)) oF rfl) rfl) rfl rfl
 .rw[<-GN];exact l1 rfl (bj (ZH i) (bj (ZH j) l0))
 .intro f hf;rcases List.mem_cons.mp hf with rfl|hf
  .exact bY i
  .rw[List.mem_singleton.mp hf];exact bY j
 .intro f hf;rcases List.mem_cons.mp hf with rfl|hf
  .exact bX i
  .rw[List.mem_singleton.mp hf];exact bX j
def abf(nl:Nat)(caps:φ){ifs:List AS}{mi:Ap}{set:D->AI->R AI}{mt:CG}{Es:A_}(S:RL X.env.scope X.N scope N nl caps=true)(AC:V6 X F Bj iter mi)(Aa:R2 X scope N Bj set)(Ax:Ml X scope N ifs mt)(he:Uz X scope N elt Es)(AO:X.calm=true:=by rfl)(Ar:F.K=X.K:=by rfl)(AK:∀x,M1 iter X.env x=pure x:=by intro _;rfl):i9 X F (.ListComp elt [⟨Bj,iter,ifs,0⟩] scope pos) (D3 nl caps mi set mt Es):=
 acT (.of S) AC Aa.g Aa.BG Aa.kp Ax he AO Ar AK
def adZ(i:Nat)(nl:Nat)(caps:φ){y:Str}{py:Pos}{ifs:List AS}{mi:Ap}{set:D->AI->R AI}{mt:CG}{Es:A_}{Bn:Pos}(hN:X.N.Nodup)(S:RL X.env.scope X.N scope N nl caps=true)(AC:V6 X F Bj iter mi)(Aa:R2 X scope N Bj set)(Ax:Ml X scope N ifs mt)(he:Uz X scope N elt Es)(BO:X.N[i]?=some y:=by rfl)(AP:X.env.kindOf y=some .local:=by rfl)(ON:M6 (.ListComp elt [⟨Bj,iter,ifs,0⟩] scope Bn) (some (.Name y py)) pos.line X.env=pure true:=by rfl)(AO:X.calm=true:=by rfl)(Ar:F.K=X.K:=by rfl)(AK:∀x,M1 iter X.env x=pure x:=by intro _;rfl) :
  ix X F (.Assign [.Name y py] (.ListComp elt [⟨Bj,iter,ifs,0⟩] scope Bn) pos) (Eg i (D3 nl caps mi set mt Es)):=
 adY i hN (.of S) AC Aa.g Aa.BG Aa.kp Ax he BO AP ON AO Ar AK
noncomputable def NK(i:Nat)(a:Ap):As:=λρ=>((Eg i a) ρ).bind λf=>match f with
 |.BG BK=>.ok (.BG (L1 i BK))
 |f=>.ok f
end
def es{K:AZ}{c:A6}{dd:Option A6}{its:Array A4}{n:Nat}{CJ:Array (Option A4)}{xs:List V}{ds:χ}(l:K.lookup c=some ⟨.type "tuple",dd,.seq its n,CJ⟩)(Ao:its.size<=CK)(v:Vals xs its.toList)(a:∀G,AY K G ds xs) :
  ∀G,At K G (.EI ds) (.ref c):=λG=>by
 erw[At];exact⟨c,xs,rfl,.inr ⟨_,its,n,l,rfl,rfl,Ao,v⟩,a G⟩
def Wv(i:Int)(t:Tok):RelV (.int i) (.int i t):=⟨t,rfl⟩
def bR(x:Str)(t:Tok):RelV (.str x) (.str x t):=⟨t,rfl⟩
def Vj{K:AZ}{G:AA}(i:Int):At K G (.int i) (.int i):=ζ
def Yi{K:AZ}{G:AA}(i:Str):At K G (.str i) (.str i):=ζ
structure B3(X:Ad)(F:B6)(e:AS)(m:A_):Prop where
 o:Ay X e (Cg F m)
structure JW(X:Ad)(F:B6)(e:AS)(m:Ap):Prop where
 o:Ay X e (Ht F m)
structure FU(X:Ad)(F:B6)(e:AS)(m:CG):Prop where
 o:FH X e (GW F m)
structure RH(X:Ad)(F:B6)(e:AS)(m:CG):Prop where
 o:H5 X e (GW F m)
structure F6(X:Ad)(F:B6)(A2:List AS)(m:Ap):Prop where
 o:G5 X A2 (EU F m)
structure EP(X:Ad)(F:B6)(st:BZ)(m:As):Prop where
 o:Cz X st (FP F m)
structure JV(X:Ad)(F:B6)(st:List BZ)(m:As):Prop where
 o:Gb X st (FP F m)
structure Lc(X:Ad)(F:B6)(Bj e:AS)(m:Ap):Prop where
 o:G6 X Bj e (Ku F m)
structure Yh(X:Ad)(F:B6)(e:Option AS)(m:Pz):Prop where
 o:Vh X e (ff F m)
section
variable{X:Ad}{F:B6}{e a b c Bj iter elt:AS}{A2:List AS}{pos p:Pos}{m n:A_}{ma:Ap}{st:BZ}{N5:List BZ}
def ahk(i:Nat){x:Str}(hN:ς:=by rfl)(BE:Gf X.env.scope x:=by rw?)(hd:ι:=by decide)(D8:μ:=by decide):B3 X F (.Name x pos) (A0 i):=⟨Ay.imp (II hN BE hd D8) (zR i)⟩
def ai7{i:Int}{j}:B3 X F (.Constant (.int i) j pos) (AD (.int i)):=⟨Ay.imp adH (Wc λ_=>ζ)⟩
def ah2{i:Bool}{j}:B3 X F (.Constant (.bool i) j pos) (AD (.AV i)):=⟨Ay.imp ad9 (Wc λ_=>ζ)⟩
def ahe{i:Str}{j}:B3 X F (.Constant (.str i) j pos) (AD (.str i)):=⟨Ay.imp oC (Wc λ_=>ζ)⟩
def aiK{j}:B3 X F (.Constant .none j pos) (AD .non):=⟨Ay.imp adM (Wc λ_=>ζ)⟩
def agw:F6 X F [] AE:=⟨G5.imp QI xo⟩
def agv{m:A_}{r:Ap}(h:B3 X F e m)(t:F6 X F A2 r)(AK:notStar e=true:=by rfl):F6 X F (e::A2) (A3 m r):=⟨have h:=h.1;have t:=t.1;G5.imp (Of h t (agD e A2 X.env AK)) xz⟩
def ahi{k}{m:Ap}(h:F6 X F A2 m):B3 X F (.Tuple A2 k pos) (DS m):=⟨have h:=h.1;Ay.imp (adR h) zO⟩
def ahW{m:Ap}(h:F6 X F A2 m):JW X F (.List A2 pos) (CL m):=⟨have h:=h.1;Ay.imp (adK h) yE⟩
def ah5{m:Ap}(h:JW X F e m):B3 X F e (BQ m):=⟨have h:=h.1;Ay.imp h y7⟩
def ah3{m:A_}(h:B3 X F e m):B3 X F e (Mc m):=⟨have h:=h.1;Ay.imp h yZ⟩
def aii{m:CG}(h:FU X F e m):FU X F e (KF m):=⟨have h:=h.1;FH.imp h yf⟩
def aiu{m:A_}(h:B3 X F e m)(he:∀whole,isTrue e X.env whole=(do let v <-whole;N2 e.pos;JK [v] (truthy v)):=by intro _;rfl):FU X F e (BF m):=⟨have h:=h.1;FH.imp (acW h he) Z5⟩
def aix{m:CG}(h:FU X F a m):RH X F (.BoolOp .And [a] pos) m:=⟨have h:=h.1;acd h⟩
def aiS{m:CG}(h:FU X F a m):RH X F (.BoolOp .Or [a] pos) m:=⟨have h:=h.1;ae9 h⟩
def aiw{m n:CG}(h:FU X F a m)(k:RH X F (.BoolOp .And (b::A2) pos) n):RH X F (.BoolOp .And (a::b::A2) pos) (Ig m n):=⟨have h:=h.1;have k:=k.1;H5.imp (acb h k) yX⟩
def aiR{m n:CG}(h:FU X F a m)(k:RH X F (.BoolOp .Or (b::A2) pos) n):RH X F (.BoolOp .Or (a::b::A2) pos) (JC m n):=⟨have h:=h.1;have k:=k.1;H5.imp (ae8 h k) xt⟩
def aiv{m:CG}(h:RH X F e m):FU X F e m:=⟨have h:=h.1;H5.pt h⟩
def air{m:CG}(h:FU X F a m):FU X F (.UnaryOp .Not a pos) (ES m):=⟨have h:=h.1;FH.imp (acV h) xp⟩
def aiM{op}{m:A_}(h:B3 X F a m):B3 X F (.BoolOp op [a] pos) m:=⟨have h:=h.1;adO h⟩
def ah1{m n:A_}(h:B3 X F a m)(k:B3 X F (.BoolOp .And (b::A2) pos) n):B3 X F (.BoolOp .And (a::b::A2) pos) (Mb m n):=⟨have h:=h.1;have k:=k.1;Ay.imp (ad8 h k) yY⟩
def aiN{m n:A_}(h:B3 X F a m)(k:B3 X F (.BoolOp .Or (b::A2) pos) n):B3 X F (.BoolOp .Or (a::b::A2) pos) (WA m n):=⟨have h:=h.1;have k:=k.1;Ay.imp (adP h k) xu⟩
def aiL{m:A_}(h:B3 X F a m):B3 X F (.UnaryOp .Not a pos) (aj m):=⟨have h:=h.1;Ay.imp (adN h) xq⟩
def ai4{k:CG}{m n:A_}(h:FU X F c k)(AB:B3 X F a m)(J:B3 X F b n):B3 X F (.IfExp c a b pos) (LS k m n):=⟨have h:=h.1;have AB:=AB.1;have J:=J.1;Ay.imp (adG h AB J) y9⟩
def ajG:JV X F [] Cs:=⟨Gb.imp nW xn⟩
def aj7{m n:As}(h:EP X F st m)(k:JV X F N5 n):JV X F (st::N5) (Ab m n):=⟨have h:=h.1;have k:=k.1;Gb.imp (nV h k) zI⟩
def ajH{m:As}(h:EP X F st m):JV X F [st] m:=⟨have h:=h.1;eF h⟩
def aj9{m:A_}(h:B3 X F e m)(AK:Oa e=true:=by rfl):EP X F (.Expr e pos) (Ws m):=⟨have h:=h.1;Cz.imp (W4 h (MG _ _ _ _ AK)) y2⟩
def ajJ{m:A_}(h:B3 X F e m):EP X F (.Return (some e) pos) (Cc m):=⟨have h:=h.1;Cz.imp (W5 h) zF⟩
def ajK{m:Ap}(h:JW X F e m):EP X F (.Return (some e) pos) (GP m):=⟨have h:=h.1;Cz.imp (W5 h) zG⟩
def ajM(i:Nat){x:Str}{p:Pos}(hN:ς:=by rfl)(BE:Gf X.env.scope x:=by rw?)(hd:ι:=by decide)(D8:μ:=by decide):EP X F (.Return (some (.Name x p)) pos) (GP (Jh i)):=⟨Cz.imp (W5 (II hN BE hd D8)) (zH i)⟩
def ajF{k:CG}{m n:As}{xs ys:List BZ}(h:FU X F c k)(AB:JV X F xs m)(J:JV X F ys n):EP X F (.If c xs ys pos) (Cf k m n):=⟨have h:=h.1;have AB:=AB.1;have J:=J.1;Cz.imp (oS h AB J) yA⟩
def ajE{m:As}(i:Nat)(h:EP X F st m):EP X F st (SK i m):=⟨have h:=h.1;Cz.imp h y6⟩
def aia(i:Nat){x:Str}{p:Pos}{m:A_}(hN:X.N.Nodup)(he:B3 X F e m)(AC:ς:=by rfl)(AJ:Loc X.env.scope x:=by first|exact Dk rfl|exact Cn rfl)(AK:Oa e=true:=by rfl)(hf:X.fn x=true\/X.env.scope.names.lookup x=some .local:=by first|exact .inl rfl|exact .inr rfl):EP X F (.Assign [.Name x p] e pos) (Bc i m):=⟨have he:=he.1;Cz.imp (bI hN AC AJ he (MG _ _ _ _ AK) hf) zJ⟩
def aie(i:Nat){x:Str}{p:Pos}{m:Ap}(hN:X.N.Nodup)(he:JW X F e m)(AC:ς:=by rfl)(AJ:Loc X.env.scope x:=by first|exact Dk rfl|exact Cn rfl)(AK:Oa e=true:=by rfl)(hf:X.fn x=true\/X.env.scope.names.lookup x=some .local:=by first|exact .inl rfl|exact .inr rfl):EP X F (.Assign [.Name x p] e pos) (Eg i m):=⟨have he:=he.1;Cz.imp (bI hN AC AJ he (MG _ _ _ _ AK) hf) cx⟩
def ahg(AB:B3 X F a m)(J:B3 X F b n):B3 X F (.BinOp a .Sub b pos) (A9 QT m n):=⟨have AB:=AB.1;have J:=J.1;Qu abZ (WY λ_ _ _=>ζ) AB J⟩
def aiG(AB:B3 X F a m)(J:B3 X F b n):B3 X F (.BinOp a .Mult b pos) (A9 Mf m n):=⟨have AB:=AB.1;have J:=J.1;Qu ac2 (UR λ_ _ _=>ζ) AB J⟩
def age(AB:B3 X F a m)(J:B3 X F b n):B3 X F (.BinOp a .FloorDiv b pos) (A9 ER m n):=⟨have AB:=AB.1;have J:=J.1;Qu abz (UR λ_ _ _=>ζ) AB J⟩
def aiF(AB:B3 X F a m)(J:B3 X F b n):B3 X F (.BinOp a .Mod b pos) (A9 Cy m n):=⟨have AB:=AB.1;have J:=J.1;Qu ac1 (UR λ_ _ _=>ζ) AB J⟩
def aiP(AB:B3 X F a m)(J:B3 X F b n):B3 X F (.BinOp a .Pow b pos) (A9 Og m n):=⟨have AB:=AB.1;have J:=J.1;Qu abX (UR λ_ _ _=>ζ) AB J⟩
def aip(AB:B3 X F a m)(J:B3 X F b n):FU X F (.Compare a [.Lt] [b] pos) (BF (A9 Wn m n)):=⟨have AB:=AB.1;have J:=J.1;QV mS (WY λ_ _ _=>ζ) AB J (O_ _)⟩
def aim(AB:B3 X F a m)(J:B3 X F b n):FU X F (.Compare a [.Gt] [b] pos) (BF (A9 VS m n)):=⟨have AB:=AB.1;have J:=J.1;QV ac0 (WY λ_ _ _=>ζ) AB J (O_ _)⟩
def aiI(AB:B3 X F a m):B3 X F (.UnaryOp .USub a pos) (Ch NS m):=⟨have AB:=AB.1;vf af_ (λσ ρ G H x Aj Q r Bu k=>by
 unfold NS at k
 split at k
 .rename_i i;erw[At]at Bu;exact⟨i,Bu,k _ H G r (C5.refl _ _) ζ⟩
 .exact k.elim) AB⟩
def agz(AB:B3 X F a m)(J:B3 X F b n):B3 X F (.BinOp a .Add b pos) (A9 DP m n):=⟨have AB:=AB.1;have J:=J.1;Qu (abx.or (aby.or e3)) abj AB J⟩
def ail(BD:X.A.units+64<DH)(AB:B3 X F a m)(J:B3 X F b n)(Ar:F.K=X.K:=by rfl):FU X F (.Compare a [.Eq] [b] pos) (BF (A9 (Bi true) m n)):=⟨have AB:=AB.1;have J:=J.1;QV (mO Ar BD) (aK true) AB J (O_ _)⟩
def aiq(BD:X.A.units+64<DH)(AB:B3 X F a m)(J:B3 X F b n)(Ar:F.K=X.K:=by rfl):FU X F (.Compare a [.NotEq] [b] pos) (BF (A9 (Bi false) m n)):=⟨have AB:=AB.1;have J:=J.1;QV (mT Ar BD) (aK false) AB J (O_ _)⟩
def agd(BD:X.A.units+64<DH)(AB:B3 X F a m)(J:B3 X F b n)(Ar:F.K=X.K:=by rfl):B3 X F (.Compare a [.Eq] [b] pos) (A9 (Bi true) m n):=⟨have AB:=AB.1;have J:=J.1;Zh (mO Ar BD) (aK true) AB J (O_ _)⟩
def aiH(BD:X.A.units+64<DH)(AB:B3 X F a m)(J:B3 X F b n)(Ar:F.K=X.K:=by rfl):B3 X F (.Compare a [.NotEq] [b] pos) (A9 (Bi false) m n):=⟨have AB:=AB.1;have J:=J.1;Zh (mT Ar BD) (aK false) AB J (O_ _)⟩
def ain(BD:X.A.units+64<DH)(AB:B3 X F a m)(J:B3 X F b n)(Ar:F.K=X.K:=by rfl)(hm:IL .In b=false:=by with_unfolding_all rfl):FU X F (.Compare a [.In] [b] pos) (BF (A9 (inD true) m n)):=⟨have AB:=AB.1;have J:=J.1;QV (mP Ar BD) (dz true) AB J hm⟩
def ais(BD:X.A.units+64<DH)(AB:B3 X F a m)(J:B3 X F b n)(Ar:F.K=X.K:=by rfl)(hm:IL .NotIn b=false:=by with_unfolding_all rfl):FU X F (.Compare a [.NotIn] [b] pos) (BF (A9 (inD false) m n)):=⟨have AB:=AB.1;have J:=J.1;QV (ac3 Ar BD) (dz false) AB J hm⟩
def ai5(BD:X.A.units+64<DH)(AB:B3 X F a m)(J:B3 X F b n)(Ar:F.K=X.K:=by rfl)(hm:IL .In b=false:=by with_unfolding_all rfl):B3 X F (.Compare a [.In] [b] pos) (A9 (inD true) m n):=⟨have AB:=AB.1;have J:=J.1;Zh (mP Ar BD) (dz true) AB J hm⟩
def aio(AB:B3 X F a m)(J:B3 X F b n):FU X F (.Compare a [.Is] [b] pos) (BF (A9 (Hp true) m n)):=⟨have AB:=AB.1;have J:=J.1;QV mR (λσ ρ G H x y Aj Gh Q r Bu Ck k=>by
 unfold Hp at k
 split at k
 .erw[At]at Ck;rw[d5 Bu]at k;exact⟨Ck,k _ H G r (C5.refl _ _) (by erw[At];rfl)⟩
 .exact k.elim) AB J (O_ _)⟩
def ait(AB:B3 X F a m)(J:B3 X F b n):FU X F (.Compare a [.IsNot] [b] pos) (BF (A9 (Hp false) m n)):=⟨have AB:=AB.1;have J:=J.1;QV abW (λσ ρ G H x y Aj Gh Q r Bu Ck k=>by
 unfold Hp at k
 split at k
 .erw[At]at Ck;rw[d5 Bu]at k;exact⟨Ck,k _ H G r (C5.refl _ _) (by erw[At];rfl)⟩
 .exact k.elim) AB J (O_ _)⟩
def ai8(AB:B3 X F a m)(J:B3 X F b n):B3 X F (.Compare a [.Is] [b] pos) (A9 (Hp true) m n):=⟨have AB:=AB.1;have J:=J.1;Zh mR (λσ ρ G H x y Aj Gh Q r Bu Ck k=>by
 unfold Hp at k
 split at k
 .erw[At]at Ck;rw[d5 Bu]at k;exact⟨Ck,k _ H G r (C5.refl _ _) (by erw[At];rfl)⟩
 .exact k.elim) AB J (O_ _)⟩
def ag_{op Jl:Kc}{r BB:F3}{f g:D->D->R D}{l:A_}(AN:E7 X (GG op) r)(Dr:E7 X (GG Jl) BB)(hf:Hh F r f)(Aa:Hh F BB g)(AB:B3 X F a m)(J:B3 X F b n)(AO:B3 X F c l)(hm:lastMarks [op,Jl] [b,c]=false:=by with_unfolding_all rfl):B3 X F (.Compare a [op,Jl] [b,c] pos) (OU f g m n l):=⟨have AB:=AB.1;have J:=J.1;have AO:=AO.1;Ay.imp (adB AN Dr AB J AO hm) (m3 hf Aa)⟩
def qf{op Jl:Kc}{r BB:F3}{f g:D->D->R D}{l:A_}(AN:E7 X (GG op) r)(Dr:E7 X (GG Jl) BB)(hf:Hh F r f)(Aa:Hh F BB g)(AB:B3 X F a m)(J:B3 X F b n)(AO:B3 X F c l)(hm:lastMarks [op,Jl] [b,c]=false:=by with_unfolding_all rfl):FU X F (.Compare a [op,Jl] [b,c] pos) (BF (OU f g m n l)):=⟨have AB:=AB.1;have J:=J.1;have AO:=AO.1;FH.imp (ad3 AN Dr AB J AO hm) λσ H Q h=>by obtain⟨G,ρ,r,k⟩:=lz (F:=F) (m:=OU f g m n l) σ H Q h;exact m3 hf Aa σ H _ ⟨G,ρ,r,k⟩⟩
def aiA(hm:X.mg "len"=none)(AB:F6 X F [e] ma)(Ar:F.K=X.K:=by rfl)(Aa:Dg X "len":=by rfl)(he:Fr:=by rfl)(DQ:(Cq pos (B9 [] X.env)).any (·.1)=false:=by rfl):B3 X F (.Call (.Name "len" p) [e] [] pos) (Bz CN ma):=⟨have AB:=AB.1;k9 u_ (abm Ar) hm PySem.boot_len AB Aa ε ε he DQ⟩
def XG{U:Str}{T:String}{DU:Pos}(tt:RG X.K T)(hm:X.mg "isinstance"=none)(xH:X.mg U=none)(xY:LM U=some (.type T))(AB:B3 X F a m)(Ar:F.K=X.K:=by rfl)(Aa:Dg X "isinstance":=by rfl)(x1:Dg X U:=by rfl)(xK:U≠"__name__":=by decide)(xj:(U==("__debug__" :Str))=false:=by decide)(Fi:B9 [.Name U DU] X.env=(false,BH (.Name U DU) X.env)::B9 [] X.env:=by rfl)(he:B9 [a,.Name U DU] X.env=(false,BH a X.env)::B9 [.Name U DU] X.env:=by rfl)(DQ:(Cq pos (B9 [.Name U DU] X.env)).any (·.1)=false:=by rfl):B3 X F (.Call (.Name "isinstance" p) [a,.Name U DU] [] pos) (Ch (Jd T) m):=⟨by
 have AB:=AB.1;have J:LM "isinstance"=some (.builtin "isinstance"):=η
 refine Ay.imp (W2 (uZ Ar tt) Aa hm J (Of AB (Of (adA x1 xH xY (v:=.ty T) rfl xK xj) QI Fi) he) ε ε he DQ) ?_;delta Ch r;refine rb h λd Av h x H1 Ai AL s1 Bu=>?_;unfold Jd at h;cases e:XA d with
 |none=>rw[e]at h;cases h
 |some hs=>rw[e]at h;exact⟨Ai,d,x,hs,AL.kp.sub,rfl,Bu,e,h _ H1 Ai AL s1 ζ⟩⟩
def ai9(AB:B3 X F a m)(J:B3 X F b n)(AK:hq b)(Ar:F.K=X.K:=by rfl):B3 X F (.Subscript a b pos) (A9 AU m n):=⟨have AB:=AB.1;have J:=J.1;Ay.imp (adI zD AB J AK) (Z6 (abl Ar))⟩
def ah_:Yh X F none NH:=⟨λpins s σ H Q I h=>by obtain⟨G,ρ,r,k⟩:=h;exact acw pins s σ H Q I (k H G r (C5.refl _ _))⟩
def aha(h:B3 X F e m):Yh X F (some e) (GU m):=⟨have h:=h.1;λpins s σ H Q I hw=>by
 obtain⟨G,ρ,r,k⟩:=hw;refine acx h pins s σ H Q I ⟨G,ρ,r,?_⟩;unfold GU at k;refine rb k λd Av k x H1 Ai AL s1 Bu=>?_;cases d with
 |int i=>erw[At]at Bu;exact⟨i,Bu,k H1 Ai AL s1⟩
 |_=>exact k.elim⟩
def ahd{lo AC:Option AS}{DU:Pos}{WO nC:Pz}(AB:B3 X F a m)(AP:Yh X F lo WO)(An:Yh X F AC nC)(Ar:F.K=X.K:=by rfl):B3 X F (.Subscript a (.Slice lo AC none DU) pos) (I9 HV m WO nC):=⟨have AB:=AB.1;have AP:=AP.1;have An:=An.1;Ay.imp (adQ (aez.or af0) AB AP An) (zL Ar)⟩
def ahf(hm:X.mg "str"=none)(AB:F6 X F [e] ma)(Aa:Dg X "str":=by rfl)(he:Fr:=by rfl)(DQ:(Cq pos (B9 [] X.env)).any (·.1)=false:=by rfl):B3 X F (.Call (.Name "str" p) [e] [] pos) (Bz U3 ma):=⟨have AB:=AB.1;bz tu abq hm η AB Aa ε ε he DQ⟩
def aj0(h:B3 X F e m)(Ar:F.K=X.K:=by rfl):Lc X F Bj e (Er m):=⟨have h:=h.1;G6.imp (acg h) (by rw[<-Ar];exact yC)⟩
def aiW(h:B3 X F e m)(Ar:F.K=X.K:=by rfl):Lc X F Bj e (ag m):=⟨have h:=h.1;G6.imp (ack h) (by rw[<-Ar];exact zP)⟩
def aiV(h:B3 X F e m):Lc X F Bj e (Wu m):=⟨have h:=h.1;G6.imp (acj h) zM⟩
def aiT(hm:X.mg "range"=none)(AB:F6 X F [a] ma)(Aa:Dg X "range":=by rfl)(AK:B9 [a] X.env=[(false,BH a X.env)]:=by rfl):Lc X F Bj (.Call (.Name "range" p) [a] [] pos) (FK ma):=⟨have AB:=AB.1;G6.imp (ach Aa hm AB AK) yG⟩
def aiU(hm:X.mg "range"=none)(AB:F6 X F [a,b] ma)(Aa:Dg X "range":=by rfl)(AK:B9 [a,b] X.env=[(false,BH a X.env),(false,BH b X.env)]:=by rfl)(Fi:B9 [b] X.env=[(false,BH b X.env)]:=by rfl):Lc X F Bj (.Call (.Name "range" p) [a,b] [] pos) (TV ma):=⟨have AB:=AB.1;G6.imp (aci Aa hm AB AK Fi) zE⟩
def aiy{elts:List AS}{k:Nat}{X7:Pos}(hm:X.mg "enumerate"=none)(AB:F6 X F [a] ma)(Ar:F.K=X.K:=by rfl)(Aa:Dg X "enumerate":=by rfl)(AK:B9 [a] X.env=[(false,BH a X.env)]:=by rfl):Lc X F (.Tuple elts k X7) (.Call (.Name "enumerate" p) [a] [] pos) (T0 ma):=⟨have AB:=AB.1;G6.imp (ace Aa hm AB AK) (y4 Ar)⟩
def aiX{elts:List AS}{k:Nat}{X7:Pos}(hm:X.mg "zip"=none)(AB:F6 X F [a,b] ma)(Ar:F.K=X.K:=by rfl)(Aa:Dg X "zip":=by rfl)(AK:B9 [a,b] X.env=[(false,BH a X.env),(false,BH b X.env)]:=by rfl)(Fi:B9 [b] X.env=[(false,BH b X.env)]:=by rfl):Lc X F (.Tuple elts k X7) (.Call (.Name "zip" p) [a,b] [] pos) (ah ma):=⟨have AB:=AB.1;G6.imp (acm Aa hm AB AK Fi) (zT Ar)⟩
def ajD{body:List BZ}{mi:Ap}{set:D->AI->R AI}{HA:As}(AX:PassesOwn ω X.A X.env X.xe)(AC:Lc X F Bj iter mi)(Aa:GM X Bj set)(J:JV X F body HA)(AO:X.calm=true:=by rfl)(Ar:F.K=X.K:=by rfl)(AK:∀x,M1 iter X.env x=pure x:=by intro _;rfl):EP X F (.For Bj iter body [] pos) (Ep mi set HA):=⟨by
 have AC:=AC.1;have J:=J.1;obtain⟨⟨g,A5,A8⟩,Au,_⟩:=Aa;exact Cz.imp (ad0 AX AO AC A5 J AK) (y5 (A8 F Ar) Au)⟩
def aid{st:BZ}{i:Nat}{a:Ap}(h:EP X F st (Eg i a)):EP X F st (NK i a):=⟨have h:=h.1;Cz.imp h λCP σ H⟨G,ρ,r,k⟩=>by
 refine⟨G,ρ,r,?_⟩;unfold NK at k;refine rb k λf e k=>?_;cases f with
 |BG BK=>intro σ' G' H' BB s';obtain⟨Cw,BA,s2⟩:=BB.L1 i;exact k σ' Cw H' BA (s'.trans s2)
 |Du d=>exact k
 |JD d=>exact k
 |OB d=>exact k
 |rs d _=>exact k
 |Ed d=>exact k
 |Di d=>exact k⟩
def ah0{k:Nat}(B8:CM k X.A)(hm:X.mg "all"=none)(AB:F6 X F [e] ma)(AO:X.calm=true:=by rfl)(Aa:Dg X "all":=by rfl)(he:Fr:=by rfl)(DQ:(Cq pos (B9 [] X.env)).any (·.1)=false:=by rfl):B3 X F (.Call (.Name "all" p) [e] [] pos) (Bz CH ma):=⟨have AB:=AB.1;k9 (uW AO B8.hd) abk hm η AB Aa ε ε he DQ⟩
def aj2 (i:Nat) {x:Str} {Cd:Pos} {apos:Pos} {Bn:Pos} (he:B3 X F e m) (hN:ς:=by rfl) (BE:Gf X.env.scope x:=by rw?) (hd:ι:=by decide) (D8:μ:=by decide) (L4:Hz (.Name x Cd) "append" X.env (BH (.Name x Cd) X.env)=BH (.Name x Cd) X.env:=by rfl) (L6:(apos.endLine==Bn.line)=true:=by rfl) (L5:((Cq Bn (B9 [e] X.env)).all (λx=>!x.1)&&(Gr Bn (Gp [] X.env)).all (λx=>x.1.isSome)
   &&decide (([e]:List AS).length+([]:List FS).length+(if([]:List FS).isEmpty then 0 else 1)<30))=true:=by rfl) (AK:Fr:=by rfl) (L7:(Cq Bn (B9 [] X.env)).any (·.1)=false:=by rfl) (Ar:F.K=X.K:=by rfl):EP X F (.Expr (.Call (.Attribute (.Name x Cd) "append" apos) [e] [] Bn) pos) (JB i m):=⟨by
 have he:=he.1;refine Cz.imp (W4 (Tt SO sE sF eX (II hN BE hd D8) (Of he QI AK) L4 L5 L6 AK L7) (MG _ _ _ _ rfl)) ?_;rintro CP σ H ⟨G,ρ,r,h⟩;unfold JB ownAt at h;cases CY:ρ[i]? with
 |none=>rw[CY]at h;cases h
 |some s=>
  rw[CY]at h;cases s with
  |un=>cases h
  |A1 _=>cases h
  |EY _=>cases h
  |Bl _ _=>cases h
  |ob ob=>
   cases ob with
   |B5 _ _=>cases h
   |ins _ _ _=>cases h
   |lst ds=>
    obtain⟨q,xs,A7,A5,A8,Au,BC⟩:=r.own CY;have h:Hq F G CP ((m ρ).bind λd=>if ds.length<1000000 then .ok (.BG (ρ.set i (.C8 (ds++[d]))))else .bad):=h;refine⟨.ref q,A7,.inl ⟨rfl,xs,C4.of A5⟩,G,ρ,r,?_⟩;refine rb h λd Av h v H1 Ai AL s1 B4=>?_;obtain⟨Dl,Gm,Ee,J2,Ow,PZ,Gy⟩:=AL.own CY;rw[A7]at Ee;cases Ee;by_cases AP:ds.length<1000000
    .rw[if_pos AP]at h;refine⟨q,Gm,v,rfl,rfl,J2,by rw[<-Gy.length];exact LN AP ε,?_⟩;exact h σ Ai _ (AL.mut CY A7 (Gy.snoc B4)) s1.g
    .rw[if_neg AP]at h;exact h.elim⟩
def agX{x:Str}{n k:Nat}{BP:χ->R C2}(c:Dy X.prog X.w X.K X.mg X.base x n k BP)(B8:CM k X.A)(AB:F6 X F (e::A2) ma)(J3:F.EX=λ_ _=>False:=by rfl)(Ar:F.K=X.K:=by rfl)(Aa:Dg X x:=by rfl)(GB:ι:=by decide)(he:Cl:=by rfl)(DQ:(Cq pos (B9 A2 X.env)).any (·.1)=false:=by rfl):B3 X F (.Call (.Name x p) (e::A2) [] pos) (CB n BP ma):=⟨by
 have AB:=AB.1;obtain⟨f,fd,Am,AQ,Gw,hm,AG,J⟩:=c.ex;refine Ay.imp (Zq Gw B8 Aa hm AG J .nil Rn AB GB he DQ) ?_;rw[<-Ar];exact m1 (xe:=λ_ _ _=>False) (E:=gp) J3⟩
def ahz{x:Str}{n k:Nat}{BP:χ->R C2}(c:Dy X.prog X.w X.K X.mg X.base x n k BP)(B8:CM k X.A)(AB:F6 X F (e::A2) ma)(J3:F.EX=λ_ _=>False:=by rfl)(Ar:F.K=X.K:=by rfl)(Aa:Dg X x:=by rfl)(GB:ι:=by decide)(he:Cl:=by rfl)(DQ:(Cq pos (B9 A2 X.env)).any (·.1)=false:=by rfl):JW X F (.Call (.Name x p) (e::A2) [] pos) (EM n BP ma):=⟨by
 have AB:=AB.1;obtain⟨f,fd,Am,AQ,Gw,hm,AG,J⟩:=c.ex;refine Ay.imp (Zq Gw B8 Aa hm AG J .nil Rn AB GB he DQ) ?_;rw[<-Ar];exact xw (xe:=λ_ _ _=>False) (E:=gp) J3⟩
variable{scope:Dn}{N:List Str}
abbrev gm(X:Ad)(scope:Dn)(N:List Str)(e:AS)(m:A_):Prop:=∀cl C s H Ah G0 H0,B3 (Ff X scope N cl C s H Ah) (FX X.K G0 H0) e m
def agx{mt:CG}(h:∀cl C s H Ah G0 H0,FU (Ff X scope N cl C s H Ah) (FX X.K G0 H0) c mt):Ml X scope N [c] mt:=CR.tH λcl C s H Ah G0 H0=>(h cl C s H Ah G0 H0).1
noncomputable def K4(sc:Dn)(Nf:List Str)(nl:Nat)(caps:φ):List Str:=((sc.names.drop 1).take nl).map (·.1)++caps.map λj=>Nf.getD j ""
def ai2(nl:Nat)(caps:φ){ifs:List AS}{mi:Ap}{set:D->AI->R AI}{mt:CG}{Es:A_}(S:RL X.env.scope X.N scope (K4 scope X.N nl caps) nl caps=true)(AC:Lc X F Bj iter mi)(Aa:R2 X scope (K4 scope X.N nl caps) Bj set)(Ax:Ml X scope (K4 scope X.N nl caps) ifs mt)(he:gm X scope (K4 scope X.N nl caps) elt Es)(AO:X.calm=true:=by rfl)(Ar:F.K=X.K:=by rfl)(AK:∀x,M1 iter X.env x=pure x:=by intro _;rfl):JW X F (.ListComp elt [⟨Bj,iter,ifs,0⟩] scope pos) (D3 nl caps mi set mt Es):=
 ⟨CR.abf nl caps S AC.1 Aa Ax (λcl C s H Ah G0 H0=>(he cl C s H Ah G0 H0).1) AO Ar AK⟩
def aj5(i:Nat)(nl:Nat)(caps:φ){y:Str}{py:Pos}{ifs:List AS}{mi:Ap}{set:D->AI->R AI}{mt:CG}{Es:A_}{Bn:Pos}(hN:X.N.Nodup)(S:RL X.env.scope X.N scope (K4 scope X.N nl caps) nl caps=true)(AC:Lc X F Bj iter mi)(Aa:R2 X scope (K4 scope X.N nl caps) Bj set)(Ax:Ml X scope (K4 scope X.N nl caps) ifs mt)(he:gm X scope (K4 scope X.N nl caps) elt Es)(BO:X.N[i]?=some y:=by rfl)(AP:X.env.kindOf y=some .local:=by rfl)(ON:M6 (.ListComp elt [⟨Bj,iter,ifs,0⟩] scope Bn) (some (.Name y py)) pos.line X.env=pure true:=by rfl)(AO:X.calm=true:=by rfl)(Ar:F.K=X.K:=by rfl)(AK:∀x,M1 iter X.env x=pure x:=by intro _;rfl) :
  EP X F (.Assign [.Name y py] (.ListComp elt [⟨Bj,iter,ifs,0⟩] scope Bn) pos) (Eg i (D3 nl caps mi set mt Es)):=
 ⟨CR.adZ i nl caps hN S AC.1 Aa Ax (λcl C s H Ah G0 H0=>(he cl C s H Ah G0 H0).1) BO AP ON AO Ar AK⟩
end
def EC{P:Ba}{w:BL}{K:AZ}{mg:Str->Option A4}{base:B2}{x:Str}{st:BZ}{N Am:List Str}{k:Nat}{m:As}(d:Df K mg x st Am)(S:CT N Am (Br st))(h:∀(f:A6)(CA:A4)(A:Bt)(outer:List Env)(s:AM)(H:AA)(E:D0),CM k (A.deeper (My x (Br st) s.heap.objs.size f CA))->∀G0 H0,JV (F0 H2 P w K mg base N x (Br st) f CA A outer s H E).Hr (FX K G0 H0) (GJ st) m) :
  Dy P w K mg base x Am.length (k+1) (D9 N.length m):=CR.tg d S λf CA A outer s H E B8 G0 H0=>(h f CA A outer s H E B8 G0 H0).1
structure Ke(K:AZ)(mg:Str->Option A4)(x:Str)(d:D):Prop where
 ex:∃(v:V)(u:A4),mg x=some u/\RelV v u/\∀G,At K G d v
def U8{X:Ad}{F:B6}{x:Str}{d:D}{pos:Pos}(c:Ke X.K X.mg x d)(Ar:F.K=X.K:=by rfl)(Aa:Dg X x:=by rfl)(hd:ι:=by decide):B3 X F (.Name x pos) (AD d):=by obtain⟨v,u,A5,A8,Au⟩:=c.ex;exact⟨CR.ve A5 A8 (by rw[Ar];exact Au) Aa hd⟩
end CR
namespace Bv
open PySem PySem.Spec PyProof.Rows
section
variable{X:Ad}{Bj:AS}
def i7(a b c:Int):Prop:=c≠0/\Builtin.Range.small a b c=true/\0<=fq a b c/\Builtin.divisionGoesByPylong (b-a) c=false
instance(a b c:Int):Decidable (i7 a b c):=by unfold i7;infer_instance
end
section
variable{X:Ad}{a e:AS}{C1:En}{pos p pos' Kr:Pos}
theorem r1:∀{xs:List V}{us:List A4},xs.length=us.length->(∀(i:Nat) x y,xs[i]?=some x->us[i]?=some y->RelV x y)->Vals xs us
 |[],[],_,_=>.nil
 |[],_::_,h,_=>by simp at h
 |_::_,[],h,_=>by simp at h
 |x::xs,u::us,h,f=>.cons (f 0 x u γ γ) (r1 (h:) λi a b A7 AH=>f (i+1) a b (A7:) (AH:))
def abO{pins:υ}{σ :St}{H1:AA}{s2:AM}{Q:CQ}{r:A6}{j:Int}{t u v:Tok}(C3:Inv X pins σ H1 s2)(AO:X.calm=true)(B8:IsRange s2.heap r 0 j 1 t u v)(Al: -(2^62)<=j)(BN:j<=1000000)(q:∀l,H1 l=none->Q (.ref l) (upd H1 l (.lst ((DK j.toNat).map λi=>.int (i:Nat))))):AW ω X.A (call (.type "list") [.ref r]) (GZ X pins σ Q) X.xe s2:=by
 have AQ:fq 0 j 1=(j.toNat:Nat):=by rw[rangeSize_one];split<;>lia
 refine call_list_range (C3.ok.hd AO) B8 (small_one δ δ δ δ) AQ δ λh' BU Te Eo kp e it=>?_;obtain⟨acc,rfl⟩:∃l:List A4,Te=l.toArray:=⟨Te.toList,γ⟩;have BE:Vals ((DK j.toNat).map λi=>V.int ((i:Nat):Int)) acc:=by
  have AP:acc.length=j.toNat:=(it.1:)
  refine r1 ?_ ?_
  .simp[AP]
  .intro i x y A7 AH;rw[Dm]at A7;have AC:i<j.toNat:=by rw[<-AP];exact(List.getElem?_eq_some_iff.mp AH).1
   rw[QY AC]at A7;cases A7;obtain⟨tt,rfl⟩:=it.2 i y (AH:);exact⟨tt,γ⟩
 exact⟨.ref _,_,C3.laid (t':=BU) kp (CS _) (show Em X.prog X.w X.K _ h' _ (.lst _)from⟨Fp (m:=1000000) θ ε,acc,Eo,BE,e⟩),rfl,q _ (C3.BX.fresh (CS _))⟩
def aff(C1:En):TE:=λσ H Q=>C1 σ H λvs H1=>∃j:Int,vs=[.int j]/\-(2^62)<=j/\j<=1000000/\∀l,H1 l=none->Q (.ref l) (upd H1 l (.lst ((DK j.toNat).map λi=>.int (i:Nat))))
def adJ(Aa:Dg X "list")(hm:X.mg "list"=none)(Vb:Dg X "range")(Ib:X.mg "range"=none)(AO:X.calm=true)(AB:G5 X [a] C1)(AK:B9 [a] X.env=[(false,BH a X.env)]:=by rfl)(Fi:B9 [.Call (.Name "range" Kr) [a] [] pos'] X.env=[(false,BH (.Call (.Name "range" Kr) [a] [] pos') X.env)]:=by rfl) :
  Ay X (.Call (.Name "list" p) [.Call (.Name "range" Kr) [a] [] pos'] [] pos) (aff C1):=by
 intro pins s σ H Q I h;refine Uh (OT (u:=.type "list") I Aa hm η ?_);refine QZ ?_ Fi rfl;rw[Fi];refine SS ?_;refine Call_ (OT I Vb Ib boot_range (QZ (Bd (AB pos' pins s σ H _ I h) λus s1⟨vs,H1,B0,AL,Al⟩=>?_) AK rfl));obtain⟨j,e,Al,BN,q⟩:=Al;subst e;cases AL with
 |cons r LV=>cases LV;obtain⟨t,rfl⟩:=r;refine call_range_1 (UZ ?_);exact abO (B0.kept λb o e=>Cp _ e) AO (IsRange.new ..) Al BN q
end
end Bv
namespace CR
open PySem PySem.Spec Bv
abbrev HO:=AI->R (D×AI)
def lT(F:B6)(G:AA)(σ :St)(Q:CQ):R (D×AI)->Prop
 |.ok (d,BK)=>∀v H' G',Rel F G' H' σ BK->Sub G G'->At F.K G' d v->Q v H'
 |.exc c=>MZ F c
 |.bad=>False
def az(F:B6)(m:HO):TE:=λσ H Q=>∃G ρ,Rel F G H σ ρ/\lT F G σ Q (m ρ)
section
variable{F:B6}
noncomputable def NJ(i:Nat)(a:HO):As:=λρ=>(a ρ).bind λx=>(BR i x.1 x.2).bind λBK=>.ok (.BG BK)
def zK{i:Nat}{a:HO}:Hf (FP F (NJ i a)) (MH (az F a) (J1 i)):=by
 rintro CP σ H ⟨G,ρ,r,h⟩;unfold NJ BR at h;refine⟨G,ρ,r,?_⟩;cases Av:a ρ with
 |bad=>rw[Av]at h;cases h
 |exc c=>rw[Av]at h;exact h
 |ok x=>
  obtain⟨d,ED⟩:=x;rw[Av,R.EF]at h;intro v H1 Ai AL s1 B4;by_cases AC:i<ED.length
  .erw[if_pos AC]at h;exact h _ Ai H1 (AL.set AC B4) s1
  .erw[if_neg AC]at h;cases h
noncomputable def Pq(a:HO):As:=λρ=>(a ρ).bind λx=>.ok (.BG x.2)
def y3{a:HO}:Hf (FP F (Pq a)) (fa (az F a)):=by
 delta Pq;refine⟨G,ρ,r,?_⟩;cases Av:a ρ with
 |bad=>rw[Av]at h;cases h
 |exc c=>rw[Av]at h;exact h
 |ok x=>obtain⟨d,ED⟩:=x;rw[Av]at h;exact λv H' G' BB s' _=>h σ G' H' BB s'
end
section
variable{F:B6}
noncomputable def del(H:AA)(a:A6):AA:=λb=>if b=a then none else H b
def tn{H:AA}{a:A6}:del H a a=none:=by simp[del]
def tm{H:AA}{a b:A6}(h:b≠a):del H a b=H b:=by simp[del,h]
def jt(H:AA)(a:A6):Sub (del H a) H:=λb o e=>by
 unfold del at e
 split at e
 .cases e
 .exact e
end
section
variable{F:B6}
end
end CR
namespace CR
open PySem PySem.Spec Bv PyProof.Rows
def AY.erase{K:AZ}{G:AA}{ds:χ}{xs:List V}(n:Nat)(q:AY K G ds xs):AY K G (ds.eraseIdx n) (xs.eraseIdx n):=by rw[fk,fk];exact(q.take n).append (q.drop (n+1))
section
variable{X:Ad}{F:B6}{e a b c:AS}{A2:List AS}{pos p:Pos}{m n:A_}{ma:Ap}
noncomputable def OX(i:Nat)(m:A_):HO:=λρ=>(ownAt i ρ).bind λds=>(m ρ).bind λd=>match d with
 |.int k=>if-(2^63)<=k/\k<2^63 then match Sk k ds.length with
  |some j=>match ds[j]? with
   |some y=>.ok (y,ρ.set i (.C8 (ds.eraseIdx j)))
   |none=>.bad
  |none=>.bad
  else .bad
 |_=>.bad
def af(i:Nat)(m:HO):As:=λρ=>(ownAt i ρ).bind λ_=>(m ρ).bind λx=>(ownAt i x.2).bind λds=>if ds.length<1000000 then .ok (.BG (x.2.set i (.C8 (ds++[x.1]))))else .bad
noncomputable def aY:χ->R χ
 |[.lst xs]=>.ok xs
 |[.CO xs]=>.ok xs
 |[.tup xs]=>.ok xs
 |_=>.bad
def OW(m:Ap):Ap:=λρ=>(m ρ).bind aY
def yD(Ar:F.K=X.K):EO (Ht F (OW ma)) (aw (λxs H Q=>∃p ys,xs=[.ref p]/\(C4 X.K H p ys\/Ct X.K H p ys)/\∀l,H l=none->Q (.ref l) (upd H l (.lst ys))) (EU F ma)):=by
 delta OW r;refine rb h λds Av h vs H1 Ai AL s1 a=>?_;unfold aY at h
 split at h
 .obtain⟨v,rfl,B4⟩:=a.one;erw[At]at B4;obtain⟨q,xs,rfl,AT,Fd⟩:=B4;refine⟨q,xs,rfl,.inl (C4.of (AL.kp.sub _ _ AT)),λl AP=>?_⟩;exact h l xs _ Ai (AL.lay0 AP) (s1.trans (C5.lay0 AP)) (s1.h.gone AP) Do (AL.kp.sub.gone AP) Fd
 .obtain⟨v,rfl,B4⟩:=a.one;erw[At]at B4;obtain⟨q,xs,rfl,AT,Fd⟩:=B4;refine⟨q,xs,rfl,.inl (by rw[<-Ar];exact C4.mono AL.kp.sub AT),λl AP=>?_⟩;exact h l xs _ Ai (AL.lay0 AP) (s1.trans (C5.lay0 AP)) (s1.h.gone AP) Do (AL.kp.sub.gone AP) Fd
 .obtain⟨v,rfl,B4⟩:=a.one;erw[At]at B4;obtain⟨q,xs,rfl,AT,Fd⟩:=B4;refine⟨q,xs,rfl,.inr (Ct.of (AL.kp.sub _ _ AT)),λl AP=>?_⟩;exact h l xs _ Ai (AL.lay0 AP) (s1.trans (C5.lay0 AP)) (s1.h.gone AP) Do (AL.kp.sub.gone AP) Fd
 .exact h.elim
noncomputable def Wm:χ->R χ
 |[.int j]=>if-(2^62)<=j/\j<=1000000 then .ok (Ft 0 j.toNat)else .bad
 |_=>.bad
def W9(m:Ap):Ap:=λρ=>(m ρ).bind Wm
theorem iQ{K:AZ}{G:AA}:∀(l:φ),AY K G (l.map λi=>.int (0+((i:Nat):Int))) (l.map λi=>V.int ((i:Nat):Int))
 |[]=>.nil
 |i::l=>.cons (by simp[At]) (iQ l)
noncomputable def X6:χ->R D
 |[.int i]=>.ok (.int i)
 |[.AV k]=>.ok (.int (if k then 1 else 0))
 |[.str x]=>if x.length<=640 then match intText? x with|some i=>.ok (.int i)|none=>.bad else .bad
 |_=>.bad
def abr:Pv F (λxs H Q=>((∃i,xs=[.int i]/\Q (.int i) H)\/∃k,xs=[.AV k]/\Q (.int (if k then 1 else 0)) H)\/((∃i,xs=[.int i]/\Q (.int i) H)\/∃x i,xs=[.str x]/\x.length<=640/\intText? x=some i/\Q (.int i) H)) X6:=by
 intro σ ρ G H xs ds Q r al k;unfold X6 at k
 split at k
 .rename_i i;exact .inl (.inl ⟨i,al.ints1,k _ H G r (C5.refl _ _) ζ⟩)
 .rename_i c;obtain⟨v,rfl,B4⟩:=al.one;erw[At]at B4;subst B4;exact .inl (.inr ⟨c,rfl,k _ H G r (C5.refl _ _) ζ⟩)
 .rename_i x
  split at k
  .rename_i AP
   split at k
   .rename_i i AC;obtain⟨v,rfl,B4⟩:=al.one;erw[At]at B4;subst B4;exact .inr (.inr ⟨x,i,rfl,AP,AC,k _ H G r (C5.refl _ _) ζ⟩)
   .exact k.elim
  .exact k.elim
 .exact k.elim
noncomputable def Md(set:D->AI->R AI)(m:A_):As:=λρ=>(m ρ).bind λd=>(set d ρ).bind λBK=>.ok (.BG BK)
def px{n:Nat}{BP:χ->R C2}{xe:D0->Str->AA->Prop}{E:D0}{Ai H1:AA}{σ :Bv.St}{ρ:AI}{ds:χ}{vs:List V}{Q:CQ}(AJ:F.EX=xe E)(AL:Rel F Ai H1 σ ρ)(a:AY F.K Ai ds vs)(AQ:ds.length=n)(h:Ie F Ai H1 σ ρ Q ((BP ds).bind Ks)):QS F.K n xe BP vs H1 Q E:=by
 refine⟨Ai,ds,AL.kp.sub,a,AQ,?_⟩;cases e:BP ds with
 |bad=>rw[e]at h;cases h
 |exc c=>rw[e]at h;intro G' H' k;have z:=h G' H' (EW.of AL k).kp;rw[AJ]at z;exact z
 |ok t=>
  rw[e,R.EF]at h;cases t with
  |v d=>exact λv G' H' k B4=>h v H' G' (EW.of AL k) ⟨k.Dq,k.An,k.new⟩ B4
  |o A2=>intro p xs G' H' k A5 A8 Au BC;have A8:H1 p=none:=A8;have BB:=EW.of AL k;have no:¬CU H' σ ρ p:=CU.fresh AL k.An A8;refine h (.ref p) H' _ (BB.take Au A5 (AL.kp.An.gone A8) no) (C5.put ⟨k.Dq,k.An,k.new⟩ A8 A5) ?_;erw[At];exact⟨p,xs,rfl,Do,BC.mono (Sub.upd A5)⟩
  |t t=>intro v G' H' k q;obtain⟨a1,a2,G7⟩:=(EW.of AL k).b2 (F':=⟨F.K,Ai,H1,xe E,IA⟩) rfl q ⟨k.Dq,k.An,k.new⟩ λb J=>⟨(q.own b J).2,AL.kp.An.gone (q.own b J).2,CU.fresh AL k.An (q.own b J).2⟩;exact h v H' _ a1 a2 G7
end
section
variable{X:Ad}{F:B6}{e a b c:AS}{A2:List AS}{pos p:Pos}{m n:A_}{ma:Ap}
end
end CR
namespace CR
open PySem PySem.Spec Bv
structure Q4(X:Ad)(F:B6)(e:AS)(m:HO):Prop where
 o:Ay X e (az F m)
section
variable{X:Ad}{F:B6}{e a b c Bj iter elt:AS}{A2:List AS}{pos p:Pos}{m n:A_}{ma:Ap}{st:BZ}{N5:List BZ}
def aiO (i:Nat) {x:Str} {Cd:Pos} {apos:Pos} {Bn:Pos} (he:B3 X F e m) (hN:ς:=by rfl) (BE:Gf X.env.scope x:=by rw?) (hd:ι:=by decide) (D8:μ:=by decide) (L4:Hz (.Name x Cd) "pop" X.env (BH (.Name x Cd) X.env)=BH (.Name x Cd) X.env:=by rfl) (L6:(apos.endLine==Bn.line)=true:=by rfl) (L5:((Cq Bn (B9 [e] X.env)).all (λx=>!x.1)&&(Gr Bn (Gp [] X.env)).all (λx=>x.1.isSome)
   &&decide (([e]:List AS).length+([]:List FS).length+(if([]:List FS).isEmpty then 0 else 1)<30))=true:=by rfl) (AK:Fr:=by rfl) (L7:(Cq Bn (B9 [] X.env)).any (·.1)=false:=by rfl):Q4 X F (.Call (.Attribute (.Name x Cd) "pop" apos) [e] [] Bn) (OX i m):=⟨by
 have he:=he.1;refine Ay.imp (Tt SO PySem.F.slot_list_pop PySem.F.type_list_pop ab3 (II hN BE hd D8) (Of he QI AK) L4 L5 L6 AK L7) ?_;rintro σ H Q ⟨G,ρ,r,h⟩;unfold OX ownAt at h;cases CY:ρ[i]? with
 |none=>rw[CY]at h;cases h
 |some s=>
  rw[CY]at h;cases s with
  |un=>cases h
  |A1 _=>cases h
  |EY _=>cases h
  |Bl _ _=>cases h
  |ob ob=>
   cases ob with
   |B5 _ _=>cases h
   |ins _ _ _=>cases h
   |lst ds=>
    obtain⟨q,xs,A7,A5,A8,Au,BC⟩:=r.own CY;rw[R.EF]at h;refine⟨.ref q,A7,.inl ⟨rfl,xs,C4.of A5⟩,G,ρ,r,?_⟩;refine rb h λd Av h v H1 Ai AL s1 B4=>?_;obtain⟨Dl,Gm,Ee,J2,Ow,PZ,Gy⟩:=AL.own CY;rw[A7]at Ee;cases Ee;cases d with
    |int k=>
     erw[At]at B4;subst B4;simp only at h
     split at h
     .rename_i AG
      split at h
      .rename_i j J0
       split at h
       .rename_i y DZ;obtain⟨w,HS,Oo⟩:=Gy.get DZ;refine⟨q,Gm,k,j,w,rfl,rfl,J2,AG.1,AG.2,by rw[<-Gy.length];exact J0,HS,?_⟩;exact h w _ Ai (AL.mut CY A7 (Gy.erase j)) s1.g Oo
       .exact h.elim
      .exact h.elim
     .exact h.elim
    |_=>exact h.elim⟩
def aj3 (i:Nat) {x:Str} {Cd:Pos} {apos:Pos} {Bn:Pos} {m:HO} (he:Q4 X F e m) (hN:ς:=by rfl) (BE:Gf X.env.scope x:=by rw?) (hd:ι:=by decide) (D8:μ:=by decide) (L4:Hz (.Name x Cd) "append" X.env (BH (.Name x Cd) X.env)=BH (.Name x Cd) X.env:=by rfl) (L6:(apos.endLine==Bn.line)=true:=by rfl) (L5:((Cq Bn (B9 [e] X.env)).all (λx=>!x.1)&&(Gr Bn (Gp [] X.env)).all (λx=>x.1.isSome)
   &&decide (([e]:List AS).length+([]:List FS).length+(if([]:List FS).isEmpty then 0 else 1)<30))=true:=by rfl) (AK:Fr:=by rfl) (L7:(Cq Bn (B9 [] X.env)).any (·.1)=false:=by rfl):EP X F (.Expr (.Call (.Attribute (.Name x Cd) "append" apos) [e] [] Bn) pos) (af i m):=⟨by
 have he:=he.1;refine Cz.imp (W4 (Tt SO sE sF eX (II hN BE hd D8) (Of he QI AK) L4 L5 L6 AK L7) (MG _ _ _ _ rfl)) ?_;rintro CP σ H ⟨G,ρ,r,h⟩;unfold af ownAt at h;cases CY:ρ[i]? with
 |none=>rw[CY]at h;cases h
 |some s=>
  rw[CY]at h;cases s with
  |un=>cases h
  |A1 _=>cases h
  |EY _=>cases h
  |Bl _ _=>cases h
  |ob ob=>
   cases ob with
   |B5 _ _=>cases h
   |ins _ _ _=>cases h
   |lst akJ=>
    obtain⟨q,xs,A7,A5,A8,Au,BC⟩:=r.own CY;rw[R.EF]at h;refine⟨.ref q,A7,.inl ⟨rfl,xs,C4.of A5⟩,G,ρ,r,?_⟩;cases Av:m ρ with
    |bad=>rw[Av]at h;cases h
    |exc c=>rw[Av]at h;exact h
    |ok y=>
     obtain⟨d,ED⟩:=y;rw[Av,R.EF]at h;intro v H1 Ai AL s1 B4;simp only at h;cases Ot:ED[i]? with
     |none=>rw[Ot]at h;cases h
     |some s=>
      rw[Ot]at h;cases s with
      |un=>cases h
      |A1 _=>cases h
      |EY _=>cases h
      |Bl _ _=>cases h
      |ob ob=>
       cases ob with
       |B5 _ _=>cases h
       |ins _ _ _=>cases h
       |lst ds=>
        rw[R.EF]at h;obtain⟨Dl,Gm,Ee,J2,Ow,PZ,Gy⟩:=AL.own Ot;rw[A7]at Ee;cases Ee;by_cases AP:ds.length<1000000
        .rw[if_pos AP]at h;refine⟨q,Gm,v,rfl,rfl,J2,by rw[<-Gy.length];exact LN AP ε,?_⟩;exact h σ Ai _ (AL.mut Ot A7 (Gy.snoc B4)) s1
        .rw[if_neg AP]at h;exact h.elim⟩
def ahU(hm:X.mg "list"=none)(AB:F6 X F [e] ma)(Ar:F.K=X.K:=by rfl)(Aa:Dg X "list":=by rfl)(he:Fr:=by rfl)(DQ:(Cq pos (B9 [] X.env)).any (·.1)=false:=by rfl):JW X F (.Call (.Name "list" p) [e] [] pos) (OW ma):=⟨have AB:=AB.1;Ay.imp (e8 ua Aa hm η AB ε ε he DQ) (yD Ar)⟩
def ahV{Kr pos':Pos}(hm:X.mg "list"=none)(Ib:X.mg "range"=none)(AB:F6 X F [a] ma)(AO:X.calm=true:=by rfl)(Aa:Dg X "list":=by rfl)(Vb:Dg X "range":=by rfl)(AK:B9 [a] X.env=[(false,BH a X.env)]:=by rfl)(Fi:B9 [.Call (.Name "range" Kr) [a] [] pos'] X.env=[(false,BH (.Call (.Name "range" Kr) [a] [] pos') X.env)]:=by rfl):JW X F (.Call (.Name "list" p) [.Call (.Name "range" Kr) [a] [] pos'] [] pos) (W9 ma):=⟨by
 have AB:=AB.1;refine Ay.imp (adJ Aa hm Vb Ib AO AB AK Fi) ?_;delta W9 r;refine rb h λds Av h vs H1 Ai AL s1 a=>?_;unfold Wm at h
 split at h
 .rename_i j
  split at h
  .rename_i Bs;refine⟨j,a.ints1,Bs.1,Bs.2,λl AP=>?_⟩;exact h l _ _ Ai (AL.lay0 AP) (s1.trans (C5.lay0 AP)) (s1.h.gone AP) Do (AL.kp.sub.gone AP) (iQ _)
  .exact h.elim
 .exact h.elim⟩
def ahh(hm:X.mg "int"=none)(AB:F6 X F [e] ma)(Aa:Dg X "int":=by rfl)(he:Fr:=by rfl)(DQ:(Cq pos (B9 [] X.env)).any (·.1)=false:=by rfl):B3 X F (.Call (.Name "int" p) [e] [] pos) (Bz X6 ma):=⟨have AB:=AB.1;bz (uX.or uY) abr hm η AB Aa ε ε he DQ⟩
def aif{Bj:AS}{set:D->AI->R AI}(he:B3 X F e m)(Aa:GM X Bj set)(Ar:F.K=X.K:=by rfl)(AK:swapsWithSole [Bj] e pos.line X.env=pure false:=by rfl)(hw:swappedStores [Bj] e X.env=pure none:=by rfl)(A5:(LL [Bj] X.env).map (·.2)=[Ka Bj X.env]:=by rfl):EP X F (.Assign [Bj] e pos) (Md set m):=⟨by
 have he:=he.1;obtain⟨⟨g,g1,g2⟩,g3,_⟩:=Aa;refine Cz.imp (oP he g1 AK hw A5) ?_;delta Md;refine⟨G,ρ,r,?_⟩;refine rb h λd Av h v H1 Ai AL s1 B4=>?_;cases A2:set d ρ with
 |bad=>rw[A2]at h;cases h
 |exc c=>exact absurd A2 (g3 d ρ c)
 |ok BK=>rw[A2]at h;exact g2 F Ar σ ρ Ai H1 v d _ BK AL B4 A2 λσ' BB=>h σ' Ai H1 BB s1.g⟩
def aic(i:Nat){x:Str}{p:Pos}{m:HO}(hN:X.N.Nodup)(he:Q4 X F e m)(AC:ς:=by rfl)(AJ:Loc X.env.scope x:=by first|exact Dk rfl|exact Cn rfl)(AK:Oa e=true:=by rfl)(hf:X.fn x=true\/X.env.scope.names.lookup x=some .local:=by first|exact .inl rfl|exact .inr rfl):EP X F (.Assign [.Name x p] e pos) (NJ i m):=⟨have he:=he.1;Cz.imp (bI hN AC AJ he (MG _ _ _ _ AK) hf) zK⟩
def ajA{m:HO}(h:Q4 X F e m)(AK:Oa e=true:=by rfl):EP X F (.Expr e pos) (Pq m):=⟨have h:=h.1;Cz.imp (W4 h (MG _ _ _ _ AK)) y3⟩
end
def FT.inj{K:AZ}{c:Str}{C IQ:A6}(h:FT K c C)(h':FT K c IQ):C=IQ:=by unfold FT at h h';rw[h]at h';cases h';rfl
theorem lm{K:AZ}{G:AA}{f:Str}{d:D}:∀{xs:List (Str×V)}{ds:χ},AY K G ds (xs.map (·.2))->((xs.map (·.1)).zip ds).lookup f=some d->∃v,xs.lookup f=some v/\At K G d v
 |[],_,_,e=>by simp at e
 |(k,v)::xs,[],h,_=>by have:=h.length;simp at this
 |(k,v)::xs,e::ds,h,l=>by
  erw[Dc,AY]at h;obtain⟨Lo,r,A7,a,t⟩:=h;cases A7;erw[Dc,M0,Ud]at l |-;cases AG:f==k with
  |true=>rw[AG]at l;cases l;exact⟨v,rfl,a⟩
  |false=>rw[AG]at l;exact lm t l
theorem aZ{f:Str}:∀{xs:List (Str×V)},(xs.map (·.1)).all (λk=>!(f==k))=true->xs.lookup f=none
 |[],_=>rfl
 |(k,v)::xs,h=>by erw[Dc,Qm,FR,gP]at h;rw[Ud,h.1];exact aZ (h.2:)
structure N4(K:AZ)(c:Str)(Aw:List Str):Prop where
 ex:∃C,FT K c C/\JN K C/\∀f∈Aw,R8 K C f
noncomputable def DL(c f:Str):D->R D
 |.ins Eo ns ds=>if Eo=c then match(ns.zip ds).lookup f with
  |some d=>.ok d
  |none=>.bad
  else .bad
 |_=>.bad
section
variable{X:Ad}{F:B6}{e a b c o:AS}{A2:List AS}{pos p:Pos}{m n:A_}{ma:Ap}
structure Mq(P:Ba)(w:BL)(K:AZ)(mg:Str->Option A4)(base:B2)(Af mt:Str)(n k:Nat)(BP:χ->R C2):Prop where
 ex:∃(C f:A6)(fd:G3)(Am:List Str),FT K Af C/\JN K C/\Meth K C mt f/\G_ P w K mg base H2 k f fd Am (OF K (n+1) BP)/\Binds K fd Am []
noncomputable def ME(Af mt:Str):D->R D
 |.ins Eo ns ds=>if Eo=Af/\ns.all (λk=>!(mt==k))=true then .ok (.ins Eo ns ds)else .bad
 |_=>.bad
def HT(Af mt:Str)(n:Nat)(BP:χ->R C2)(o:A_)(ma:Ap):A_:=λρ=>(o ρ).bind λd=>(ME Af mt d).bind λd=>(ma ρ).bind λds=>if ds.length=n then(BP (d::ds)).bind Ks else .bad
def xl{Af mt:Str}{n:Nat}{BP:χ->R C2}{C:A6}{E:D0}(AJ:F.EX=λ_ _=>False)(GT:FT F.K Af C):EO (Cg F (HT Af mt n BP m ma)) (X2 C mt (OF F.K (n+1) BP) [] E (Cg F m) (EU F ma)):=by
 delta HT r;refine rb h λd Av h x H1 Ai AL s1 Bu=>?_;cases d with
 |ins Eo ns ds=>
  erw[ME]at h
  split at h
  .rename_i AO;obtain⟨JY,GA⟩:=AO;subst JY;have hD:=Bu;erw[At]at Bu;obtain⟨q,Aj,xs,rfl,⟨IQ,B_,g1⟩,rfl,al⟩:=Bu;have:=B_.inj GT;subst this;refine⟨q,Aj,xs,rfl,AL.kp.sub _ _ g1,aZ GA,Ai,ρ,AL,?_⟩;rw[R.EF]at h;refine rb h λA2 Bh h vs B7 Cw BA s2 B4=>?_;by_cases AQ:A2.length=n
   .rw[if_pos AQ]at h;rw[Ly];exact px (xe:=λ_ _ _=>False) AJ BA (.cons (hD.mono s2.g) B4) (by simp[AQ]) (h.mono (s1.trans s2))
   .rw[if_neg AQ]at h;cases h
  .exact h.elim
 |_=>cases h
noncomputable def dG:D->Option Key
 |.int i=>some (.inl i)
 |.str x=>some (.inr x)
 |_=>none
def aT:χ->Option (List Key)
 |[]=>some []
 |d::ds=>match dG d,aT ds with
  |some k,some ks=>some (k::ks)
  |_,_=>none
def ee:D->Option JR
 |.tup ds=>(aT ds).map .inr
 |d=>(dG d).map .inl
def aH:χ->Option Bq
 |[]=>some []
 |d::ds=>match ee d,aH ds with
  |some k,some ks=>some (k::ks)
  |_,_=>none
def J9:D->Option Bq
 |.tup ds=>aH ds
 |_=>none
def lY{K:AZ}{G:AA}{d:D}{v:V}{k:Key}(e:dG d=some k)(a:At K G d v):v=D_ k:=by
 cases d<;>first
  |(cases e;done)
  |(cases e;erw[At]at a;exact a)
theorem lZ{K:AZ}{G:AA}:∀{ds:χ}{vs:List V}{ks:List Key},aT ds=some ks->AY K G ds vs->vs=ks.map D_
 |[],_,_,e,a=>by erw[AY]at a;subst a;cases e;rfl
 |d::ds,_,_,e,a=>by
  erw[AY]at a;obtain⟨v,r,rfl,B4,MO⟩:=a;unfold aT at e
  split at e
  .rename_i k ks A7 AH;cases e;rw[lY A7 B4,lZ AH MO];rfl
  .cases e
def acF{K:AZ}{G:AA}{d:D}{v:V}{k:JR}(e:ee d=some k)(a:At K G d v):Nd G k v:=by
 unfold ee at e
 split at e
 .obtain⟨ks,A7,rfl⟩:=Option.map_eq_some_iff.mp e;erw[At]at a;obtain⟨b,xs,rfl,J,al⟩:=a;exact⟨b,rfl,by rw[J,lZ A7 al]⟩
 .obtain⟨k,A7,rfl⟩:=Option.map_eq_some_iff.mp e;exact lY A7 a
theorem mb{K:AZ}{G:AA}:∀{ds:χ}{vs:List V}{ks:Bq},aH ds=some ks->AY K G ds vs->Paired (Nd G) ks vs
 |[],_,_,e,a=>by erw[AY]at a;subst a;cases e;exact .nil
 |d::ds,_,_,e,a=>by
  erw[AY]at a;obtain⟨v,r,rfl,B4,MO⟩:=a;unfold aH at e
  split at e
  .rename_i k ks A7 AH;cases e;exact .cons (acF A7 B4) (mb AH MO)
  .cases e
def OQ{K:AZ}{G:AA}{d:D}{v:V}{ks:Bq}(e:J9 d=some ks)(a:At K G d v):∃b,v=.ref b/\JU G ks b:=by
 cases d with
 |tup ds=>erw[At]at a;obtain⟨b,xs,rfl,J,al⟩:=a;exact⟨b,rfl,xs,J,mb e al⟩
 |_=>cases e
def N6{G H:AA}{k:Bq}{a:A6}(h:JU G k a)(s:Sub G H):JU H k a:=h.mono λb xs e=>s b _ e
theorem XD{κ:Type}[DecidableEq κ](k:κ):∀Ac:List (κ×V),(Fa Ac k).isSome=(Ac.map (·.1)).any (λx=>decide (x=k))
 |[]=>rfl
 |(x,v)::Ac=>by
  have BW:=XD k Ac;unfold Fa at BW |-;rw[Jt,Dc,N0];by_cases h:x=k
  .simp[h]
  .erw[h,decide_false,Y2];exact BW
def GR(b:Bool)(k d:D):R D:=match d with
 |.B5 ks _=>match J9 k with
  |some Bp=>.ok (.AV (if b then ks.any (λx=>decide (x=Bp))else !ks.any (λx=>decide (x=Bp))))
  |none=>.bad
 |_=>.bad
def ju{b:Bool}{σ :St}{ρ:AI}{G H:AA}{y x:V}{Nk dd:D}{Q:CQ}(r:Rel F G H σ ρ)(Ck:At F.K G Nk y)(Bu:At F.K G dd x)(h:Ie F G H σ ρ Q (GR b Nk dd)) :
  ∃a o,x=.ref a/\Ir H a y o/\Q (.AV (if b then o.isSome else !o.isSome)) H:=by
 unfold GR at h
 split at h
 .rename_i ks ds
  split at h
  .rename_i Bp Co;erw[At]at Bu;obtain⟨a,xs,rfl,Aa,rfl,al⟩:=Bu;obtain⟨q,rfl,AT⟩:=OQ Co Ck;refine⟨a,Fa xs Bp,rfl,Ir.t (r.kp.sub _ _ Aa) (N6 AT r.kp.sub),?_⟩;rw[XD];exact h _ H G r (C5.refl _ _) ζ
  .exact h.elim
 .exact h.elim
def m4:EO (Cg F (A9 (GR true) m n)) (pc (Cg F m) (Cg F n)):=by delta A9 r;refine rb h λNk Av h y H1 Ai AL s1 Ck=>?_;refine⟨Ai,ρ,AL,?_⟩;refine rb h λdd Bh h x B7 Cw BA s2 Bu=>?_;exact ju (b:=true) BA (Ck.mono s2.g) Bu (h.mono (s1.trans s2))
def m5:EO (Cg F (A9 (GR false) m n)) (pe (Cg F m) (Cg F n)):=by delta A9 r;refine rb h λNk Av h y H1 Ai AL s1 Ck=>?_;refine⟨Ai,ρ,AL,?_⟩;refine rb h λdd Bh h x B7 Cw BA s2 Bu=>?_;exact ju (b:=false) BA (Ck.mono s2.g) Bu (h.mono (s1.trans s2))
noncomputable def RZ(i:Nat):As:=λρ=>if i<ρ.length then .ok (.BG (ρ.set i (.ob (.B5 [] []))))else .bad
noncomputable def W7:List Bq->χ->Bq->D->χ
 |k::ks,d::ds,Bp,v=>(if k=Bp then v else d)::W7 ks ds Bp v
 |_,_,_,_=>[]
noncomputable def putD(ks:List Bq)(ds:χ)(Bp:Bq)(d:D):R La:=if ks.any (λx=>decide (x=Bp))=false/\ks.length<1000000 then .ok (.B5 (ks++[Bp]) (ds++[d]))else if ks.any (λx=>decide (x=Bp))=true/\ks.length<1000000 then .ok (.B5 ks (W7 ks ds Bp d))else .bad
noncomputable def Sx(i:Nat)(mk mv:A_):As:=λρ=>(mv ρ).bind λv=>match ρ[i]? with
 |some (.ob (.B5 ks ds))=>(mk ρ).bind λk=>match J9 k with
  |some Bp=>(putD ks ds Bp v).bind λo=>.ok (.BG (ρ.set i (.ob o)))
  |none=>.bad
 |_=>.bad
def Jg(m:A_):As:=λρ=>(m (EK ρ)).bind λd=>.ok (.Du d)
def cn:As:=λ_=>.bad
end
mutual
noncomputable def Ko:D->Bool
 |.ins _ _ _=>false
 |.tup ds=>LU ds
 |.lst ds=>LU ds
 |.CO ds=>LU ds
 |.De _ ds=>LU ds
 |.B5 _ ds=>LU ds
 |.EI ds=>LU ds
 |_=>true
noncomputable def LU:χ->Bool
 |[]=>true
 |d::ds=>Ko d&&LU ds
end
def We:Dd->Bool
 |.ins _ _ _=>true
 |_=>false
section
variable{K:AZ}{G G':AA}
def Fc.off(h:∀b o,G b=some o->We o=false->G' b=some o){a:A6}{u:Dd}(BD:We u=false)(r:Fc G a u):Fc G' a u:=by
 rcases r with r|⟨o,r⟩
 .exact .inl (h _ _ r BD)
 .exact .inr ⟨o,h _ _ r rfl⟩
mutual
theorem At.off(h:∀b o,G b=some o->We o=false->G' b=some o):∀{d:D}{v:V},Ko d=true->At K G d v->At K G' d v
 |.non,_,_,q=>by simpa only[At]using q
 |.AV _,_,_,q=>by simpa only[At]using q
 |.int _,_,_,q=>by simpa only[At]using q
 |.str _,_,_,q=>by simpa only[At]using q
 |.tup _,_,n,q=>by erw[At,Ko]at q n |-;obtain⟨a,xs,e,g,r⟩:=q;exact⟨a,xs,e,h _ _ g rfl,AY.off h n r⟩
 |.lst _,_,n,q=>by erw[At,Ko]at q n |-;obtain⟨a,xs,e,g,r⟩:=q;exact⟨a,xs,e,h _ _ g rfl,AY.off h n r⟩
 |.CO _,_,n,q=>by
  erw[At,Ko]at q n |-;obtain⟨a,xs,e,g,r⟩:=q;refine⟨a,xs,e,?_,AY.off h n r⟩;rcases g with g|g
  .exact .inl (Fc.off h rfl g)
  .exact .inr g
 |.EI _,_,n,q=>by
  erw[At,Ko]at q n |-;obtain⟨a,xs,e,g,r⟩:=q;refine⟨a,xs,e,?_,AY.off h n r⟩;rcases g with g|g
  .exact .inl (Fc.off h rfl g)
  .exact .inr g
 |.De _ _,_,n,q=>by erw[At,Ko]at q n |-;obtain⟨a,xs,e,g,k,r⟩:=q;exact⟨a,xs,e,h _ _ g rfl,k,AY.off h n r⟩
 |.B5 _ _,_,n,q=>by erw[At,Ko]at q n |-;obtain⟨a,xs,e,g,k,r⟩:=q;exact⟨a,xs,e,h _ _ g rfl,k,AY.off h n r⟩
 |.ins _ _ _,_,n,_=>by erw[Ko]at n;cases n
 |.PX _,_,n,q=>by erw[At]at q |-;obtain⟨a,xs,e,⟨C,B_,g⟩,r⟩:=q;exact⟨a,xs,e,⟨C,B_,h _ _ g rfl⟩,r⟩
theorem AY.off(h:∀b o,G b=some o->We o=false->G' b=some o):∀{ds:χ}{vs:List V},LU ds=true->AY K G ds vs->AY K G' ds vs
 |[],_,_,q=>by simpa only[AY]using q
 |_::_,_,n,q=>by erw[AY,LU,FR]at q n |-;obtain⟨v,r,e,a,t⟩:=q;exact⟨v,r,e,At.off h n.1 a,AY.off h n.2 t⟩
end
end
def aey:Bw->Bool
 |.ob (.ins _ _ _)=>true
 |.ob _=>false
 |.EY _=>false
 |.Bl _ _=>false
 |_=>true
def e1(ρ:AI):Bool:=ρ.all aey
def SI(m:A_):A_:=λρ=>(m (EK ρ)).bind λd=>if Ko d=true/\e1 ρ=true then .ok d else .bad
section
variable{F:B6}
open Classical in
noncomputable def Gx(H:AA)(σ :St)(ρ:AI)(G:AA):AA:=λb=>if CU H σ ρ b then none else G b
def y_{m:A_}:EO (Cg F (SI m)) (Cg F m):=by
 rintro σ H Q ⟨G,ρ,r,h⟩;refine⟨I5 σ ρ G H,EK ρ,r.plus,?_⟩;unfold SI at h;refine rb h λd Av h v H' G' BB s' a=>?_;by_cases hd:Ko d=true/\e1 ρ=true
 .rw[if_pos hd]at h;have Pu:∀b,CU H σ ρ b->G b=none:=λb z=>(r.foot z).2.1;have PU:∀b,CU H σ ρ b->F.H0 b=none:=λb z=>(r.foot z).2.2;have e7:∀b,CU H σ ρ b->∃AN,H b=some AN/\We AN=true:=λb⟨i,s,o,A7,AH,f⟩=>by
   have AC:=List.all_eq_true.mp hd.2 _ (HY A7);cases s with
   |un=>cases f
   |A1 _=>cases f
   |EY _=>cases AC
   |Bl _ _=>cases AC
   |ob ob=>
    have f:o=some (.ref b):=f;obtain⟨c,AN,B1,A5,_,_,BC⟩:=r.obj A7;rw[AH,f]at B1;cases B1;cases ob with
    |lst _=>cases AC
    |B5 _ _=>cases AC
    |ins _ _ _=>obtain⟨C,Aj,xs,_,rfl,_⟩:=BC;exact⟨_,A5,rfl⟩
  have off:∀b,¬CU H σ ρ b->Gx H σ ρ G' b=G' b:=λb n=>by unfold Gx;rw[if_neg n]
  have on:∀b,CU H σ ρ b->Gx H σ ρ G' b=none:=λb n=>by unfold Gx;rw[if_pos n]
  have BI:Sub G (Gx H σ ρ G'):=λb o e=>by
   have n:¬CU H σ ρ b:=λz=>by rw[Pu b z]at e;cases e
   rw[off b n];exact s'.g b o (VR r b o e)
  have dE:∀b,CU H σ ρ b->∀o,H b=some o->H' b=some o:=λb z o e=>BB.kp.sub _ _ (s'.g _ _ (by rw[Ov z];exact e));have rel:Rel F (Gx H σ ρ G') H' σ ρ:=by
   refine r.over rfl ⟨λb o e=>?_,r.kp.Dq.trans BI,BB.kp.An,λb J=>?_⟩ BI λb C8=>?_
   .by_cases n:CU H σ ρ b
    .rw[on b n]at e;cases e
    .rw[off b n]at e;exact BB.kp.sub b o e
   .have n:¬CU H σ ρ b:=λz=>J.1 (PU b z);rw[off b n];exact BB.kp.new b J
   .refine⟨?_,on b C8,PU b C8⟩;cases Bh:H b with
    |none=>exact absurd Bh (r.foot C8).1
    |some o=>exact dE b C8 o Bh
  refine h v H' _ rel ⟨BI,s'.h,λb J=>?_⟩ (At.off (λb o e AC=>?_) hd.1 a)
  .by_cases n:CU H σ ρ b
   .rw[on b n,Pu b n]
   .rw[off b n,s'.n b J];unfold I5;rw[if_neg n]
  .have n:¬CU H σ ρ b:=λz=>by
     obtain⟨AN,A7,AH⟩:=e7 b z;have:=s'.g b AN (by rw[Ov z];exact A7);rw[e]at this;cases this;rw[AC]at AH;cases AH
   rw[off b n];exact e
 .rw[if_neg hd]at h;cases h
abbrev JQ:=AI->R AI
def aaE(F:B6)(σ :St)(CP:Ends):R AI->Prop
 |.ok BK=>∀G' H',Rel F G' H' σ BK->CP.BG σ H'
 |.exc c=>MZ F c
 |.bad=>False
def OI(F:B6)(m:JQ):F4:=λCP σ H=>∃G ρ,Rel F G H σ ρ/\aaE F σ CP (m ρ)
def NL(a b:JQ):JQ:=λρ=>(a ρ).bind b
def zN{a b:JQ}:Hf (OI F (NL a b)) (fg (OI F a) (OI F b)):=by
 delta NL;refine⟨G,ρ,r,?_⟩;cases Av:a ρ with
 |bad=>rw[Av]at h;cases h
 |exc c=>rw[Av]at h;exact h
 |ok ED=>rw[Av,R.EF]at h;exact λG' H' BB=>⟨G',ED,BB,h⟩
def Pt(c:CG):JQ:=λρ=>(c ρ).bind λk=>if k=true then .bad else .ok ρ
def y8{c:CG}:Hf (OI F (Pt c)) (fb (GW F c) rB fe):=by
 delta Pt;refine⟨G,ρ,r,?_⟩;refine rb h λk Av h H1 Ai AL s1=>?_;cases k with
 |true=>cases h
 |false=>exact h Ai H1 AL
theorem bJ{f:Str}{v:V}:∀{Aw:List (Str×V)},(Aw.map (·.1)).all (λk=>!(f==k))=true->HC f v Aw=Aw++[(f,v)]
 |[],_=>rfl
 |(g,x)::Aw,h=>by
  erw[Dc,Qm,FR,gP]at h;have ne:g≠f:=λz=>by subst z;simp at h
  rw[HC,if_neg ne,bJ (h.2:)];rfl
noncomputable def LF(Af f:Str)(m:A_):JQ:=λρ=>(m ρ).bind λd=>match(ρ[0]? :Option Bw)with
 |some (.ob (.ins Eo ns ds))=>if Eo=Af/\ns.all (λk=>!(f==k))=true/\ns.length<1000 then .ok (ρ.set 0 (.ob (.ins Af (ns++[f]) (ds++[d]))))else .bad
 |_=>.bad
end
section
variable{X:Ad}{F:B6}{e o:AS}{pos:Pos}{m:A_}
def ad_{Af f x:Str}{Aw:List Str}{Cd pos':Pos}(k:N4 X.K Af Aw)(he:JO X F e m)(hf:f∈Aw:=by decide+kernel)(hN:X.N[0]?=some x:=by rfl)(BE:Gf X.env.scope x:=by rw?)(hd:ι:=by decide)(D8:μ:=by decide)(AK:Oa e=true:=by rfl)(Ar:F.K=X.K:=by rfl) :
  Cz X (.Assign [.Attribute (.Name x Cd) f pos'] e pos) (OI F (LF Af f m)):=by
 refine Cz.imp (eE (II hN BE hd D8) he (MG _ _ _ _ AK)) ?_;delta LF;refine⟨G,ρ,r,?_⟩;refine rb h λd Av h v H1 Ai AL s1 B4=>?_
 split at h
 .rename_i Eo ns ds CY
  split at h
  .rename_i AO;obtain⟨rfl,GA,TD⟩:=AO;obtain⟨q,AN,A7,A5,A8,Au,C,Aj,xs,B_,rfl,rfl,al⟩:=AL.obj CY;obtain⟨IQ,k1,k2,k3⟩:=k.ex;rw[Ar]at B_;have:=B_.inj k1;subst this;refine⟨.ref q,A7,q,C,Aj,xs,rfl,A5,k2,k3 f hf,(TD:),?_⟩;refine h Ai _ (AL.WP CY A7 ⟨C,Aj,HC f v xs,by rw[Ar];exact B_,rfl,?_,?_⟩)
   .rw[bJ GA];simp
   .rw[bJ GA,Hx];exact al.snoc B4
  .exact h.elim
 .exact h.elim
end
noncomputable def lP(F:B6)(x C:A6)(Q:CQ):R (List Str×χ)->Prop
 |.ok (ns,ds)=>∀Aj xs G' H',EW F G' H'->G' x=none->H' x=some (.ins C Aj xs)->xs.map (·.1)=ns->AY F.K G' ds (xs.map (·.2))->Q .non H'
 |.exc _=>False
 |.bad=>False
noncomputable def X0(K:AZ)(Af:Str)(n:Nat)(BP:χ->R (List Str×χ)):BJ:=λvs H Q E=>∃G x C Aj A2 ws,vs=.ref x::ws/\FT K Af C/\H x=some (.ins C Aj [])/\G x=none/\Sub G H/\AY K G A2 ws/\A2.length=n/\lP ⟨K,G,del H x,λ_ _=>False,IA⟩ x C Q (BP A2)
def RY(Af:Str)(n:Nat)(BP:χ->R (List Str×χ))(ma:Ap):A_:=λρ=>(ma ρ).bind λds=>if ds.length=n then(GC (BP ds)).bind λx=>.ok (.ins Af x.1 x.2)else .bad
section
variable{X:Ad}{F:B6}{e:AS}{A2:List AS}{pos p:Pos}{ma:Ap}
def yF{Af:Str}{n:Nat}{BP:χ->R (List Str×χ)}{C:A6}{E:D0}(GT:FT F.K Af C):EO (Cg F (RY Af n BP ma)) (fc C (X0 F.K Af n BP) [] E (EU F ma)):=by
 delta RY r;refine rb h λds Av h vs H1 Ai AL s1 B4 x Aj AJ dR ne=>?_;by_cases AQ:ds.length=n
 .rw[if_pos AQ]at h;rw[Ly];have QP:Sub H1 (del (upd (upd H1 Aj (.own x)) x (.ins C Aj [])) x):=λb o e=>by
   have DC:b≠x:=λz=>by rw[z,AJ]at e;cases e
   have DW:b≠Aj:=λz=>by rw[z,dR]at e;cases e
   rw[tm DC,DT DC,DT DW];exact e
  have dp:Sub Ai (upd (upd H1 Aj (.own x)) x (.ins C Aj [])):=AL.kp.sub.trans (QP.trans (jt _ _));refine⟨Ai,x,C,Aj,ds,vs,rfl,GT,Do,AL.kp.sub.gone AJ,dp,B4,AQ,?_⟩;cases em:BP ds with
  |bad=>rw[em]at h;cases h
  |exc c=>rw[em]at h;cases h
  |ok y=>obtain⟨ns,es'⟩:=y;rw[em]at h;intro VG xs G' H' k g1 g2 g3 g4;refine⟨rfl,?_⟩;have An:Sub H1 H':=QP.trans k.An;have nw:∀b,IE H1 b->G' b=Ai b:=λb J=>k.new b (QP.Jk J);have BA:Rel F G' H' σ ρ:=AL.grow k.Dq k.sub An nw;have no:¬CU H' σ ρ x:=CU.fresh AL An AJ;refine h (.ref x) H' _ (BA.take g2 g1 (AL.kp.An.gone AJ) no) ((s1.trans ⟨k.Dq,An,nw⟩).put (s1.h.gone AJ) g1) ?_;erw[At];exact⟨x,VG,xs,rfl,⟨C,GT,Do⟩,g3,g4.mono (Sub.upd g1)⟩
 .rw[if_neg AQ]at h;cases h
structure hk(P:Ba)(w:BL)(K:AZ)(mg:Str->Option A4)(base:B2)(Af:Str)(n k:Nat)(BP:χ->R (List Str×χ)):Prop where
 ex:∃(C f:A6)(fd:G3)(Am:List Str),FT K Af C/\V7 K C f/\G_ P w K mg base H2 k f fd Am (X0 K Af n BP)/\mg Af=some (.ref C)/\Binds K fd Am []
end
def LA(Af:Str)(A2:χ):AI:=.ob (.ins Af [] [])::A2.map .A1
def outI(Af:Str):R AI->R (List Str×χ)
 |.ok (.ob (.ins c ns ds)::_)=>if c=Af then .ok (ns,ds)else .bad
 |_=>.bad
def adk{K:AZ}{G H:AA}{EX:Str->AA->Prop}{Af:Str}{C Aj x:A6}{A2:χ}{ws:List V}(GT:FT K Af C)(A5:H x=some (.ins C Aj []))(A8:G x=none)(s:Sub G H)(B4:AY K G A2 ws) :
  Rel ⟨K,G,del H x,EX,IA⟩ G H (some (.ref x)::ws.map some) (LA Af A2):=by
 refine⟨⟨s,Sub.refl _,jt H x,λ_ _=>rfl⟩,by simp[LA,B4.length],λi t e=>?_,λi j b Aw kz o Bo Dw Db _ _ f ji=>?_⟩
 .cases i with
  |zero=>simp[LA]at e;subst e;exact⟨some (.ref x),γ,x,_,rfl,A5,A8,tn,C,Aj,[],GT,rfl,rfl,.nil⟩
  |succ i=>
   erw[LA,Mt]at e |-;rw[Dm]at e;cases F7:A2[i]? with
   |none=>rw[F7]at e;cases e
   |some d=>rw[F7]at e;cases e;obtain⟨v,A7,a⟩:=B4.get F7;exact⟨some v,by rw[Dm,A7];rfl,v,rfl,a⟩
 .have one:∀{i:Nat}{Aw:Bw}{o:Option V},(LA Af A2)[i]?=some Aw->Ey H Aw o b->i=0:=λ{i Aw o} e f=>by
    cases i with
    |zero=>rfl
    |succ i=>
     erw[LA,Mt,Dm]at e;cases F7:A2[i]? with
     |none=>rw[F7]at e;cases e
     |some d=>rw[F7]at e;cases e;cases f
  rw[one Dw f,one Db ji]
def yv{K:AZ}{Af:Str}{n:Nat}{m:JQ}{vs:List V}{H:AA}{Q:CQ}{E:D0}(h:X0 K Af n (λA2=>outI Af (m (LA Af A2))) vs H Q E) :
  ∃G H0,OI (FX K G H0) m { BG:=λ_ H'=>Q .non H',Du:=Q } (vs.map some) H:=by
 obtain⟨G,x,C,Aj,A2,ws,rfl,GT,A5,A8,s,B4,l,k⟩:=h;refine⟨G,del H x,G,LA Af A2,adk GT A5 A8 s B4,?_⟩;replace k:lP ⟨K,G,del H x,λ_ _=>False,IA⟩ x C Q (outI Af (m (LA Af A2))):=k;cases em:m (LA Af A2)with
 |bad=>rw[em]at k;cases k
 |exc c=>rw[em]at k;cases k
 |ok BK=>
  rw[em]at k;intro G' H' r;unfold outI at k
  split at k
  .rename_i akI ns ds Ei heq;cases heq;obtain⟨a,AN,A7,g1,g2,g3,IQ,VG,xs,B_,rfl,AH,al⟩:=r.obj (i:=0) rfl;have A7:some (some (V.ref x))=some (some (V.ref a)):=A7;cases A7
   split at k
   .rename_i AO;subst AO;have:=B_.inj GT;subst this;exact k VG xs G' H' r.kp g2 g1 AH al
   .exact k.elim
  .exact k.elim
end CR
namespace CR
open PySem PySem.Spec Bv PyProof.Rows
def pv{K:AZ}{Af:Str}{n:Nat}{BP:χ->R (List Str×χ)}:∀vs H Q E,X0 K Af n BP vs H Q E->vs.length=n+1:=λvs H Q E h=>by obtain⟨G,x,C,Aj,A2,ws,rfl,_,_,_,_,q,l,_⟩:=h;rw[HL,<-q.length,l]
def agE{N:List Str}{vs:List V}(h:vs.length=N.length):Bv.start N vs=vs.map some:=by unfold Bv.start;simp[h]
def xr{P:Ba}{w:BL}{K:AZ}{mg:Str->Option A4}{base:B2}{x qual Af FO:Str}{st:BZ}{Am:List Str}{k:Nat}{m:JQ}{f:A6}{fd:G3}(fn:NZ K x qual st f fd)(S:CT (FO::Am) (FO::Am) (Br st))(h:∀(f:A6)(CA:A4)(A:Bt)(outer:List Env)(s:AM)(H:AA)(E:D0),CM k (A.deeper (My qual (Br st) s.heap.objs.size f CA))->∀G0 H0,Gb (F0 H2 P w K mg base (FO::Am) qual (Br st) f CA A outer s H E).Hr (GJ st) (OI (FX K G0 H0) m)) :
  G_ P w K mg base H2 (k+1) f fd (FO::Am) (X0 K Af Am.length λA2=>outI Af (m (LA Af A2))):=fn.ok S pv λCA A outer s H vs Q E B8 AK=>by
 have AP:=pv vs H Q E AK;obtain⟨G,H0,Ax⟩:=yv AK;refine⟨_,h f CA A outer s H E B8 G H0,?_⟩;rw[agE (AP:)];exact Ax
def aag{P:Ba}{w:BL}{K:AZ}{mg:Str->Option A4}{base:B2}{x qual Af FO:Str}{st:BZ}{N Am:List Str}{k:Nat}{m:As}{C f:A6}{fd:G3}(fn:NZ K x qual st f fd)(GT:FT K Af C)(AO:JN K C)(hm:Meth K C x f)(J:Binds K fd (FO::Am) [])(S:CT N (FO::Am) (Br st))(h:∀(f:A6)(CA:A4)(A:Bt)(outer:List Env)(s:AM)(H:AA)(E:D0),CM k (A.deeper (My qual (Br st) s.heap.objs.size f CA))->∀G0 H0,JV (F0 H2 P w K mg base N qual (Br st) f CA A outer s H E).Hr (FX K G0 H0) (GJ st) m) :
  Mq P w K mg base Af x Am.length (k+1) (D9 N.length m):=by
 refine⟨C,f,fd,FO::Am,GT,AO,hm,fn.ok S bb λCA A outer s H vs Q E B8 AK=>?_,J⟩;obtain⟨G,Ax⟩:=ZX AK;exact⟨_,(h f CA A outer s H E B8 G H).1,Ax⟩
section
variable{X:Ad}{F:B6}{e a b c:AS}{A2:List AS}{pos p:Pos}{m n:A_}{ma:Ap}
noncomputable def RO:χ->R D
 |[.lst xs]=>.ok (.tup xs)
 |[.CO xs]=>.ok (.tup xs)
 |[.tup xs]=>.ok (.tup xs)
 |_=>.bad
def abt(Ar:F.K=X.K):Pv F (λxs H Q=>∃p ys,xs=[.ref p]/\((C4 X.K H p ys/\∀l,H l=none->Q (.ref l) (upd H l (.tup ys)))\/(Ct X.K H p ys/\Q (.ref p) H))) RO:=by
 intro σ ρ G H xs ds Q r al k;unfold RO at k
 split at k
 .obtain⟨v,rfl,B4⟩:=al.one;erw[At]at B4;obtain⟨q,ys,rfl,AT,Fd⟩:=B4;refine⟨q,ys,rfl,.inl ⟨C4.of (r.kp.sub _ _ AT),λl AP=>?_⟩⟩;refine k (.ref l) _ _ (r.lay AP) (C5.lay r.kp.sub AP) ?_;erw[At];exact⟨l,ys,rfl,Do,Fd.mono (Sub.upd (r.kp.sub.gone AP))⟩
 .obtain⟨v,rfl,B4⟩:=al.one;erw[At]at B4;obtain⟨q,ys,rfl,AT,Fd⟩:=B4;refine⟨q,ys,rfl,.inl ⟨by rw[<-Ar];exact C4.mono r.kp.sub AT,λl AP=>?_⟩⟩;refine k (.ref l) _ _ (r.lay AP) (C5.lay r.kp.sub AP) ?_;erw[At];exact⟨l,ys,rfl,Do,Fd.mono (Sub.upd (r.kp.sub.gone AP))⟩
 .obtain⟨v,rfl,B4⟩:=al.one;have tC:=B4;erw[At]at B4;obtain⟨q,ys,rfl,AT,Fd⟩:=B4;exact⟨q,ys,rfl,.inr ⟨Ct.of (r.kp.sub _ _ AT),k _ H G r (C5.refl _ _) tC⟩⟩
 .exact k.elim
end
end CR
namespace Ec
open PySem PyProof.Rows
section
variable{prog:Ba}{w:BL}{A:Bt}{E:ξ}{s:AM}
end
end Ec
namespace Bv
open PySem PySem.Spec PyProof.Rows
variable{X:Ad}
end Bv
namespace CR
open PySem PySem.Spec Bv PyProof.Rows
section
variable{X:Ad}{F:B6}{e a b c:AS}{A2:List AS}{pos p:Pos}{m n:A_}{ma:Ap}
instance(i j:Int):Decidable (IntMulOk i j):=by unfold IntMulOk;infer_instance
end
section
variable{X:Ad}{F:B6}{e a b c:AS}{A2:List AS}{pos p:Pos}{m n:A_}{ma:Ap}
def Wq(i:Nat)(m:A_):Ap:=λρ=>(ownAt i ρ).bind λds=>(m ρ).bind λd=>match d with
 |.lst A2=>if ds.length+A2.length<=1000000 then .ok (ds++A2)else .bad
 |_=>.bad
end
end CR
namespace CR
open PySem PySem.Spec Bv
section
variable{X:Ad}{F:B6}{e a b c o Bj iter elt:AS}{A2:List AS}{pos p:Pos}{m n:A_}{ma:Ap}{st:BZ}{N5:List BZ}
def qd{Af f:Str}{Aw:List Str}(k:N4 X.K Af Aw)(he:B3 X F o m)(hf:f∈Aw:=by decide+kernel)(Ar:F.K=X.K:=by rfl)(J:Hz o f X.env (BH o X.env)=BH o X.env:=by rfl):B3 X F (.Attribute o f pos) (Ch (DL Af f) m):=⟨by
 have he:=he.1;refine Ay.imp (e9 he J) ?_;delta Ch r
 revert h;refine λg=>rb g λd Av h x H1 Ai AL s1 Bu=>?_
 cases d with
 |ins Eo ns ds=>
  erw[DL]at h
  split at h
  .rename_i AO;subst AO
   split at h
   .rename_i d' AP;erw[At]at Bu;obtain⟨q,Aj,xs,rfl,⟨C,B_,g1⟩,rfl,al⟩:=Bu;obtain⟨v,BE,B4⟩:=lm al AP;obtain⟨IQ,k1,k2,k3⟩:=k.ex;rw[Ar]at B_;have:=B_.inj k1;subst this;exact⟨q,C,Aj,xs,v,rfl,AL.kp.sub _ _ g1,k2,k3 f hf,BE,h v H1 Ai AL s1 B4⟩
   .exact h.elim
  .exact h.elim
 |_=>exact h.elim⟩
def aiD {Af mt:Str} {n k:Nat} {BP:χ->R C2} {pl:Sem Bool} {apos:Pos} (c:Mq X.prog X.w X.K X.mg X.base Af mt n k BP) (B8:CM k X.A) (he:B3 X F o m) (AB:F6 X F (e::A2) ma) (J3:F.EX=λ_ _=>False:=by rfl) (Ar:F.K=X.K:=by rfl) (Gk:Cl:=by rfl) (DQ:(Cq pos (B9 A2 X.env)).any (·.1)=false:=by rfl) (Ax:BH (.Call (.Attribute o mt apos) (e::A2) [] pos) X.env=(do
   let D1 <-BH o X.env
   N2 apos.atName
   let(f,first) <-JK [D1] (PH D1 mt pl)
   Qq pos f first (Cq pos (B9 (e::A2) X.env)) (Gr pos (Gp [] X.env))):=by rfl):B3 X F (.Call (.Attribute o mt apos) (e::A2) [] pos) (HT Af mt n BP m ma):=⟨by
 have he:=he.1;have AB:=AB.1;obtain⟨C,f,fd,Am,B_,EQ,Hk,Gw,J⟩:=c.ex;refine Ay.imp (oB (pl:=pl) he EQ Hk Gw B8 J .nil Rn AB Gk DQ Ax) ?_;rw[<-Ar];exact xl J3 (by rw[Ar];exact B_)⟩
def alU(BD:X.A.units+64<DH)(AB:B3 X F a m)(J:B3 X F b n)(A5:IL .In b=false:=by with_unfolding_all rfl):B3 X F (.Compare a [.In] [b] pos) (A9 (GR true) m n):=⟨have AB:=AB.1;have J:=J.1;Ay.imp (o6 (o4 δ AB J) A5) m4⟩
def agc(BD:X.A.units+64<DH)(AB:B3 X F a m)(J:B3 X F b n)(A5:IL .NotIn b=false:=by with_unfolding_all rfl):B3 X F (.Compare a [.NotIn] [b] pos) (A9 (GR false) m n):=⟨have AB:=AB.1;have J:=J.1;Ay.imp (o6 (o5 δ AB J) A5) m5⟩
def aij(BD:X.A.units+64<DH)(AB:B3 X F a m)(J:B3 X F b n)(A5:IL .In b=false:=by with_unfolding_all rfl):FU X F (.Compare a [.In] [b] pos) (BF (A9 (GR true) m n)):=⟨by
 have AB:=AB.1;have J:=J.1;refine FH.imp (nX (o4 δ AB J) A5) λσ H Q h=>?_;obtain⟨G,ρ,r,k⟩:=Z5 σ H Q h;exact m4 σ H _ ⟨G,ρ,r,k⟩⟩
def aik(BD:X.A.units+64<DH)(AB:B3 X F a m)(J:B3 X F b n)(A5:IL .NotIn b=false:=by with_unfolding_all rfl):FU X F (.Compare a [.NotIn] [b] pos) (BF (A9 (GR false) m n)):=⟨by
 have AB:=AB.1;have J:=J.1;refine FH.imp (nX (o5 δ AB J) A5) λσ H Q h=>?_;obtain⟨G,ρ,r,k⟩:=Z5 σ H Q h;exact m5 σ H _ ⟨G,ρ,r,k⟩⟩
def aib(i:Nat){x:Str}{p q:Pos}(hN:X.N.Nodup)(AC:ς:=by rfl)(AJ:Loc X.env.scope x:=by first|exact Dk rfl|exact Cn rfl)(hf:X.fn x=true\/X.env.scope.names.lookup x=some .local:=by first|exact .inl rfl|exact .inr rfl):EP X F (.Assign [.Name x p] (.Dict [] [] q) pos) (RZ i):=⟨by
 refine Cz.imp (bI hN AC AJ o8 (MG _ _ _ _ rfl) hf) ?_;delta RZ;intro a AB
 split at h
 .rename_i AP;refine h _ G _ ((r.lay0 AB).setB AP Do (r.kp.sub.gone AB) (r.kp.An.gone AB) ⟨[],rfl,rfl,.nil⟩ λj A2 o _ A7 AH f=>CU.fresh r (Sub.upd AB) AB ⟨j,A2,o,A7,AH,f⟩) (Sub.refl _)
 .exact h.elim⟩
def q8(e a b:AS)(p:Pos)(l:Nat)(env:Env):M6 e (some (.Subscript a b p)) l env=pure false:=by cases e<;>rfl
theorem bM{K:AZ}{G:AA}{Bp:Bq}{d:D}{v:V}(B4:At K G d v):∀{xs:List (Bq×V)}{ds:χ},AY K G ds (xs.map (·.2))->AY K G (W7 (xs.map (·.1)) ds Bp d) ((xs.map λCv=>if Cv.1=Bp then(Cv.1,v)else Cv).map (·.2))
 |[],ds,h=>by cases ds<;>exact .nil
 |(k,u)::xs,[],h=>by simp[AY]at h
 |(k,u)::xs,e::ds,h=>by
  erw[Dc,AY,Qg]at h;obtain⟨_,_,⟨rfl,rfl⟩,A5,A8⟩:=h;erw[Dc,W7];by_cases q:k=Bp
  .rw[if_pos q,if_pos q];exact .cons B4 (bM B4 A8)
  .rw[if_neg q,if_neg q];exact .cons A5 (bM B4 A8)
def aj8(i:Nat){x:Str}{Cd pos':Pos}{k v:AS}{mk mv:A_}(BD:X.A.units+64<DH)(AG:B3 X F k mk)(BE:B3 X F v mv)(hN:ς:=by rfl)(SA:Gf X.env.scope x:=by rw?)(hd:ι:=by decide)(D8:μ:=by decide):EP X F (.Assign [.Subscript (.Name x Cd) k pos'] v pos) (Sx i mk mv):=⟨by
 have AG:=AG.1;have BE:=BE.1;refine Cz.imp (oR δ (II hN SA hd D8) AG BE (q8 _ _ _ _ _ _)) ?_;delta Sx;refine⟨G,ρ,r,?_⟩;refine rb h λVF Av h v H1 Ai AL s1 B4=>?_
 split at h
 .rename_i ks ds CY;obtain⟨q,AN,A7,_⟩:=AL.obj CY;refine⟨.ref q,A7,Ai,ρ,AL,?_⟩;refine rb h λNk Bh h y B7 Cw BA s2 Ck=>?_;obtain⟨Dl,Dr,Ee,A5,A8,Au,xs,rfl,rfl,al⟩:=BA.obj CY;rw[A7]at Ee;cases Ee
  split at h
  .rename_i Bp Co;unfold putD at h
   split at h
   .rename_i AO;obtain⟨JY,GA⟩:=AO;obtain⟨cM,rfl,VY⟩:=OQ Co Ck;have AQ:Fa xs Bp=none:=by
     have:=XD Bp xs;rw[JY]at this;exact Option.not_isSome_iff_eq_none.mp (by rw[this];exact Fq)
    refine⟨q,_,rfl,Pw.t A5 (N6 VY BA.kp.sub) (LN (GA:) ε),?_⟩;rw[eG _ AQ];refine h σ Cw _ (BA.WP CY A7 ⟨xs++[(Bp,v)],rfl,γ,?_⟩) (s1.g.trans s2.g);rw[Hx];exact al.snoc (B4.mono s2.g)
   .split at h
    .rename_i AO;obtain⟨JY,GA⟩:=AO;obtain⟨cM,rfl,VY⟩:=OQ Co Ck;refine⟨q,_,rfl,Pw.t A5 (N6 VY BA.kp.sub) (LN (GA:) ε),?_⟩;have Ak:putK xs Bp v=xs.map (λCv=>if Cv.1=Bp then(Cv.1,v)else Cv):=by
      unfold putK;rw[O1]at JY;exact if_pos JY
     rw[Ak];refine h σ Cw _ (BA.WP CY A7 ⟨_,rfl,?_,bM (B4.mono s2.g) al⟩) (s1.g.trans s2.g);rw[Hd];refine g0 λCv _=>?_;show(if Cv.1=Bp then(Cv.1,v)else Cv).1=Cv.1
     split<;>rfl
    .exact h.elim
  .exact h.elim
 .exact h.elim⟩
def ajN(h:B3 X F e m):EP X F (.Return (some e) pos) (Jg m):=⟨by
 have h:=h.1;refine Cz.imp (W5 h) ?_;delta Jg;refine⟨_,_,r.plus,?_⟩;cases Av:m (EK ρ)with
 |bad=>rw[Av]at h;cases h
 |exc c=>rw[Av]at h;exact h
 |ok d=>rw[Av,R.EF]at h;exact λv H' G' BB s' a=>h v G' H' BB.kp a⟩
def aj4{st:BZ}:EP X F st cn:=⟨Cz.imp oT λCP σ H⟨G,ρ,r,h⟩=>h.elim⟩
def ah4(h:B3 X F e m):B3 X F e (SI m):=⟨have h:=h.1;Ay.imp h y_⟩
def aiB{Af:Str}{n k:Nat}{BP:χ->R (List Str×χ)}(c:hk X.prog X.w X.K X.mg X.base Af n k BP)(B8:CM (k+1) X.A)(AB:F6 X F (e::A2) ma)(Ar:F.K=X.K:=by rfl)(Aa:Dg X Af:=by rfl)(GB:(Af==("__debug__" :Str))=false:=by decide)(he:Cl:=by rfl)(DQ:(Cq pos (B9 A2 X.env)).any (·.1)=false:=by rfl):B3 X F (.Call (.Name Af p) (e::A2) [] pos) (RY Af n BP ma):=⟨by
 have AB:=AB.1;obtain⟨C,f,fd,Am,B_,EQ,Gw,hm,J⟩:=c.ex;refine Ay.imp (oA EQ Gw B8 Aa hm J .nil Rn AB GB he DQ) ?_;rw[<-Ar];exact yF (by rw[Ar];exact B_)⟩
def ahj(hm:X.mg "tuple"=none)(AB:F6 X F [e] ma)(Ar:F.K=X.K:=by rfl)(Aa:Dg X "tuple":=by rfl)(he:Fr:=by rfl)(DQ:(Cq pos (B9 [] X.env)).any (·.1)=false:=by rfl):B3 X F (.Call (.Name "tuple" p) [e] [] pos) (Bz RO ma):=⟨have AB:=AB.1;bz tv (abt Ar) hm η AB Aa ε ε he DQ⟩
def ai1(i:Nat){x:Str}{Cd:Pos}(J:B3 X F b m)(hN:ς:=by rfl)(BE:Gf X.env.scope x:=by rw?)(hd:ι:=by decide)(D8:μ:=by decide):JW X F (.BinOp (.Name x Cd) .Add b pos) (Wq i m):=⟨by
 have J:=J.1;refine Ay.imp (eA e3 (II hN BE hd D8) J) ?_;rintro σ H Q ⟨G,ρ,r,h⟩;unfold Wq ownAt at h;cases CY:ρ[i]? with
 |none=>rw[CY]at h;cases h
 |some s=>
  rw[CY]at h;cases s with
  |un=>cases h
  |A1 _=>cases h
  |EY _=>cases h
  |Bl _ _=>cases h
  |ob ob=>
   cases ob with
   |B5 _ _=>cases h
   |ins _ _ _=>cases h
   |lst ds=>
    obtain⟨q,xs,A7,A5,A8,Au,BC⟩:=r.own CY;rw[R.EF]at h;refine⟨.ref q,A7,G,ρ,r,?_⟩;refine rb h λd Av h v H1 Ai AL s1 B4=>?_;obtain⟨Dl,Gm,Ee,J2,Ow,PZ,Gy⟩:=AL.own CY;rw[A7]at Ee;cases Ee;cases d with
    |lst A2=>
     simp only at h
     split at h
     .rename_i AP;erw[At]at B4;obtain⟨DU,ys,rfl,g2,BN⟩:=B4;refine⟨q,DU,Gm,ys,rfl,rfl,J2,AL.kp.sub _ _ g2,by rw[<-Gy.length,<-BN.length];exact Fp AP ε,λl AQ=>?_⟩;exact h l (Gm++ys) _ Ai (AL.lay0 AQ) (s1.trans (C5.lay0 AQ)) (s1.h.gone AQ) Do (AL.kp.sub.gone AQ) (Gy.append BN)
     .exact h.elim
    |_=>exact h.elim⟩
structure Yg(X:Ad)(F:B6)(st:BZ)(m:JQ):Prop where
 o:Cz X st (OI F m)
structure Yf(X:Ad)(F:B6)(st:List BZ)(m:JQ):Prop where
 o:Gb X st (OI F m)
def ahx{m:JQ}(h:Yg X F st m):Yf X F [st] m:=⟨eF h.1⟩
def ahu{a b:JQ}(h:Yg X F st a)(k:Yf X F N5 b):Yf X F (st::N5) (NL a b):=⟨Gb.imp (nV h.1 k.1) zN⟩
def ahw{c:AS}{r:BZ}{k:CG}(h:FU X F c k):Yg X F (.If c [r] [] pos) (Pt k):=⟨Cz.imp (oS h.1 (eF oT) nW) y8⟩
def ahv{Af f x:Str}{Aw:List Str}{Cd pos':Pos}(k:N4 X.K Af Aw)(he:B3 X F e m)(hf:f∈Aw:=by decide+kernel)(hN:X.N[0]?=some x:=by rfl)(BE:Gf X.env.scope x:=by rw?)(hd:ι:=by decide)(D8:μ:=by decide)(AK:Oa e=true:=by rfl)(Ar:F.K=X.K:=by rfl) :
  Yg X F (.Assign [.Attribute (.Name x Cd) f pos'] e pos) (LF Af f m):=⟨CR.ad_ k he.1 hf hN BE hd D8 AK Ar⟩
end
structure L_(K:AZ)(Af x qual:Str)(st:BZ)(Am:List Str):Prop where
 ex:∃(C f:A6)(fd:G3),FT K Af C/\JN K C/\Meth K C x f/\NZ K x qual st f fd/\Binds K fd Am []
structure InK(K:AZ)(mg:Str->Option A4)(Af qual:Str)(st:BZ)(Am:List Str):Prop where
 ex:∃(C f:A6)(fd:G3),FT K Af C/\V7 K C f/\NZ K "__init__" qual st f fd/\mg Af=some (.ref C)/\Binds K fd Am []
def RS{P:Ba}{w:BL}{K:AZ}{mg:Str->Option A4}{base:B2}{x qual Af FO:Str}{st:BZ}{N Am:List Str}{k:Nat}{m:As}(d:L_ K Af x qual st (FO::Am))(S:CT N (FO::Am) (Br st))(h:∀(f:A6)(CA:A4)(A:Bt)(outer:List Env)(s:AM)(H:AA)(E:D0),CM k (A.deeper (My qual (Br st) s.heap.objs.size f CA))->∀G0 H0,JV (F0 H2 P w K mg base N qual (Br st) f CA A outer s H E).Hr (FX K G0 H0) (GJ st) m) :
  Mq P w K mg base Af x Am.length (k+1) (D9 N.length m):=by
 obtain⟨C,f,fd,A5,A8,Au,BC,EL⟩:=d.ex;exact aag BC A5 A8 Au EL S h
def aho{P:Ba}{w:BL}{K:AZ}{mg:Str->Option A4}{base:B2}{qual Af FO:Str}{st:BZ}{Am:List Str}{k:Nat}{m:JQ}(d:InK K mg Af qual st (FO::Am))(S:CT (FO::Am) (FO::Am) (Br st))(h:∀(f:A6)(CA:A4)(A:Bt)(outer:List Env)(s:AM)(H:AA)(E:D0),CM k (A.deeper (My qual (Br st) s.heap.objs.size f CA))->∀G0 H0,Yf (F0 H2 P w K mg base (FO::Am) qual (Br st) f CA A outer s H E).Hr (FX K G0 H0) (GJ st) m) :
  hk P w K mg base Af Am.length (k+1) (λA2=>outI Af (m (LA Af A2))):=by
 obtain⟨C,f,fd,A5,A8,Au,BC,EL⟩:=d.ex;exact⟨C,f,fd,FO::Am,A5,A8,xr Au S λf CA A outer s H E B8 G0 H0=>(h f CA A outer s H E B8 G0 H0).1,BC,EL⟩
end CR
namespace CR
open PySem PySem.Spec Bv PyProof.Rows
section
variable{K:AZ}{G G' H H':AA}
def Bx.nil:Bx K G H [] []:=by erw[Bx]
def Bx.cons{t:T}{Az:List T}{v:V}{vs:List V}(h:C_ K G H t v)(k:Bx K G H Az vs):Bx K G H (t::Az) (v::vs):=by erw[Bx];exact⟨v,vs,rfl,h,k⟩
theorem Bx.length:∀{Az:List T}{vs:List V},Bx K G H Az vs->Az.length=vs.length
 |[],_,h=>by erw[Bx]at h;subst h;rfl
 |_::_,_,h=>by erw[Bx]at h;obtain⟨v,r,rfl,_,t⟩:=h;simp[Bx.length t]
theorem rQ:∀{Az:List T}{vs:List V}{i:Nat}{t:T},Bx K G H Az vs->Az[i]?=some t->∃v,vs[i]?=some v/\C_ K G H t v
 |[],_,_,_,_,e=>by simp at e
 |_::_,_,0,_,h,e=>by erw[Bx]at h;obtain⟨v,r,rfl,q,t⟩:=h;simp at e;subst e;exact⟨v,γ,q⟩
 |_::_,_,i+1,d,h,e=>by erw[Bx]at h;obtain⟨v,r,rfl,q,t⟩:=h;obtain⟨u,A5,A8⟩:=rQ (i:=i) (t:=d) t (e:);exact⟨u,(A5:),A8⟩
theorem Bx.append:∀{Az us:List T}{vs ws:List V},Bx K G H Az vs->Bx K G H us ws->Bx K G H (Az++us) (vs++ws)/\Dz H (Az++us) (vs++ws)=Dz H Az vs++Dz H us ws
 |[],_,_,_,h,t=>by erw[Bx]at h;subst h;exact⟨t,by rw[T9];rfl⟩
 |_::_,_,_,_,h,t=>by erw[Bx]at h;obtain⟨v,r,rfl,q,s⟩:=h;obtain⟨A5,A8⟩:=Bx.append s t;exact⟨.cons q A5,by rw[Xi,Xi,Hm,Hm,A8,Qj]⟩
theorem be:∀{Az:List T}{xs:List V}{k:Nat}{t:T}{v:V}{b:A6},Az[k]?=some t->xs[k]?=some v->b∈Ah H t v->b∈Dz H Az xs
 |[],_,_,_,_,_,e,_,_=>by simp at e
 |_::_,[],_,_,_,_,_,e,_=>by simp at e
 |_::_,_::_,0,_,_,_,A7,AH,h=>by simp at A7 AH;subst A7 AH;rw[Hm];exact G2 _ h
 |_::_,_::_,k+1,_,_,_,A7,AH,h=>by rw[Hm];exact Fb _ (be (A7:) (AH:) h)
end
section
variable{F:B6}{G H:AA}{σ :Bv.St}{ρ:AI}
end
section
variable{X:Ad}{F:B6}{e a b c Bj iter elt:AS}{A2:List AS}{pos p:Pos}{m n:A_}{ma:Ap}
end
end CR
namespace CR
open PySem PySem.Spec Bv
section
variable{F:B6}
end
section
variable{X:Ad}{F:B6}{e a b c Bj iter elt:AS}{A2:List AS}{pos p:Pos}{m n:A_}{ma:Ap}{scope:Dn}{N:List Str}
end
noncomputable def N9(c:CG)(b:As):Nat->AI->R Fy
 |0,_=>.bad
 |n+1,ρ=>(c ρ).bind λk=>if k=true then(b ρ).bind λf=>match f with
  |.BG BK=>N9 c b n BK
  |.Di BK=>N9 c b n BK
  |.Ed BK=>.ok (.BG BK)
  |f=>.ok f
  else .ok (.BG ρ)
def LG(c:CG)(b:As):As:=N9 c b 1000
section
variable{F:B6}
def zS{c:CG}{b:As}:Hf (FP F (LG c b)) (rK (GW F c) (FP F b)):=by
 rintro CP σ H ⟨G,ρ,r,h⟩;refine⟨λm σ2 B7=>∃Cw Ej,Rel F Cw B7 σ2 Ej/\Sub G Cw/\Hq F Cw CP (N9 c b m Ej),⟨1000,G,ρ,r,Sub.refl _,h⟩,?_⟩;rintro m σ2 B7 ⟨Cw,Ej,BA,s2,k2⟩;refine⟨Cw,Ej,BA,?_⟩;cases m with
 |zero=>cases k2
 |succ n=>
  erw[N9]at k2;refine rb k2 λk ec k2 Cx H3 E9 N7=>?_;cases k with
  |false=>rw[if_neg Fq]at k2 |-;exact k2 σ2 H3 Cx E9 N7.g
  |true=>
   rw[if_pos rfl]at k2 |-;refine⟨λσ4 HN=>∃V3 Jr,Rel F V3 HN σ4 Jr/\Sub G V3/\Hq F V3 CP (N9 c b n Jr),λσ4 HN q=>⟨n,Uc _,q⟩,H3,Ej,E9,?_⟩;refine rb k2 λf Bh k2=>?_;cases f with
   |BG P4=>exact λσ7 Mn Ge Jm Da=>⟨Mn,P4,Jm,s2.trans (N7.g.trans Da),Hq.mono (N7.g.trans Da) k2⟩
   |Di P4=>exact λσ7 Mn Ge Jm Da=>⟨Mn,P4,Jm,s2.trans (N7.g.trans Da),Hq.mono (N7.g.trans Da) k2⟩
   |Ed P4=>exact λσ7 Mn Ge Jm Da=>k2 σ7 Mn Ge Jm (N7.g.trans Da)
   |Du d=>exact k2
   |JD ds=>exact k2
   |OB t=>exact k2
   |rs t _=>exact k2
end
section
variable{X:Ad}{F:B6}{e a b c o:AS}{A2:List AS}{pos p:Pos}{m n:A_}{ma:Ap}
def aih{body:List BZ}{a4:CG}{HA:As}(AX:PassesOwn ω X.A X.env X.xe)(AO:FU X F c a4)(J:JV X F body HA):EP X F (.While c body [] pos) (LG a4 HA):=⟨Cz.imp (ad2 AX AO.1 J.1) zS⟩
noncomputable def findD(ks:List Bq)(ds:χ)(Bp:Bq):Option D:=((ks.zip ds).find? λp=>decide (p.1=Bp)).map (·.2)
theorem ZA{K:AZ}{G:AA}(Bp:Bq):∀{ds:χ}{xs:List (Bq×V)},AY K G ds (xs.map (·.2))->match findD (xs.map (·.1)) ds Bp with
  |some d=>∃v,Fa xs Bp=some v/\At K G d v
  |none=>Fa xs Bp=none
 |[],xs,h=>by
  erw[AY]at h;have:xs=[]:=(h:)
  subst this;rfl
 |d::ds,[],h=>by erw[AY,PE]at h;obtain⟨v,r,e,_⟩:=h;cases e
 |d::ds,(k,v)::xs,h=>by
  erw[AY,Dc]at h;obtain⟨Lo,r,e,a,t⟩:=h;cases e;have BW:=ZA (K:=K) (G:=G) Bp (ds:=ds) (xs:=xs) t;unfold findD Fa at BW |-;erw[Dc,M0,Jt];by_cases AG:k=Bp
  .erw[AG,decide_true,Xr];exact⟨v,rfl,a⟩
  .erw[AG,decide_false];exact BW
def Wr(m n:A_):A_:=λρ=>(m ρ).bind λd=>match d with
 |.B5 ks ds=>(n ρ).bind λk=>match J9 k with
  |some Bp=>.ok ((findD ks ds Bp).getD .non)
  |none=>.bad
 |_=>.bad
def y0:EO (Cg F (Wr m n)) (pb (Cg F m) (Cg F n)):=by
 delta Wr r;refine rb h λdd Av h x H1 Ai AL s1 Bu=>?_;cases dd with
 |B5 ks ds=>
  simp only at h;erw[At]at Bu;obtain⟨a,xs,rfl,Aa,rfl,al⟩:=Bu;refine⟨a,rfl,.inr ⟨xs,.inl (AL.kp.sub _ _ Aa)⟩,Ai,ρ,AL,?_⟩;refine rb h λNk Bh h y B7 Cw BA s2 Ck=>?_;cases Co:J9 Nk with
  |none=>rw[Co]at h;cases h
  |some Bp=>
   rw[Co]at h;simp only at h;obtain⟨q,rfl,AT⟩:=OQ Co Ck;refine⟨Fa xs Bp,Ir.t (BA.kp.sub _ _ (s2.g _ _ Aa)) (N6 AT BA.kp.sub),?_⟩;have f:=ZA (K:=F.K) (G:=Ai) Bp al;cases D2:findD (xs.map (·.1)) ds Bp with
   |none=>rw[D2]at f h;rw[show Fa xs Bp=none from f];exact h .non B7 Cw BA (s1.trans s2) (by erw[gG,At])
   |some d=>rw[D2]at f h;obtain⟨v,ev,B4⟩:=f;rw[ev];exact h v B7 Cw BA (s1.trans s2) (B4.mono s2.g)
 |_=>cases h
def aga {apos Bn:Pos} (BD:X.A.units+64<DH) (AN:B3 X F o m) (he:B3 X F e n) (A5:Hz o "get" X.env (BH o X.env)=BH o X.env:=by rfl)(A8:((Cq Bn (B9 [e] X.env)).all (λx=>!x.1)&&(Gr Bn (Gp [] X.env)).all (λx=>x.1.isSome)
  &&decide (([e]:List AS).length+([]:List FS).length+(if([]:List FS).isEmpty then 0 else 1)<30))=true:=by rfl) (Au:(apos.endLine==Bn.line)=true:=by rfl) (BC:Cq Bn (B9 [e] X.env)=[(false,BH e X.env)]:=by rfl) :
  B3 X F (.Call (.Attribute o "get" apos) [e] [] Bn) (Wr m n):=⟨Ay.imp (adE δ AN.1 he.1 ⟨A5,A8,Au,BC⟩) y0⟩
def IY(d k:D):R D:=match d with
 |.B5 ks ds=>match J9 k with
  |some Bp=>match findD ks ds Bp with
   |some v=>.ok v
   |none=>.bad
  |none=>.bad
 |_=>.bad
def y1:EO (Cg F (A9 IY m n)) (pa (Cg F m) (Cg F n)):=by
 delta A9 r;refine rb h λdd Av h x H1 Ai AL s1 Bu=>?_;refine⟨Ai,ρ,AL,?_⟩;refine rb h λNk Bh h y B7 Cw BA s2 Ck=>?_;unfold IY at h
 split at h
 .rename_i ks ds
  split at h
  .rename_i Bp Co;erw[At]at Bu;obtain⟨a,xs,rfl,Aa,rfl,al⟩:=Bu;obtain⟨q,rfl,AT⟩:=OQ Co Ck;have f:=ZA (K:=F.K) (G:=Ai) Bp al
   split at h
   .rename_i d D2;rw[D2]at f;obtain⟨v,ev,B4⟩:=f;refine⟨a,v,rfl,?_,h v B7 Cw BA (s1.trans s2) (B4.mono s2.g)⟩;rw[<-ev];exact Ir.t (BA.kp.sub _ _ (s2.g _ _ Aa)) (N6 AT BA.kp.sub)
   .exact h.elim
  .exact h.elim
 .exact h.elim
def agb(BD:X.A.units+64<DH)(AN:B3 X F o m)(he:B3 X F e n)(AK:Ya e):B3 X F (.Subscript o e pos) (A9 IY m n):=⟨Ay.imp (o7 δ AN.1 he.1 AK) y1⟩
noncomputable def aeI(F:B6):V->List V->AA->CQ->Prop:=λx vs H Q=>∃G d1 Cm p y ds xs j,Sub G H/\x=.ref p/\vs=[y]/\At F.K G d1 y/\HP F.K G Cm p false ds xs/\okN 7 d1=true/\ds.all (okN 7)=true/\ds.length<1000000/\ds.findIdx? (λz=>CE z d1)=some j/\Q (.int (j:Nat)) H
def sz{pins:υ}{σ :Bv.St}{G H:AA}{s:AM}(I:π)(BI:Sub G H){d1:D}{ds:χ}{xs:List V}{its:List A4}(q:AY X.K G ds xs)(r:Vals xs its)(o:ds.all (okN 7)=true){i:Nat}{d:D}{u:A4}(A7:ds[i]?=some d)(AH:its[i]?=some u):MN X.K G d1 u=CE d d1:=by
 obtain⟨v,ev,B4⟩:=q.get A7;have AN:okN 7 d=true:=List.all_eq_true.mp o d (HY A7);have C9:RelV v u:=by obtain⟨FE,I4,FA⟩:=r.get ev;rw[AH]at I4;cases I4;exact FA
 exact h7 I BI AN ⟨v,B4,C9⟩
def ab2(Ar:F.K=X.K)(BD:X.A.units+64<DH):ip X "list.index" (aeI F):=by
 intro pins s σ H x vs v us Q I BS C9 h;obtain⟨G,d1,Cm,p,y,ds,xs,j,BI,rfl,rfl,a1,Fl,Ci,Cj,AP,Bs,q⟩:=h;rw[Ar]at a1 Fl;cases BS;obtain⟨u,rfl,FA⟩:=vals1 C9;obtain⟨its,AL,t1,F1⟩:=Fl.heap I BI;have hm:=a5 I BI (A:=X.A.in1) (d1:=d1) (by erw[in1_units];lia) Ci a1 FA Fl.Hi AL Cj;obtain⟨⟨cls,dict,data,slots⟩,g1,g2,nn,g3⟩:=F1 rfl;simp only at g2 g3;subst g2 g3;obtain⟨F9,A7,AH⟩:=List.findIdx?_eq_some_iff_getElem.mp Bs;have V9:its.length=ds.length:=by rw[<-AL.length,<-Fl.Hi.length]
 have VA:j<its.length:=δ
 have jD:∀(i:Nat)(h:i<ds.length),MN X.K G d1 (its[i]' δ)=CE ds[i] d1:=λi h=>sz I BI Fl.Hi AL Cj (DV h) (DV δ);have C7:s.TypeIs (.ref p) "list":=⟨_,g1,rfl⟩;have yN:(j:Int)<2^63-1:=by
  have:(j:Int)<1000000:=δ
  lia
 refine Sm rv C7 PySem.F.entry_list_index (PySem.F.args_list_index_2 _ _) (SeqAt.list_indexAt p its.toArray nn dict slots u (MN X.K G d1) j (VA:) yN ?_ ?_) ⟨g1,λw hw=>hm w (hw:),?_⟩
 .have:=jD j F9;rw[A7]at this;simpa using this
 .intro k AG xA;have z:=jD k δ;have B1:=AH k xA;rw[Bool.not_eq_true]at B1;rw[B1]at z;simpa using z
 .exact⟨.int (j:Nat),H,I.tok _,⟨_,rfl⟩,q⟩
def ZU:D->χ->R D
 |.lst ds,[d]=>if okN 7 d=true/\ds.all (okN 7)=true/\ds.length<1000000 then match ds.findIdx? (λz=>CE z d)with
  |some j=>.ok (.int (j:Nat))
  |none=>.bad
  else .bad
 |_,_=>.bad
def SL(m:A_)(ma:Ap):A_:=λρ=>(m ρ).bind λd=>match d with
 |.lst ds=>(ma ρ).bind λA2=>ZU (.lst ds) A2
 |_=>.bad
def ai6 {apos Bn:Pos} (BD:X.A.units+64<DH) (AN:B3 X F o m) (AB:F6 X F [e] ma) (Ar:F.K=X.K:=by rfl)(L4:Hz o "index" X.env (BH o X.env)=BH o X.env:=by rfl)(L5:((Cq Bn (B9 [e] X.env)).all (λx=>!x.1)&&(Gr Bn (Gp [] X.env)).all (λx=>x.1.isSome)
    &&decide (([e]:List AS).length+([]:List FS).length+(if([]:List FS).isEmpty then 0 else 1)<30))=true:=by rfl)
  (L6:(apos.endLine==Bn.line)=true:=by rfl) (AK:Fr:=by rfl) (L7:(Cq Bn (B9 [] X.env)).any (·.1)=false:=by rfl) :
  B3 X F (.Call (.Attribute o "index" apos) [e] [] Bn) (SL m ma):=by
 refine⟨Ay.imp (Tt SO rv PySem.F.type_list_index (ab2 (F:=F) Ar BD) AN.1 AB.1 L4 L5 L6 AK L7) ?_⟩;delta SL r;refine rb h λdd Av h x H1 Ai AL s1 Bu=>?_;cases dd with
 |lst ds=>
  simp only at h;erw[At]at Bu;obtain⟨p,xs,rfl,Aa,al⟩:=Bu;refine⟨.inl ⟨rfl,xs,C4.of (AL.kp.sub _ _ Aa)⟩,Ai,ρ,AL,?_⟩;refine rb h λA2 Bh h vs B7 Cw BA s2 Ck=>?_;unfold ZU at h
  split at h
  .rename_i ds' d A7;cases A7
   split at h
   .rename_i AO
    split at h
    .rename_i j J0;obtain⟨y,rfl,B4⟩:=Ck.one;exact⟨Cw,d,.lst ds,p,y,ds,xs,j,BA.kp.sub,rfl,rfl,B4,.lst (s2.g _ _ Aa) (al.mono s2.g),AO.1,AO.2.1,AO.2.2,J0,h _ B7 Cw BA (s1.trans s2) ζ⟩
    .exact h.elim
   .exact h.elim
  .exact h.elim
 |_=>cases h
end
def fK(K:AZ):D0->Str->AA->Prop:=λE c H=>∃C,FT K c C/\∀a,H a=none->E (.ref C) (some a) H
def Lf(K:AZ)(G H:AA)(E:D0):B6:=⟨K,G,H,fK K E,IA⟩
def Rel.Km{F F':B6}{G H:AA}{σ :Bv.St}{ρ:AI}(r:Rel F G H σ ρ)(Ar:F'.K=F.K)(h0:F'.G0=F.G0)(A5:F'.H0=F.H0)(hP:F'.pin=F.pin:=by rfl):Rel F' G H σ ρ:=
 r.over (hP:=hP) Ar ⟨r.kp.sub,by rw[h0];exact r.kp.Dq,by rw[A5];exact r.kp.An,λb J=>by rw[A5]at J;rw[h0];exact r.kp.new b J⟩ (Sub.refl _) λa AB=>⟨rfl,(r.foot AB).2.1,by rw[A5];exact(r.foot AB).2.2⟩
def Rk(m:CG):CG:=λρ=>GC (m ρ)
def WU(m:As):As:=λρ=>GC (m ρ)
def WT(m:Ap):Ap:=λρ=>GC (m ρ)
section
variable{K:AZ}{G0 H0:AA}{E:D0}
def abE{m:CG}:O8 (GW (Lf K G0 H0 E) (Rk m)) (GW (FX K G0 H0) m):=by
 rintro σ H Q ⟨G,ρ,r,h⟩;unfold Rk at h;refine⟨G,ρ,r.Km rfl rfl rfl,?_⟩;cases e:m ρ with
 |bad=>rw[e]at h;cases h
 |exc c=>rw[e]at h;cases h
 |ok b=>rw[e]at h;exact λH' G' BB u=>h H' G' (BB.Km rfl rfl rfl) u
def abC{m:Ap}:YY (EU (Lf K G0 H0 E) (WT m)) (EU (FX K G0 H0) m):=by
 rintro σ H Q ⟨G,ρ,r,h⟩;unfold WT at h;refine⟨G,ρ,r.Km rfl rfl rfl,?_⟩;cases e:m ρ with
 |bad=>rw[e]at h;cases h
 |exc c=>rw[e]at h;cases h
 |ok b=>rw[e]at h;exact λvs H' G' BB u a=>h vs H' G' (BB.Km rfl rfl rfl) u a
def EW.Km{F F':B6}{G H:AA}(k:EW F G H)(h0:F'.G0=F.G0)(A5:F'.H0=F.H0):EW F' G H:=⟨k.sub,by rw[h0];exact k.Dq,by rw[A5];exact k.An,λb J=>by rw[A5]at J;rw[h0];exact k.new b J⟩
def abD{m:As}:Hf (FP (Lf K G0 H0 E) (WU m)) (FP (FX K G0 H0) m):=by
 delta WU;refine⟨G,ρ,r.Km rfl rfl rfl,?_⟩;cases e:m ρ with
 |bad=>rw[e]at h;cases h
 |exc c=>rw[e]at h;cases h
 |ok f=>
  rw[e]at h;cases f with
  |BG BK=>exact λσ' G' H' BB s=>h σ' G' H' (BB.Km rfl rfl rfl) s
  |Ed BK=>exact λσ' G' H' BB s=>h σ' G' H' (BB.Km rfl rfl rfl) s
  |Di BK=>exact λσ' G' H' BB s=>h σ' G' H' (BB.Km rfl rfl rfl) s
  |Du d=>exact λv G' H' k a=>h v G' H' (k.Km rfl rfl) a
  |JD ds=>exact λa xs G' H' k A5 A8 Au BC=>h a xs G' H' (k.Km rfl rfl) A5 A8 Au BC
  |OB t=>exact λv G' H' k q=>h v G' H' (k.Km rfl rfl) ⟨q.at_,q.CW,q.own⟩
  |rs d BK=>exact λv σ' G' H' BB a=>h v σ' G' H' (BB.Km rfl rfl rfl) a
end
section
variable{X:Ad}{e c:AS}{A2:List AS}{st:BZ}{pos p:Pos}{K:AZ}{G0 H0:AA}{E:D0}{mt:CG}{ms:As}{ma:Ap}
def afc{t:TT}(h:FH X.Hr e t):FH X e t:=λpins s σ H Q I q=>Ha (h pins s σ H Q (I.Kx _) q) (λ_ s'⟨H',Cb,z⟩=>⟨H',Cb.KR,z⟩) λ_ _ z=>z.elim
def afa{t:En}(h:G5 X.Hr A2 t):G5 X A2 t:=λpos pins s σ H Q I q=>Ha (h pos pins s σ H Q (I.Kx _) q) (λ_ s'⟨vs,H',Cb,r,z⟩=>⟨vs,H',Cb.KR,r,z⟩) λ_ _ z=>z.elim
def afb{t:F4}(h:Cz X.Hr st t):Cz X st t:=λpins s σ H D I q=>Ha (h pins s σ H D (I.Kx _) q) (λf s' z=>by
 cases f with
 |next=>obtain⟨σ',H',Cb,z⟩:=z;exact⟨σ',H',Cb.KR,z⟩
 |brk=>obtain⟨σ',H',Cb,z⟩:=z;exact⟨σ',H',Cb.KR,z⟩
 |cont=>obtain⟨σ',H',Cb,z⟩:=z;exact⟨σ',H',Cb.KR,z⟩
 |ret v=>obtain⟨x,σ',H',Cb,z⟩:=z;exact⟨x,σ',H',Cb.KR,z⟩) λ_ _ z=>z.elim
def aht(h:FU X.Hr (FX K G0 H0) e mt):FU X (Lf K G0 H0 E) e (Rk mt):=⟨λpins s σ H Q I q=>afc h.1 pins s σ H Q I (abE σ H Q q)⟩
def ahr(h:F6 X.Hr (FX K G0 H0) A2 ma):F6 X (Lf K G0 H0 E) A2 (WT ma):=⟨λpos pins s σ H Q I q=>afa h.1 pos pins s σ H Q I (abC σ H Q q)⟩
def ahs(h:EP X.Hr (FX K G0 H0) st ms):EP X (Lf K G0 H0 E) st (WU ms):=⟨λpins s σ H D I q=>afb h.1 pins s σ H D I (abD D σ H q)⟩
end
structure Uy(P:Ba)(w:BL)(K:AZ)(mg:Str->Option A4)(base:B2)(x:Str)(n k:Nat)(BP:χ->R C2):Prop where
 ex:∃(f:A6)(fd:G3)(Am:List Str),Am.length=n/\G_ P w K mg base (Hv P w K) k f fd Am (QS K n (fK K) BP)/\mg x=some (.ref f)/\KV K (.ref f)=true/\Binds K fd Am []
structure V2(K:AZ)(mg:Str->Option A4)(c:Str):Prop where
 ex:∃C,FT K c C/\mg c=some (.ref C)/\Uk K C [.type "ValueError",.type "Exception",.type "BaseException",.type "object"] "ValueError.__new__"=true
def WB(c:Str):As:=λ_=>.exc c
section
variable{P:Ba}{w:BL}{K:AZ}{mg:Str->Option A4}{base:B2}{N:List Str}{qual:Str}{scope:Dn}{f:A6}{cd:A4}{A:Bt}{outer:List Env}{s0:AM}{IC:AA}{E:D0}{G0 H0:AA}
def fL{x:Str}{np Bn pos Zb:Pos}{m:Str}{j:Nat}(k:V2 K mg x)(Aa:Dg (F0 (Hv P w K) P w K mg base N qual scope f cd A outer s0 IC E) x:=by rfl)(hd:ι:=by decide) :
  EP (F0 (Hv P w K) P w K mg base N qual scope f cd A outer s0 IC E) (Lf K G0 H0 E) (.Raise (some (.Call (.Name x np) [.Constant (.str m) j Zb] [] Bn)) none pos) (WB x):=by
 obtain⟨C,A5,A8,Au⟩:=k.ex;refine⟨λpins s σ H D I q=>ad1 (X:=F0 (Hv P w K) P w K mg base N qual scope f cd A outer s0 IC E) PySem.F.excBase_ValueError Au A8 rfl Aa hd pins s σ H D I ?_⟩;obtain⟨G,ρ,r,h⟩:=q;obtain⟨IQ,B_,EQ⟩:=(show MZ (Lf K G0 H0 E) x from h) G H r.kp;have:IQ=C:=by unfold FT at B_ A5;rw[A5]at B_;cases B_;rfl
 subst this;exact aiJ EQ
def agZ{x:Str}{n k:Nat}{BP:χ->R C2}{e:AS}{A2:List AS}{ma:Ap}{pos p:Pos}(c:Uy P w K mg base x n k BP)(B8:CM k (F0 (Hv P w K) P w K mg base N qual scope f cd A outer s0 IC E).A)(AB:F6 (F0 (Hv P w K) P w K mg base N qual scope f cd A outer s0 IC E) (Lf K G0 H0 E) (e::A2) ma)(Aa:Dg (F0 (Hv P w K) P w K mg base N qual scope f cd A outer s0 IC E) x:=by rfl)(GB:ι:=by decide)(he:B9 (e::A2) (F0 (Hv P w K) P w K mg base N qual scope f cd A outer s0 IC E).env=(false,BH e (F0 (Hv P w K) P w K mg base N qual scope f cd A outer s0 IC E).env)::B9 A2 (F0 (Hv P w K) P w K mg base N qual scope f cd A outer s0 IC E).env:=by rfl)(DQ:(Cq pos (B9 A2 (F0 (Hv P w K) P w K mg base N qual scope f cd A outer s0 IC E).env)).any (·.1)=false:=by rfl) :
  B3 (F0 (Hv P w K) P w K mg base N qual scope f cd A outer s0 IC E) (Lf K G0 H0 E) (.Call (.Name x p) (e::A2) [] pos) (CB n BP ma):=by
 obtain⟨ji,fd,Am,AQ,Gw,hm,AG,J⟩:=c.ex;exact⟨Ay.imp (Zq (X:=F0 (Hv P w K) P w K mg base N qual scope f cd A outer s0 IC E) Gw B8 Aa hm AG J .nil ad5 AB.1 GB he DQ) (m1 (F:=Lf K G0 H0 E) (xe:=fK K) (E:=E) rfl)⟩
end
def qc{P:Ba}{w:BL}{K:AZ}{mg:Str->Option A4}{base:B2}{x:Str}{st:BZ}{N Am:List Str}{k:Nat}{m:As}(d:Df K mg x st Am)(S:CT N Am (Br st))(h:∀(f:A6)(CA:A4)(A:Bt)(outer:List Env)(s:AM)(H:AA)(E:D0),CM k (A.deeper (My x (Br st) s.heap.objs.size f CA))->∀G0 H0,JV (F0 (Hv P w K) P w K mg base N x (Br st) f CA A outer s H E) (Lf K G0 H0 E) (GJ st) m) :
  Uy P w K mg base x Am.length (k+1) (D9 N.length m):=by
 obtain⟨f,fd,fn,hm,J⟩:=d.ex;refine⟨f,fd,Am,rfl,?_,hm,fn.kp,J⟩;obtain⟨Hs,E0,D_,doc,pm,an,CA,Di,Mj,rfl,lk,D8⟩:=fn.ex;refine kr lk D8 S bb λA outer s H vs Q E B8 AK=>?_;obtain⟨G,Ax⟩:=ZX AK;exact⟨_,(h f CA A outer s H E B8 G H).1,Ax⟩
def Po(n:Nat)(BP:χ->R C2)(m:Ap):A_:=λρ=>(m ρ).bind λds=>if ds.length=n then(GC (BP ds)).bind Ks else .bad
section
variable{X:Ad}{F:B6}{e:AS}{A2:List AS}{pos p:Pos}{ma:Ap}
def ad6{P:Ba}{w:BL}:Passes (Hv P w K) X (λ_ _ _=>False):=λ_ _ _ _ _ _ _ h=>by obtain⟨_,_,_,_,_,_,_,z⟩:=h;cases z
def xv{n:Nat}{BP:χ->R C2}{m:Ap}{xe:D0->Str->AA->Prop}{E:D0}:EO (Cg F (Po n BP m)) (ax (QS F.K n xe BP) [] E (EU F m)):=by
 delta Po r;refine rb h λds Av h vs H1 Ai AL s1 a=>?_;by_cases AQ:ds.length=n
 .rw[if_pos AQ]at h;rw[Ly];refine⟨Ai,ds,AL.kp.sub,a,AQ,?_⟩;cases e:BP ds with
  |bad=>rw[e]at h;cases h
  |exc c=>rw[e]at h;cases h
  |ok t=>
   rw[e]at h;have h:Ie F G H σ ρ Q (Ks t):=h;cases t with
   |v d=>exact λv G' H' k B4=>h v H' G' (EW.of AL k) (s1.trans ⟨k.Dq,k.An,k.new⟩) B4
   |o A2=>intro p xs G' H' k A5 A8 Au BC;have A8:H1 p=none:=A8;have BB:=EW.of AL k;have no:¬CU H' σ ρ p:=CU.fresh AL k.An A8;refine h (.ref p) H' _ (BB.take Au A5 (AL.kp.An.gone A8) no) ((s1.trans ⟨k.Dq,k.An,k.new⟩).put (s1.h.gone A8) A5) ?_;erw[At];exact⟨p,xs,rfl,Do,BC.mono (Sub.upd A5)⟩
   |t t=>intro v G' H' k q;obtain⟨a1,a2,G7⟩:=(EW.of AL k).b2 (F':=⟨F.K,Ai,H1,xe E,IA⟩) rfl q (s1.trans ⟨k.Dq,k.An,k.new⟩) λb J=>⟨s1.h.gone (q.own b J).2,AL.kp.An.gone (q.own b J).2,CU.fresh AL k.An (q.own b J).2⟩;exact h v H' _ a1 a2 G7
 .rw[if_neg AQ]at h;cases h
def agY{x:Str}{n k:Nat}{BP:χ->R C2}(c:Uy X.prog X.w X.K X.mg X.base x n k BP)(B8:CM k X.A)(AB:F6 X F (e::A2) ma)(Ar:F.K=X.K:=by rfl)(Aa:Dg X x:=by rfl)(GB:ι:=by decide)(he:Cl:=by rfl)(DQ:(Cq pos (B9 A2 X.env)).any (·.1)=false:=by rfl):B3 X F (.Call (.Name x p) (e::A2) [] pos) (Po n BP ma):=by obtain⟨f,fd,Am,AQ,Gw,hm,AG,J⟩:=c.ex;refine⟨Ay.imp (Zq Gw B8 Aa hm AG J .nil ad6 AB.1 GB he DQ) ?_⟩;rw[<-Ar];exact xv
end
end CR
namespace Bv
open PySem PySem.Spec PySem.Calls PyProof.Rows PySem.W PySem.Builtin PySem.Builtin.ObjectAttr PySem.Builtin.Getset_descriptor
section
variable{prog:Ba}{w:BL}{A:Bt}{E:ξ}{s:AM}{K:Frag}{a D:A6}
end
end Bv
namespace CR
open PySem PySem.Spec Bv
section
variable{X:Ad}{F:B6}{a:AS}{pos p:Pos}{m:A_}
end
noncomputable def QM:D->D->R D
 |.lst xs,.int k=>if 0<=k/\k<=1000/\xs.length<=100 then .ok (.lst (GF k.toNat xs).flatten)else .bad
 |_,_=>.bad
theorem AY.rep{K:AZ}{G:AA}{ds:χ}{xs:List V}(q:AY K G ds xs):∀n:Nat,AY K G (GF n ds).flatten (GF n xs).flatten
 |0=>(AY.nil:)
 |n+1=>by rw[QX,QX,Qi,Qi];exact q.append (AY.rep q n)
section
variable{X:Ad}{F:B6}{a b:AS}{pos p:Pos}{m n:A_}
def abp:Hh F nj QM:=by
 intro σ ρ G H x y Aj Gh Q r Bu Ck k;unfold QM at k
 split at k
 .rename_i xs j
  split at k
  .rename_i AO;erw[At]at Bu Ck;obtain⟨l,vs,rfl,AP,al⟩:=Bu;refine⟨l,j,vs,rfl,Ck,r.kp.sub _ _ AP,δ,δ,?_,λq AT=>?_⟩
   .rw[<-al.length];have A5:j.toNat<=1000:=δ
    exact Fp (Nat.mul_le_mul AO.2.2 A5) ε
   .refine k (.ref q) _ _ (r.lay AT) (C5.lay r.kp.sub AT) ?_;erw[At];exact⟨q,_,rfl,Do,(al.mono (Sub.upd (r.kp.sub.gone AT))).rep j.toNat⟩
  .exact k.elim
 .exact k.elim
def aiQ(AB:B3 X F a m)(J:B3 X F b n):B3 X F (.BinOp a .Mult b pos) (A9 QM m n):=⟨Qu abY abp AB.1 J.1⟩
def abe{i:Nat}{ρ:AI}{ds:χ}(h:ownAt i ρ=.ok ds):ρ[i]?=some (.C8 ds):=by
 unfold ownAt at h
 split at h
 .rename_i e;cases h;exact e
 .cases h
def abd{i:Nat}{ρ:AI}{c:Str}(h:ownAt i ρ=.exc c):False:=by
 unfold ownAt at h
 split at h<;>cases h
end
end CR
namespace Ex
open PySem PySem.SetTable
theorem cN(xs:Array Nat)(j:Nat)(AK:xs.toList.Pairwise (· <·)):∀fuel lo AC,AC<=lo+fuel->lo<=AC->AC<=xs.size->(∀k,k<lo->xs.getD k j<j)->(∀k,AC<=k->k<xs.size->j<=xs.getD k j)->
  below.go xs j fuel lo AC<=xs.size/\(∀k,k<below.go xs j fuel lo AC->xs.getD k j<j)/\(∀k,below.go xs j fuel lo AC<=k->k<xs.size->j<=xs.getD k j)
 |0,lo,AC,A5,A8,Au,BC,EL=>by
  have e:lo=AC:=δ
  subst e;exact⟨Au,BC,EL⟩
 |fuel+1,lo,AC,A5,A8,Au,BC,EL=>by
  have mono:∀a b,a<=b->b<xs.size->xs.getD a j<=xs.getD b j:=by
   intro a b P0 J;rcases Nat.eq_or_lt_of_le P0 with rfl|P0
   .exact CS _
   have:=List.pairwise_iff_getElem.mp AK a b θ (J:) P0;erw[sV]at this;rw[XU,XU,Js δ,Js J];exact Nx this
  unfold below.go;by_cases h:lo<AC
  .rw[if_pos h];dsimp only;by_cases q:xs.getD ((lo+AC)/2) j<j
   .rw[if_pos q];refine cN xs j AK fuel _ AC δ δ Au (λk AG=>?_) EL;exact Nat.lt_of_le_of_lt (mono k ((lo+AC)/2) δ δ) q
   .rw[if_neg q];refine cN xs j AK fuel lo _ δ δ δ BC λk AG Ic=>?_;exact Fp (Nat.not_lt.mp q) (mono _ k AG Ic)
  .rw[if_neg h];have e:lo=AC:=δ
   subst e;exact⟨Au,BC,EL⟩
def iZ{xs:Array Nat}(AK:xs.toList.Pairwise (· <·))(j:Nat):below xs j<=xs.size/\(∀y∈xs.toList.take (below xs j),y<j)/\(∀y∈xs.toList.drop (below xs j),j<=y):=by
 obtain⟨a,b,c⟩:=cN xs j AK xs.size 0 xs.size δ δ (CS _) (λk AG=>absurd AG (Nat.not_lt_zero _)) (λk A5 A8=>absurd A8 δ);refine⟨a,λy BO=>?_,λy BO=>?_⟩
 .obtain⟨k,AG,rfl⟩:=Mz BO;have NB:k<below xs j/\k<xs.size:=by simpa[Sb,Nat.lt_min]using AG
  have:=b k NB.1;rw[XU,Js NB.2]at this;simpa using this
 .obtain⟨k,AG,rfl⟩:=Mz BO;have NB:below xs j+k<xs.size:=by simp at AG;lia
  have:=c (below xs j+k) (Sc _ _) NB;rw[XU,Js NB]at this;simpa using this
structure Tab(t:Ik)(n:Nat):Prop where
 akK:t.dummies= #[]
 akZ:t.place.size=n
 ado:t.place.toList.Pairwise (· <·)
 le:∀j∈t.place.toList,j<=t.mask
noncomputable def SG(mask:Nat)(h:Int):Nat->Nat×Nat
 |0=>(bits h%(mask+1),bits h)
 |n+1=>leap mask (SG mask h n).1 (SG mask h n).2
section
variable{α:Type}
def V1(t:Ik)(A2:Array (Int×α))(j:Nat)(e:Int×α):Prop:=∃i:Nat,t.place.toList[i]?=some j/\A2.toList[i]?=some e
def acr{t:Ik}{n:Nat}(T:Tab t n){i k j:Nat}(a:t.place.toList[i]?=some j)(b:t.place.toList[k]?=some j):i=k:=by
 obtain⟨a1,a2⟩:=List.getElem?_eq_some_iff.mp a;obtain⟨FV,Ez⟩:=List.getElem?_eq_some_iff.mp b;have r:=List.pairwise_iff_getElem.mp T.ado;rcases Nat.lt_trichotomy i k with h|h|h
 .have:=r i k a1 FV h;lia
 .exact h
 .have:=r k i FV a1 h;lia
def V1.inj{t:Ik}{A2:Array (Int×α)}{n:Nat}(T:Tab t n){j:Nat}{e CF:Int×α}(a:V1 t A2 j e)(b:V1 t A2 j CF):e=CF:=by obtain⟨i,a1,a2⟩:=a;obtain⟨k,FV,Ez⟩:=b;have:=acr T a1 FV;subst this;rw[a2]at Ez;exact E_ Ez
end
section
variable{α:Type}
end
section
variable{prog:Ba}{w:BL}{A:Bt}{E:ξ}{s:AM}{K:Type}[DecidableEq K]{knd:KeyKind prog w K}
end
section
variable{prog:Ba}{w:BL}{A:Bt}{E:ξ}{s:AM}{K:Type}[DecidableEq K]{knd:KeyKind prog w K}
theorem V1.place{t:Ik}{A2:Array (Int×A4)}{j:Nat}{e:Int×A4}(q:V1 t A2 j e):j∈t.place.toList:=by obtain⟨i,q,_⟩:=q;exact HY q
end
section
variable{prog:Ba}{w:BL}{A:Bt}{E:ξ}{s:AM}{K:Type}[DecidableEq K]{knd:KeyKind prog w K}
def l5{h:B2}{a:A6}{o:Obj}{A2 es':Array (Int×A4)}{Ak:Nat}{t t':Ik}(AN:h.get? a=some o)(AJ:o.ExactSet)(hd:o.data=.set A2 Ak t):∃Bo,(h.update a (Obj.putSet es' t')).get? a=some Bo/\Bo.ExactSet/\Bo.data=.set es' (Ak+1) t':=by
 refine⟨_,KU _ AN (by rw[putSet_of es' t' hd];rfl),?_,?_⟩
 .rw[putSet_of es' t' hd];exact AJ
 .rw[putSet_of es' t' hd]
end
end Ex
namespace Ex
open PySem PySem.Spec PyProof.Rows
section
variable{prog:Ba}{w:BL}{K:Type}[DecidableEq K]{knd:gT prog w K}
noncomputable def tk(S:List (List K))(ks:List K):List (List K):=if ks∈S then S else S++[ks]
def tl(keys:List (List K)):List (List K):=keys.foldl tk []
section
variable{A:Bt}{R:Result->ο}{I:A6}{Ah wr:List A6}{G:Array Sn->Array Sn->Prop}{n:Nat}{P:Nat->A4->Prop}{St:Nat->ο}
end
end
section
variable{prog:Ba}{w:BL}{A:Bt}{E:ξ}{s:AM}{K:Type}[DecidableEq K]{knd:gT prog w K}
noncomputable def KQ(led:Bool):Obj:={ cls:=.type "set",dict:=none,data:=.set #[] 0 (.fresh 0 0 led) }
theorem aeo(a:A4){Q₁:ξ}(h:Q₁ (.ref s.heap.objs.size) { s with heap:=s.heap.push (KQ (!w.params.followText "set-order")) }):MB ψ A (.call (.builtin "set.__new__") { pos:=[.type "set",a] }) (wants Q₁ E) s:=by
 have VD:=sub_set_self;refine codeAny_of_tree ?_;refine AF (Uq (F.newCall_set_1 a) (Ag ⟨SY F.plain_set_new _,P7 F.entry_set_new ?_⟩));rw[QW F.plain_set_new _];obtain⟨AX,g,d,BU,os⟩:=s;have nn:∀{A:Bt}{Q:ξ}{E:ξ},Q (.ref AX.objs.size) ⟨AX.push (KQ (!w.params.followText "set-order")),g,d,BU,os⟩->AW ψ A (newSet (.type "set")) Q E ⟨AX,g,d,BU,os⟩:=λ{A Q E} AT=>by unfold newSet setsByText;exact AF (AF (gH (Ag (Ih AT))))
 unfold Gq.«set.__new__»;generalize hN:newSet=ak9 at nn |-
 wp_walk
 exact nn (Ag h)
end
end Ex
namespace LT
open PySem PyProof.Rows
structure Fx(kd:Il)(CD:Array Jw)(st:G4):Prop where
 k:JL st=kd
 p:(Bm st).Perm CD
 n:O2 st= #[]
 f:Sp st=none
def Fx.Ll{kd:Il}{CD:Array Jw}{st:G4}(b:Fx kd CD st):(Bm st).size=CD.size:=b.p.size_eq
def Fx.to{kd:Il}{CD:Array Jw}{st:G4}(b:Fx kd CD st){xs:Array Jw}(q:xs.Perm (Bm st)):Fx kd CD (setArr st xs):=⟨b.k,q.trans b.p,b.n,b.f⟩
structure LX(prog:Ba)(w:BL)(A:Bt)(s:AM)(kd:Il)(κ:KeyKind)(CD:Array Jw):Prop where
 lt:∀(E:ξ)(x y:Jw){Q:Bool->ο},x∈CD.toList->y∈CD.toList->Q (κ.blt ((κ.keyOf x.1).getD κ.dflt) ((κ.keyOf y.1).getD κ.dflt)) s->AW ψ A (keyLt' kd x.1 y.1) Q E s
section
variable{prog:Ba}{w:BL}{A:Bt}{E:ξ}{s:AM}{CD:Array Jw}{κ:KeyKind}{kd:Il}
def Fx.at{st:G4}(b:Fx kd CD st){i:Nat}(AC:i<CD.size):∃x,(Bm st)[i]?=some x/\x∈CD.toList/\KK κ (Bm st) i=(κ.keyOf x.1).getD κ.dflt:=by
 have g:i<(Bm st).size:=by rw[b.Ll];exact AC
 have e:=getElem?_pos (Bm st) i g;refine⟨_,e,(Array.perm_iff_toList_perm.mp b.p).mem_iff.mp γ,?_⟩;unfold KK;rw[e]
def Wo(C:LX prog w A s kd κ CD){st:G4}(b:Fx kd CD st){i j:Nat}{Q:Option Bool->G4->Prop}(AC:i<CD.size)(Bs:j<CD.size)(h:Q (some (κ.blt (KK κ (Bm st) i) (KK κ (Bm st) j))) st):wpS ψ A E s (ltAt' i j) Q st:=by obtain⟨x,E2,E3,HH⟩:=b.at (κ:=κ) AC;obtain⟨y,HW,GE,RU⟩:=b.at (κ:=κ) Bs;rw[HH,RU]at h;rw[ltAt'_eq];refine El (wpS_get ?_);show wpS _ _ _ _ (elem' (Bm st) i>>=λx=>elem' (Bm st) j>>=λy=>lt' x y) Q st;rw[elem'_eq,E2,elem'_eq,HW];refine El (Gc (El (Gc ?_)));rw[lt'_eq];refine El (wpS_get (El (wpS_lift (Nw ?_))));rw[b.k];exact C.lt _ x y E3 GE ⟨rfl,Gc h⟩
def rZ{xs:Array Jw}:GH κ xs 1:=λi j a c=>by
 have:i=j:=δ
 subst this;exact Qc _
def afd{xs:Array Jw}{n:Nat}(h:GH κ xs n)(q:κ.kle (KK κ xs (n-1)) (KK κ xs n)):GH κ xs (n+1):=λi j a c=>by
 by_cases e:j<n
 .exact h i j a e
 have e:j=n:=δ
 subst e;by_cases g:i=j
 .subst g;exact Qc _
 .exact Xj (h i (j-1) δ δ) q
def Zf{xs:Array Jw}{n:Nat}(h:NonIncK κ xs n)(q:κ.kle (KK κ xs n) (KK κ xs (n-1))):NonIncK κ xs (n+1):=λi j a c=>by
 by_cases e:j<n
 .exact h i j a e
 have e:j=n:=δ
 subst e;by_cases g:i=j
 .subst g;exact Qc _
 .exact Xj q (h i (j-1) δ δ)
def NonIncK.same{xs ys:Array Jw}{n:Nat}(h:NonIncK κ xs n)(e:∀k,KK κ ys k=KK κ xs k):NonIncK κ ys n:=λi j a c=>by rw[e,e];exact h i j a c
def iP(C:LX prog w A s kd κ CD){st:G4}{a EN:Nat}{Q:AscSt->G4->Prop}(AQ:EN<=CD.size)(AB:1<=a)(an:a<=EN)(b:Fx kd CD st)(AK:GH κ (Bm st) a)(h:∀n,a<=n->n<=EN->GH κ (Bm st) n->(n<EN->κ.klt (KK κ (Bm st) n) (KK κ (Bm st) (n-1)))->Q (none,n) st):wpS ψ A E s (ascLoop a EN) Q st:=by
 unfold ascLoop;refine Sg (I:=λx c t=>t=st/\c=(none,x)/\GH κ (Bm st) x) ?_ ?_ ⟨rfl,rfl,AK⟩
 .rintro x c t g1 g2 ⟨rfl,rfl,g3⟩;dsimp only;refine El (Wo C b δ δ ?_);cases e:κ.blt (KK κ (Bm t) x) (KK κ (Bm t) (x-1))with
  |true=>exact Gc (h x g1 δ g3 λ_=>e)
  |false=>exact Gc ⟨rfl,rfl,afd g3 e⟩
 .rintro c t ⟨rfl,rfl,g⟩;have em:max a EN=EN:=δ
  rw[em]at g |-;exact h EN an (CS _) g λz=>absurd z (Hc _)
def rL(C:LX prog w A s kd κ CD){st:G4}{n EN:Nat}{Q:Option Nat->G4->Prop}(AQ:EN<=CD.size)(A5:1<=n)(nn:n<=EN)(b:Fx kd CD st)(AK:NonIncK κ (Bm st) n)(h:∀m t,Fx kd CD t->m<=EN->GH κ (Bm t) m->Q (some m) t):wpS ψ A E s (tail3 n EN) Q st:=by
 have Ao:n<=(Bm st).size:=by rw[b.Ll];lia
 have G8:Fx kd CD (setArr st (mirror (Bm st) 0 n ((n-0)/2))):=b.to (YK _ _ _ _);unfold tail3;refine El (YL (El (iP C AQ A5 nn G8 (λi j g1 g2=>?_) λm Fk FY NF _=>Gc (h m _ G8 FY NF))));show κ.kle (KK κ (mirror (Bm st) 0 n ((n-0)/2)) i) (KK κ (mirror (Bm st) 0 n ((n-0)/2)) j);rw[KK_mirror Ao,KK_mirror Ao,if_pos ⟨Hy _,δ⟩,if_pos ⟨Hy _,g2⟩];exact AK _ _ δ δ
def Flat(κ:KeyKind)(xs:Array Jw)(m q:Nat):Prop:=q+1<=m/\∀i,m-(q+1)<=i->i<m->KK κ xs i=KK κ xs (m-1)
def cD{xs:Array Jw}{m:Nat}(h:1<=m):Flat κ xs m 0:=⟨h,λi a c=>by
 have:i=m-1:=δ
 rw[this]⟩
def tp(C:LX prog w A s kd κ CD){st:G4}{n EN:Nat}{Q:DescSt->G4->Prop}(AQ:EN<=CD.size)(A5:1<=n)(nn:n<=EN)(b:Fx kd CD st)(AK:NonIncK κ (Bm st) n)(h:∀m q t,Fx kd CD t->n<=m->m<=EN->NonIncK κ (Bm t) m->Flat κ (Bm t) m q->Q (none,m,q) t):wpS ψ A E s (descLoop n EN) Q st:=by
 unfold descLoop;refine Sg (I:=λx c t=>∃q,c=(none,x,q)/\Fx kd CD t/\NonIncK κ (Bm t) x/\Flat κ (Bm t) x q) ?_ ?_ ⟨0,rfl,b,AK,cD A5⟩
 .rintro x c t g1 g2 ⟨q,rfl,b,g3,g4⟩;dsimp only;have Ao:x<=(Bm t).size:=by rw[b.Ll];lia
  refine El (Wo C b δ δ ?_);cases e:κ.blt (KK κ (Bm t) x) (KK κ (Bm t) (x-1))with
  |true=>
   have up:=Zf g3 (Xt e);dsimp only;rw[if_pos rfl];by_cases z:q>0
   .rw[if_pos z];exact El (YL (Gc ⟨0,rfl,b.to (YK _ _ _ _),NonIncK.same up (gX Ao g4.2),cD δ⟩))
   .rw[if_neg z];exact Gc ⟨0,rfl,b,up,cD δ⟩
  |false=>
   dsimp only;rw[if_neg γ];refine El (Wo C b δ δ ?_);cases CF:κ.blt (KK κ (Bm t) (x-1)) (KK κ (Bm t) x)with
   |true=>exact Gc (h x q t b g1 δ g3 g4)
   |false=>
    have VI:KK κ (Bm t) x=KK κ (Bm t) (x-1):=sO CF e;refine Gc ⟨q+1,rfl,b,Zf g3 CF,by have:=g4.1;lia,λi a c=>?_⟩;rw[show x+1-1=x by lia];by_cases w:i=x
    .rw[w]
    .rw[VI];exact g4.2 i δ δ
 .rintro c t ⟨q,rfl,b,g3,g4⟩;have em:max n EN=EN:=δ
  rw[em]at g3 g4 |-;exact h EN q t b nn (CS _) g3 g4
def jw(C:LX prog w A s kd κ CD){st:G4}{n EN:Nat}{Q:Option Nat->G4->Prop}(AQ:EN<=CD.size)(nn:n+1<=EN)(b:Fx kd CD st)(AK:NonIncK κ (Bm st) (n+1))(h:∀m t,Fx kd CD t->m<=EN->GH κ (Bm t) m->Q (some m) t):wpS ψ A E s (descPart n EN) Q st:=by
 unfold descPart;refine El (wpS_lift (JI ⟨rfl,El (tp C AQ δ nn b AK λm q t G8 Fk FY g1 g2=>?_)⟩));dsimp only;have Ao:m<=(Bm t).size:=by rw[G8.Ll];lia
 by_cases z:q>0
 .rw[if_pos z];exact El (YL (rL C AQ δ FY (G8.to (YK _ _ _ _)) (NonIncK.same g1 (gX Ao g2.2)) h))
 .rw[if_neg z];exact rL C AQ δ FY G8 g1 h
def adx(C:LX prog w A s kd κ CD){st:G4}{EN:Nat}{Q:Option Nat->G4->Prop}(AQ:EN<=CD.size)(A5:1<=EN)(b:Fx kd CD st)(h:∀m t,Fx kd CD t->m<=EN->GH κ (Bm t) m->Q (some m) t) :
  wpS ψ A E s (countRun' 0 EN) Q st:=by
 rw[countRun0_eq];refine El (iP C AQ (CS 1) A5 b rZ λn DC DW g1 g2=>?_);dsimp only;by_cases e:n=EN
 .rw[if_pos (e:)];exact Gc (h n st b DW g1)
 rw[if_neg (e:)];have g2:=g2 δ;have Ao:n<=(Bm st).size:=by rw[b.Ll];lia
 by_cases z:n>1
 .rw[if_pos z];refine El (Wo C b δ δ ?_);cases CF:κ.blt (KK κ (Bm st) 0) (KK κ (Bm st) (n-1))with
  |true=>exact Gc (h n st b DW g1)
  |false=>
   dsimp only;rw[if_neg γ];have G1:∀k,0<=k->k<n->KK κ (Bm st) k=KK κ (Bm st) (n-1):=λk _ AG=>
    sO (g1 k (n-1) δ δ) (Xj CF (g1 0 k (Hy _) AG))
   have bq:NonIncK κ (Bm st) n:=λi j a c=>by rw[G1 i (Hy _) δ,G1 j (Hy _) c];exact Qc _
   exact El (YL (jw C AQ δ (b.to (YK _ _ _ _)) (NonIncK.same (Zf bq (Xt g2)) (gX Ao G1)) h))
 .rw[if_neg z];have A7:n=1:=δ
  subst A7;exact jw C AQ δ b (Zf (λi j a c=>by
   have:i=j:=δ
   subst this;exact Qc _) (Xt g2)) h
def sk(C:LX prog w A s kd κ CD){st:G4}{n ok:Nat}{Q:Bool->G4->Prop}(AQ:n<=CD.size)(AG:ok<=n)(b:Fx kd CD st)(AK:GH κ (Bm st) ok)(h:∀t,Fx kd CD t->GH κ (Bm t) n->Q true t):wpS ψ A E s (binarySort' 0 n ok) Q st:=by
 rw[binarySort'_eq];erw[YN];refine El (wpS_mono (Sg (I:=λk c t=>c=(none,())/\Fx kd CD t/\GH κ (Bm t) (min k n)) (Q:=λc t=>c=(none,())/\Fx kd CD t/\GH κ (Bm t) n) ?_ ?_ ?_) ?_)
 .rintro k c t k1 k2 ⟨rfl,b,g⟩;have Co:min k n=k:=δ
  rw[Co]at g;have Ao:k<(Bm t).size:=by rw[b.Ll];lia
  refine El (wpS_mono (Sg (I:=λx c u=>u=t/\∃l r,c=(none,l,r)/\l<=r/\r<=k/\r-l<=k-x/\(∀i,i<l->κ.kle (KK κ (Bm t) i) (KK κ (Bm t) k))/\∀i,r<=i->i<k->κ.klt (KK κ (Bm t) k) (KK κ (Bm t) i))
   (Q:=λc u=>u=t/\∃l r,c=(none,l,r)/\l<=k/\(∀i,i<l->κ.kle (KK κ (Bm t) i) (KK κ (Bm t) k))/\∀i,l<=i->i<k->κ.klt (KK κ (Bm t) k) (KK κ (Bm t) i)) ?_ ?_ ⟨rfl,0,k,rfl,δ,δ,δ,λi z=>δ,λi z Fw=>δ⟩) ?_)
  .rintro x c u _ E3 ⟨rfl,l,r,rfl,F1,DJ,OS,lo,AC⟩;dsimp only;by_cases z:l≥r
   .rw[if_pos z];have e:l=r:=δ
    subst e;exact Gc ⟨rfl,l,l,rfl,DJ,lo,AC⟩
   rw[if_neg z];refine El (Wo C b δ δ ?_);cases e:κ.blt (KK κ (Bm u) k) (KK κ (Bm u) ((l+r)/2))with
   |true=>exact Gc ⟨rfl,l,(l+r)/2,rfl,δ,δ,δ,lo,λi a c=>KeyOrd.klt_of_klt_of_kle e (g _ _ a c)⟩
   |false=>exact Gc ⟨rfl,(l+r)/2+1,r,rfl,δ,δ,δ,λi a=>Xj (g i ((l+r)/2) δ δ) (show κ.kle _ _ from e),AC⟩
  .rintro c u ⟨rfl,l,r,rfl,F1,DJ,OS,lo,AC⟩;have e:l=r:=δ
   subst e;exact⟨rfl,l,l,rfl,DJ,lo,AC⟩
  .rintro c u ⟨rfl,l,r,rfl,F1,lo,AC⟩;show wpS _ _ _ _ (moveDown' k l>>=λ_=>pure (Ny (none,()))) _ _;rw[moveDown'_eq];refine El (wpS_modify (Gc ⟨rfl,b.to (bubble_perm _ _ _),?_⟩));rw[show min (k+1) n=k+1 by lia];intro i j ajZ dA;show κ.kle (KK κ (bubble (Bm u) k (k-l)) i) (KK κ (bubble (Bm u) k (k-l)) j);rw[KK_bubble Ao δ,KK_bubble Ao δ,show k-(k-l)=l by lia]
   repeat' split
   all_goals first|lia|exact Qc _|exact lo _ δ|exact Xt (AC _ δ δ)|exact g _ _ δ δ
 .rintro c t ⟨rfl,b,g⟩;rw[show min (max (max ok 1) n) n=n by lia]at g;exact⟨rfl,b,g⟩
 .refine⟨rfl,b,?_⟩;by_cases z:ok=0
  .subst z;intro i j a c;exact rZ i j a δ
  .rw[show min (max ok 1) n=ok by lia];exact AK
 .rintro c t ⟨rfl,b,g⟩;exact Gc (h t b g)
def ady(C:LX prog w A s kd κ CD){st:G4}{Q:Unit->G4->Prop}(b:Fx kd CD st)(A8:2<=CD.size)(P_:CD.size<64)(h:∀t,(Bm t).Perm CD->Sp t=none->GH κ (Bm t) CD.size->Q () t):wpS ψ A E s sortRuns' Q st:=by
 rw[sortRuns'_eq];refine El (wpS_get ?_);dsimp only;have aA:minRun' CD.size CD.size 0=CD.size:=by
  obtain⟨f,hf⟩:∃f,CD.size=f+1:=⟨CD.size-1,δ⟩;have:minRun' (f+1) CD.size 0=CD.size:=by rw[minRun'_succ,if_pos P_,Nat.add_zero]
  rwa [<-hf]at this
 erw[b.Ll,aA]
 refine El (wpS_mono (Sg (I:=λx c t=>(x=0/\c=(none,0)/\Fx kd CD t)\/(1<=x/\c=(none,CD.size)/\(Bm t).Perm CD/\Sp t=none/\O2 t= #[(0,CD.size,0)]/\GH κ (Bm t) CD.size))
  (Q:=λc t=>c=(none,CD.size)/\(Bm t).Perm CD/\Sp t=none/\O2 t= #[(0,CD.size,0)]/\GH κ (Bm t) CD.size) ?_ ?_ (.inl ⟨rfl,rfl,b⟩)) ?_)
 .have last:∀t,Fx kd CD t->GH κ (Bm t) CD.size->(Bm (setPending t ((O2 t).push (0,CD.size,0)))).Perm CD/\Sp (setPending t ((O2 t).push (0,CD.size,0)))=none/\O2 (setPending t ((O2 t).push (0,CD.size,0)))= #[(0,CD.size,0)]/\GH κ (Bm (setPending t ((O2 t).push (0,CD.size,0)))) CD.size:=
    λt b g=>⟨b.p,b.f,by show(O2 t).push _=_;rw[b.n];rfl,g⟩
  rintro x c t _ E3 (⟨rfl,rfl,b⟩|⟨E2,rfl,g⟩)
  .dsimp only;rw[if_neg δ];erw[Nat.sub_zero,Nat.min_self,YN];refine El (adx C (CS _) δ b λm t b Fk g=>?_);dsimp only;by_cases z:m<CD.size
   .rw[if_pos z];refine El (wpS_lift (JI ⟨rfl,El (sk C (CS _) Fk b g λu b g=>?_)⟩));erw[PC,HJ,if_false];refine El (wpS_get ?_);rw[b.n];exact El (wpS_modify (Gc (.inr ⟨δ,rfl,last u b g⟩)))
   .rw[if_neg z];have e:m=CD.size:=δ
    subst e;refine El (wpS_get ?_);rw[b.n];exact El (wpS_modify (Gc (.inr ⟨δ,rfl,last t b g⟩)))
  .dsimp only;rw[if_pos (CS _)];exact Gc ⟨rfl,g⟩
 .rintro c t (⟨z,_,_⟩|⟨_,e,g⟩)
  .lia
  .exact⟨e,g⟩
 .rintro c t ⟨rfl,g1,g2,g3,g4⟩;dsimp only;refine El (wpS_mono (Sg (I:=λ_ c u=>u=t/\c=(none,())) (Q:=λc u=>u=t/\c=(none,())) ?_ (λ_ _ z=>z) ⟨rfl,rfl⟩) ?_)
  .rintro x c u _ _ ⟨rfl,rfl⟩;refine El (wpS_get ?_);rw[if_pos (by rw[g3];exact CS 1)];exact Gc ⟨rfl,rfl⟩
  .rintro c u ⟨rfl,rfl⟩;exact Gc (h _ g1 g2 g4)
end
noncomputable def ltI:List Int->List Int->Bool
 |[],[]=>false
 |[],_::_=>true
 |_::_,[]=>false
 |a::x,b::y=>if a=b then ltI x y else decide (a<b)
theorem cm:∀a,ltI a a=false
 |[]=>rfl
 |_::x=>by simp[ltI,cm x]
theorem aa:∀a b c,ltI a b=true->ltI b c=true->ltI a c=true
 |[],[],_,h,_=>by cases h
 |[],_::_,[],_,h=>by cases h
 |[],_::_,_::_,_,_=>rfl
 |_::_,[],_,h,_=>by cases h
 |_::_,_::_,[],_,h=>by cases h
 |a::x,b::y,c::z,A5,A8=>by
  erw[ltI]at A5 A8 |-;by_cases A7:a=b
  .subst A7;rw[if_pos rfl]at A5;by_cases AH:a=c
   .subst AH;rw[if_pos rfl]at A8 |-;exact aa x y z A5 A8
   .rw[if_neg AH]at A8 |-;exact A8
  .rw[if_neg A7]at A5;have A5:=of_decide_eq_true A5;by_cases AH:b=c
   .subst AH;rw[if_neg A7];exact decide_eq_true A5
   .rw[if_neg AH]at A8;have A8:=of_decide_eq_true A8;rw[if_neg δ];exact decide_eq_true δ
theorem a_:∀a b,ltI a b=false->ltI b a=false->a=b
 |[],[],_,_=>rfl
 |[],_::_,h,_=>by cases h
 |_::_,[],_,h=>by cases h
 |a::x,b::y,A5,A8=>by
  erw[ltI]at A5 A8;by_cases e:a=b
  .subst e;rw[if_pos rfl]at A5 A8;rw[a_ x y A5 A8]
  .rw[if_neg e]at A5;rw[if_neg (λz=>e z.symm)]at A8;have A5:=of_decide_eq_false A5;have A8:=of_decide_eq_false A8;exact absurd δ e
def n4(a b c:List Int)(h:ltI a c=true):ltI a b=true\/ltI b c=true:=by
 cases A7:ltI a b with
 |true=>exact .inl rfl
 |false=>
  cases AH:ltI b c with
  |true=>exact .inr rfl
  |false=>
   exfalso;cases B1:ltI b a with
   |true=>rw[aa b a c B1 h]at AH;cases AH
   |false=>rw[a_ a b A7 B1,AH]at h;cases h
section
variable{prog:Ba}{w:BL}{A:Bt}{E:ξ}{s:AM}
def nu{a b:Int}{t u:Tok}{Q:ξ}(h:Q (.bool (decide (a<b))) s):AW ψ A (richCompare .Lt (.int a t) (.int b u)) Q E s:=
 wpAny_richCompare_same (op:=.Lt) (Uu s a t) (Uu s b u) slot_int_lt (call_int_lt ⟨(λe=>nomatch e),h⟩)
structure hh(prog:Ba)(w:BL)(h:B2)(v:A4)(k:Int×Int×Int):Prop where
 ex:∃a o m b t,v=.ref a/\h.get? a=some o/\o.cls=.type "tuple"/\o.data=.seq #[.int k.1 t,.ref b] m/\Ut (MA prog w) h [k.2.1,k.2.2] b
noncomputable def Gi(k:Int×Int×Int):List Int:=[k.1,k.2.1,k.2.2]
theorem hh.inj{h:B2}{v:A4}{k k':Int×Int×Int}(x:hh prog w h v k)(y:hh prog w h v k'):k=k':=by obtain⟨a,o,m,b,t,rfl,AN,AO,hd,J⟩:=x.ex;obtain⟨Ix,Bo,Ds,G8,t',e,Dr,TC,F8,L3⟩:=y.ex;cases e;rw[AN]at Dr;cases Dr;rw[hd]at F8;simp at F8;obtain⟨⟨⟨A7,_⟩,rfl⟩,_⟩:=F8;have AH:=J.inj L3;simp at AH;obtain⟨k1,k2,k3⟩:=k;obtain⟨aQ,dB,Pl⟩:=k';simp at A7 AH |-;exact⟨A7,AH⟩
def dF(b:Bool)(x y:A4):keyLt' (PL b) x y=(do
  let xs <-rr x;let ys <-rr y
  for ((p,q),i) in(xs.toList.zip ys.toList).zipIdx do
   if !(<-eqBool p q)then return <-oneLt' (b&&i==0) p q
  return xs.size<ys.size):=rfl
def mK{x y:A4}{Q:Bool->ο}(h:AW ψ A (richCompare .Lt x y) (λv s'=>∃c,v=.bool c/\Q c s') E s):AW ψ A (oneLt' false x y) Q E s:=by rw[oneLt'_eq];erw[HJ,if_false];refine AF (Ha h (λv s'⟨c,e,q⟩=>?_) λ_ _ e=>e);subst e;exact KY q
def Zo:KeyOrd:=⟨List Int,ltI,cm,aa,n4,a_⟩
theorem cu{β:Type}{f:A4->Sem β}{g:A4->β}:∀{vs:List A4}{Q:List β->ο},(∀v∈vs,∀(R:β->ο),R (g v) s->AW ψ A (f v) R E s)->Q (vs.map g) s->AW ψ A (vs.mapM f) Q E s
 |[],Q,_,h=>by rw[List.mapM_nil];exact Ag h
 |v::vs,Q,hf,h=>by rw[List.mapM_cons];refine AF (hf v γ _ (AF (cu (λu BD=>hf u (by simp[BD])) (Ag h))))
def aaS{vs:List A4}{g:A4->A4}{T:String}{Q:Il->ο}(AQ:vs≠[])(A5:∀v∈vs,∃a o m r,v=.ref a/\s.heap.get? a=some o/\o.cls=.type "tuple"/\o.data=.seq (g v::r).toArray m)(A8:∀v∈vs,s.TypeIs (g v) T)(h:Q (PL (JJ T !=.type "tuple")) s) :
  AW ψ A (Qr vs.toArray) Q E s:=by
 rw[keyKind'_eq,Xu];rw[map_eq_pure_bind];refine AF (AF (cu (g:=λv=>some (g v)) (λv BE R hR=>?_) (Ag ?_)))
 .obtain⟨a,o,m,r,rfl,AN,AO,hd⟩:=A5 v BE;show AW _ _ (typeOf (.ref a)>>=_) R E s;refine AF (Sh ⟨o,AN,AO⟩ ?_);rw[if_neg γ];refine AF (PG AN hd (Ag ?_));simpa using hR
 .rw[if_pos γ];refine AF (JI ?_);have e:Array.filterMap id (vs.map λv=>some (g v)).toArray=(vs.map g).toArray:=γ
  rw[e,oneTypeOnly'_eq,Xu,map_eq_pure_bind];refine AF (AF (AF (cu (g:=λ_=>.type T) (λv BE R hR=>?_) (Ag ?_))))
  .obtain⟨u,BD,rfl⟩:=List.mem_map.mp BE;exact Sh (A8 u BD) hR
  .obtain⟨v,r,rfl⟩:=rg AQ;have D7:(Uw (λ_=>JJ T) (Uw g (v::r))).toArray[0]?=some (.type T):=γ
   rw[D7];dsimp only;rw[if_pos γ];exact Ag (Ag h)
end
section
variable{prog:Ba}{w:BL}{A:Bt}{E:ξ}{s:AM}
def eO{a:A6}{vs:List A4}{n:Nat}{κ:KeyKind}{kd:Il}{P:Fin->ο}(AN:s.heap.get? a=some (Ew "list" vs.toArray n))(P_:vs.length<64)(AG:∀h':B2,(∀b o,b≠a->dl->h'.get? b=some o)->vs≠[]->(∀R:Il->ο,R kd i8->AW ψ A (Qr vs.toArray) R E i8)/\LX prog w A i8 kd κ (pairsOf vs))(h:∀t:G4,(Bm t).Perm (pairsOf vs)->GH κ (Bm t) (pairsOf vs).size->P (.done (.ret .none)) { s with heap:=sortedHeap s.heap a vs ((Bm t).map (·.2)) }) :
  AW ψ A (Gq.«list.sort» ⟨[.ref a],[]⟩) P E s:=by
 rw[list_sort_plain];have AB:a<s.heap.objs.size:=Cr AN;obtain⟨A7,g1⟩:∃A7,(s.heap.update a (Go λ_=> #[])).get? a=some (Ew "list" #[] A7):=⟨_,get?_update_seq AN (λ_=> #[])⟩;refine AF (PG AN rfl (AF (listUpdate_at AN rfl (AF (seqEpoch_at g1 rfl (AF (gf (AF (Y6 (Hb ?_))))))))));have keep:∀b o,b≠a->dl->(((s.heap.update a (Go λ_=> #[])).push (Ew "tuple" vs.toArray 0)).push (Ew "list" #[] 0)).get? b=some o:=λb o nb e=>
  Cp _ (Cp _ (by rw[Heap.get?_update_ne _ _ _ _ nb];exact e))
 have Lg:(((s.heap.update a (Go λ_=> #[])).push (Ew "tuple" vs.toArray 0)).push (Ew "list" #[] 0)).get? a=some (Ew "list" #[] A7):=Cp _ (Cp _ g1);show AW ψ A _ P E { s with heap:=((s.heap.update a (Go λ_=> #[])).push (Ew "tuple" vs.toArray 0)).push (Ew "list" #[] 0) };dsimp only;by_cases z:vs.toArray.size<2
 .rw[if_pos z,if_pos z];refine AF (Ag ?_);rw[StateT.run_pure];refine AF (Ag (AF (seqEpoch_at Lg rfl (AF (listUpdate_at Lg rfl ?_ (hsz2:=by rw[Array.size_map];show(pairsOf vs).size<=_;rw[Ur,Ii];lia))))));erw[bne_self_eq_false,HJ,if_false];refine Ag (h (SortSt.mk' general' (vs.toArray.zip vs.toArray) #[] 7 none) (sY _) λi j c d=>?_);have z:vs.length<2:=by simpa using z
  have:i=j:=by rw[Ur]at d;lia
  subst this;exact Qc _
 .rw[if_neg z,if_neg z];have z:¬vs.length<2:=by simpa using z
  obtain⟨k1,k2⟩:=AG _ keep (by intro e;subst e;simp at z)
  refine AF (k1 _ (AF (Ha (ady (κ:=κ) k2 (st:=SortSt.mk' kd (vs.toArray.zip vs.toArray) #[] 7 none) (Q:=λ_ t=>(Bm t).Perm (pairsOf vs)/\Sp t=none/\GH κ (Bm t) (pairsOf vs).size)
   ⟨rfl,sY _,rfl,rfl⟩ (by rw[Ur];lia) (by rw[Ur];exact P_) λt a1 a2 G7=>⟨a1,a2,G7⟩) ?_ λ_ _ e=>e)))
  rintro⟨⟨⟩,t⟩ s' ⟨rfl,AX,hf,AK⟩;dsimp only;refine AF (seqEpoch_at Lg rfl (AF (listUpdate_at Lg rfl ?_ (hsz2:=by refine Fp (gS ((Array.size_map ..).trans (AX.size_eq.trans (Ur _)))) ?_;rw[Ii];lia))));rw[hf];erw[bne_self_eq_false,HJ,if_false];exact Ag (h t AX AK)
def aeb{l:A6}{vs:List A4}{κ:KeyKind}{kd:Il}{Q:ξ}(AP:s.heap.IsList l vs.toArray)(P_:vs.length<64)(AG:∀(h':B2)(KS:Bt)(O6:ξ),KS.units<=A.units+8->(∀b o,dl->h'.get? b=some o)->vs≠[]->(∀R:Il->ο,R kd i8->AW ψ KS (Qr vs.toArray) R O6 i8)/\LX prog w KS i8 kd κ (pairsOf vs))(h:∀t:G4,(Bm t).Perm (pairsOf vs)->GH κ (Bm t) (pairsOf vs).size->Q (.ref (s.heap.objs.size+1)) { s with heap:=sortedAll s.heap vs ((Bm t).map (·.2)) }) :
  AW ψ A (call (.builtin "sorted") [.ref l]) Q E s:=by
 refine fp kind_sorted plain_sorted entry_sorted (args_sorted1 _) ?_;unfold Gq.«sorted»;refine AF (m:=checkCount "sorted" 1 1 _) (Ag (AF (collect_list AP (AF (Y6 ?_)))));have Ao:((s.heap.push (Ew "list" #[] 0)).update s.heap.objs.size (Go (· ++vs.toArray))).objs.size=s.heap.objs.size+1:=by rw[Heap.size_update,size_push']
 have g:(((s.heap.push (Ew "list" #[] 0)).update s.heap.objs.size (Go (· ++vs.toArray))).push (Ew "list" vs.toArray 0)).get? (s.heap.objs.size+1)=some (Ew "list" vs.toArray 0):=by rw[<-Ao];exact EB _ rfl
 have keep:∀b o,dl->(((s.heap.push (Ew "list" #[] 0)).update s.heap.objs.size (Go (· ++vs.toArray))).push (Ew "list" vs.toArray 0)).get? b=some o:=λb o e=>
  Cp _ (by rw[Heap.get?_update_ne _ _ _ _ (Eb (Cr e))];exact Cp _ e)
 show AW _ _ _ _ _ { s with heap:=((s.heap.push (Ew "list" #[] 0)).update s.heap.objs.size (Go (· ++vs.toArray))).push (Ew "list" vs.toArray 0) };rw[Ao];refine AF (Hb (Gn gg ⟨_,g,rfl⟩ gY (eO g P_ (λh' k ne=>AG h' _ _ (by erw[gI];lia) (λb o e=>k b o (λz=>absurd (z▸Cr e) (by have:=Cr e;exact λq=>absurd q (Nat.not_lt.mpr (M3 _)))) (keep b o e)) ne) λt a1 a2=>⟨_,rfl,?_⟩) (gh _)))
 exact Ag ⟨_,rfl,h t a1 a2⟩
end
def M_(a b:Int×Int×Int):Bool:=!ltI (Gi b) (Gi a)
def E4(ks:List (Int×Int×Int)):List (Int×Int×Int):=ks.mergeSort M_
def Jp(ks:List (Int×Int×Int)):(E4 ks).Perm ks:=SR _ _
def wE{a b:Int×Int×Int}(h:Gi a=Gi b):a=b:=by obtain⟨a1,a2,G7⟩:=a;obtain⟨FV,Ez,Op⟩:=b;erw[Gi,Qg,and_true]at h;erw[gU];exact h
def lG(a b c:Int×Int×Int)(A5:M_ a b=true)(A8:M_ b c=true):M_ a c=true:=by
 unfold M_ at*;cases e:ltI (Gi c) (Gi a)with
 |false=>rfl
 |true=>
  rcases n4 _ (Gi b) _ e with z|z
  .rw[z]at A8;cases A8
  .rw[z]at A5;cases A5
def lF(a b:Int×Int×Int):(M_ a b||M_ b a)=true:=by
 unfold M_;cases e:ltI (Gi b) (Gi a)with
 |false=>rfl
 |true=>
  cases AH:ltI (Gi a) (Gi b)with
  |false=>rfl
  |true=>have:=aa _ _ _ e AH;rw[cm]at this;cases this
def fQ{ks l:List (Int×Int×Int)}(p:l.Perm ks)(h:l.Pairwise λa b=>M_ a b=true):l=E4 ks:=
 sG (le:=λa b=>M_ a b=true) (λa b _ _ A5 A8=>by unfold M_ at A5 A8;exact wE (a_ _ _ (A8:) (A5:))) h (Xa lG lF ks) (p.trans (Jp ks).symm)
def oH{κ:Type}(d:κ){R:A4->κ->Prop}{us:List A4}(h:∀v∈us,∃k,R v k):∃KC:A4->κ,∀v∈us,R v (KC v):=by
 classical
 exact⟨λv=>if q:∃k,R v k then sX q else d,λv BE=>by erw[dif_pos (h v BE)];exact g9 (h v BE)⟩
def oJ{κ:Type}(d:κ){R:A4->κ->Prop}{us:List A4}{ks:List κ}(inj:∀v k k',R v k->R v k'->k=k')(AQ:us.length=ks.length)(AG:∀(i:Nat) v k,us[i]?=some v->ks[i]?=some k->R v k):∃KC:A4->κ,(∀v∈us,R v (KC v))/\ks=us.map KC:=by
 obtain⟨KC,I6⟩:=oH d (R:=R) (us:=us) λv BE=>by obtain⟨i,AC,rfl⟩:=Mz BE;exact⟨_,AG i _ _ (DV AC) (DV δ)⟩
 refine⟨KC,I6,SP λi=>?_⟩;rw[Dm];cases e:us[i]? with
 |none=>rw[List.getElem?_eq_none_iff]at e;simp;lia
 |some v=>have AH:ks[i]?=some (ks[i]'(by have:=(List.getElem?_eq_some_iff.mp e).1;lia)):=DV _;rw[AH,inj _ _ _ (AG i v _ e AH) (I6 v (HY e))];rfl
def fR{f:A4->Option (List Int)}{g:A4->List Int}{vs us:List A4}{u:G4}(pu:vs.Perm us)(Aa:∀v∈us,f v=some (g v))(AX:(Bm u).Perm (pairsOf vs))(AK:GH { Zo with keyOf:=f,dflt:=[] } (Bm u) (pairsOf vs).size):∃HG:List A4,(Bm u).map (·.2)=HG.toArray/\HG.Perm us/\HG.Pairwise λa b=>(!ltI (g b) (g a))=true:=by
 have SG:(Bm u).toList.Perm (pairsOf vs).toList:=Array.perm_iff_toList_perm.mp AX;have v_:∀p∈(Bm u).toList,p.1=p.2/\p.1∈us:=λp AX=>by have AX:=SG.mem_iff.mp AX;rw[Uo]at AX;have:=YO AX;exact⟨this.1,pu.mem_iff.mp this.2⟩
 refine⟨(Bm u).toList.map (·.2),by apply YE;simp,?_,?_⟩
 .have:=SG.map (·.2);rw[Uo]at this;have e:∀l:List A4,(l.zip l).map (·.2)=l:=λl=>by induction l with
   |nil=>rfl
   |cons a l BW=>simp[BW]
  rw[e]at this;exact this.trans pu
 .rw[List.pairwise_map,List.pairwise_iff_getElem];intro i j AC Bs Vc;have q:=AK i j (Nx Vc) (by rw[<-AX.size_eq];simpa using Bs);have Bp:∀n(AQ:n<(Bm u).size),KK { Zo with keyOf:=f,dflt:=[] } (Bm u) n=g (Bm u)[n].2:=λn AQ=>by
   have m:=v_ (Bm u)[n] γ;unfold KK;rw[Js AQ];show(f (Bm u)[n].1).getD _=_;rw[Aa _ m.2,m.1];rfl
  rw[Bp i (AC:),Bp j (Bs:)]at q;have q:ltI (g (Bm u)[j].2) (g (Bm u)[i].2)=false:=q;erw[sV];rw[q];rfl
section
variable{prog:Ba}{w:BL}{A:Bt}{E:ξ}{s:AM}
end
end LT
namespace Bv
open PySem PySem.Spec PyProof.Rows
section
variable{X:Ad}
def hi(H:AA)(y:V)(k:Int×Int×Int):Prop:=∃a b,y=.ref a/\H a=some (.tup [.int k.1,.ref b])/\H b=some (.tup [.int k.2.1,.int k.2.2])
def hi.inj{H:AA}{y:V}{k k':Int×Int×Int}(x:hi H y k)(z:hi H y k'):k=k':=by obtain⟨a,b,rfl,AB,J⟩:=x;obtain⟨Ix,G8,e,Oz,L3⟩:=z;cases e;rw[AB]at Oz;erw[sM,Dd.tup.injEq,Qg,V.int.injEq,V.ref.injEq,and_true]at Oz;obtain⟨A7,rfl⟩:=Oz;rw[J]at L3;erw[sM,Dd.tup.injEq,Qg,V.int.injEq,and_true]at L3;obtain⟨k1,k2,k3⟩:=k;obtain⟨aQ,dB,Pl⟩:=k';erw[gU];exact⟨A7,L3⟩
theorem fB{κ:Type}{R:V->κ->Prop}:∀{vs:List A4}{ks:List κ},vs.length=ks.length->(∀(i:Nat) v k,vs[i]?=some v->ks[i]?=some k->∃z,RelV z v/\R z k)->∃zs,Vals zs vs/\zs.length=vs.length/\∀(i:Nat) z k,zs[i]?=some z->ks[i]?=some k->R z k
 |[],_,_,_=>⟨[],.nil,rfl,λi z k e=>by simp at e⟩
 |v::vs,[],h,_=>by simp at h
 |v::vs,k::ks,h,g=>by
  obtain⟨z,Dw,Db⟩:=g 0 v k rfl rfl;obtain⟨zs,Fo,FQ,IP⟩:=fB (vs:=vs) (ks:=ks) (h:) λi v k A7 AH=>g (i+1) v k (A7:) (AH:);refine⟨z::zs,.cons Dw Fo,by simp[FQ],λi Fw k' A7 AH=>?_⟩;cases i with
  |zero=>simp at A7 AH;subst A7 AH;exact Db
  |succ i=>exact IP i Fw k' (A7:) (AH:)
end
end Bv
namespace CR
open PySem PySem.Spec Bv PyProof.Rows
section
variable{X:Ad}{F:B6}{e a b c:AS}{A2:List AS}{pos p:Pos}{m n:A_}{ma:Ap}
noncomputable def aaK:D->Option Key
 |.int i=>some (.inl i)
 |.str x=>some (.inr x)
 |_=>none
def keysOf:χ->Option (List Key)
 |[]=>some []
 |d::ds=>match aaK d,keysOf ds with
  |some k,some ks=>some (k::ks)
  |_,_=>none
def afv:D->Option (List Key)
 |.tup ds=>keysOf ds
 |_=>none
def rV:χ->Option (List (List Key))
 |[]=>some []
 |d::ds=>match afv d,rV ds with
  |some k,some ks=>some (k::ks)
  |_,_=>none
def akz:χ->R D
 |[.lst ds]=>if ds.length<77 then match rV ds with
  |some ks=>.ok (.int (Ex.tl ks).length)
  |none=>.bad
  else .bad
 |_=>.bad
def Wt(i:Nat)(m:A_):HO:=λρ=>(ownAt i ρ).bind λds=>(m ρ).bind λd=>match d with
 |.lst A2=>if ds.length+A2.length<=1000000 then .ok (.non,ρ.set i (.C8 (ds++A2)))else .bad
 |_=>.bad
def alV (i:Nat) {x:Str} {Cd:Pos} {apos:Pos} {Bn:Pos} (he:B3 X F e m) (hN:ς:=by rfl) (BE:Gf X.env.scope x:=by rw?) (hd:ι:=by decide) (D8:μ:=by decide)(L4:Hz (.Name x Cd) "extend" X.env (BH (.Name x Cd) X.env)=BH (.Name x Cd) X.env:=by rfl) (L6:(apos.endLine==Bn.line)=true:=by rfl)(L5:((Cq Bn (B9 [e] X.env)).all (λx=>!x.1)&&(Gr Bn (Gp [] X.env)).all (λx=>x.1.isSome)
    &&decide (([e]:List AS).length+([]:List FS).length+(if([]:List FS).isEmpty then 0 else 1)<30))=true:=by rfl)
  (AK:Fr:=by rfl) (L7:(Cq Bn (B9 [] X.env)).any (·.1)=false:=by rfl) :
  Q4 X F (.Call (.Attribute (.Name x Cd) "extend" apos) [e] [] Bn) (Wt i m):=by
 refine⟨Ay.imp (Tt SO sH rt nK (II hN BE hd D8) (Of he.1 QI AK) L4 L5 L6 AK L7) ?_⟩;rintro σ H Q ⟨G,ρ,r,h⟩;unfold Wt ownAt at h;cases CY:ρ[i]? with
 |none=>rw[CY]at h;cases h
 |some s=>
  rw[CY]at h;cases s with
  |un=>cases h
  |A1 _=>cases h
  |EY _=>cases h
  |Bl _ _=>cases h
  |ob ob=>
   cases ob with
   |B5 _ _=>cases h
   |ins _ _ _=>cases h
   |lst ds=>
    obtain⟨q,xs,A7,A5,A8,Au,BC⟩:=r.own CY;rw[R.EF]at h;refine⟨.ref q,A7,.inl ⟨rfl,xs,C4.of A5⟩,G,ρ,r,?_⟩;refine rb h λd Av h v H1 Ai AL s1 B4=>?_;obtain⟨Dl,Gm,Ee,J2,Ow,PZ,Gy⟩:=AL.own CY;rw[A7]at Ee;cases Ee;cases d with
    |lst A2=>
     simp only at h
     split at h
     .rename_i AP;erw[At]at B4;obtain⟨DU,ys,rfl,g2,BN⟩:=B4;refine⟨q,DU,Gm,ys,rfl,rfl,J2,AL.kp.sub _ _ g2,by rw[<-Gy.length,<-BN.length,Ii];lia,?_⟩;exact h .non _ Ai (AL.mut CY A7 (Gy.append BN)) s1.g ζ
     .exact h.elim
    |_=>cases h
noncomputable def I8(m n:A_):Ap:=λρ=>(m ρ).bind λc=>(n ρ).bind λd=>match c,d with
 |.lst ds,.lst A2=>if ds.length+A2.length<=1000000 then .ok (ds++A2)else .bad
 |_,_=>.bad
def ai0(AB:B3 X F a m)(J:B3 X F b n):JW X F (.BinOp a .Add b pos) (I8 m n):=by
 refine⟨Ay.imp (eA e3 AB.1 J.1) ?_⟩;delta I8 r;refine rb h λc Av h u H1 Ai AL s1 Kl=>?_;refine⟨Ai,ρ,AL,?_⟩;refine rb h λd Bh h v B7 Cw BA s2 B4=>?_
 split at h
 .split at h
  .rename_i AP;erw[At]at Kl B4;obtain⟨Et,xs,rfl,g1,Al⟩:=Kl;obtain⟨DU,ys,rfl,g2,BN⟩:=B4;refine⟨Et,DU,xs,ys,rfl,rfl,s2.h _ _ (AL.kp.sub _ _ g1),BA.kp.sub _ _ g2,by rw[<-Al.length,<-BN.length,Ii];lia,λOR AQ=>?_⟩;exact h OR (xs++ys) _ Cw (BA.lay0 AQ) ((s1.trans s2).trans (C5.lay0 AQ)) ((s1.trans s2).h.gone AQ) Do (BA.kp.sub.gone AQ) ((Al.mono s2.g).append BN)
  .exact h.elim
 .exact h.elim
noncomputable def Qs(k:Int×Int×Int):D:=.tup [.int k.1,.tup [.int k.2.1,.int k.2.2]]
theorem hC{K:AZ}{G:AA}:∀{ds:χ}{xs:List V},xs.length=ds.length->(∀(i:Nat) x d,xs[i]?=some x->ds[i]?=some d->At K G d x)->AY K G ds xs
 |[],[],_,_=>.nil
 |[],_::_,h,_=>by simp at h
 |_::_,[],h,_=>by simp at h
 |d::ds,x::xs,h,g=>.cons (g 0 x d rfl rfl) (hC (h:) λi x d A7 AH=>g (i+1) x d (A7:) (AH:))
end
section
variable{X:Ad}{F:B6}{e a b c:AS}{A2:List AS}{pos p:Pos}{m n:A_}{ma:Ap}
theorem AY.qV{K:AZ}{G:AA}:∀{ds:χ}{xs:List V}{j:Nat}{d:D}{v:V},AY K G ds xs->At K G d v->AY K G (ds.set j d) (xs.set j v)
 |[],_,_,_,_,h,_=>by erw[AY]at h;subst h;simp[AY]
 |_::_,_,0,_,_,h,a=>by erw[AY]at h;obtain⟨v,r,rfl,q,t⟩:=h;exact .cons a t
 |_::_,_,j+1,_,_,h,a=>by erw[AY]at h;obtain⟨v,r,rfl,q,t⟩:=h;exact .cons q (AY.qV t a)
noncomputable def putN(i:Nat)(ρ:AI)(ds:χ)(v:D):Option Nat->R Fy
 |some j=>.ok (.BG (ρ.set i (.C8 (ds.set j v))))
 |none=>.bad
def putK(i:Nat)(ρ:AI)(ds:χ)(v:D):D->R Fy
 |.int j=>putN i ρ ds v (KA ds.length j)
 |_=>.bad
def ak(i:Nat)(mk mv:A_):As:=λρ=>(mv ρ).bind λv=>(ownAt i ρ).bind λds=>(mk ρ).bind λk=>putK i ρ ds v k
def ajI (i:Nat) {x:Str} {Cd pos':Pos} {k v:AS} {mk mv:A_} (AG:B3 X F k mk) (BE:B3 X F v mv) (hN:ς:=by rfl) (SA:Gf X.env.scope x:=by rw?) (hd:ι:=by decide) (D8:μ:=by decide)(AK:swapsWithSole [.Subscript (.Name x Cd) k pos'] v pos.line X.env=pure false:=by rfl) (hw:swappedStores [.Subscript (.Name x Cd) k pos'] v X.env=pure none:=by rfl)(A5:(LL [.Subscript (.Name x Cd) k pos'] X.env).map (·.2)=[Ka (.Subscript (.Name x Cd) k pos') X.env]:=by rfl)(AB:∀u,Ka (.Subscript (.Name x Cd) k pos') X.env u=(do
    let D1 <-JK [u] (BH (.Name x Cd) X.env)
    let Fs <-JK [u,D1] (BH k X.env)
    N2 pos'
    JK [u,D1,Fs] (setItem D1 Fs u)
    release [u,D1,Fs] []):=by intro _;rfl) :
  EP X F (.Assign [.Subscript (.Name x Cd) k pos'] v pos) (ak i mk mv):=by
 refine⟨Cz.imp (oP BE.1 (adU (II hN SA hd D8) AG.1 set_list AB) AK hw A5) ?_⟩;delta ak;refine⟨G,ρ,r,?_⟩;refine rb h λd ev h u H1 Ai AL s1 Kl=>?_;cases CY:ownAt i ρ with
 |bad=>rw[CY]at h;cases h
 |exc c=>exact(abd CY).elim
 |ok ds=>
  rw[CY,R.EF]at h;have D7:=abe CY;obtain⟨q,xs,A7,A5,A8,Au,BC⟩:=AL.own D7;refine⟨.ref q,A7,Ai,ρ,AL,?_⟩;refine rb h λkd Co h w B7 Cw BA s2 Oo=>?_;obtain⟨Dl,Gm,Ee,J2,Ow,PZ,Gy⟩:=BA.own D7;rw[A7]at Ee;cases Ee;cases kd with
  |int j=>
   erw[putK]at h;erw[At]at Oo;cases Ca:KA ds.length j with
   |none=>rw[Ca]at h;cases h
   |some n=>rw[Ca]at h;erw[putN]at h;refine⟨q,Gm,j,n,rfl,Oo,J2,by rw[<-Gy.length];exact Ca,?_⟩;exact h _ Cw _ (BA.mut D7 A7 (Gy.qV (Kl.mono s2.g))) (s1.trans s2).g
  |_=>cases h
end
section
variable{P:Ba}{w:BL}{K:AZ}{mg:Str->Option A4}{base:B2}{N:List Str}{qual:Str}{scope:Dn}{f:A6}{cd:A4}{A:Bt}{outer:List Env}{s0:AM}{IC:AA}{E:D0}{G0 H0:AA}
end
section
variable{X:Ad}{F:B6}{e:AS}{A2:List AS}{pos p:Pos}{ma:Ap}
end
section
variable{X:Ad}{F:B6}{e:AS}{pos p:Pos}{m n:A_}{ma:Ap}
end
end CR
namespace Bv
open PySem PySem.Spec PyProof.Rows
section
variable{X:Ad}{i j:Nat}{x n y:Str}{W:A6}{e:AS}{Dv:TE}{E:D0}{uT:BZ}{agO:List BZ}{Az:F4}{ad7 np AX pos py:Pos}
end
end Bv
namespace CR
open PySem PySem.Spec Bv PyProof.Rows
section
variable{X:Ad}{F:B6}{pos:Pos}
end
section
variable{X:Ad}{F:B6}{a b:AS}{pos p:Pos}{m n:A_}{ma:Ap}
end
end CR
namespace Bv
open PySem PySem.Spec PyProof.Rows
section
variable{prog:Ba}{w:BL}{A:Bt}{E:ξ}{s:AM}
end
section
variable{X:Ad}{pos:Pos}
end
end Bv
namespace CR
open PySem PySem.Spec Bv PyProof.Rows
section
variable{X:Ad}{F:B6}{e:AS}{A2:List AS}{pos p:Pos}{m n:A_}{ma:Ap}
noncomputable def SB:χ->Option (List Int)
 |[]=>some []
 |.int i::ds=>(SB ds).map (i::·)
 |_=>none
theorem m8{K:AZ}{G:AA}:∀{ds:χ}{xs:List V}{is:List Int},AY K G ds xs->SB ds=some is->xs=is.map V.int
 |[],xs,is,a,e=>by erw[AY]at a;cases e;subst a;rfl
 |d::ds,xs,is,a,e=>by
  erw[AY]at a;obtain⟨v,r,rfl,a1,a2⟩:=a;cases d with
  |int i=>
   erw[At]at a1;subst a1;erw[SB]at e;cases A7:SB ds with
   |none=>rw[A7]at e;cases e
   |some cs=>rw[A7]at e;have Bh:i::cs=is:=E_ e;subst Bh;rw[m8 a2 A7];rfl
  |_=>cases e
def xm{Af mt:Str}{BP:χ->R C2}{C:A6}{E:D0}(AJ:F.EX=λ_ _=>False)(GT:FT F.K Af C):EO (Cg F (HT Af mt 0 BP m AE)) (X2 C mt (OF F.K (0+1) BP) [] E (Cg F m) b0):=by
 delta HT r;refine rb h λd Av h x H1 Ai AL s1 Bu=>?_;cases d with
 |ins Eo ns ds=>
  erw[ME]at h
  split at h
  .rename_i AO;obtain⟨JY,GA⟩:=AO;subst JY;have hD:=Bu;erw[At]at Bu;obtain⟨q,Aj,xs,rfl,⟨IQ,B_,g1⟩,rfl,al⟩:=Bu;have:=B_.inj GT;subst this;refine⟨q,Aj,xs,rfl,AL.kp.sub _ _ g1,aZ GA,?_⟩;rw[R.EF]at h;have h:Ie F G H σ ρ Q ((BP [.ins Eo (xs.map (·.1)) ds]).bind Ks):=h;show OF F.K (0+1) BP ([V.ref q]++[]) H1 Q E;rw[Ly];exact px (xe:=λ_ _ _=>False) AJ AL (.cons hD .nil) γ (h.mono s1)
  .exact h.elim
 |_=>cases h
def aiE {o:AS} {Af mt:Str} {k:Nat} {BP:χ->R C2} {pl:Sem Bool} {apos:Pos} (c:Mq X.prog X.w X.K X.mg X.base Af mt 0 k BP) (B8:CM k X.A) (he:B3 X F o m) (J3:F.EX=λ_ _=>False:=by rfl) (Ar:F.K=X.K:=by rfl)(Ax:BH (.Call (.Attribute o mt apos) [] [] pos) X.env=(do
    let D1 <-BH o X.env
    N2 apos.atName
    let(f,first) <-JK [D1] (PH D1 mt pl)
    Qq pos f first (Cq pos (B9 [] X.env)) (Gr pos (Gp [] X.env))):=by rfl) :
  B3 X F (.Call (.Attribute o mt apos) [] [] pos) (HT Af mt 0 BP m AE):=by
 obtain⟨C,f,fd,Am,B_,EQ,Hk,Gw,J⟩:=c.ex;refine⟨Ay.imp (adL (pl:=pl) he.1 EQ Hk Gw B8 J .nil Rn Ax) ?_⟩;rw[<-Ar];exact xm J3 (by rw[Ar];exact B_)
end
end CR
namespace Bv
open PySem PySem.Spec PyProof.Rows
section
variable{X:Ad}{elts:List AS}{Bp:Nat}{QD:Pos}
end
end Bv
namespace CR
open PySem PySem.Spec Bv PyProof.Rows
section
variable{X:Ad}{F:B6}{a b:AS}{pos p:Pos}{ma:Ap}
end
end CR
namespace CR
open PySem PySem.Spec Bv
mutual
noncomputable def Mi:D->Bool
 |.lst _=>false
 |.CO _=>false
 |.tup ds=>Kp ds
 |.ins _ _ ds=>Kp ds
 |.De _ ds=>Kp ds
 |.B5 _ ds=>Kp ds
 |.EI ds=>Kp ds
 |_=>true
noncomputable def Kp:χ->Bool
 |[]=>true
 |d::ds=>Mi d&&Kp ds
end
def Wf:Dd->Bool
 |.lst _=>true
 |_=>false
section
variable{K:AZ}{G G':AA}
def Fc.ej(h:∀b o,G b=some o->Wf o=false->G' b=some o){a:A6}{u:Dd}(BD:Wf u=false)(r:Fc G a u):Fc G' a u:=by
 rcases r with r|⟨o,r⟩
 .exact .inl (h _ _ r BD)
 .exact .inr ⟨o,h _ _ r rfl⟩
mutual
theorem At.ej(h:∀b o,G b=some o->Wf o=false->G' b=some o):∀{d:D}{v:V},Mi d=true->At K G d v->At K G' d v
 |.non,_,_,q=>by simpa only[At]using q
 |.AV _,_,_,q=>by simpa only[At]using q
 |.int _,_,_,q=>by simpa only[At]using q
 |.str _,_,_,q=>by simpa only[At]using q
 |.tup _,_,n,q=>by erw[At,Mi]at q n |-;obtain⟨a,xs,e,g,r⟩:=q;exact⟨a,xs,e,h _ _ g rfl,AY.Rm h n r⟩
 |.lst _,_,n,_=>by erw[Mi]at n;cases n
 |.CO _,_,n,_=>by erw[Mi]at n;cases n
 |.EI _,_,n,q=>by
  erw[At,Mi]at q n |-;obtain⟨a,xs,e,g,r⟩:=q;refine⟨a,xs,e,?_,AY.Rm h n r⟩;rcases g with g|g
  .exact .inl (Fc.ej h rfl g)
  .exact .inr g
 |.De _ _,_,n,q=>by erw[At,Mi]at q n |-;obtain⟨a,xs,e,g,k,r⟩:=q;exact⟨a,xs,e,h _ _ g rfl,k,AY.Rm h n r⟩
 |.B5 _ _,_,n,q=>by erw[At,Mi]at q n |-;obtain⟨a,xs,e,g,k,r⟩:=q;exact⟨a,xs,e,h _ _ g rfl,k,AY.Rm h n r⟩
 |.ins _ _ _,_,n,q=>by erw[At,Mi]at q n |-;obtain⟨a,Aj,xs,e,⟨C,B_,g⟩,k,r⟩:=q;exact⟨a,Aj,xs,e,⟨C,B_,h _ _ g rfl⟩,k,AY.Rm h n r⟩
 |.PX _,_,n,q=>by erw[At]at q |-;obtain⟨a,xs,e,⟨C,B_,g⟩,r⟩:=q;exact⟨a,xs,e,⟨C,B_,h _ _ g rfl⟩,r⟩
theorem AY.Rm(h:∀b o,G b=some o->Wf o=false->G' b=some o):∀{ds:χ}{vs:List V},Kp ds=true->AY K G ds vs->AY K G' ds vs
 |[],_,_,q=>by simpa only[AY]using q
 |_::_,_,n,q=>by erw[AY,Kp,FR]at q n |-;obtain⟨v,r,e,a,t⟩:=q;exact⟨v,r,e,At.ej h n.1 a,AY.Rm h n.2 t⟩
end
end
mutual
noncomputable def Q8:T->Bool
 |.A1 _=>true
 |.lst Az=>Yk Az
 |_=>false
noncomputable def Yk:List T->Bool
 |[]=>true
 |t::Az=>Q8 t&&Yk Az
end
mutual
theorem i0{K:AZ}{G H:AA}:∀{t:T}{v:V},Q8 t=true->C_ K G H t v->∀b∈Ah H t v,∃xs,H b=some (.lst xs)
 |.A1 _,_,_,_,b,J=>by erw[Ah]at J;cases J
 |.lst _,_,n,h,b,J=>by
  erw[C_,Q8]at h n;obtain⟨a,xs,rfl,q,r⟩:=h;rw[Rz q]at J;rcases List.mem_cons.mp J with rfl|J
  .exact⟨xs,q⟩
  .exact jA n r b J
 |.De _ _,_,n,_,_,_=>by erw[Q8]at n;cases n
 |.B5 _ _,_,n,_,_,_=>by erw[Q8]at n;cases n
 |.ins _ _ _,_,n,_,_,_=>by erw[Q8]at n;cases n
theorem jA{K:AZ}{G H:AA}:∀{Az:List T}{vs:List V},Yk Az=true->Bx K G H Az vs->∀b∈Dz H Az vs,∃xs,H b=some (.lst xs)
 |[],_,_,_,b,J=>by rw[T9]at J;cases J
 |_::_,_,n,h,b,J=>by
  erw[Bx,Yk,FR]at h n;obtain⟨v,r,rfl,q,t⟩:=h;rw[Hm]at J;rcases List.mem_append.mp J with J|J
  .exact i0 n.1 q b J
  .exact jA n.2 t b J
end
def OE:Bw->Bool
 |.ob (.lst _)=>true
 |.ob _=>false
 |.EY t=>Q8 t
 |.Bl _ t=>Q8 t
 |_=>true
def W0(ρ:AI):Bool:=ρ.all OE
section
variable{F:B6}
end
section
variable{X:Ad}{F:B6}{e:AS}
end
section
variable{K:AZ}{G0 H0:AA}{E:D0}
end
section
variable{X:Ad}{e:AS}{K:AZ}{G0 H0:AA}{E:D0}{m:A_}
end
section
variable{F:B6}
end
section
variable{X:Ad}{F:B6}{e o:AS}{A2:List AS}{pos:Pos}{ma:Ap}{m n:A_}
end
def N8:List T->Option χ
 |[]=>some []
 |.A1 d::Az=>(N8 Az).map (d::·)
 |_=>none
theorem rY:∀{Az:List T}{ds:χ},N8 Az=some ds->Az=ds.map .A1
 |[],ds,h=>by erw[N8]at h;cases h;rfl
 |t::Az,ds,h=>by
  cases t with
  |A1 d=>erw[N8]at h;obtain⟨r,e,rfl⟩:=Option.map_eq_some_iff.mp h;rw[rY e];rfl
  |_=>simp[N8]at h
theorem XB:∀ds:χ,N8 (ds.map .A1)=some ds
 |[]=>rfl
 |d::ds=>by erw[Dc,N8,XB ds];rfl
section
variable{K:AZ}{G H:AA}
theorem rO:∀{ds:χ}{xs:List V},AY K G ds xs->Bx K G H (ds.map .A1) xs
 |[],xs,h=>by erw[AY]at h;subst h;exact Bx.nil
 |d::ds,xs,h=>by erw[AY]at h;obtain⟨v,r,rfl,a,t⟩:=h;exact Bx.cons (by erw[C_];exact a) (rO t)
theorem rP:∀{ds:χ}{xs:List V},Bx K G H (ds.map .A1) xs->AY K G ds xs
 |[],xs,h=>by erw[PE,Bx]at h;subst h;exact AY.nil
 |d::ds,xs,h=>by erw[Dc,Bx]at h;obtain⟨v,r,rfl,a,t⟩:=h;erw[C_]at a;exact AY.cons a (rP t)
theorem bf:∀(ds:χ)(xs:List V),Dz H (ds.map .A1) xs=[]
 |[],xs=>T9
 |d::ds,[]=>by erw[Dc,Dz]
 |d::ds,x::xs=>by rw[Dc,Hm,bf ds xs];erw[Ah,Xp]
end
section
variable{F:B6}{G H:AA}{σ :Bv.St}{ρ:AI}
end
section
variable{X:Ad}{F:B6}{e:AS}{pos:Pos}{m:A_}{Es:HO}
def PM(m:A_):As:=λρ=>(m ρ).bind λd=>.ok (.rs d ρ)
def ajL(h:B3 X F e m):EP X F (.Return (some e) pos) (PM m):=⟨Cz.imp (W5 h.1) λCP σ H⟨G,ρ,r,k⟩=>by
 unfold PM at k;refine⟨G,ρ,r,?_⟩;cases Av:m ρ with
 |bad=>rw[Av]at k;cases k
 |exc c=>rw[Av]at k;exact k
 |ok d=>rw[Av,R.EF]at k;exact λv H' G' BB u a=>k v σ G' H' BB a⟩
end
section
variable{F:B6}{G H:AA}{σ :Bv.St}{ρ:AI}
end
section
variable{X:Ad}{F:B6}{e c:AS}{pos:Pos}{m:A_}
end
section
variable{X:Ad}{F:B6}{e c:AS}{pos:Pos}{m:A_}
end
section
variable{F:B6}
end
section
variable{X:Ad}{F:B6}{k:AS}{pos:Pos}{mk:A_}
end
open Classical in
noncomputable def H9(H:AA)(l:List A6):AA:=λb=>if b∈l then none else H b
def jm{H:AA}{l:List A6}{b:A6}(h:b∈l):H9 H l b=none:=by unfold H9;rw[if_pos h]
def Tp{H:AA}{l:List A6}{b:A6}(h:b∉l):H9 H l b=H b:=by unfold H9;rw[if_neg h]
def jp(H:AA)(l:List A6):Sub (H9 H l) H:=λb o e=>by
 by_cases h:b∈l
 .rw[jm h]at e;cases e
 .rw[Tp h]at e;exact e
def jo{H:AA}{l:List A6}{b:A6}(h:H9 H l b=none):b∈l\/H b=none:=by
 by_cases J:b∈l
 .exact .inl J
 .rw[Tp J]at h;exact .inr h
section
variable{X:Ad}{F:B6}{A2:List AS}{pos:Pos}{ma:Ap}
end
def Pn(m:Ap):Ap:=λρ=>(m (EK ρ)).bind λds=>if Kp ds=true/\W0 ρ=true then .ok ds else .bad
section
variable{F:B6}
def yb{m:Ap}:EO (Ht F (Pn m)) (Ht F m):=by
 rintro σ H Q ⟨G,ρ,r,h⟩;refine⟨I5 σ ρ G H,EK ρ,r.plus,?_⟩;unfold Pn at h;refine rb h λds Av h p xs H' G' BB s' AQ AB Aa q=>?_;by_cases hd:Kp ds=true/\W0 ρ=true
 .rw[if_pos hd]at h;have Pu:∀b,CU H σ ρ b->G b=none:=λb z=>(r.foot z).2.1;have PU:∀b,CU H σ ρ b->F.H0 b=none:=λb z=>(r.foot z).2.2;have e7:∀b,CU H σ ρ b->∃AN,H b=some AN/\Wf AN=true:=λb⟨i,s,o,A7,AH,f⟩=>by
   have AC:=List.all_eq_true.mp hd.2 _ (HY A7);cases s with
   |un=>cases f
   |A1 _=>cases f
   |EY t=>obtain⟨v,rfl,Kz⟩:=f;obtain⟨Bo,B1,Lo,CV,ok⟩:=r.CJ i _ A7;rw[AH]at B1;cases B1;cases CV;obtain⟨xs,e⟩:=i0 AC ok.at_ b Kz;exact⟨_,e,rfl⟩
   |Bl n t=>obtain⟨v,rfl,Kz⟩:=f;obtain⟨Bo,B1,Lo,CV,ok,_⟩:=r.CJ i _ A7;rw[AH]at B1;cases B1;cases CV;obtain⟨xs,e⟩:=i0 AC ok.at_ b Kz;exact⟨_,e,rfl⟩
   |ob ob=>
    have f:o=some (.ref b):=f;obtain⟨c,AN,B1,A5,_,_,BC⟩:=r.obj A7;rw[AH,f]at B1;cases B1;cases ob with
    |lst _=>obtain⟨xs,rfl,_⟩:=BC;exact⟨_,A5,rfl⟩
    |B5 _ _=>cases AC
    |ins _ _ _=>cases AC
  have off:∀b,¬CU H σ ρ b->Gx H σ ρ G' b=G' b:=λb n=>by unfold Gx;rw[if_neg n]
  have on:∀b,CU H σ ρ b->Gx H σ ρ G' b=none:=λb n=>by unfold Gx;rw[if_pos n]
  have BI:Sub G (Gx H σ ρ G'):=λb o e=>by
   have n:¬CU H σ ρ b:=λz=>by rw[Pu b z]at e;cases e
   rw[off b n];exact s'.g b o (VR r b o e)
  have dE:∀b,CU H σ ρ b->∀o,H b=some o->H' b=some o:=λb z o e=>BB.kp.sub _ _ (s'.g _ _ (by rw[Ov z];exact e));have rel:Rel F (Gx H σ ρ G') H' σ ρ:=by
   refine r.over rfl ⟨λb o e=>?_,r.kp.Dq.trans BI,BB.kp.An,λb J=>?_⟩ BI λb C8=>?_
   .by_cases n:CU H σ ρ b
    .rw[on b n]at e;cases e
    .rw[off b n]at e;exact BB.kp.sub b o e
   .have n:¬CU H σ ρ b:=λz=>J.1 (PU b z);rw[off b n];exact BB.kp.new b J
   .refine⟨?_,on b C8,PU b C8⟩;cases Bh:H b with
    |none=>exact absurd Bh (r.foot C8).1
    |some o=>exact dE b C8 o Bh
  refine h p xs H' _ rel ⟨BI,s'.h,λb J=>?_⟩ AQ AB (by rw[off p (λz=>(r.foot z).1 AQ)];exact Aa) (AY.Rm (λb o e AC=>?_) hd.1 q)
  .by_cases n:CU H σ ρ b
   .rw[on b n,Pu b n]
   .rw[off b n,s'.n b J];unfold I5;rw[if_neg n]
  .have n:¬CU H σ ρ b:=λz=>by
     obtain⟨AN,A7,AH⟩:=e7 b z;have:=s'.g b AN (by rw[Ov z];exact A7);rw[e]at this;cases this;rw[AC]at AH;cases AH
   rw[off b n];exact e
 .rw[if_neg hd]at h;cases h
end
section
variable{X:Ad}{F:B6}{e:AS}{pos:Pos}
def ahy{m:Ap}(h:JW X F e m):JW X F e (Pn m):=⟨Ay.imp h.1 yb⟩
end
section
variable{X:Ad}{F:B6}{e:AS}{pos:Pos}
end
section
variable{X:Ad}{F:B6}{e:AS}{A2:List AS}{pos p:Pos}{m:A_}{ma:Ap}
end
def DN{N P:List Str}{sc:Dn}(a:sc.kind=.function:=by rfl)(b:sc.isCoroutine=false:=by rfl)(c:sc.isGenerator=false:=by rfl)(d:N.Nodup:=by decide+kernel)(e:N.take P.length=P:=by rfl)(f:∀x∈P,sc.names.lookup x=some .local\/sc.names.lookup x=some .cell:=by decide+kernel)(g:∀y∈sc.names,y.2≠.free:=by decide+kernel):CT N P sc:=⟨a,b,c,d,e,f,g⟩
end CR
namespace CR
open PySem PySem.Spec Bv PyProof.Rows
section
variable{X:Ad}{F:B6}{e:AS}{A2:List AS}{pos p:Pos}{ma:Ap}
end
end CR
namespace CR
open PySem PySem.Spec Bv
mutual
noncomputable def Rs:D->Bool
 |.non=>true
 |.AV _=>true
 |.int _=>true
 |.str _=>true
 |.tup ds=>QR ds
 |_=>false
noncomputable def QR:χ->Bool
 |[]=>true
 |d::ds=>Rs d&&QR ds
end
mutual
theorem At.mr{K:AZ}{G G':AA}(h:∀b xs,G b=some (.tup xs)->G' b=some (.tup xs)):∀{d:D}{v:V},Rs d=true->At K G d v->At K G' d v
 |.non,_,_,q=>by simpa only[At]using q
 |.AV _,_,_,q=>by simpa only[At]using q
 |.int _,_,_,q=>by simpa only[At]using q
 |.str _,_,_,q=>by simpa only[At]using q
 |.tup _,_,n,q=>by erw[At,Rs]at q n |-;obtain⟨a,xs,e,g,r⟩:=q;exact⟨a,xs,e,h _ _ g,AY.ek h n r⟩
 |.lst _,_,n,_=>by cases n
 |.CO _,_,n,_=>by cases n
 |.EI _,_,n,_=>by cases n
 |.De _ _,_,n,_=>by cases n
 |.B5 _ _,_,n,_=>by cases n
 |.ins _ _ _,_,n,_=>by cases n
 |.PX _,_,n,_=>by cases n
theorem AY.ek{K:AZ}{G G':AA}(h:∀b xs,G b=some (.tup xs)->G' b=some (.tup xs)):∀{ds:χ}{vs:List V},QR ds=true->AY K G ds vs->AY K G' ds vs
 |[],_,_,q=>by simpa only[AY]using q
 |_::_,_,n,q=>by erw[AY,QR,FR]at q n |-;obtain⟨v,r,e,a,t⟩:=q;exact⟨v,r,e,At.mr h n.1 a,AY.ek h n.2 t⟩
end
section
variable{F:B6}{G H G' H':AA}{σ :Bv.St}{ρ:AI}
def Rel.n2(r:Rel F G H σ ρ)(BB:Rel F G' H' σ (EK ρ))(s':C5 (I5 σ ρ G H) H G' H'):Rel F (Gx H σ ρ G') H' σ ρ/\C5 G H (Gx H σ ρ G') H'/\∀b xs,G' b=some (.tup xs)->Gx H σ ρ G' b=some (.tup xs):=by
 have Pu:∀b,CU H σ ρ b->G b=none:=λb z=>(r.foot z).2.1;have PU:∀b,CU H σ ρ b->F.H0 b=none:=λb z=>(r.foot z).2.2;have off:∀b,¬CU H σ ρ b->Gx H σ ρ G' b=G' b:=λb n=>by unfold Gx;rw[if_neg n]
 have on:∀b,CU H σ ρ b->Gx H σ ρ G' b=none:=λb n=>by unfold Gx;rw[if_pos n]
 have BI:Sub G (Gx H σ ρ G'):=λb o e=>by
  have n:¬CU H σ ρ b:=λz=>by rw[Pu b z]at e;cases e
  rw[off b n];exact s'.g b o (VR r b o e)
 have lW:∀b,CU H σ ρ b->∀o,H b=some o->G' b=some o:=λb z o e=>s'.g _ _ (by rw[Ov z];exact e);refine⟨r.over rfl ⟨λb o e=>?_,r.kp.Dq.trans BI,BB.kp.An,λb J=>?_⟩ BI λb C8=>?_,⟨BI,s'.h,λb J=>?_⟩,λb xs e=>?_⟩
 .by_cases n:CU H σ ρ b
  .rw[on b n]at e;cases e
  .rw[off b n]at e;exact BB.kp.sub b o e
 .have n:¬CU H σ ρ b:=λz=>J.1 (PU b z);rw[off b n];exact BB.kp.new b J
 .refine⟨?_,on b C8,PU b C8⟩;cases Bh:H b with
  |none=>exact absurd Bh (r.foot C8).1
  |some o=>exact BB.kp.sub _ _ (lW b C8 o Bh)
 .by_cases n:CU H σ ρ b
  .rw[on b n,Pu b n]
  .rw[off b n,s'.n b J];unfold I5;rw[if_neg n]
 .have n:¬CU H σ ρ b:=λz=>by
    obtain⟨DC,DW⟩:=r.VO z;cases Qw:H b with
    |none=>exact DC Qw
    |some o=>have:=lW b z o Qw;rw[e]at this;cases this;exact DW xs Qw
  rw[off b n];exact e
end
def Sw(m:A_):A_:=λρ=>(m (EK ρ)).bind λd=>if Rs d=true then .ok d else .bad
def SJ(m:Ap):Ap:=λρ=>(m (EK ρ)).bind λds=>if QR ds=true then .ok ds else .bad
section
variable{F:B6}
def yd{m:A_}:EO (Cg F (Sw m)) (Cg F m):=by
 rintro σ H Q ⟨G,ρ,r,h⟩;refine⟨I5 σ ρ G H,EK ρ,r.plus,?_⟩;unfold Sw at h;refine rb h λd Av h v H' G' BB s' a=>?_
 split at h
 .rename_i hd;obtain⟨rel,up,off⟩:=r.n2 BB s';exact h v H' _ rel up (a.mr off hd)
 .exact h.elim
def ye{m:Ap}:EO (Ht F (SJ m)) (Ht F m):=by
 rintro σ H Q ⟨G,ρ,r,h⟩;refine⟨I5 σ ρ G H,EK ρ,r.plus,?_⟩;unfold SJ at h;refine rb h λds Av h p xs H' G' BB s' AQ AB Aa q=>?_
 split at h
 .rename_i hd;obtain⟨rel,up,off⟩:=r.n2 BB s';have no:¬CU H σ ρ p:=λz=>(r.foot z).1 AQ;exact h p xs H' _ rel up AQ AB (by unfold Gx;rw[if_neg no];exact Aa) (q.ek off hd)
 .exact h.elim
end
section
variable{X:Ad}{F:B6}{e:AS}{m:A_}{ma:Ap}
def agW(h:B3 X F e m):B3 X F e (Sw m):=⟨Ay.imp h.1 yd⟩
end
def KO:Bw->Option T
 |.EY t=>some t
 |.Bl _ t=>some t
 |_=>none
def Oj(s:Bw)(t:T):Bw:=match s with
 |.Bl k _=>.Bl k t
 |_=>.EY t
def bS{F:B6}{G H:AA}{s:Bw}{t:T}{o:Option V}(e:KO s=some t)(h:IV F G H o s):∃v,o=some v/\Mr F G H t v:=by
 cases s with
 |EY u=>cases e;exact h
 |Bl k u=>cases e;obtain⟨v,z,q,_⟩:=h;exact⟨v,z,q⟩
 |_=>cases e
def Wx{H:AA}{s:Bw}{t:T}{v:V}{b:A6}(e:KO s=some t):Ey H s (some v) b↔b∈Ah H t v:=by
 cases s with
 |EY u=>cases e;exact⟨λ⟨w,z,h⟩=>by cases z;exact h,λh=>⟨v,rfl,h⟩⟩
 |Bl k u=>cases e;exact⟨λ⟨w,z,h⟩=>by cases z;exact h,λh=>⟨v,rfl,h⟩⟩
 |_=>cases e
def ny{s:Bw}{t t':T}(e:KO s=some t):KO (Oj s t')=some t':=by cases s<;>first|rfl|cases e
def nx{F:B6}{G H G' H':AA}{s:Bw}{t t':T}{v:V}(e:KO s=some t)(h:IV F G H (some v) s)(q:Mr F G' H' t' v):IV F G' H' (some v) (Oj s t'):=by
 cases s with
 |EY u=>exact⟨v,rfl,q⟩
 |Bl k u=>obtain⟨w,z,_,p⟩:=h;cases z;exact⟨v,rfl,q,p⟩
 |_=>cases e
def Rel.abu{F:B6}{G H G' H':AA}{σ :Bv.St}{ρ:AI}{EX:Str->AA->Prop}(r:Rel F G H σ ρ){x:Nat}{s:Bw}{t t':T}{v:V}(ex:ρ[x]?=some s)(A2:KO s=some t)(AJ: σ[x]?=some (some v))(k:EW ⟨F.K,G,H9 H (Ah H t v),EX,IA⟩ G' H')(QH:Mr ⟨F.K,G,H9 H (Ah H t v),EX,IA⟩ G' H' t' v):Rel F G' H' σ (ρ.set x (Oj s t')):=by
 have ae:x<ρ.length:=(List.getElem?_eq_some_iff.mp ex).1;have bh:∀b∈Ah H t v,Ey H s (some v) b:=λb J=>(Wx A2).mpr J;have C8:∀b∈Ah H t v,CU H σ ρ b:=λb J=>⟨x,_,_,ex,AJ,bh b J⟩;have h0:∀b,H9 H (Ah H t v) b=none->F.H0 b=none:=λb z=>by
  rcases jo z with z|z
  .exact(r.foot (C8 b z)).2.2
  .exact r.kp.An.gone z
 have kp:EW F G' H':=by
  refine⟨k.sub,r.kp.Dq.trans k.Dq,λb o e=>?_,λb J=>?_⟩
  .refine k.An b o ?_;have n:b∉Ah H t v:=λz=>by rw[(r.foot (C8 b z)).2.2]at e;cases e
   show H9 H _ b=some o;rw[Tp n];exact r.kp.An b o e
  .have GV:b∉Ah H t v:=λz=>J.1 (r.foot (C8 b z)).2.2;have n:IE (H9 H (Ah H t v)) b:=by unfold IE;rw[Tp GV];exact r.kp.An.Jk J
   rw[show G' b=G b from k.new b n];exact r.kp.new b J
 have Kq:∀(i:Nat)(q:Bw),i≠x->ρ[i]?=some q->∃o,σ[i]?=some o/\IV F G' H' o q/\(∀a,Ey H' q o a->Ey H q o a):=λi q DC e=>by
  obtain⟨o,A7,w⟩:=r.CJ i q e;obtain⟨Al,BN⟩:=w.keep (H':=H') k.Dq λa f=>by
   have na:a∉Ah H t v:=λz=>DC (r.Nj i x a _ _ _ _ e ex A7 AJ f (bh a z));obtain⟨g1,g2,_⟩:=w.foot f;have c:H9 H (Ah H t v) a=H a:=Tp na;refine⟨?_,?_⟩
   .cases Qw:H a with
    |none=>exact absurd Qw g1
    |some u=>exact k.An a u (c.trans Qw)
   .rw[show G' a=G a from k.new a (by show IE (H9 H _) a;unfold IE;rw[c];exact w.VO f)];exact g2
  exact⟨o,A7,Al,BN⟩
 have jl:∀(i:Nat)(q:Bw)(o:Option V)(a:A6),i≠x->ρ[i]?=some q-> σ[i]?=some o->Ey H q o a->H9 H (Ah H t v) a≠none:=λi q o a DC e A7 f z=>by
  rcases jo z with z|z
  .exact DC (r.Nj i x a _ _ _ _ e ex A7 AJ f (bh a z))
  .exact(r.foot ⟨i,q,o,e,A7,f⟩).1 z
 have agP:IV F G H (some v) s:=by obtain⟨o,A7,q⟩:=r.CJ x s ex;rw[AJ]at A7;cases A7;exact q
 have cl:∀(i:Nat)(q:Bw)(o:Option V)(a:A6),(ρ.set x (Oj s t'))[i]?=some q-> σ[i]?=some o->Ey H' q o a->(i=x/\a∈Ah H' t' v)\/(i≠x/\ρ[i]?=some q/\Ey H q o a):=λi q o a e A7 f=>by
  rcases get_set e with⟨rfl,rfl⟩|⟨DC,e⟩
  .rw[AJ]at A7;cases A7;exact .inl ⟨rfl,(Wx (ny A2)).mp f⟩
  .obtain⟨Bo,Fo,_,FQ⟩:=Kq i q (He DC) e;rw[A7]at Fo;cases Fo;exact .inr ⟨He DC,e,FQ a f⟩
 refine⟨kp,by simp[r.len],λi q e=>?_,λi j a s1 s2 Ci Cj A7 AH B1 CV f1 f2=>?_⟩
 .rcases get_set e with⟨rfl,rfl⟩|⟨DC,e⟩
  .exact⟨some v,AJ,nx A2 agP ⟨QH.at_,QH.CW,λb J=>⟨(QH.own b J).1,h0 b (QH.own b J).2⟩⟩⟩
  .obtain⟨o,Fo,FQ,_⟩:=Kq i q (He DC) e;exact⟨o,Fo,FQ⟩
 .rcases cl i s1 Ci a A7 B1 f1 with⟨Bf,Fk⟩|⟨Bf,kJ,kK⟩<;>rcases cl j s2 Cj a AH CV f2 with⟨NE,FY⟩|⟨NE,lM,lN⟩
  .rw[Bf,NE]
  .exact absurd (QH.own a Fk).2 (jl j s2 Cj a NE lM CV lN)
  .exact absurd (QH.own a FY).2 (jl i s1 Ci a Bf kJ B1 kK)
  .exact r.Nj i j a s1 s2 Ci Cj kJ lM B1 CV kK lN
def lQ(F:B6)(v:V)(Q:CQ):R (D×T)->Prop
 |.ok (d,t)=>∀u G' H',EW F G' H'->At F.K G' d u->Mr F G' H' t v->Q u H'
 |_=>False
noncomputable def X1(K:AZ)(n:Nat)(BP:T->χ->R (D×T)):BJ:=λvs H Q E=>∃G t v A2 ws,vs=v::ws/\Sub G H/\C_ K G H t v/\(Ah H t v).Nodup/\(∀b∈Ah H t v,G b=none)/\AY K G A2 ws/\A2.length=n/\
 lQ ⟨K,G,H9 H (Ah H t v),λ_ _=>False,IA⟩ v Q (BP t A2)
def pw{K:AZ}{n:Nat}{BP:T->χ->R (D×T)}:∀vs H Q E,X1 K n BP vs H Q E->vs.length=n+1:=λvs H Q E h=>by obtain⟨G,t,v,A2,ws,rfl,_,_,_,_,a,l,_⟩:=h;simp[<-a.length,l]
def acp(v:V):Nat->Option V:=λk=>if k=0 then some v else none
def VP(K:AZ)(G H:AA)(v:V):B6:=⟨K,G,H,λ_ _=>False,acp v⟩
def d2(N:Nat)(t:T)(A2:χ):AI:=.Bl 0 t::J6 (N-1) A2
def Zp(d:D)(ρ:AI):R (D×T):=match(ρ[0]? :Option Bw)with
 |some (.Bl 0 t)=>.ok (d,t)
 |_=>.bad
def Ts:Fy->R (D×T)
 |.BG ρ=>Zp .non ρ
 |.rs d ρ=>Zp d ρ
 |_=>.bad
def Pp(N:Nat)(m:As)(t:T)(A2:χ):R (D×T):=(m (d2 N t A2)).bind Ts
def adl{K:AZ}{G H:AA}{N:Nat}{t:T}{v:V}{A2:χ}{ws:List V}(s:Sub G H)(a1:C_ K G H t v)(CW:(Ah H t v).Nodup)(no:∀b∈Ah H t v,G b=none)(a:AY K G A2 ws) :
  Rel (VP K G (H9 H (Ah H t v)) v) G H (NY (N+1) (v::ws)) (d2 (N+1) t A2):=by
 have n_:=nz (EX:=λ_ _=>False) (N:=N) s a;have st:NY (N+1) (v::ws)=some v::NY N ws:=by unfold NY;simp
 rw[st];show Rel _ G H (some v::NY N ws) (.Bl 0 t::J6 N A2);have A1:∀(i:Nat)(q:Bw),(J6 N A2)[i]?=some q->(q=.un\/∃d,q=.A1 d):=λi q e=>by
  unfold J6 at e;rcases List.mem_append.mp (HY e)with m|m
  .obtain⟨d,_,rfl⟩:=List.mem_map.mp m;exact .inr ⟨d,rfl⟩
  .obtain⟨_,rfl⟩:=List.mem_replicate.mp m;exact .inl rfl
 have Jj:∀(i:Nat)(q:Bw)(o:Option V)(b:A6),(Bw.Bl 0 t::J6 N A2)[i]?=some q->Ey H q o b->i=0:=λi q o b e f=>by
  cases i with
  |zero=>rfl
  |succ i=>rcases A1 i q (e:)with rfl|⟨d,rfl⟩<;>cases f
 refine⟨⟨s,Sub.refl _,jp _ _,λ_ _=>rfl⟩,by simp[n_.len],λi q e=>?_,λi j b s1 s2 Ci Cj A7 AH _ _ f1 f2=>by rw[Jj i s1 Ci b A7 f1,Jj j s2 Cj b AH f2]⟩;cases i with
 |zero=>cases e;exact⟨some v,rfl,v,rfl,⟨a1,CW,λb J=>⟨no b J,jm J⟩⟩,rfl⟩
 |succ i=>
  have e:(J6 N A2)[i]?=some q:=(e:)
  obtain⟨o,A7,w⟩:=n_.CJ i q e;refine⟨o,(A7:),?_⟩;rcases A1 i q e with rfl|⟨d,rfl⟩
  .trivial
  .exact w
def ih{K:AZ}{n N:Nat}{m:As}{vs:List V}{H:AA}{Q:CQ}{E:D0}(h:X1 K n (Pp (N+1) m) vs H Q E) :
  ∃G H0 v,FP (VP K G H0 v) m { BG:=λ_ H'=>Q .non H',Du:=Q } (NY (N+1) vs) H:=by
 obtain⟨G,t,v,A2,ws,rfl,s,a1,CW,no,a,l,k⟩:=h;refine⟨G,H9 H (Ah H t v),v,G,_,adl s a1 CW no a,?_⟩;unfold Pp at k;have fin:∀(d:D)(BK:AI)(σ' :Bv.St)(G' H':AA)(u:V),lQ ⟨K,G,H9 H (Ah H t v),λ_ _=>False,IA⟩ v Q (Zp d BK)->Rel (VP K G (H9 H (Ah H t v)) v) G' H' σ' BK->At K G' d u->Q u H':=λd BK σ' G' H' u k r Kl=>by
  unfold Zp at k
  split at k
  .rename_i t' D7;obtain⟨o,A7,w,rfl,⟨Fo,FQ,IP⟩,XE⟩:=r.CJ 0 _ D7;have XE:some v=some w:=XE;cases XE;exact k u G' H' ⟨r.kp.sub,r.kp.Dq,r.kp.An,r.kp.new⟩ Kl ⟨Fo,FQ,IP⟩
  .exact k.elim
 cases e:m (d2 (N+1) t A2)with
 |bad=>rw[e]at k;cases k
 |exc c=>rw[e]at k;cases k
 |ok f=>
  rw[e,R.EF]at k;cases f with
  |BG BK=>exact λσ' G' H' r s'=>fin .non BK σ' G' H' .non k r ζ
  |rs d BK=>exact λu σ' G' H' r Kl=>fin d BK σ' G' H' u k r Kl
  |_=>cases k
structure YZ(P:Ba)(w:BL)(K:AZ)(mg:Str->Option A4)(base:B2)(Af mt:Str)(n k:Nat)(BP:T->χ->R (D×T)):Prop where
 ex:∃(C f:A6)(fd:G3)(Am:List Str),FT K Af C/\JN K C/\Meth K C mt f/\G_ P w K mg base H2 k f fd Am (X1 K n BP)/\Binds K fd Am []
def qe{P:Ba}{w:BL}{K:AZ}{mg:Str->Option A4}{base:B2}{x qual Af FO NR:Str}{st:BZ}{N Am:List Str}{k:Nat}{m:As}(d:L_ K Af x qual st (FO::Am))(S:CT (NR::N) (FO::Am) (Br st))(h:∀(f:A6)(CA:A4)(A:Bt)(outer:List Env)(s:AM)(H:AA)(E:D0),CM k (A.deeper (My qual (Br st) s.heap.objs.size f CA))->∀G0 H0 v,JV (F0 H2 P w K mg base (NR::N) qual (Br st) f CA A outer s H E).Hr (VP K G0 H0 v) (GJ st) m) :
  YZ P w K mg base Af x Am.length (k+1) (Pp (N.length+1) m):=by
 obtain⟨C,f,fd,A5,A8,Au,BC,EL⟩:=d.ex;refine⟨C,f,fd,FO::Am,A5,A8,Au,BC.ok S pw λCA A outer s H vs Q E B8 AK=>?_,EL⟩;obtain⟨G,H0,v,Ax⟩:=ih AK;exact⟨_,(h f CA A outer s H E B8 G H0 v).1,Ax⟩
noncomputable def Vu(i n:Nat)(Af mt:Str)(BP:T->χ->R (D×T))(ρ:AI)(s:Bw)(A2:χ):Option T->R (D×AI)
 |some (.ins c ns Az)=>if c=Af/\ns.all (λk=>!(mt==k))=true/\A2.length=n then(GC (BP (.ins c ns Az) A2)).bind λx=>.ok (x.1,ρ.set i (Oj s x.2))else .bad
 |_=>.bad
def KG(i:Nat)(Af mt:Str)(n:Nat)(BP:T->χ->R (D×T))(ma:Ap):HO:=λρ=>match ρ[i]? with
 |some s=>(GC (ma ρ)).bind λA2=>Vu i n Af mt BP ρ s A2 (KO s)
 |none=>.bad
section
variable{X:Ad}{F:B6}{e:AS}{A2:List AS}{pos:Pos}{ma:Ap}
def xx{i n:Nat}{Af mt:Str}{BP:T->χ->R (D×T)}{C:A6}{E:D0}(GT:FT F.K Af C):EO (az F (KG i Af mt n BP ma)) (X2 C mt (X1 F.K n BP) [] E (X4 i) (EU F ma)):=by
 rintro σ H Q ⟨G,ρ,r,h⟩;unfold KG at h
 split at h
 .rename_i s A2;cases Av:ma ρ with
  |bad=>rw[Av]at h;cases h
  |exc c=>rw[Av]at h;cases h
  |ok ds=>
   rw[Av]at h;replace h:lT F G σ Q (Vu i n Af mt BP ρ s ds (KO s)):=h;unfold Vu at h
   split at h
   .rename_i c ns Az Hl
    split at h
    .rename_i AO;obtain⟨rfl,GA,AP⟩:=AO;obtain⟨o,A7,q⟩:=r.CJ i s A2;obtain⟨v,rfl,ok⟩:=bS Hl q;have HQ:=ok.at_;erw[C_]at HQ;obtain⟨a,Aj,xs,rfl,⟨IQ,B_,A5⟩,rfl,Ei⟩:=HQ;have:=B_.inj GT;subst this;refine⟨.ref a,A7,a,Aj,xs,rfl,A5,aZ GA,G,ρ,r,?_⟩;rw[Av];intro vs H1 Ai AL s1 B4;obtain⟨Cj,AH,BN⟩:=AL.CJ i s A2;rw[A7]at AH;cases AH;obtain⟨_,B1,Od⟩:=bS Hl BN;cases B1;rw[Ly];refine⟨Ai,_,.ref a,ds,vs,rfl,AL.kp.sub,Od.at_,Od.CW,λb J=>(Od.own b J).1,B4,AP,?_⟩;cases em:BP (.ins c (xs.map (·.1)) Az) ds with
     |bad=>rw[em]at h;cases h
     |exc c=>rw[em]at h;cases h
     |ok y=>obtain⟨d,t'⟩:=y;rw[em]at h;intro u G' H' k' Kl QH;exact h u H' G' (AL.abu A2 Hl A7 k' QH) (s1.g.trans k'.Dq) Kl
    .exact h.elim
   .exact h.elim
 .exact h.elim
def ahl (i:Nat) {x Af mt:Str} {Cd apos:Pos} {n k:Nat} {BP:T->χ->R (D×T)} {pl:Sem Bool} (c:YZ X.prog X.w X.K X.mg X.base Af mt n k BP) (B8:CM k X.A) (AB:F6 X F (e::A2) ma) (Ar:F.K=X.K:=by rfl)(hN:ς:=by rfl) (BE:Gf X.env.scope x:=by rw?) (hd:ι:=by decide) (D8:μ:=by decide)(Gk:Cl:=by rfl) (DQ:(Cq pos (B9 A2 X.env)).any (·.1)=false:=by rfl) (Ax:BH (.Call (.Attribute (.Name x Cd) mt apos) (e::A2) [] pos) X.env=(do
    let D1 <-BH (.Name x Cd) X.env
    N2 apos.atName
    let(f,first) <-JK [D1] (PH D1 mt pl)
    Qq pos f first (Cq pos (B9 (e::A2) X.env)) (Gr pos (Gp [] X.env))):=by rfl):Q4 X F (.Call (.Attribute (.Name x Cd) mt apos) (e::A2) [] pos) (KG i Af mt n BP ma):=⟨by
 obtain⟨C,f,fd,Am,B_,EQ,Hk,Gw,J⟩:=c.ex;refine Ay.imp (oB (pl:=pl) (II hN BE hd D8) EQ Hk Gw B8 J .nil Rn AB.1 Gk DQ Ax) ?_;rw[<-Ar];exact xx (by rw[Ar];exact B_)⟩
end
theorem n1{f:Str}:∀{xs:List (Str×V)}{j:Nat},(xs.map (·.1)).findIdx? (λk=>f==k)=some j->∃p,xs[j]?=some p/\xs.lookup f=some p.2
 |[],_,h=>by simp at h
 |(k,v)::xs,j,h=>by
  rw[Dc,List.findIdx?_cons]at h;rw[Ud];cases e:f==k with
  |true=>erw[e,if_true]at h;cases h;exact⟨(k,v),rfl,rfl⟩
  |false=>erw[e,HJ,if_false]at h;obtain⟨ajb,A5,rfl⟩:=Option.map_eq_some_iff.mp h;obtain⟨p,Et,DU⟩:=n1 A5;exact⟨p,(Et:),DU⟩
section
variable{K:AZ}{G H:AA}
theorem rR{q:A6}{ks ks':List Bq}{ds ds':χ}{ys HX:List (Bq×V)}(AT:H q=some (.B5 ys))(AG:HX.map (·.1)=ks')(n:AY K G ds' (HX.map (·.2))):∀{Az:List T}{vs:List V}{k:Nat},Bx K G H Az vs->(Dz H Az vs).Nodup->Az[k]?=some (.B5 ks (ds.map .A1))->vs[k]?=some (.ref q)->
  Bx K G (upd H q (.B5 HX)) (Az.set k (.B5 ks' (ds'.map .A1))) vs/\Dz (upd H q (.B5 HX)) (Az.set k (.B5 ks' (ds'.map .A1))) vs=Dz H Az vs
 |[],_,_,_,_,e,_=>by simp at e
 |t::Az,_,0,h,CW,e,ev=>by
  erw[Bx]at h;obtain⟨v,r,rfl,A5,A8⟩:=h;simp at e ev;subst e ev;rw[Hm]at CW;have f1:Ah H (.B5 ks (ds.map .A1)) (.ref q)=[q]:=by rw[MR AT,bf]
  have f2:Ah (upd H q (.B5 HX)) (.B5 ks' (ds'.map .A1)) (.ref q)=[q]:=by rw[MR Do,bf]
  rw[f1]at CW;obtain⟨k1,k2⟩:=A8.keep (H':=upd H q (.B5 HX)) λb J=>DT λz=>(List.nodup_append.mp CW).2.2 q γ b J z.symm;rw[List.set_cons_zero,Hm,Hm,f1,f2,k2];refine⟨.cons ?_ k1,rfl⟩;erw[C_];exact⟨q,HX,rfl,Do,AG,rO n⟩
 |t::Az,_,k+1,h,CW,e,ev=>by erw[Bx]at h;obtain⟨v,r,rfl,A5,A8⟩:=h;simp at e ev;rw[Hm]at CW;obtain⟨DC,DW,Kn⟩:=List.nodup_append.mp CW;have a9:q∈Dz H Az r:=be e ev (by rw[MR AT];simp);obtain⟨k1,k2⟩:=A5.keep (H':=upd H q (.B5 HX)) λb J=>DT λz=>Kn b J q a9 z;obtain⟨Et,DU⟩:=rR AT AG n (k:=k) A8 DW e ev;rw[List.set_cons_succ,Hm,Hm,k2,DU];exact⟨.cons k1 Et,rfl⟩
end
structure Px where
 s:Bw
 ns:List Str
 Az:List T
 j:Nat
 ks:List Bq
 ds:χ
def VN(Af g:Str)(s:Bw)(ns:List Str)(Az:List T)(j:Nat):Option T->R Px
 |some (.B5 ks us)=>match N8 us with
  |some ds=>.ok ⟨s,ns,Az,j,ks,ds⟩
  |none=>.bad
 |_=>.bad
def VM(Af g:Str)(s:Bw):Option T->R Px
 |some (.ins c ns Az)=>if c=Af then match ns.findIdx? (λk=>g==k)with
  |some j=>VN Af g s ns Az j Az[j]?
  |none=>.bad
  else .bad
 |_=>.bad
def K6(i:Nat)(Af g:Str)(ρ:AI):R Px:=match ρ[i]? with
 |some s=>VM Af g s (KO s)
 |none=>.bad
def jL{i:Nat}{Af g:Str}{ρ:AI}{x:Px}(h:K6 i Af g ρ=.ok x):ρ[i]?=some x.s/\KO x.s=some (.ins Af x.ns x.Az)/\x.ns.findIdx? (λk=>g==k)=some x.j/\x.Az[x.j]?=some (.B5 x.ks (x.ds.map .A1)):=by
 unfold K6 at h
 split at h
 .rename_i s A2;unfold VM at h
  split at h
  .rename_i c ns Az Hl
   split at h
   .rename_i AO;subst AO
    split at h
    .rename_i j J0;unfold VN at h
     split at h
     .rename_i ks us Co
      split at h
      .rename_i ds I4;cases h;rw[rY I4]at Co;exact⟨A2,Hl,J0,Co⟩
      .cases h
     .cases h
    .cases h
   .cases h
  .cases h
 .cases h
def jK{i:Nat}{Af g c:Str}{ρ:AI}(h:K6 i Af g ρ=.exc c):False:=by
 unfold K6 VM VN at h
 repeat' split at h
 all_goals cases h
def Rel.fd{F:B6}{G H:AA}{σ :Bv.St}{ρ:AI}{i:Nat}{Af g:Str}{x:Px}(r:Rel F G H σ ρ)(h:K6 i Af g ρ=.ok x):∃a C Aj xs q ys,σ[i]?=some (some (.ref a))/\FT F.K Af C/\H a=some (.ins C Aj xs)/\xs.map (·.1)=x.ns/\Bx F.K G H x.Az (xs.map (·.2))/\xs.lookup g=some (.ref q)/\(xs.map (·.2))[x.j]?=some (.ref q)/\H q=some (.B5 ys)/\ys.map (·.1)=x.ks/\AY F.K G x.ds (ys.map (·.2))/\(a::Dz H x.Az (xs.map (·.2))).Nodup/\Mr F G H (.ins Af x.ns x.Az) (.ref a):=by
 obtain⟨A5,A8,Au,BC⟩:=jL h;obtain⟨o,A7,w⟩:=r.CJ i _ A5;obtain⟨v,rfl,ok⟩:=bS A8 w;have HQ:=ok.at_;erw[C_]at HQ;obtain⟨a,Aj,xs,rfl,⟨C,B_,AB⟩,Ca,Ei⟩:=HQ;rw[<-Ca]at Au;obtain⟨p,Et,DU⟩:=n1 Au;obtain⟨u,MK,IN⟩:=rQ Ei BC;have I4:u=p.2:=by rw[Dm,Et]at MK;exact(E_ MK).symm
 subst I4;erw[C_]at IN;obtain⟨q,ys,eq,AT,Co,afn⟩:=IN;have CW:=ok.CW;rw[Ld AB]at CW;exact⟨a,C,Aj,xs,q,ys,A7,B_,AB,Ca,Ei,by rw[DU,eq],by rw[MK,eq],AT,Co,rP afn,CW,ok⟩
def Pr(i:Nat)(Af g:Str)(mk:A_):A_:=λρ=>(K6 i Af g ρ).bind λx=>(mk ρ).bind λk=>IY (.B5 x.ks x.ds) k
def bc(i:Nat)(Af:Str)(ρ:AI)(x:Px):La->R Fy
 |.B5 ks ds=>.ok (.BG (ρ.set i (Oj x.s (.ins Af x.ns (x.Az.set x.j (.B5 ks (ds.map .A1)))))))
 |_=>.bad
def ZD(i:Nat)(Af:Str)(ρ:AI)(x:Px)(v:D):Option Bq->R Fy
 |some Bp=>(putD x.ks x.ds Bp v).bind (bc i Af ρ x)
 |none=>.bad
def NG(i:Nat)(Af g:Str)(mk mv:A_):As:=λρ=>(mv ρ).bind λv=>(K6 i Af g ρ).bind λx=>(mk ρ).bind λk=>ZD i Af ρ x v (J9 k)
section
variable{X:Ad}{F:B6}{e:AS}{pos:Pos}{m n:A_}
def agy(i:Nat){x Af g:Str}{Aw:List Str}{Cd apos:Pos}(k:N4 X.K Af Aw)(BD:X.A.units+64<DH)(he:B3 X F e n)(AK:Ya e)(hf:g∈Aw:=by decide+kernel)(Ar:F.K=X.K:=by rfl)(hN:ς:=by rfl)(BE:Gf X.env.scope x:=by rw?)(hd:ι:=by decide)(D8:μ:=by decide)(J:Hz (.Name x Cd) g X.env (BH (.Name x Cd) X.env)=BH (.Name x Cd) X.env:=by rfl):B3 X F (.Subscript (.Attribute (.Name x Cd) g apos) e pos) (Pr i Af g n):=⟨by
 refine Ay.imp (o7 δ (e9 (II hN BE hd D8) J) he.1 AK) ?_;rintro σ H Q ⟨G,ρ,r,h⟩;unfold Pr at h;cases D2:K6 i Af g ρ with
 |bad=>rw[D2]at h;cases h
 |exc c=>exact(jK D2).elim
 |ok y=>
  rw[D2,R.EF]at h;obtain⟨a,C,Aj,xs,q,ys,A7,B_,AB,Ca,Ei,lk,lv,AT,Co,al,_⟩:=r.fd D2;obtain⟨IQ,k1,k2,k3⟩:=k.ex;rw[Ar]at B_;have:=B_.inj k1;subst this;refine⟨.ref a,A7,a,C,Aj,xs,.ref q,rfl,AB,k2,k3 g hf,lk,G,ρ,r,?_⟩;refine rb h λNk Bh h z B7 Cw BA s2 Ck=>?_;erw[IY]at h
  split at h
  .rename_i Bp c0;obtain⟨b,rfl,J⟩:=OQ c0 Ck;have f:=ZA (K:=F.K) (G:=G) Bp al;rw[Co]at f
   split at h
   .rename_i d D2;rw[D2]at f;obtain⟨v,ev,B4⟩:=f;refine⟨q,v,rfl,?_,h v B7 Cw BA s2 (B4.mono s2.g)⟩;rw[<-ev];exact Ir.t (s2.h _ _ AT) (N6 J BA.kp.sub)
   .exact h.elim
  .exact h.elim⟩
def Rel.jN{G H:AA}{σ :Bv.St}{ρ:AI}{i:Nat}{Af g:Str}{x:Px}(r:Rel F G H σ ρ)(h:K6 i Af g ρ=.ok x){q:A6}{HX:List (Bq×V)}{ks':List Bq}{ds':χ}{a C Aj:A6}{xs:List (Str×V)}{ys:List (Bq×V)}(A7: σ[i]?=some (some (.ref a)))(AB:H a=some (.ins C Aj xs))(lv:(xs.map (·.2))[x.j]?=some (.ref q))(AT:H q=some (.B5 ys))(AG:HX.map (·.1)=ks')(n:AY F.K G ds' (HX.map (·.2))) :
  Rel F G (upd H q (.B5 HX)) σ (ρ.set i (Oj x.s (.ins Af x.ns (x.Az.set x.j (.B5 ks' (ds'.map .A1)))))):=by
 obtain⟨A5,A8,Au,BC⟩:=jL h;obtain⟨o,AH,w⟩:=r.CJ i _ A5;rw[A7]at AH;cases AH;obtain⟨_,B1,ok⟩:=bS A8 w;cases B1;have HQ:=ok.at_;erw[C_]at HQ;obtain⟨Ix,VG,Gm,Av,⟨IQ,B_,Oz⟩,Ca,Ei⟩:=HQ;cases Av;rw[AB]at Oz;cases Oz;have CW:=ok.CW;have C8:=ok.own;have D2:Ah H (.ins Af x.ns x.Az) (.ref a)=a::Dz H x.Az (xs.map (·.2)):=Ld AB;rw[D2]at CW C8;obtain⟨na,ea⟩:=List.nodup_cons.mp CW;have a9:q∈Dz H x.Az (xs.map (·.2)):=be BC lv (by rw[MR AT];simp);obtain⟨Et,DU⟩:=rR AT AG n Ei ea BC lv;have ac5:a≠q:=λz=>na (by rw[z];exact a9);have VX:upd H q (.B5 HX) a=some (.ins C Aj xs):=by rw[DT ac5];exact AB
 have Qv:Ah (upd H q (.B5 HX)) (.ins Af x.ns (x.Az.set x.j (.B5 ks' (ds'.map .A1)))) (.ref a)=a::Dz H x.Az (xs.map (·.2)):=by rw[Ld VX,DU]
 refine r.eY A5 A7 ((Wx A8).mpr (by rw[D2];exact FG _ a9)) (nx A8 w ⟨?_,by rw[Qv];exact CW,by rw[Qv];exact C8⟩) λb Kz=>.inl ?_
 .erw[C_];exact⟨a,Aj,xs,rfl,⟨C,B_,VX⟩,Ca,Et⟩
 .have:=(Wx (ny A8)).mp Kz;rw[Qv,<-D2]at this;exact(Wx A8).mpr this
def ai3(i:Nat){x Af g:Str}{Aw:List Str}{Cd apos pos':Pos}{k v:AS}{mk mv:A_}(kc:N4 X.K Af Aw)(BD:X.A.units+64<DH)(AG:B3 X F k mk)(BE:B3 X F v mv)(hf:g∈Aw:=by decide+kernel)(Ar:F.K=X.K:=by rfl)(hN:ς:=by rfl)(SA:Gf X.env.scope x:=by rw?)(hd:ι:=by decide)(D8:μ:=by decide)(J:Hz (.Name x Cd) g X.env (BH (.Name x Cd) X.env)=BH (.Name x Cd) X.env:=by rfl):EP X F (.Assign [.Subscript (.Attribute (.Name x Cd) g apos) k pos'] v pos) (NG i Af g mk mv):=⟨by
 refine Cz.imp (oR δ (e9 (II hN SA hd D8) J) AG.1 BE.1 (q8 _ _ _ _ _ _)) ?_;delta NG;refine⟨G,ρ,r,?_⟩;refine rb h λVF Av h v H1 Ai AL s1 B4=>?_;cases D2:K6 i Af g ρ with
 |bad=>rw[D2]at h;cases h
 |exc c=>exact(jK D2).elim
 |ok y=>
  rw[D2,R.EF]at h;obtain⟨a,C,Aj,xs,q,ys,A7,B_,AB,Ca,Ei,lk,lv,AT,Co,al,_⟩:=AL.fd D2;obtain⟨IQ,k1,k2,k3⟩:=kc.ex;rw[Ar]at B_;have:=B_.inj k1;subst this;refine⟨.ref a,A7,a,C,Aj,xs,.ref q,rfl,AB,k2,k3 g hf,lk,Ai,ρ,AL,?_⟩;refine rb h λNk Bh h z B7 Cw BA s2 Ck=>?_;have VX:=s2.h _ _ AB;have S9:=s2.h _ _ AT;unfold ZD at h
  split at h
  .rename_i Bp c0;obtain⟨b,rfl,J⟩:=OQ c0 Ck;have Yj:=al.mono s2.g;unfold putD at h
   split at h
   .rename_i AO;obtain⟨JY,GA⟩:=AO;rw[<-Co]at JY GA;have AQ:Fa ys Bp=none:=by
     have:=XD Bp ys;rw[JY]at this;exact Option.not_isSome_iff_eq_none.mp (by rw[this];exact Fq)
    refine⟨q,_,rfl,Pw.t S9 (N6 J BA.kp.sub) (LN (GA:) ε),?_⟩;rw[eG _ AQ];refine h σ Cw _ (BA.jN D2 (ks':=y.ks++[Bp]) (ds':=y.ds++[VF]) A7 VX lv S9 (by rw[<-Co];simp) ?_) (s1.g.trans s2.g);rw[Hx];exact Yj.snoc (B4.mono s2.g)
   .split at h
    .rename_i AO;obtain⟨JY,GA⟩:=AO;rw[<-Co]at JY GA;refine⟨q,_,rfl,Pw.t S9 (N6 J BA.kp.sub) (LN (GA:) ε),?_⟩;have Ak:Bv.putK ys Bp v=ys.map (λCv=>if Cv.1=Bp then(Cv.1,v)else Cv):=by
      unfold Bv.putK;rw[O1]at JY;exact if_pos JY
     rw[Ak];refine h σ Cw _ (BA.jN D2 (ks':=y.ks) (ds':=W7 y.ks y.ds Bp VF) A7 VX lv S9 ?_ ?_) (s1.g.trans s2.g)
     .rw[<-Co,Hd];refine g0 λCv _=>?_;show(if Cv.1=Bp then(Cv.1,v)else Cv).1=Cv.1
      split<;>rfl
     .rw[<-Co];exact bM (B4.mono s2.g) Yj
    .exact h.elim
  .exact h.elim⟩
end
noncomputable def T8(Af f:Str)(t:T)(ρ:AI):Option Bw->R Fy
 |some (.Bl k (.ins c ns Az))=>if c=Af/\ns.all (λk=>!(f==k))=true/\ns.length<1000 then .ok (.BG (ρ.set 0 (.Bl k (.ins Af (ns++[f]) (Az++[t])))))else .bad
 |_=>.bad
def Ps(Af f:Str)(m:A_):As:=λρ=>(m ρ).bind λd=>T8 Af f (.A1 d) ρ (ρ[0]? :Option Bw)
def Sz(Af f:Str):As:=λρ=>T8 Af f (.B5 [] []) ρ (ρ[0]? :Option Bw)
section
variable{F:B6}{G H:AA}{σ :Bv.St}{ρ:AI}
def Rel.kn(r:Rel F G H σ ρ){k:Nat}{Af f:Str}{ns:List Str}{Az:List T}{t:T}{a C Aj:A6}{xs:List (Str×V)}{v:V}(e:ρ[0]?=some (.Bl k (.ins Af ns Az)))(Av: σ[0]?=some (some (.ref a)))(AB:H a=some (.ins C Aj xs))(AQ:ns.all (λk=>!(f==k))=true)(at_:C_ F.K G H t v)(CW:(Ah H t v).Nodup)(no:∀b∈Ah H t v,G b=none/\F.H0 b=none/\¬CU H σ ρ b) :
  Rel F G (upd H a (.ins C Aj (HC f v xs))) σ (ρ.set 0 (.Bl k (.ins Af (ns++[f]) (Az++[t])))):=by
 obtain⟨o,A7,v0,rfl,ok,AX⟩:=r.CJ 0 _ e;rw[Av]at A7;cases A7;have HQ:=ok.at_;erw[C_]at HQ;obtain⟨Ix,VG,Gm,z,⟨IQ,B_,Oz⟩,Ca,Ei⟩:=HQ;cases z;rw[AB]at Oz;cases Oz;have mX:=ok.CW;have e5:=ok.own;have D2:Ah H (.ins Af ns Az) (.ref a)=a::Dz H Az (xs.map (·.2)):=Ld AB;rw[D2]at mX e5;obtain⟨na,ea⟩:=List.nodup_cons.mp mX;have own:∀b∈a::Dz H Az (xs.map (·.2)),CU H σ ρ b:=λb J=>⟨0,_,_,e,Av,.ref a,rfl,by rw[D2];exact J⟩;have nat:a∉Ah H t v:=λz=>(no a z).2.2 (own a γ);have Ak:HC f v xs=xs++[(f,v)]:=bJ (by rw[Ca];exact AQ);rw[Ak];obtain⟨k1,k2⟩:=Ei.keep (H':=upd H a (.ins C Aj (xs++[(f,v)]))) λb J=>DT λz=>na (by rw[<-z];exact J);obtain⟨k3,I7⟩:=at_.keep (H':=upd H a (.ins C Aj (xs++[(f,v)]))) λb J=>DT λz=>nat (by rw[<-z];exact J);obtain⟨Et,DU⟩:=Bx.append k1 (Bx.cons k3 Bx.nil);have em:(xs++[(f,v)]).map (·.2)=xs.map (·.2)++[v]:=γ
 have Qv:Ah (upd H a (.ins C Aj (xs++[(f,v)]))) (.ins Af (ns++[f]) (Az++[t])) (.ref a)=a::(Dz H Az (xs.map (·.2))++Ah H t v):=by rw[Ld Do,em,DU,k2,Hm,I7,T9,Ly]
 refine r.eY e Av ⟨.ref a,rfl,by rw[D2];simp⟩ ⟨.ref a,rfl,⟨?_,?_,?_⟩,AX⟩ λb Kz=>?_
 .erw[C_];exact⟨a,Aj,_,rfl,⟨C,B_,Do⟩,by simp[Ca],by rw[em];exact Et⟩
 .rw[Qv];refine List.nodup_cons.mpr ⟨λz=>?_,List.nodup_append.mpr ⟨ea,CW,λb J c AO z=>(no c AO).2.2 (own c (by rw[<-z];exact FG _ J))⟩⟩;rcases List.mem_append.mp z with z|z
  .exact na z
  .exact nat z
 .rw[Qv];intro b J;rcases List.mem_cons.mp J with rfl|J
  .exact e5 b γ
  .rcases List.mem_append.mp J with J|J
   .exact e5 b (FG _ J)
   .exact⟨(no b J).1,(no b J).2.1⟩
 .obtain⟨u,I4,J⟩:=Kz;cases I4;rw[Qv]at J;rcases List.mem_cons.mp J with rfl|J
  .exact .inl ⟨.ref b,rfl,by rw[D2];simp⟩
  .rcases List.mem_append.mp J with J|J
   .exact .inl ⟨.ref a,rfl,by rw[D2];exact FG _ J⟩
   .exact .inr (no b J).2.2
end
section
variable{X:Ad}{F:B6}{e:AS}{pos:Pos}{m:A_}
def ajB{Af f x:Str}{Aw:List Str}{Cd pos':Pos}(k:N4 X.K Af Aw)(he:B3 X F e m)(hf:f∈Aw:=by decide+kernel)(hN:X.N[0]?=some x:=by rfl)(BE:Gf X.env.scope x:=by rw?)(hd:ι:=by decide)(D8:μ:=by decide)(AK:Oa e=true:=by rfl)(Ar:F.K=X.K:=by rfl) :
  EP X F (.Assign [.Attribute (.Name x Cd) f pos'] e pos) (Ps Af f m):=⟨by
 refine Cz.imp (eE (II hN BE hd D8) he.1 (MG _ _ _ _ AK)) ?_;delta Ps;refine⟨G,ρ,r,?_⟩;refine rb h λd Av h v H1 Ai AL s1 B4=>?_;unfold T8 at h
 split at h
 .rename_i Bp c ns Az CY
  split at h
  .rename_i AO;obtain⟨rfl,GA,TD⟩:=AO;obtain⟨o,A7,v0,rfl,ok,AX⟩:=AL.CJ 0 _ CY;have HQ:=ok.at_;erw[C_]at HQ;obtain⟨a,Aj,xs,rfl,⟨C,B_,AB⟩,Ca,Ei⟩:=HQ;obtain⟨IQ,k1,k2,k3⟩:=k.ex;rw[Ar]at B_;have:=B_.inj k1;subst this;refine⟨.ref a,A7,a,C,Aj,xs,rfl,AB,k2,k3 f hf,by have:=congrArg M4 Ca;simp at this;lia,?_⟩;exact h σ Ai _ (AL.kn CY A7 AB GA (t:=.A1 d) (by erw[C_];exact B4) (by simp[Ah]) (by simp[Ah])) s1.g
  .exact h.elim
 .exact h.elim⟩
def ajC{Af f x:Str}{Aw:List Str}{Cd pos' q:Pos}(k:N4 X.K Af Aw)(hf:f∈Aw:=by decide+kernel)(hN:X.N[0]?=some x:=by rfl)(BE:Gf X.env.scope x:=by rw?)(hd:ι:=by decide)(D8:μ:=by decide)(Ar:F.K=X.K:=by rfl) :
  EP X F (.Assign [.Attribute (.Name x Cd) f pos'] (.Dict [] [] q) pos) (Sz Af f):=⟨by
 refine Cz.imp (eE (II hN BE hd D8) o8 (MG _ _ _ _ rfl)) ?_;rintro CP σ H ⟨G,ρ,r,h⟩;unfold Sz T8 at h;intro p VC
 split at h
 .rename_i Bp c ns Az CY
  split at h
  .rename_i AO;obtain⟨rfl,GA,TD⟩:=AO;have AL:=r.lay0 (o:=.B5 []) VC;obtain⟨o,A7,v0,rfl,ok,AX⟩:=AL.CJ 0 _ CY;have HQ:=ok.at_;erw[C_]at HQ;obtain⟨a,Aj,xs,rfl,⟨C,B_,AB⟩,Ca,Ei⟩:=HQ;obtain⟨IQ,k1,k2,k3⟩:=k.ex;rw[Ar]at B_;have:=B_.inj k1;subst this;refine⟨.ref a,A7,a,C,Aj,xs,rfl,AB,k2,k3 f hf,by have:=congrArg M4 Ca;simp at this;lia,?_⟩;have kv:Ah (upd H p (.B5 [])) (.B5 [] []) (.ref p)=[p]:=by rw[MR Do,T9]
   exact h σ G _ (AL.kn CY A7 AB GA (t:=.B5 [] []) (v:=.ref p) (by erw[C_];exact⟨p,[],rfl,Do,rfl,Bx.nil⟩) (by rw[kv];simp) (by rw[kv];intro b J;rw[List.mem_singleton.mp J];exact⟨r.kp.sub.gone VC,r.kp.An.gone VC,CU.fresh r (Sub.upd VC) VC⟩)) (Sub.refl _)
  .exact h.elim
 .exact h.elim⟩
end
def aaC(F:B6)(x:A6)(Q:CQ):R T->Prop
 |.ok t=>∀G' H',EW F G' H'->Mr F G' H' t (.ref x)->Q .non H'
 |_=>False
noncomputable def fN(K:AZ)(Af:Str)(n:Nat)(BP:χ->R T):BJ:=λvs H Q E=>∃G x C Aj A2 ws,vs=.ref x::ws/\FT K Af C/\H x=some (.ins C Aj [])/\G x=none/\Sub G H/\AY K G A2 ws/\A2.length=n/\aaC ⟨K,G,H9 H [x],λ_ _=>False,IA⟩ x Q (BP A2)
def mC:D×T->R T
 |(.non,t)=>.ok t
 |_=>.bad
def ai(Af:Str)(N:Nat)(m:As)(A2:χ):R T:=(Pp N m (.ins Af [] []) A2).bind mC
def aed{K:AZ}{Af:Str}{n N:Nat}{m:As}:∀vs H Q E,fN K Af n (ai Af N m) vs H Q E->X1 K n (Pp N m) vs H Q E:=λvs H Q E h=>by
 obtain⟨G,x,C,Aj,A2,ws,rfl,GT,A5,A8,s,B4,l,k⟩:=h;have D2:Ah H (.ins Af [] []) (.ref x)=[x]:=by rw[Ld A5,T9]
 refine⟨G,.ins Af [] [],.ref x,A2,ws,rfl,s,?_,by rw[D2];simp,by rw[D2];intro b J;rw[List.mem_singleton.mp J];exact A8,B4,l,?_⟩
 .erw[C_];exact⟨x,Aj,[],rfl,⟨C,GT,A5⟩,rfl,Bx.nil⟩
 .rw[D2];unfold ai at k;cases e:Pp N m (.ins Af [] []) A2 with
  |bad=>rw[e]at k;cases k
  |exc c=>rw[e]at k;cases k
  |ok y=>
   rw[e,R.EF]at k;obtain⟨d,t⟩:=y;cases d with
   |non=>intro u G' H' kp Kl ok;erw[At]at Kl;subst Kl;exact k G' H' kp ok
   |_=>cases k
structure hl(P:Ba)(w:BL)(K:AZ)(mg:Str->Option A4)(base:B2)(Af:Str)(n k:Nat)(BP:χ->R T):Prop where
 ex:∃(C f:A6)(fd:G3)(Am:List Str),FT K Af C/\V7 K C f/\G_ P w K mg base H2 k f fd Am (fN K Af n BP)/\mg Af=some (.ref C)/\Binds K fd Am []
def ahn{P:Ba}{w:BL}{K:AZ}{mg:Str->Option A4}{base:B2}{qual Af FO NR:Str}{st:BZ}{N Am:List Str}{k:Nat}{m:As}(d:InK K mg Af qual st (FO::Am))(S:CT (NR::N) (FO::Am) (Br st))(h:∀(f:A6)(CA:A4)(A:Bt)(outer:List Env)(s:AM)(H:AA)(E:D0),CM k (A.deeper (My qual (Br st) s.heap.objs.size f CA))->∀G0 H0 v,JV (F0 H2 P w K mg base (NR::N) qual (Br st) f CA A outer s H E).Hr (VP K G0 H0 v) (GJ st) m) :
  hl P w K mg base Af Am.length (k+1) (ai Af (N.length+1) m):=by
 obtain⟨C,f,fd,A5,A8,Au,BC,EL⟩:=d.ex;refine⟨C,f,fd,FO::Am,A5,A8,G_.imp (Au.ok S pw λCA A outer s H vs Q E B8 AK=>?_) aed,BC,EL⟩;obtain⟨G,H0,v,Ax⟩:=ih AK;exact⟨_,(h f CA A outer s H E B8 G H0 v).1,Ax⟩
def T1(n:Nat)(BP:χ->R T)(ma:Ap):A_:=λρ=>(ma ρ).bind λds=>if ds.length=n then(GC (BP ds)).bind λt=>.ok (toD t)else .bad
section
variable{X:Ad}{F:B6}{e:AS}{A2:List AS}{pos p:Pos}{ma:Ap}
def xk{Af:Str}{n:Nat}{BP:χ->R T}{C:A6}{E:D0}(GT:FT F.K Af C):EO (Cg F (T1 n BP ma)) (fc C (fN F.K Af n BP) [] E (EU F ma)):=by
 delta T1 r;refine rb h λds Av h vs H1 Ai AL s1 B4 x Aj AJ dR ne=>?_;by_cases AQ:ds.length=n
 .rw[if_pos AQ]at h;rw[Ly];have QP:Sub H1 (H9 (upd (upd H1 Aj (.own x)) x (.ins C Aj [])) [x]):=λb o e=>by
   have DC:b≠x:=λz=>by rw[z,AJ]at e;cases e
   have DW:b≠Aj:=λz=>by rw[z,dR]at e;cases e
   rw[Tp (DC:),DT DC,DT DW];exact e
  have dp:Sub Ai (upd (upd H1 Aj (.own x)) x (.ins C Aj [])):=AL.kp.sub.trans (QP.trans (jp _ _));refine⟨Ai,x,C,Aj,ds,vs,rfl,GT,Do,AL.kp.sub.gone AJ,dp,B4,AQ,?_⟩;cases em:BP ds with
  |bad=>rw[em]at h;cases h
  |exc c=>rw[em]at h;cases h
  |ok t=>rw[em]at h;intro G' H' k ok;refine⟨rfl,?_⟩;have An:Sub H1 H':=QP.trans k.An;have nw:∀b,IE H1 b->G' b=Ai b:=λb J=>k.new b (QP.Jk J);have BA:Rel F G' H' σ ρ:=AL.grow k.Dq k.sub An nw;have fr:∀b∈Ah H' t (.ref x),H1 b=none:=λb J=>QP.gone (ok.own b J).2;obtain⟨t1,DO,t3⟩:=BA.b2 (G0:=G) (H0:=H) (by rfl) ok (s1.trans ⟨k.Dq,An,nw⟩) λb J=>⟨s1.h.gone (fr b J),AL.kp.An.gone (fr b J),CU.fresh AL An (fr b J)⟩;exact h (.ref x) H' _ t1 DO t3
 .rw[if_neg AQ]at h;cases h
def aiC{Af:Str}{n k:Nat}{BP:χ->R T}(c:hl X.prog X.w X.K X.mg X.base Af n k BP)(B8:CM (k+1) X.A)(AB:F6 X F (e::A2) ma)(Ar:F.K=X.K:=by rfl)(Aa:Dg X Af:=by rfl)(GB:(Af==("__debug__" :Str))=false:=by decide)(he:Cl:=by rfl)(DQ:(Cq pos (B9 A2 X.env)).any (·.1)=false:=by rfl):B3 X F (.Call (.Name Af p) (e::A2) [] pos) (T1 n BP ma):=⟨by
 have AB:=AB.1;obtain⟨C,f,fd,Am,B_,EQ,Gw,hm,J⟩:=c.ex;refine Ay.imp (oA EQ Gw B8 Aa hm J .nil Rn AB GB he DQ) ?_;rw[<-Ar];exact xk (by rw[Ar];exact B_)⟩
end
def Sy(i:Nat)(m:HO):HO:=λρ=>(ownAt i ρ).bind λ_=>(m ρ).bind λx=>Wt i (λ_=>.ok x.1) x.2
section
variable{X:Ad}{F:B6}{e:AS}{A2:List AS}{pos p:Pos}{m:A_}{ma:Ap}
def ahm (i:Nat) {x:Str} {Cd:Pos} {apos:Pos} {Bn:Pos} {m:HO} (he:Q4 X F e m) (hN:ς:=by rfl) (BE:Gf X.env.scope x:=by rw?) (hd:ι:=by decide) (D8:μ:=by decide) (L4:Hz (.Name x Cd) "extend" X.env (BH (.Name x Cd) X.env)=BH (.Name x Cd) X.env:=by rfl) (L6:(apos.endLine==Bn.line)=true:=by rfl) (L5:((Cq Bn (B9 [e] X.env)).all (λx=>!x.1)&&(Gr Bn (Gp [] X.env)).all (λx=>x.1.isSome)
   &&decide (([e]:List AS).length+([]:List FS).length+(if([]:List FS).isEmpty then 0 else 1)<30))=true:=by rfl) (AK:Fr:=by rfl) (L7:(Cq Bn (B9 [] X.env)).any (·.1)=false:=by rfl):Q4 X F (.Call (.Attribute (.Name x Cd) "extend" apos) [e] [] Bn) (Sy i m):=⟨by
 have he:=he.1;refine Ay.imp (Tt SO sH rt nK (II hN BE hd D8) (Of he QI AK) L4 L5 L6 AK L7) ?_;rintro σ H Q ⟨G,ρ,r,h⟩;unfold Sy ownAt at h;cases CY:ρ[i]? with
 |none=>rw[CY]at h;cases h
 |some s=>
  rw[CY]at h;cases s with
  |un=>cases h
  |A1 _=>cases h
  |EY _=>cases h
  |Bl _ _=>cases h
  |ob ob=>
   cases ob with
   |B5 _ _=>cases h
   |ins _ _ _=>cases h
   |lst ds=>
    obtain⟨q,xs,A7,A5,A8,Au,BC⟩:=r.own CY;rw[R.EF]at h;refine⟨.ref q,A7,.inl ⟨rfl,xs,C4.of A5⟩,G,ρ,r,?_⟩;cases Av:m ρ with
    |bad=>rw[Av]at h;cases h
    |exc c=>rw[Av]at h;exact h
    |ok y=>
     obtain⟨d,ED⟩:=y;rw[Av,R.EF]at h;intro v H1 Ai AL s1 B4;erw[Wt,ownAt]at h;cases Ot:ED[i]? with
     |none=>rw[Ot]at h;cases h
     |some ae3=>
      rw[Ot]at h;cases ae3 with
      |un=>cases h
      |A1 _=>cases h
      |EY _=>cases h
      |Bl _ _=>cases h
      |ob ob=>
       cases ob with
       |B5 _ _=>cases h
       |ins _ _ _=>cases h
       |lst Gg=>
        rw[R.EF,R.EF]at h;obtain⟨Dl,Gm,Ee,J2,Ow,PZ,Gy⟩:=AL.own Ot;rw[A7]at Ee;cases Ee;cases d with
        |lst A2=>
         simp only at h
         split at h
         .rename_i AP;erw[At]at B4;obtain⟨DU,ys,rfl,g2,BN⟩:=B4;refine⟨q,DU,Gm,ys,rfl,rfl,J2,AL.kp.sub _ _ g2,by rw[<-Gy.length,<-BN.length,Ii];lia,?_⟩;exact h .non _ Ai (AL.mut Ot A7 (Gy.append BN)) s1 ζ
         .exact h.elim
        |_=>exact h.elim⟩
end
section
variable{X:Ad}{F:B6}{e:AS}{pos:Pos}{m n:A_}
end
end CR
namespace LE
open PySem
def RD(h:B2)(d:A6)(A2:Array M7):Prop:=∃o,h.get? d=some o/\o.ExactDict/\o.data=.dict A2 A2.size
def RD.typeIs{s:AM}{d:A6}{A2:Array M7}(x:RD s.heap d A2):s.TypeIs (.ref d) "dict":=let⟨o,AN,c,_⟩:=x;⟨o,AN,c.1⟩
section
variable{prog:Ba}{w:BL}{A:Bt}{E:ξ}{s:AM}{A2:Array M7}
def Wz{a:A6}{c:A4}{vs:Array A4}{i:Nat}{x:A4}{Q:Unit->ο}(AN:s.heap.get? a=some { cls:=c,data:=.fields vs })(AC:i<vs.size)(CI:∀h',h'.get? a=some { cls:=c,data:=.fields (vs.setIfInBounds i x) }->h'.objs.size=s.heap.objs.size->(∀b o,b≠a->dl->h'.get? b=some o)->Q () i8) :
  AW ψ A (setField (.ref a) i x) Q E s:=by
 refine O0 AN rfl AC (CI _ ?_ ?_ λb o J e=>(IK ..).2 b J|>.trans e)
 .rw[KU _ AN (UW (Nt rfl _))];rfl
 .exact(IK ..).1
def yh {it d:A6} {i:Nat} {ok D1:A4} {Q:Option A4->ο} (hit:IsItemIter s.heap it d i A2.size A2.size ok D1) (hm:RD s.heap d A2) (VA:i<A2.size)(CI:∀h',IsItemIterOut h' it d (i+1) A2.size A2.size A2[i].key A2[i].val s.heap.objs.size->h'.get? s.heap.objs.size=some { cls:=.type "tuple",data:=.seq #[A2[i].key,A2[i].val] }->h'.objs.size=s.heap.objs.size+1->
    (∀b o,b≠it->dl->h'.get? b=some o)->Q (some (.ref s.heap.objs.size)) i8) :
  AW ψ A (Gs (.ref it)) Q E s:=by
 have C7:s.TypeIs (.ref it) "dict_itemiterator":=⟨_,hit,rfl⟩;obtain⟨E0,Jb,D8,J_⟩:=id hm;unfold Gs
 refine AF (Nw (Lr (name:=Ek "__next__") C7 XR
  (Gn XR C7 rp ?_ (ro _))))
 refine AF (Ag ?_);refine AF ?_;refine AF ?_;refine AF (XQ C7 (Ag ?_));refine AF (SZ hit rfl ?_);have OM:US "dict_itemiterator"=true:=ε
 erw[OM,if_true];show AW _ _ (if(DF d==FF)=true then _ else _) _ _ s;rw[if_neg (show¬((DF d==FF)=true)from Fq)];refine AF (Ag ?_);refine AF (Qh Jb J_ ?_);rw[if_neg γ];refine AF (Ag ?_);refine AF (Se Jb J_ ?_);rw[if_neg γ];refine Ag ?_;erw[show¬((i:Int)<0)from δ,if_false,LK,Js VA];refine AF ?_;refine AF (XQ C7 (Ag ?_));refine AF (fm C7 ?_);show AW _ _ (setField (.ref it) 3 (I1 ((i:Int)+1))>>=_) _ _ s;refine AF (Wz hit γ λA5 g1 Dw k1=>?_);have kM:gV { s with heap:=A5 } (.ref it) "dict_itemiterator":=⟨_,g1,rfl⟩;refine AF (Hb ?_);refine AF (fm kM ?_);show AW _ _ (Builtin.Dict_items.isOneOf _ _>>=_) _ _ _;refine AF (fm kM ?_);show AW _ _ (r_ (.ref it) 6 A2[i].key A2[i].val) _ _ _;unfold r_;refine AF (gf ?_);have g2:(A5.push { cls:=.type "tuple",data:=.seq #[A2[i].key,A2[i].val] }).get? it=_:=Cp _ g1;have DO:(A5.push { cls:=.type "tuple",data:=.seq #[A2[i].key,A2[i].val] }).get? s.heap.objs.size=some { cls:=.type "tuple",data:=.seq #[A2[i].key,A2[i].val] }:=by rw[<-Dw];exact EB _ rfl
 have Db:(A5.push { cls:=.type "tuple",data:=.seq #[A2[i].key,A2[i].val] }).objs.size=s.heap.objs.size+1:=by rw[<-Dw];simp[Heap.push]
 have k2:∀b o,b≠it->dl->(A5.push { cls:=.type "tuple",data:=.seq #[A2[i].key,A2[i].val] }).get? b=some o:=λb o J e=>Cp _ (k1 b o J e);have ne:s.heap.objs.size≠it:=λz=>by exact absurd z (M5 (Cr hit))
 generalize A5.push { cls:=.type "tuple",data:=.seq #[A2[i].key,A2[i].val] }=A8 at g2 DO Db k2 |-;rw[Dw];unfold Builtin.Dict_items.ownedTupleIsFree;refine AF (AF (Ij g2 rfl (x:=.none) γ (Ag ?_)));refine AF (Ij g2 rfl (x:=ok) γ ?_);refine AF (Ij g2 rfl (x:=D1) γ ?_);refine AF (Wz g2 γ λAu g3 QG k3=>?_);refine AF (Wz g3 γ λBC g4 RV I7=>?_);refine AF (Wz g4 γ λEL PY er k5=>?_);refine AF (Wz PY γ λCu Lg ajP lO=>?_);refine AF (YJ (Ag (Ag ⟨_,rfl,Ag (CI Cu ?_ ?_ ?_ λb o J e=>?_)⟩)))
 .show Cu.get? it=_;rw[Lg];simp[I1]
 .exact lO _ _ ne (k5 _ _ ne (I7 _ _ ne (k3 _ _ ne DO)))
 .exact(ajP.trans (er.trans (RV.trans QG))).trans Db
 .exact lO _ _ J (k5 _ _ J (I7 _ _ J (k3 _ _ J (k2 _ _ J e))))
def yg{it d:A6}{ok D1:A4}{Q:Option A4->ο}(An:A.handled=none)(hit:IsItemIter s.heap it d A2.size A2.size A2.size ok D1)(hm:RD s.heap d A2)(CI:∀h',YH it s.heap h'->Q none i8):AW ψ A (Gs (.ref it)) Q E s:=by
 have C7:s.TypeIs (.ref it) "dict_itemiterator":=⟨_,hit,rfl⟩;obtain⟨E0,Jb,D8,J_⟩:=id hm;unfold Gs
 refine AF (Nw (Lr (name:=Ek "__next__") C7 XR
  (Gn XR C7 rp ?_ (ro _))))
 refine AF (Ag ?_);refine AF ?_;refine AF ?_;refine AF (XQ C7 (Ag ?_));refine AF (SZ hit rfl ?_);have OM:US "dict_itemiterator"=true:=ε
 erw[OM,if_true];show AW _ _ (if(DF d==FF)=true then _ else _) _ _ s;rw[if_neg (show¬((DF d==FF)=true)from Fq)];refine AF (Ag ?_);refine AF (Qh Jb J_ ?_);rw[if_neg γ];refine AF (Ag ?_);refine AF (Se Jb J_ ?_);rw[if_neg γ];refine Ag ?_;erw[show¬((A2.size:Int)<0)from δ,if_false,LK,Xd (CS A2.size)];refine AF ?_;refine AF (XQ C7 (Ag ?_));show AW _ _ (setField (.ref it) 2 .none>>=_) _ _ s;refine AF (O0 hit rfl γ ?_);show AW _ _ (newExc (.type "StopIteration") []>>=_) _ _ _;refine AF ?_;erw[newExc,newTuple];refine AF (Ih ?_ (by size_fits));refine AF (m:=P9 _ _) (Uq (a:=FF) (by first|rfl|(erw[P9];rfl)) ?_);refine Ih ?_ (by size_fits);erw[raiseNew];refine AF (Y4 ?_);rw[show A.in1.handled=none from An];refine AF (Ag (YI ?_));refine AF (Nr (T:="StopIteration") (b:=true) ⟨_,EB _ rfl,rfl⟩ YA ?_);exact Ag (CI _ (((IK ..).extBut.push _).push _))
theorem yn{d:A6}{Q:ξ}(hd:(d==H_)=false)(hm:RD s.heap d A2)(CI:Q (.ref s.heap.objs.size) { s with heap:=s.heap.push { cls:=.type "dict_items",data:=.fields #[.ref d] } }) :
  AW ψ A (call (.builtin "dict.items") [.ref d]) Q E s:=by
 have C7:s.TypeIs (.ref d) "dict":=hm.typeIs;refine Y0 F.slot_dict_items C7 F.entry_dict_items (F.args_dict_items_1 _) (S:=λA R s=>s.TypeIs (.ref d) "dict"/\R (.ok (.ret (.ref s.heap.objs.size))) { s with heap:=s.heap.push { cls:=.type "dict_items",data:=.fields #[.ref d] } }) (MeetsIn.of_wp λA R s⟨C7,h⟩=>?_) ⟨C7,CI⟩;unfold Gq.«dict.items» Builtin.Dict.noArgs;refine AF (AF (Xf C7 ?_));show AW _ _ (pure _) _ _ _;refine Ag ?_;unfold gA;rw[if_neg (by rw[hd];exact Fq)];refine AF (Ag ?_);exact AF (Ih (Ag ⟨_,rfl,h⟩))
theorem yi{v d:A6}{Q:ξ}(BE:s.heap.IsItemsView v d)(hm:RD s.heap d A2)(CI:Q (.ref s.heap.objs.size) { s with heap:=s.heap.push { cls:=.type "dict_itemiterator",data:=.fields #[.none,.bool false,.ref d,.int 0 0,.int A2.size 0,.int A2.size 0,.none,.none] } }) :
  AW ψ A (pyIter (.ref v)) Q E s:=by
 obtain⟨o,AN,AO,Pa⟩:=hm;obtain⟨D1,yH,ajw,wv⟩:=id BE;refine Ua BE.typeIs F.slot_dict_items_iter (Gn F.slot_dict_items_iter BE.typeIs F.entry_dict_items_iter ?_ (F.args_dict_items_iter_1 _));unfold Gq.«dict_items.__iter__»;refine AF ?_;show AW _ _ (pure (DF v)) _ _ s;refine Ag ?_;refine AF ?_;unfold Builtin.Dict_items.dictOf;refine AF (Ij yH wv (x:=.ref d) γ (Ag ?_));unfold Builtin.Dict_items.newIterator;refine AF (AF (Qh AN Pa ?_));refine AF (Se AN Pa ?_);have OM:US "dict_itemiterator"=true:=ε
 erw[OM,if_true,Builtin.Dict_items.ownedTupleFields,newFields];refine Ih (Ag ⟨_,rfl,"dict_itemiterator",_,⟨_,EB _ rfl,rfl⟩,F.slot_dict_itemiterator_next.lookup,?_⟩) (by show _<=_;simp;decide);exact CI
end
end LE
namespace Bv
open PySem PySem.Spec
theorem eD{α β:Type}{R:α->β->Prop}:∀{l:List α}{m:List β},Paired R l m->∀(i:Nat) a b,l[i]?=some a->m[i]?=some b->R a b
 |_,_,.nil,i,a,b,e,_=>by simp at e
 |_,_,.cons h t,0,a,b,A7,AH=>by simp at A7 AH;subst A7 AH;exact h
 |_,_,.cons h t,i+1,a,b,A7,AH=>eD t i a b (A7:) (AH:)
noncomputable def gv(d:A6)(n:Nat):It:=⟨λi H=>∃Ac,H d=some (.B5 Ac)/\Ac.length=n/\i<n,
 λi H v H'=>∃p b k y,H p=none/\H'=upd H p (.tup [.ref b,y])/\v=.ref p/\(k.length≠1->JU H k b)/\∀Ac,H d=some (.B5 Ac)->Ac[i]?=some (k,y),λi H=>∃Ac,H d=some (.B5 Ac)/\Ac.length=n/\n=i⟩
def bK{X:Ad}{pins:υ}{σ :St}{H:AA}{s:AM}{d:A6}{Ac:List (Bq×V)}(I:π)(hd:H d=some (.B5 Ac)) :
  ∃xs A2,KT X.K H Ac xs/\LE.RD s.heap d A2/\A2.toList=xs.map (PB (Mh X.prog X.w))/\A2.size=Ac.length/\(d==H_)=false:=by
 obtain⟨_,BO,xs,kt,o,A2,Ak,A5,A8,Au,BC,_,_,EL⟩:=Vz I.BX I.EA (.inl hd);subst EL;refine⟨xs,A2,kt,⟨o,A5,A8,Au⟩,BC,?_,BO⟩;rw[<-SX,BC,Ea];exact(Paired.length kt).symm
theorem afx{P:Ba}{w:BL}{K:AZ}{elts:List AS}{Bp:Nat}{pos:Pos}(it d:A6)(n:Nat) :
  Turn P w K (.Tuple elts Bp pos) (gv d n) [it] it (λi h=>∃ok D1,IsItemIter h it d i n n ok D1) where
 mem:=γ
 obj:=λi h st b J=>by
  obtain⟨ok,D1,e⟩:=st;obtain rfl:b=it:=(J:)
  exact⟨_,e,λv z=>by have Fw:YF _=Sj v:=z;cases Fw⟩
 keep:=λi h h' st k=>by obtain⟨ok,D1,e⟩:=st;exact⟨ok,D1,k it γ _ e⟩
 item:=by
  intro X hP hw Ar AO i pins s σ H E I hf st Aa;subst hP hw Ar;obtain⟨Ac,AT,AQ,AC⟩:=Aa;obtain⟨ok,D1,hit⟩:=st;obtain⟨xs,A2,kt,Rq,he,Ao,BO⟩:=bK I AT;rw[AQ]at Ao;subst Ao;refine LE.yh hit Rq AC λh' AN Ax AK AG=>?_;refine⟨_,rfl,wpAny_letOwnedTupleGo_items AN λA8 x2 Fi=>?_⟩;have C7:s.heap.objs.size∉[it]:=λz=>by
   obtain rfl:s.heap.objs.size=it:=(z:)
   exact absurd (Cr hit) (Hc _)
  have keep:∀b o,b∉[it]->dl->A8.get? b=some o:=λb o J q=>(Fi.2 b (J:)).trans (AG b o (J:) q);obtain⟨Cv,VJ⟩:∃Cv,Ac[i]?=some Cv:=⟨_,DV δ⟩;obtain⟨q,eq,AL,BA,E9⟩:∃q,xs[i]?=some q/\Cv.1=q.1/\Iv X.K H Cv.1 q.2.1/\RelV Cv.2 q.2.2:=by
   have AP:=Paired.length kt;have ae:i<xs.length:=δ
   exact⟨xs[i],DV ae,eD kt i _ _ VJ (DV ae)⟩
  have VI:A2[i]=PB (Mh X.prog X.w) q:=by
   have:A2.toList[i]?=some (PB (Mh X.prog X.w) q):=by rw[he,Dm,eq];rfl
   rw[UU,Js AC]at this;exact E_ this
  have VE:XV A8 s.heap.objs.size (#[.ref q.2.1,q.2.2]:Array A4):=by have:=(Fi.2 _ (C7:)).trans Ax;rw[VI]at this;exact⟨_,this,rfl,_,rfl⟩
  have xJ:H s.heap.objs.size=none:=I.BX.fresh (CS _);have C3:Inv X pins σ (upd H s.heap.objs.size (.tup [.ref q.2.1,Cv.2])) { s with heap:=A8 }:=I.eu (its:=[.ref q.2.1,q.2.2]) (ch:=[it]) (t':=s.toks) keep hf (CS _) VE (.cons rfl (.cons E9 .nil)) (by show 2<=CK;decide);refine⟨.ref s.heap.objs.size,_,C3,rfl,⟨s.heap.objs.size,q.2.1,Cv.1,Cv.2,xJ,rfl,rfl,λz=>BA.elim id λ⟨x,_,_,_,B1,_⟩=>absurd (by rw[B1];rfl) z,λks AG=>by rw[AT]at AG;cases AG;exact VJ⟩,⟨_,_,x2⟩,λb J=>?_⟩;have nb:b≠s.heap.objs.size:=λz=>C7 (z▸J);rw[DT nb];exact(hf b J).1
 done:=by
  intro X hP hw Ar AO i pins s σ H E I hf st Aa;subst hP hw Ar;obtain⟨Ac,AT,AQ,AC⟩:=Aa;obtain⟨ok,D1,hit⟩:=st;obtain⟨xs,A2,kt,Rq,he,Ao,BO⟩:=bK I AT;have A7:n=A2.size:=δ
  subst A7 AC;refine LE.yg (I.ok.hd AO) hit Rq λh' AG=>⟨rfl,I.X8 (ch:=[it]) (t':=s.toks) (λb o J q=>AG b o (J:) q) hf⟩
 self:=λA i s Q E st h=>by obtain⟨ok,D1,hit⟩:=st;have C7:s.TypeIs (.ref it) "dict_itemiterator":=⟨_,hit,rfl⟩;refine Ua C7 rh (Gn rh C7 (show entryFor table "dict_itemiterator.__iter__"=some Gq.«dict_keyiterator.__iter__» by kernel_rfl) ?_ (F.args_dict_itemiterator_iter_1 _));show AW _ _ (pure _) _ _ _;exact Ag ⟨_,rfl,"dict_itemiterator",_,C7,F.slot_dict_itemiterator_next.lookup,h⟩
section
variable{X:Ad}{elts:List AS}{Bp:Nat}{QD:Pos}
def kk(EV:TE):TI:=λσ H R=>EV σ H λv H1=>∃d Ac,v=.ref d/\H1 d=some (.B5 Ac)/\R (gv d Ac.length) H1
def acf{o:AS}{EV:TE}{apos Bn:Pos}(AN:Ay X o EV)(J:Hz o "items" X.env (BH o X.env)=BH o X.env)(AP:(apos.endLine==Bn.line)=true)(hf:((Cq Bn (B9 [] X.env)).all (λx=>!x.1)&&(Gr Bn (Gp [] X.env)).all (λx=>x.1.isSome)&&decide (([]:List AS).length+([]:List FS).length+(if([]:List FS).isEmpty then 0 else 1)<30))=true:=by rfl)(Ax:Cq Bn (B9 [] X.env)=[]:=by rfl) :
  G6 X (.Tuple elts Bp QD) (.Call (.Attribute o "items" apos) [] [] Bn) (kk EV):=by
 intro pins s σ H R I h;refine gO J hf AP fs PySem.F.slot_dict_items PySem.F.type_dict_items (Bd (AN pins s σ H _ I h) λu s1⟨x,H1,B0,BS,d,Ac,ex,hd,q⟩=>?_);subst ex;obtain rfl:u=DF d:=BS;obtain⟨t1,DO,_⟩:=d4 B0 (.inr ⟨Ac,.inl hd⟩);refine⟨t1,DO,?_⟩;rw[Ax];obtain⟨xs,A2,kt,Rq,he,Ao,BO⟩:=bK B0 hd;refine Xc rfl (PySem.evalArgs_none ?_);refine LE.yn BO Rq ?_;have C3:Inv X pins σ H1 { s1 with heap:=s1.heap.push { cls:=.type "dict_items",data:=.fields #[.ref d] } }:=B0.kept (t':=s1.toks) λb o e=>Cp _ e;obtain⟨Ol,akO,aje,adh,ajx,cv,_⟩:=bK C3 hd;refine LE.yi ⟨_,EB _ rfl,rfl,rfl⟩ adh ?_;refine⟨_,[_],_,_,H1,rfl,C3.kept (t':=s1.toks) λb o e=>Cp _ e,afx _ d Ac.length,⟨_,_,by rw[<-cv];exact EB _ rfl⟩,λb J=>?_,q⟩;obtain rfl:=List.mem_singleton.mp J;exact C3.Ou (CS _) (C3.BX.fresh (CS _))
end
end Bv
namespace CR
open PySem PySem.Spec Bv
noncomputable def Wh:Key->D
 |.inl i=>.int i
 |.inr x=>.str x
def UO:JR->D
 |.inl k=>Wh k
 |.inr ks=>.tup (ks.map Wh)
def lR{K:AZ}{G:AA}(k:Key):At K G (Wh k) (D_ k):=by cases k<;>erw[Wh,At]<;>rfl
theorem lS{K:AZ}{G:AA}:∀ks:List Key,AY K G (ks.map Wh) (ks.map D_)
 |[]=>.nil
 |k::ks=>.cons (lR k) (lS ks)
theorem WR{K:AZ}{G H:AA}(t:∀b ys,H b=some (.tup ys)->G b=some (.tup ys)):∀{k:Bq}{vs:List V},Paired (Nd H) k vs->AY K G (k.map UO) vs
 |_,_,.nil=>.nil
 |.inl k::_,_,.cons h r=>.cons (by have h:_=D_ k:=h;rw[h];exact lR k) (WR t r)
 |.inr ks::_,_,.cons h r=>.cons (by obtain⟨b,rfl,e⟩:=h;erw[UO,At];exact⟨b,_,rfl,t _ _ e,lS ks⟩) (WR t r)
def TO(ks:List Bq)(ds:χ):χ:=(ks.zip ds).map λp=>.tup [.tup (p.1.map UO),p.2]
def aN:D->R χ
 |.B5 ks ds=>if ks.all (λk=>k.length !=1)=true then .ok (TO ks ds)else .bad
 |_=>.bad
def zA{K:AZ}{G:AA}{d:A6}{ds:χ}{Ac:List (Bq×V)}(h:G d=some (.B5 Ac))(AG:(Ac.map (·.1)).all (λk=>k.length !=1)=true)(q:AY K G ds (Ac.map (·.2))):Mp K (gv d Ac.length) (TO (Ac.map (·.1)) ds) G where
 go:=λi H s AC=>by
  have AC:i<min Ac.length ds.length:=by simpa[TO]using AC
  exact⟨Ac,s _ _ h,rfl,δ⟩
 Jq:=λi H v H' s AC y=>by
  obtain⟨p,b,k,y,AX,rfl,rfl,BU,RT⟩:=y;have ex:=RT Ac (s _ _ h);have AH:(Ac.map (·.2))[i]?=some y:=by rw[Dm,ex];rfl
  have A7:(Ac.map (·.1))[i]?=some k:=by rw[Dm,ex];rfl
  obtain⟨d',e,a⟩:=q.TB AH;have acE:k.length≠1:=(List.all_eq_true.mp AG k (HY A7):)
  refine⟨.tup [.tup (k.map UO),d'],?_,.inr ⟨p,_,_,AX,rfl,rfl,rfl,λAi s1 t1=>.cons ?_ (.cons (a.mono s1) .nil)⟩⟩
  .unfold TO;rw[Dm];have RN:((Ac.map (·.1)).zip ds)[i]?=some (k,d'):=by
    rw[sC];exact⟨A7,e⟩
   rw[RN];rfl
  .obtain⟨vs,ev,HU⟩:=BU acE;erw[At];exact⟨b,vs,rfl,t1 _ _ ev,WR t1 HU⟩
 stop:=λH s=>⟨Ac,s _ _ h,rfl,by simp[TO,q.length]⟩
def SM(m:A_):Ap:=λρ=>(m ρ).bind aN
section
variable{X:Ad}{F:B6}{e:AS}{m:A_}
def yB:O7 (Ku F (SM m)) (kk (Cg F m)):=by
 delta SM r;refine rb h λd Av h v H1 Ai AL s1 a=>?_;unfold aN at h
 split at h
 .split at h
  .rename_i AG;erw[At]at a;obtain⟨q,xs,rfl,AT,rfl,Fd⟩:=a;exact⟨q,xs,rfl,AL.kp.sub _ _ AT,h _ H1 Ai AL s1 (zA AT AG Fd)⟩
  .exact h.elim
 .exact h.elim
def aiz{elts:List AS}{k:Nat}{X7 apos Bn:Pos}(he:B3 X F e m)(J:Hz e "items" X.env (BH e X.env)=BH e X.env:=by rfl)(AP:(apos.endLine==Bn.line)=true:=by rfl)(hf:((Cq Bn (B9 [] X.env)).all (λx=>!x.1)&&(Gr Bn (Gp [] X.env)).all (λx=>x.1.isSome)&&decide (([]:List AS).length+([]:List FS).length+(if([]:List FS).isEmpty then 0 else 1)<30))=true:=by rfl)(Ax:Cq Bn (B9 [] X.env)=[]:=by rfl) :
  Lc X F (.Tuple elts k X7) (.Call (.Attribute e "items" apos) [] [] Bn) (SM m):=⟨G6.imp (acf he.1 J AP hf Ax) yB⟩
end
end CR
namespace Bv
open PySem PySem.Spec
noncomputable def agT(K:AZ)(EV ty X9:TE):TE:=λσ H Q=>EV σ H λx H1=>∃a,x=.ref a/\gt H1 a/\ty σ H1 λy B7=>X9 σ B7 λz Cx=>∃Ac k b,Cx a=some (.B5 Ac)/\y=.ref b/\Iv K Cx k b/\Ac.length<CK/\
 (∀v,Fa Ac k=some v->Q v Cx)/\(Fa Ac k=none->Q z (upd Cx a (.B5 (putK Ac k z))))
section
variable{X:Ad}{o e f:AS}{apos Bn:Pos}{EV ty X9:TE}
def adF(BD:X.A.units+16<DH)(AN:Ay X o EV)(he:Ay X e ty)(hf:Ay X f X9)(m:M2 X o "setdefault" apos e f Bn):Ay X (.Call (.Attribute o "setdefault" apos) [e,f] [] Bn) (agT X.K EV ty X9):=by
 intro pins s σ H Q I h;refine gO m.base m.few m.line fs PySem.F.slot_dict_setdefault PySem.F.type_dict_setdefault (Bd (AN pins s σ H _ I h) λu s1⟨x,H1,B0,BS,a,ex,d,Al⟩=>?_);subst ex;obtain rfl:u=DF a:=BS;obtain⟨t1,DO,_⟩:=d4 B0 d;refine⟨t1,DO,?_⟩;rw[m.trees];refine Xc rfl (XZ (SS (Bd (he pins s1 σ H1 _ B0 Al) λFs s2⟨y,B7,C3,C0,BN⟩=>
  SS (Bd (hf pins s2 σ B7 _ C3 BN) λajp s3⟨z,Cx,DX,o2,Ac,k,b,Av,DZ,LC,AP,Dt,Ro⟩=>UZ ?_))))
 subst DZ;cases(show Fs=DF b from C0);obtain⟨Ao,hd,xs,rel,dd⟩:=Vz DX.BX DX.EA (.inl Av);have AJ:xs.length<=CK:=by rw[<-Paired.length rel];exact Ao
 have Kv:=rel.val k;refine LE.aeq (nest_room BD) hd (dH DX.BX DX.EA LC) dd (λp AX=>?_) (λAQ h' Tr AK=>?_) AJ
 .rw[AX]at Kv;cases ev:Fa Ac k with
  |none=>rw[ev]at Kv;cases Kv
  |some v=>rw[ev]at Kv;exact⟨v,Cx,DX.tok _,Kv,Dt v ev⟩
 .have ev:Fa Ac k=none:=by
    rw[AQ]at Kv;cases ev:Fa Ac k with
    |none=>rfl
    |some v=>rw[ev]at Kv;cases Kv
  have J5:(putK Ac k z).length<=CK:=by have:=dL Ac k z;lia
  obtain⟨q,A2,Ak,AT,A8,Au,BC,_,EL⟩:=Tr;refine⟨z,_,cg (ob:=.B5 (putK Ac k z)) DX (by rw[Av];exact M8) AK ⟨q,AT⟩ ⟨J5,hd,_,(rel.put k LC o2).keeps λc ys ec=>?_,q,A2,Ak,AT,A8,Au,BC,EL⟩,o2,Ro ev⟩;rw[DT (m_ ec Av (λz=>nomatch z))];exact ec
end
end Bv
namespace CR
open PySem PySem.Spec Bv
abbrev R6:=AI->R Bq
def lU(F:B6)(G H:AA)(σ :Bv.St)(ρ:AI)(Q:CQ):R Bq->Prop
 |.ok k=>∀b H' G',Rel F G' H' σ ρ->C5 G H G' H'->Iv F.K H' k b->Q (.ref b) H'
 |_=>False
def agV(F:B6)(m:R6):TE:=λσ H Q=>∃G ρ,Rel F G H σ ρ/\lU F G H σ ρ Q (m ρ)
structure hv(X:Ad)(F:B6)(e:AS)(m:R6):Prop where
 ex:∃t,Ay X e t/\∀ σ H Q,agV F m σ H Q->t σ H Q
noncomputable def eo:Option Bq->R Bq
 |some k=>.ok k
 |none=>.bad
def OV(m:A_):R6:=λρ=>(GC (m ρ)).bind λd=>eo (J9 d)
noncomputable def cp(x:Str):R6:=λ_=>.ok [.inl (.inr x)]
noncomputable def cf(i:Nat)(ρ:AI):R (List Bq×χ):=match ρ[i]? with
 |some (.ob (.B5 ks ds))=>.ok (ks,ds)
 |_=>.bad
noncomputable def NI(i:Nat)(mk:R6)(mv:A_):As:=λρ=>(cf i ρ).bind λx=>(GC (mk ρ)).bind λk=>(GC (mv ρ)).bind λv=>if x.1.any (λy=>decide (y=k))=true then(if x.1.length<1000000 then .ok (.BG ρ)else .bad)else(putD x.1 x.2 k v).bind λo=>.ok (.BG (ρ.set i (.ob o)))
section
variable{X:Ad}{F:B6}{e f:AS}{pos Cd apos Bn:Pos}{m:A_}
def ahq(he:B3 X F e m):hv X F e (OV m):=⟨_,he.1,by
 rintro σ H Q ⟨G,ρ,r,h⟩;refine⟨G,ρ,r,?_⟩;unfold OV at h;cases Av:m ρ with
 |bad=>rw[Av]at h;cases h
 |exc c=>rw[Av]at h;cases h
 |ok d=>
  rw[Av]at h;intro v H1 Ai AL s1 a;replace h:lU F G H σ ρ Q (eo (J9 d)):=h;cases Co:J9 d with
  |none=>rw[Co]at h;cases h
  |some k=>rw[Co]at h;obtain⟨b,rfl,J⟩:=OQ Co a;exact h b H1 Ai AL s1 (.inl (N6 J AL.kp.sub))⟩
def ahp{nm x:Str}(c:Ke X.K X.mg nm (.EI [.str x]))(Ar:F.K=X.K:=by rfl)(Aa:Dg X nm:=by rfl)(hd:(nm==("__debug__" :Str))=false:=by decide):hv X F (.Name nm pos) (cp x):=by
 obtain⟨v,u,hm,C9,at'⟩:=c.ex;refine⟨_,o9 Aa hm C9 hd,?_⟩;rintro σ H Q ⟨G,ρ,r,h⟩;have a:=at' λ_=>none;erw[At,AY]at a;obtain⟨b,xs,rfl,Fl,w,BB,rfl,rfl,rfl⟩:=a;refine h b H G r (C5.refl _ _) (.inr ?_);rcases Fl with(Fl|⟨o,Fl⟩)|⟨o,its,n,AG,AO,hd,_,vs⟩
 .cases Fl
 .cases Fl
 .refine⟨x,o,n,?_⟩;generalize el:its.toList=l at vs;cases vs with
  |cons p q=>
   cases q;obtain⟨t,rfl⟩:=p;have:its= #[.str x t]:=by apply YE;rw[el]
   exact⟨t,rfl,by rw[Ar];exact AG,AO,by rw[hd,this]⟩
def ajO(i:Nat){x:Str}{mk:R6}{mv:A_}(BD:X.A.units+64<DH)(AG:hv X F e mk)(BE:B3 X F f mv)(Ar:F.K=X.K:=by rfl)(hN:ς:=by rfl)(SA:Gf X.env.scope x:=by rw?)(hd:ι:=by decide)(D8:μ:=by decide)(J:Hz (.Name x Cd) "setdefault" X.env (BH (.Name x Cd) X.env)=BH (.Name x Cd) X.env:=by rfl)(hf:((Cq Bn (B9 [e,f] X.env)).all (λx=>!x.1)&&(Gr Bn (Gp [] X.env)).all (λx=>x.1.isSome)&&decide (([e,f]:List AS).length+([]:List FS).length+(if([]:List FS).isEmpty then 0 else 1)<30))=true:=by rfl)(AP:(apos.endLine==Bn.line)=true:=by rfl)(Ax:Cq Bn (B9 [e,f] X.env)=[(false,BH e X.env),(false,BH f X.env)]:=by rfl) :
  EP X F (.Expr (.Call (.Attribute (.Name x Cd) "setdefault" apos) [e,f] [] Bn) pos) (NI i mk mv):=⟨by
 obtain⟨BU,QJ,zU⟩:=AG.ex;refine Cz.imp (W4 (adF δ (II hN SA hd D8) QJ BE.1 ⟨J,hf,AP,Ax⟩)) ?_;rintro CP σ H ⟨G,ρ,r,h⟩;unfold NI cf at h
 split at h
 .rename_i ks ds CY;obtain⟨q,AN,A7,h0,_,_,ahc,rfl,_⟩:=r.obj CY;refine⟨.ref q,A7,q,rfl,.inr ⟨ahc,.inl h0⟩,zU σ H _ ⟨G,ρ,r,?_⟩⟩;rw[R.EF]at h;cases Co:mk ρ with
  |bad=>rw[Co]at h;cases h
  |exc c=>rw[Co]at h;cases h
  |ok k=>
   rw[Co]at h;intro b H1 Ai AL s1 LC;refine⟨Ai,ρ,AL,?_⟩;cases ev:mv ρ with
   |bad=>rw[ev]at h;cases h
   |exc c=>rw[ev]at h;cases h
   |ok VF=>
    rw[ev]at h;intro z B7 Cw BA s2 Q9;obtain⟨Dl,Dr,Ee,A5,A8,Au,xs,rfl,rfl,al⟩:=BA.obj CY;rw[A7]at Ee;cases Ee;replace h:Hq F G CP (if(xs.map (·.1)).any (λy=>decide (y=k))=true then(if(xs.map (·.1)).length<1000000 then .ok (.BG ρ)else .bad)else(putD (xs.map (·.1)) ds k VF).bind λo=>.ok (.BG (ρ.set i (.ob o)))):=h;have vs:=XD k xs;have kb2:Iv X.K B7 k b:=by rw[<-Ar];exact LC.mono λb ys e=>s2.h _ _ e
    split at h
    .rename_i AO;rw[AO]at vs
     split at h
     .rename_i J5;exact⟨xs,k,b,A5,rfl,kb2,LN (J5:) ε,λv _=>h σ Cw B7 BA (s1.g.trans s2.g),λz=>by rw[z]at vs;cases vs⟩
     .exact h.elim
    .rename_i AO;have AO:(xs.map (·.1)).any (λy=>decide (y=k))=false:=Bool.eq_false_iff.mpr AO;have AQ:Fa xs k=none:=by
      rw[AO]at vs;exact Option.not_isSome_iff_eq_none.mp (by rw[vs];exact Fq)
     unfold putD at h
     split at h
     .rename_i GA;refine⟨xs,k,b,A5,rfl,kb2,LN (GA.2:) ε,λv ev=>(by rw[AQ]at ev;cases ev),λ_=>?_⟩;rw[eG _ AQ];refine h σ Cw _ (BA.WP CY A7 ⟨xs++[(k,z)],rfl,γ,?_⟩) (s1.g.trans s2.g);rw[Hx];exact al.snoc Q9
     .rename_i GA
      split at h
      .rename_i TD;rw[AO]at TD;cases TD.1
      .exact h.elim
 .exact h.elim⟩
end
end CR
namespace Bv
open PySem PySem.Spec
end Bv
namespace CR
open PySem PySem.Spec Bv
section
variable{X:Ad}{F:B6}{e o elt iter Bj:AS}{pos:Pos}{scope:Dn}{m n:A_}
def aj6(i:Nat)(nl:Nat)(caps:φ){y:Str}{py:Pos}{ifs:List AS}{mi:Ap}{set:D->AI->R AI}{mt:CG}{Es:A_}{Bn:Pos}(hN:X.N.Nodup)(S:RL X.env.scope X.N scope (K4 scope X.N nl caps) nl caps=true)(AC:Lc X F Bj iter mi)(Aa:R2 X scope (K4 scope X.N nl caps) Bj set)(Ax:Ml X scope (K4 scope X.N nl caps) ifs mt)(he:gm X scope (K4 scope X.N nl caps) elt Es)(BO:X.N[i]?=some y:=by rfl)(AP:X.env.kindOf y=some .local:=by rfl)(ON:M6 (.ListComp elt [⟨Bj,iter,ifs,0⟩] scope Bn) (some (.Name y py)) pos.line X.env=pure true:=by rfl)(AO:X.calm=true:=by rfl)(Ar:F.K=X.K:=by rfl)(AK:∀x,M1 iter X.env x=pure x:=by intro _;rfl) :
  EP X F (.Assign [.Name y py] (.ListComp elt [⟨Bj,iter,ifs,0⟩] scope Bn) pos) (Eg i (SJ (D3 nl caps mi set mt Es))):=by
 refine⟨Cz.imp (t:=MH (Ht F (SJ (D3 nl caps mi set mt Es))) (J1 i)) ?_ cx⟩;refine Cz.imp (t:=MH (Ht F (D3 nl caps mi set mt Es)) (J1 i)) ?_ λCP σ H h=>ye σ H _ h;refine c_ (nl:=nl) (caps:=caps) (Q:=λt=>Cz X (.Assign [.Name y py] (.ListComp elt [⟨Bj,iter,ifs,0⟩] scope Bn) pos) (MH t (J1 i))) Ar AC.1 Aa.g Ax (λcl C s H Ah G0 H0=>(he cl C s H Ah G0 H0).1) Aa.BG Aa.kp λg g1 t1 A7 imp=>?_;exact Cz.imp (oQ (.of S) AO hN BO AP AC.1 g1 t1 A7 ON AK) λCP σ H h=>imp σ H _ h
end
end CR
namespace LT
open PySem PyProof.Rows
section
variable{prog:Ba}{w:BL}{A:Bt}{E:ξ}{s:AM}{CD:Array Jw}{κ:KeyKind}{kd:Il}
end
def Jy(h:B2)(d:A6)(A2:Array M7)(Ak:Nat):Prop:=∃o,h.get? d=some o/\o.ExactDict/\o.data=.dict A2 Ak
def Jy.at{h h':B2}{d:A6}{A2:Array M7}{Ak:Nat}(x:Jy h d A2 Ak)(e:∀o,h.get? d=some o->h'.get? d=some o):Jy h' d A2 Ak:=let⟨o,AN,r⟩:=x;⟨o,e _ AN,r⟩
def Jy.typeIs{s:AM}{d:A6}{A2:Array M7}{Ak:Nat}(x:Jy s.heap d A2 Ak):s.TypeIs (.ref d) "dict":=let⟨o,AN,c,_⟩:=x;⟨o,AN,c.1⟩
section
variable{prog:Ba}{w:BL}{A:Bt}{E:ξ}{s:AM}{A2:Array M7}
theorem aeU{d:A6}{Ak:Nat}{Q:ξ}(hd:(d==H_)=false)(hm:Jy s.heap d A2 Ak)(CI:Q (.ref s.heap.objs.size) { s with heap:=s.heap.push { cls:=.type "dict_keyiterator",data:=.fields #[.ref d,.int 0 0,.int A2.size 0,.int Ak 0] } }) :
  AW ψ A (pyIter (.ref d)) Q E s:=by
 have C7:s.TypeIs (.ref d) "dict":=hm.typeIs;obtain⟨o,AN,AO,Pa⟩:=hm;refine Ua C7 F.slot_dict_iter (Gn F.slot_dict_iter C7 F.entry_dict_iter ?_ (F.args_dict_iter_1 _));unfold Gq.«dict.__iter__»;refine AF ?_;unfold Builtin.Dict.dictSlotNone;refine AF (Xf C7 ?_);show AW _ _ (pure (DF d)) _ _ s;refine Ag ?_;show AW _ _ (gA d>>=_) _ _ s;unfold gA;rw[if_neg (by rw[hd];exact Fq)];refine AF (Ag ?_);refine AF (Qh AN Pa ?_);refine AF (Se AN Pa ?_);refine AF (Ih (Ag ⟨_,rfl,"dict_keyiterator",_,⟨_,EB _ rfl,rfl⟩,F.slot_dict_keyiterator_next.lookup,?_⟩));simpa[I1]using CI
def aeT{it d:A6}{i Ak:Nat}{Q:Option A4->ο}(hit:s.heap.IsKeyIter it d i A2.size Ak)(hm:Jy s.heap d A2 Ak)(VA:i<A2.size)(CI:∀h',h'.IsKeyIter it d (i+1) A2.size Ak->I0 it s.heap h'->Q (some A2[i].key) i8) :
  AW ψ A (Gs (.ref it)) Q E s:=by
 obtain⟨o,AN,AO,hd⟩:=id hit;obtain⟨E0,Jb,D8,J_⟩:=id hm;unfold Gs
 refine AF (Nw (Lr (name:=Ek "__next__") hit.typeIs XT
  (Gn XT hit.typeIs ri ?_ (rq _))))
 refine AF (Ag ?_);refine AF ?_;refine AF ?_
 first|refine AF (XS hit.typeIs (Ag ?_))|refine AF (XK hit.typeIs (Ag ?_))
 refine AF (SZ AN hd ?_);have OM:US "dict_keyiterator"=false:=ε
 erw[OM,HJ,if_false];show AW _ _ (if(DF d==FF)=true then _ else _) _ _ s;rw[if_neg (show¬((DF d==FF)=true)from Fq)];refine AF (Ag ?_);refine AF (Qh Jb J_ ?_);rw[if_neg γ];refine AF (Ag ?_);refine AF (Se Jb J_ ?_);rw[if_neg γ];refine Ag ?_;erw[show¬((i:Int)<0)from δ,if_false,LK,Js VA];refine AF ?_
 first|refine AF (XS hit.typeIs (Ag ?_))|refine AF (XK hit.typeIs (Ag ?_))
 refine AF (wpAny_isOneOf_keyiter hit.typeIs ?_);show AW _ _ (setField (.ref it) 1 (I1 ((i:Int)+1))>>=_) _ _ s;refine AF (O0 AN hd γ ?_);have Pb:(s.heap.update it (Y7 (·.setIfInBounds 1 (I1 ((i:Int)+1))))).IsKeyIter it d (i+1) A2.size Ak:=
  ⟨_,KU _ AN (UW (Nt hd _)),(X_ ..).trans AO,by rw[Nt hd];simp[I1]⟩
 refine AF (Hb ?_);refine AF (wpAny_isOneOf_keyiter (s:={ s with heap:=s.heap.update it (Y7 (·.setIfInBounds 1 (I1 ((i:Int)+1)))) }) Pb.typeIs ?_);show AW _ _ (pure A2[i].key) _ _ _;exact Ag (Ag ⟨_,rfl,Ag (CI _ Pb (IK ..))⟩)
def aeS{it d:A6}{Ak:Nat}{Q:Option A4->ο}(An:A.handled=none)(hit:s.heap.IsKeyIter it d A2.size A2.size Ak)(hm:Jy s.heap d A2 Ak)(CI:∀h',YH it s.heap h'->Q none i8):AW ψ A (Gs (.ref it)) Q E s:=by
 obtain⟨o,AN,AO,hd⟩:=id hit;obtain⟨E0,Jb,D8,J_⟩:=id hm;unfold Gs
 refine AF (Nw (Lr (name:=Ek "__next__") hit.typeIs XT
  (Gn XT hit.typeIs ri ?_ (rq _))))
 refine AF (Ag ?_);refine AF ?_;refine AF ?_
 first|refine AF (XS hit.typeIs (Ag ?_))|refine AF (XK hit.typeIs (Ag ?_))
 refine AF (SZ AN hd ?_);have OM:US "dict_keyiterator"=false:=ε
 erw[OM,HJ,if_false];show AW _ _ (if(DF d==FF)=true then _ else _) _ _ s;rw[if_neg (show¬((DF d==FF)=true)from Fq)];refine AF (Ag ?_);refine AF (Qh Jb J_ ?_);rw[if_neg γ];refine AF (Ag ?_);refine AF (Se Jb J_ ?_);rw[if_neg γ];refine Ag ?_;erw[show¬((A2.size:Int)<0)from δ,if_false,LK,Xd (CS A2.size)];refine AF ?_
 first|refine AF (XS hit.typeIs (Ag ?_))|refine AF (XK hit.typeIs (Ag ?_))
 show AW _ _ (setField (.ref it) 0 .none>>=_) _ _ s;refine AF (O0 AN hd γ ?_);show AW _ _ (newExc (.type "StopIteration") []>>=_) _ _ _;refine AF ?_;erw[newExc,newTuple];refine AF (Ih ?_ (by size_fits));refine AF (m:=P9 _ _) (Uq (a:=FF) (by first|rfl|(erw[P9];rfl)) ?_);refine Ih ?_ (by size_fits);erw[raiseNew];refine AF (Y4 ?_);rw[show A.in1.handled=none from An];refine AF (Ag (YI ?_));refine AF (Nr (T:="StopIteration") (b:=true) ⟨_,EB _ rfl,rfl⟩ YA ?_);exact Ag (CI _ (((IK ..).extBut.push _).push _))
def aeV(An:A.handled=none)(I d:A6)(NC:d≠I)(A2:Array M7)(Ak:Nat) :
  Walks prog w A I [I,d] [I] A2.size (λi v=>A2[i]?.map (·.key)=some v) (λi h=>h.IsKeyIter I d i A2.size Ak/\Jy h d A2 Ak) where
 sub:=λb J=>by simp at J;simp[J]
 frame:=λ_ _ _ st AG=>⟨st.1.at λo e=>AG I γ o e,st.2.at λo e=>AG d γ o e⟩
 item:=λi s Q E AC st CI=>aeT st.1 st.2 AC λh' Pb Ic=>
  CI _ h' s.toks (by rw[Js AC];rfl) ⟨Pb,st.2.at λo e=>Ic.extBut d o NC e⟩ λb o J e=>Ic.extBut b o (λh=>J (by simp[h])) e
 done:=λs Q E st CI=>aeS An st.1 st.2 λh' dS=>CI h' s.toks λb o J e=>dS b o (λh=>J (by simp[h])) e
 self:=λ_ _ _ _ st CI=>wpAny_pyIter_keyiter st.1 CI
def uI:typeLookup (.type "dict") "__len__"=pure (some (.builtin "dict.__len__")):=by rw[Xs,XX];kernel_rfl
def aaQ{acc:Array A4}{A2:Array M7}(h:ItemsOf (λi v=>A2[i]?.map (·.key)=some v) acc A2.size):acc.toList=A2.toList.map (·.key):=by
 apply SP;intro i;have A7:acc.toList[i]?=acc[i]?:=γ
 rw[Dm,A7];cases e:acc[i]? with
 |none=>
  have:acc.size<=i:=(e:)
  rw[h.1]at this;have AH:A2.toList[i]?=none:=XY (this:);rw[AH];rfl
 |some v=>have:=h.2 i v e;rw[<-this];simp
theorem u2{d:A6}{Ak:Nat}{Q:List A4->ο}(An:A.handled=none)(hd:(d==H_)=false)(hm:Jy s.heap d A2 Ak)(AQ:A2.size<=CK)(CI:∀h' BU,(∀b o,dl->h'.get? b=some o)->s.heap.objs.size<h'.objs.size->Q (A2.toList.map (·.key)) BT):AW ψ A (collect (.ref d)) Q E s:=by
 have F9:d<s.heap.objs.size:=by obtain⟨o,AN,_⟩:=hm;exact Cr AN
 have VV:s.heap.objs.size≠d:=λe=>Hc _ (e▸F9);unfold collect;refine AF (gi (P7 F.entry_proto_collect ?_));rw[QW F.plain_proto_collect _];show AW _ A.in1 (newList []>>=λl=>again (.builtin "list.__iadd__" ⟨[l,.ref d],[]⟩)) _ _ s;refine AF (Ih ?_);refine Ag ⟨SY Xv _,P7 F.entry_list_iadd ?_⟩;rw[QW Xv _];have P3:Jy (s.heap.push { cls:=.type "list",data:=.seq ([]:List A4).toArray }) d A2 Ak:=hm.at λo e=>Cp _ e;have VT:(s.heap.push { cls:=.type "list",data:=.seq ([]:List A4).toArray }).get? s.heap.objs.size=some { cls:=.type "list",data:=.seq ([]:List A4).toArray }:=EB _ rfl;show AW _ A.in1 (XN (.ref s.heap.objs.size) (.ref d) (.ref s.heap.objs.size)) _ _ { s with heap:=s.heap.push { cls:=.type "list",data:=.seq ([]:List A4).toArray } };generalize D2:s.heap.push { cls:=.type "list",data:=.seq ([]:List A4).toArray }=f1 at P3 VT |-;unfold XN;refine AF (Sh (s:={ s with heap:=f1 }) (P3.typeIs (s:={ s with heap:=f1 })) ?_);have A5:XM (.ref s.heap.objs.size) (.ref d)=false:=by simp[XM,VV]
 rw[if_neg (by rw[A5];decide)];refine AF (aeU (s:={ s with heap:=f1 }) hd P3 ?_);dsimp only;have GO:(f1.push { cls:=.type "dict_keyiterator",data:=.fields #[.ref d,.int 0 0,.int A2.size 0,.int Ak 0] }).IsKeyIter f1.objs.size d 0 A2.size Ak:=⟨_,EB _ rfl,rfl,rfl⟩;have Ib:Jy (f1.push { cls:=.type "dict_keyiterator",data:=.fields #[.ref d,.int 0 0,.int A2.size 0,.int Ak 0] }) d A2 Ak:=P3.at λo e=>Cp _ e;have S2:(f1.push { cls:=.type "dict_keyiterator",data:=.fields #[.ref d,.int 0 0,.int A2.size 0,.int Ak 0] }).get? s.heap.objs.size=some { cls:=.type "list",data:=.seq ([]:List A4).toArray }:=Cp _ VT;have Li:∀b o,dl->(f1.push { cls:=.type "dict_keyiterator",data:=.fields #[.ref d,.int 0 0,.int A2.size 0,.int Ak 0] }).get? b=some o:=λb o e=>Cp _ (by rw[<-D2];exact Cp _ e);have Ao:f1.objs.size=s.heap.objs.size+1:=by rw[<-D2];exact size_push' _ _
 generalize f1.push { cls:=.type "dict_keyiterator",data:=.fields #[.ref d,.int 0 0,.int A2.size 0,.int Ak 0] }=f2 at GO Ib S2 Li |-;have e_:d≠f1.objs.size:=Eb (by rw[Ao];exact U_ F9);have W:=(aeV (prog:=prog) (w:=w) (A:=A.in1) An f1.objs.size d e_ A2 Ak).toS;have No:s.heap.objs.size∉[f1.objs.size,d]:=λh=>by
  rcases List.mem_cons.mp h with e|h
  .lia
  .exact VV (List.mem_singleton.mp h)
 refine AF (Hb ?_);unfold rd;refine AF (Qf (s:={ s with heap:=f2 }) (Ib.typeIs (s:={ s with heap:=f2 })) uI ?_)
 (generalize S5:("dict.__len__" :String)=Wd;(fail_if_success (clear S5 Wd));wp_delta;rw[show splitId Wd=some ("dict","__len__")from by subst S5;decide+kernel];subst S5)
 refine AF (Nr (b:=true) (Ib.typeIs (s:={ s with heap:=f2 })) (by rw[YB];kernel_rfl) ?_);rw[if_neg γ];dsimp only;rw[if_pos (by decide+kernel)];refine AF (Sh (Ib.typeIs (s:={ s with heap:=f2 })) ?_);refine Ag ?_;rw[if_pos (by decide+kernel)];refine AF (JI (AF ?_));show AW _ A.in1 (updateSeq s.heap.objs.size (·.push .none)>>=λ_=>updateSeq s.heap.objs.size (·.pop)) _ _ { s with heap:=f2 };refine AF (Xh (s:={ s with heap:=f2 }) S2 rfl ?_);have VU:=KU (Go (·.push FF)) S2 rfl;refine Xh VU rfl ?_;have dN:=KU (Go (·.pop)) VU rfl
 have Kq:∀b o,b≠s.heap.objs.size->f2.get? b=some o->
   ((f2.update s.heap.objs.size (Go (·.push FF))).update s.heap.objs.size (Go (·.pop))).get? b=some o:=
  λb o J e=>(SN _ _ (He J)).trans ((SN _ _ (He J)).trans e)
 refine Ag ⟨SY F.plain_extend_loop _,codeAny_extend_loopS W AQ _ No _ A2.size 0 _ _ _ δ (Hy _)
  (W.frame 0 ({ s with heap:=f2 }:AM) _ s.toks ⟨GO,Ib⟩ (CS _) λb J o e=>Kq b o (λh=>No (h▸J)) e) dN (ItemsOf.nil _) λs' Te Eo db Oy ZQ=>?_⟩
 show AW _ A (load s.heap.objs.size>>=_) _ _ s';refine AF (wpAny_load Oy ?_);refine Ag ?_;show Q Te.toList s';rw[aaQ ZQ];obtain⟨Fk,FY,NF,Wp,abV⟩:=db;have FJ:=Cr Oy;obtain⟨a1,a2,G7,Kk,Q6⟩:=s';dsimp only at Fk FY NF Wp FJ;subst FY NF Wp;refine CI a1 Kk (λb o e=>?_) FJ;have J:=Cr e;exact Fk b o (λz=>by
  rcases List.mem_cons.mp z with e|z
  .rw[e]at J;exact Hc _ J
  .rw[List.mem_singleton.mp z,Ao]at J;exact absurd J (Nat.not_lt.mpr (M3 _))) (Kq b o (λz=>by rw[z]at J;exact Hc _ J) (Li b o e))
end
inductive KM(h:B2)(v:A4):Int×Int×Int->Prop
 |at_ (a:A6) (o:Obj) (m:Nat) (t u:Tok) (x:Int):v=.ref a->h.get? a=some o->o.cls=.type "tuple"->o.data=.seq #[.str (Ek "at") t,.int x u] m->KM h v (0,x,0)
 |Vx (a:A6) (o:Obj) (m:Nat) (t u:Tok) (x:Int):v=.ref a->h.get? a=some o->o.cls=.type "tuple"->o.data=.seq #[.str (Ek "drop") t,.int x u] m->KM h v (1,x,0)
 |PT (a:A6) (o:Obj) (m:Nat) (t u FE:Tok) (x y:Int):v=.ref a->h.get? a=some o->o.cls=.type "tuple"->o.data=.seq #[.str (Ek "out") t,.int x u,.int y FE] m->KM h v (2,x,y)
 |NV (a:A6) (o:Obj) (m:Nat) (t:Tok):v=.ref a->h.get? a=some o->o.cls=.type "tuple"->o.data=.seq #[.str (Ek "ring") t] m->KM h v (3,0,0)
theorem KM.data{h:B2}{v:A4}{k:Int×Int×Int}(x:KM h v k):∃a o m its,v=.ref a/\h.get? a=some o/\o.data=.seq its m/\
  ((∃t u,k=(0,k.2.1,0)/\its= #[.str (Ek "at") t,.int k.2.1 u])\/(∃t u,k=(1,k.2.1,0)/\its= #[.str (Ek "drop") t,.int k.2.1 u])\/(∃t u FE,k=(2,k.2.1,k.2.2)/\its= #[.str (Ek "out") t,.int k.2.1 u,.int k.2.2 FE])\/∃t,k=(3,0,0)/\its= #[.str (Ek "ring") t]):=by
 cases x with
 |at_ a o n t u x A7 AH B1 CV=>exact⟨a,o,n,_,A7,AH,CV,.inl ⟨t,u,rfl,rfl⟩⟩
 |Vx a o n t u x A7 AH B1 CV=>exact⟨a,o,n,_,A7,AH,CV,.inr (.inl ⟨t,u,rfl,rfl⟩)⟩
 |PT a o n t u FE x y A7 AH B1 CV=>exact⟨a,o,n,_,A7,AH,CV,.inr (.inr (.inl ⟨t,u,FE,rfl,rfl⟩))⟩
 |NV a o n t A7 AH B1 CV=>exact⟨a,o,n,_,A7,AH,CV,.inr (.inr (.inr ⟨t,rfl,rfl⟩))⟩
def KM.inj{h:B2}{v:A4}{k k':Int×Int×Int}(x:KM h v k)(y:KM h v k'):k=k':=by obtain⟨a,o,m,its,rfl,AN,hd,x⟩:=x.data;obtain⟨Ix,Bo,Ds,its',e,Dr,F8,y⟩:=y.data;cases e;rw[AN]at Dr;cases Dr;rw[hd]at F8;injection F8 with F8 _;subst F8;rcases x with⟨t,u,e,f⟩|⟨t,u,e,f⟩|⟨t,u,FE,e,f⟩|⟨t,e,f⟩<;>rcases y with⟨DO,IN,AH,f2⟩|⟨DO,IN,AH,f2⟩|⟨DO,IN,afX,AH,f2⟩|⟨DO,AH,f2⟩<;>(rw[f]at f2;simp at f2)<;>first|(exact absurd f2.1.1 ε)|(exact absurd f2.1 ε)|(rw[e,AH];try simp[f2])
def KM.first{h:B2}{v:A4}{k:Int×Int×Int}(x:KM h v k)(s:AM):∃u,(∃a o m r,v=DF a/\h.get? a=some o/\o.cls=.type "tuple"/\o.data=.seq (u::r).toArray m)/\gV s u "str":=by
 cases x with
 |at_ a o n t u x A7 AH B1 CV=>exact⟨_,⟨a,o,n,_,A7,AH,B1,CV⟩,Qn _ _ _⟩
 |Vx a o n t u x A7 AH B1 CV=>exact⟨_,⟨a,o,n,_,A7,AH,B1,CV⟩,Qn _ _ _⟩
 |PT a o n t u FE x y A7 AH B1 CV=>exact⟨_,⟨a,o,n,_,A7,AH,B1,CV⟩,Qn _ _ _⟩
 |NV a o n t A7 AH B1 CV=>exact⟨_,⟨a,o,n,_,A7,AH,B1,CV⟩,Qn _ _ _⟩
def KM.mono{h h':B2}{v:A4}{k:Int×Int×Int}(m:∀b o,h.get? b=some o->h'.get? b=some o)(x:KM h v k):KM h' v k:=by
 cases x with
 |at_ a o n t u x A7 AH B1 CV=>exact .at_ a o n t u x A7 (m _ _ AH) B1 CV
 |Vx a o n t u x A7 AH B1 CV=>exact .Vx a o n t u x A7 (m _ _ AH) B1 CV
 |PT a o n t u FE x y A7 AH B1 CV=>exact .PT a o n t u FE x y A7 (m _ _ AH) B1 CV
 |NV a o n t A7 AH B1 CV=>exact .NV a o n t A7 (m _ _ AH) B1 CV
section
variable{prog:Ba}{w:BL}{A:Bt}{E:ξ}{s:AM}{A2:Array M7}
def aea{d:A6}{Ak:Nat}{κ:KeyKind}{kd:Il}{vs:List A4}{Q:ξ}(An:A.handled=none)(hd:(d==H_)=false)(hm:Jy s.heap d A2 Ak)(ev:A2.toList.map (·.key)=vs)(AQ:vs.length<64)(AG:∀(h':B2)(BU:Nat)(KS:Bt)(O6:ξ),KS.units<=A.units+8->(∀b o,dl->h'.get? b=some o)->vs≠[]->(∀R:Il->ο,R kd BT->AW ψ KS (Qr vs.toArray) R O6 BT)/\LX prog w KS BT kd κ (pairsOf vs))(h:∀(u:G4)(l:A6)(h':B2) BU e,(Bm u).Perm (pairsOf vs)->GH κ (Bm u) (pairsOf vs).size->s.heap.objs.size<=l->(∀b o,dl->h'.get? b=some o)->h'.get? l=some (Ew "list" ((Bm u).map (·.2)) e)->Q (.ref l) BT) :
  AW ψ A (call (.builtin "sorted") [.ref d]) Q E s:=by
 refine fp kind_sorted plain_sorted entry_sorted (args_sorted1 _) ?_;unfold Gq.«sorted»;have Ao:A2.size<=CK:=by have:=congrArg M4 ev;rw[Ea,SX]at this;rw[Ii];lia
 refine AF (m:=checkCount "sorted" 1 1 _) (Ag (AF (u2 (A:=A.in1) An hd hm Ao λf BU kp Ao=>?_)));rw[ev];refine AF (Y6 ?_);have g:(f.push (Ew "list" vs.toArray 0)).get? f.objs.size=some (Ew "list" vs.toArray 0):=EB _ rfl;have keep:∀b o,dl->(f.push (Ew "list" vs.toArray 0)).get? b=some o:=λb o e=>Cp _ (kp b o e);have Ao:=Nx Ao;show AW _ _ _ _ _ { s with heap:=f.push (Ew "list" vs.toArray 0),toks:=BU };refine AF (Hb (Gn gg ⟨_,g,rfl⟩ gY (eO (s:={ s with heap:=f.push (Ew "list" vs.toArray 0),toks:=BU }) (κ:=κ) (kd:=kd) g AQ (λh' k ne=>AG h' BU _ _ (by erw[gI];lia) (λb o e=>k b o (λz=>absurd (z▸Cr e) (Nat.not_lt.mpr Ao)) (keep b o e)) ne) λu AX AK=>⟨_,rfl,?_⟩) (gh _)));obtain⟨e,ge⟩:=sortedHeap_at (out:=(Bm u).map (·.2)) g;refine Ag ⟨_,rfl,h u _ _ BU e AX AK Ao (λb o q=>?_) ge⟩;have W6:=keep b o q;exact(sortedHeap_old (λz:b=f.objs.size=>absurd (z▸Cr q) (Nat.not_lt.mpr Ao)) (Cr W6)).trans W6
def abU{a Ix:A6}{o Bo:Obj}{m Ds:Nat}{x y:Str}{t u:Tok}{r BB:List A4}{Q:Bool->ο}(AN:s.heap.get? a=some o)(hd:o.data=.seq (.str x t::r).toArray m)(Dr:s.heap.get? Ix=some Bo)(F8:Bo.data=.seq (.str y u::BB).toArray Ds)(ne:x≠y)(h:Q (decide (x.cps.toList<y.cps.toList)) s):AW ψ A (keyLt' (PL true) (.ref a) (.ref Ix)) Q E s:=by rw[dF];refine AF (PG AN hd (AF (PG Dr F8 ?_)));erw[M0,Qe,Qb];refine AF (AF (AF (Xx ?_)));rw[if_pos (ne:)];exact AF (oneLt_str (Ag (Ag (Ag h))))
def n7{a Ix:A6}{o Bo:Obj}{m Ds:Nat}{x:Str}{t u t1 MK:Tok}{i j:Int}{r BB:List A4}{Q:Bool->ο}(AN:s.heap.get? a=some o)(hd:o.data=.seq (.str x t::.int i t1::r).toArray m)(Dr:s.heap.get? Ix=some Bo)(F8:Bo.data=.seq (.str x u::.int j MK::BB).toArray Ds)(A5:i≠j->Q (decide (i<j)) s)(A8:i=j->(r=[]/\BB=[]/\Q false s)\/∃p q DO IN,r=[.int p DO]/\BB=[.int q IN]/\Q (decide (p<q)) s):AW ψ A (keyLt' (PL true) (.ref a) (.ref Ix)) Q E s:=by
 rw[dF];refine AF (PG AN hd (AF (PG Dr F8 ?_)));erw[M0,Qe,Qb];refine AF (AF (AF (Xx ?_)));rw[if_neg γ];refine Ag ?_;dsimp only;refine AF (AF (gF ?_));by_cases e:i=j
 .rw[if_neg (by simp[e])];refine Ag ?_;dsimp only;rcases A8 e with⟨rfl,rfl,h⟩|⟨p,q,DO,IN,rfl,rfl,h⟩
  .erw[gE,Uf,Un];exact Ag (Ag h)
  .erw[M0,gE,Qe,Uf,Qb,Un];refine AF (AF (gF ?_));by_cases B1:p=q
   .rw[if_neg (by simp[B1])];rw[B1]at h;exact Ag (Ag (Ag (h:)))
   .rw[if_pos (B1:)];exact AF (mK (nu ⟨_,rfl,Ag (Ag (Ag h))⟩))
 .rw[if_pos (e:)];exact AF (mK (nu ⟨_,rfl,Ag (Ag (Ag (A5 e)))⟩))
def n6{x y:A4}{k k':Int×Int×Int}{Q:Bool->ο}(AJ:KM s.heap x k)(BO:KM s.heap y k')(h:Q (ltI (Gi k) (Gi k')) s):AW ψ A (keyLt' (PL true) x y) Q E s:=by
 obtain⟨a,o,m,its,rfl,AN,hd,AJ⟩:=AJ.data;obtain⟨Ix,Bo,Ds,its',rfl,Dr,F8,BO⟩:=BO.data
 rcases AJ with⟨t,u,e,f⟩|⟨t,u,e,f⟩|⟨t,u,FE,e,f⟩|⟨t,e,f⟩<;>rcases BO with⟨DO,IN,AH,f2⟩|⟨DO,IN,AH,f2⟩|⟨DO,IN,afX,AH,f2⟩|⟨DO,AH,f2⟩<;>rw[e,AH]at h<;>rw[f]at hd<;>rw[f2]at F8<;>first
  |(refine abU AN hd Dr F8 ε (Eq.mp (congrArg (λz=>Q z s) ?_) h);kernel_rfl)
  |(refine n7 AN hd Dr F8 (λne=>?_) (λeq=>.inl ⟨rfl,rfl,?_⟩)<;>erw[Gi,ltI,if_true]at h<;>first|(rw[if_neg ne]at h;exact h)|(rw[if_pos eq]at h;exact h))
  |(refine n7 AN hd Dr F8 (λne=>?_) (λeq=>.inr ⟨_,_,_,_,rfl,rfl,?_⟩)<;>erw[Gi,ltI,if_true]at h<;>first|(rw[if_neg ne]at h;exact h)|(rw[if_pos eq]at h;by_cases bu:k.2.2=k'.2.2<;>first|(rw[if_pos bu]at h;rw[bu];simpa using h)|(rw[if_neg bu]at h;exact h)))
  |(rw[dF]
    refine AF (PG AN hd (AF (PG Dr F8 ?_)));erw[M0,gE,Qe,Uf,Qb,Un];refine AF (AF (AF (Xx ?_)));rw[if_neg γ];exact Ag (Ag (Ag (by simpa[Gi,ltI]using h))))
def l_{vs:List A4}{R:Il->ο}(ne:vs≠[])(BE:∀v∈vs,∃k,KM s.heap v k)(hR:R (PL true) s):AW ψ A (Qr vs.toArray) R E s:=by obtain⟨xN,kW⟩:=oH FF λv h=>(let⟨_,x⟩:=BE v h;x.first s);exact aaS (g:=xN) (T:="str") ne (λv BE=>(kW v BE).1) (λv BE=>(kW v BE).2) hR
open Classical in
noncomputable def Wk(h:B2):KeyKind:={ Zo with keyOf:=λv=>if q:∃k,KM h v k then some (Gi (choose q))else none,dflt:=[] }
def TU{h:B2}{v:A4}{k:Int×Int×Int}(x:KM h v k):(Wk h).keyOf v=some (Gi k):=by have q:∃k,KM h v k:=⟨k,x⟩;exact(dif_pos q).trans (congrArg (λz=>some (Gi z)) ((g9 q).inj x))
def aeZ{d:A6}{Ak:Nat}{us:List A4}{ks:List (Int×Int×Int)}{Q:ξ}(An:A.handled=none)(hd:(d==H_)=false)(hm:Jy s.heap d A2 Ak)(I4:A2.toList.map (·.key)=us)(AQ:us.length<64)(AP:us.length=ks.length)(AG:∀(i:Nat) v k,us[i]?=some v->ks[i]?=some k->KM s.heap v k)(h:∀(vs:List A4)(l:A6)(h':B2) BU e,vs.length=us.length->(∀(i:Nat) v k,vs[i]?=some v->(E4 ks)[i]?=some k->v∈us/\KM s.heap v k)->s.heap.objs.size<=l->(∀b o,dl->h'.get? b=some o)->h'.get? l=some (Ew "list" vs.toArray e)->Q (.ref l) BT) :
  AW ψ A (call (.builtin "sorted") [.ref d]) Q E s:=by
 obtain⟨KC,I6,c1⟩:=oJ default (R:=KM s.heap) (λ_ _ _ x y=>x.inj y) AP AG;obtain⟨vs,ev⟩:∃vs,A2.toList.map (·.key)=vs:=⟨_,rfl⟩;have pu:vs.Perm us:=by rw[<-ev,<-I4]
 have pm:∀p∈(pairsOf vs).toList,p.1=p.2/\p.1∈us:=λp AX=>by rw[Uo]at AX;have:=YO AX;exact⟨this.1,pu.mem_iff.mp this.2⟩
 refine aea (κ:=Wk s.heap) (kd:=PL true) An hd hm ev (by rw[pu.length_eq];exact AQ) (λh' BU KS O6 Gj kp ne=>⟨λR hR=>?_,⟨λi8 x y hr AJ BO CI=>?_⟩⟩) λu l h' BU e AX AK Hn kp g=>?_
 .exact l_ ne (λv BE=>⟨_,(I6 v (pu.mem_iff.mp BE)).mono kp⟩) hR
 .obtain⟨_,E3⟩:=pm x AJ;obtain⟨_,GE⟩:=pm y BO;rw[TU (I6 _ E3),TU (I6 _ GE)]at CI;exact n6 (s:=BT) ((I6 _ E3).mono kp) ((I6 _ GE).mono kp) CI
 .obtain⟨HG,K5,HU,Rv⟩:=fR (f:=(Wk s.heap).keyOf) (g:=λv=>Gi (KC v)) pu (λv BE=>TU (I6 v BE)) AX AK;have A2:HG.map KC=E4 ks:=fQ (by rw[c1];exact HU.map KC) (List.pairwise_map.mpr Rv);rw[K5]at g;refine h HG l h' BU e HU.length_eq (λi v k A7 AH=>?_) Hn kp g;have mv:v∈us:=HU.mem_iff.mp (HY A7);rw[<-A2,Dm,A7]at AH;simp at AH;exact⟨mv,by rw[<-AH];exact I6 v mv⟩
end
end LT
namespace Bv
open PySem PySem.Spec PyProof.Rows
noncomputable def FM(k:Int×Int×Int):Bq:=if k.1=0 then[.inl (.inr (Ek "at")),.inl (.inl k.2.1)]else if k.1=1 then[.inl (.inr (Ek "drop")),.inl (.inl k.2.1)]else if k.1=2 then[.inl (.inr (Ek "out")),.inl (.inl k.2.1),.inl (.inl k.2.2)]else[.inl (.inr (Ek "ring"))]
def N_(k:Int×Int×Int):Prop:=k=(0,k.2.1,0)\/k=(1,k.2.1,0)\/k=(2,k.2.1,k.2.2)\/k=(3,0,0)
def z1{i:Int}{v:A4}(h:OP (.inl i) v=true):∃t,v=.int i t:=by
 rcases LD h with⟨j,t,e,rfl⟩|⟨x,t,e,rfl⟩<;>cases e
 exact⟨t,rfl⟩
def z2{x:Str}{v:A4}(h:OP (.inr x) v=true):∃t,v=.str x t:=by
 rcases LD h with⟨j,t,e,rfl⟩|⟨y,t,e,rfl⟩<;>cases e
 exact⟨t,rfl⟩
def acD{P:Ba}{w:BL}{h:B2}{x:Str}{ks:Bq}{l:List A4}(n:Ga P w h (.inl (.inr x)::ks) l):∃t r,l=.str x t::r/\Ga P w h ks r:=by
 cases n with
 |cons a b=>obtain⟨t,rfl⟩:=z2 a;exact⟨t,_,rfl,b⟩
def aE{P:Ba}{w:BL}{h:B2}{x:Int}{ks:Bq}{l:List A4}(n:Ga P w h (.inl (.inl x)::ks) l):∃t r,l=.int x t::r/\Ga P w h ks r:=by
 cases n with
 |cons a b=>obtain⟨t,rfl⟩:=z1 a;exact⟨t,_,rfl,b⟩
def aF{P:Ba}{w:BL}{h:B2}{l:List A4}(n:Ga P w h [] l):l=[]:=by cases n;rfl
def dJ{P:Ba}{w:BL}{K:AZ}{H:AA}{h:B2}{b:A6}{k:Int×Int×Int}(ok:E6 P w K H h)(JA:K.In h)(g:N_ k)(e:Iv K H (FM k) b):LT.KM h (.ref b) k:=by
 obtain⟨o,its,n,AN,AO,hd,eb⟩:=(show Iu P w h (FM k) b from dH ok JA e);generalize el:its.toList=l at eb;have Av:its=l.toArray:=by rw[<-el]
 subst Av;rcases g with g|g|g|g<;>rw[g]at eb |-<;>obtain⟨t,r,rfl,DC⟩:=acD eb
 .obtain⟨u,BA,rfl,DW⟩:=aE DC;rw[aF DW]at hd;exact .at_ b o n t u _ rfl AN AO hd
 .obtain⟨u,BA,rfl,DW⟩:=aE DC;rw[aF DW]at hd;exact .Vx b o n t u _ rfl AN AO hd
 .obtain⟨u,BA,rfl,DW⟩:=aE DC;obtain⟨FE,E9,rfl,Kn⟩:=aE DW;rw[aF Kn]at hd;exact .PT b o n t u FE _ _ rfl AN AO hd
 .rw[aF DC]at hd;exact .NV b o n t rfl AN AO hd
section
variable{X:Ad}
noncomputable def aeO(K:AZ):List V->AA->CQ->Prop:=λxs H Q=>∃p Ac ks,xs=[.ref p]/\Fc H p (.B5 Ac)/\Ac.length<64/\Ac.map (·.1)=ks.map FM/\(∀k∈ks,N_ k)/\
 ∀l zs,H l=none->zs.length=ks.length->(∀(i:Nat) z k,zs[i]?=some z->(LT.E4 ks)[i]?=some k->∃b,z=.ref b/\Iv K H (FM k) b)->Q (.ref l) (upd H l (.lst zs))
def tr(An:X.A.handled=none):HM X (.builtin "sorted") (aeO X.K):=by
 intro pins s σ H xs us Q I r h;obtain⟨p,Ac,ks,rfl,AT,P_,AG,Aa,q⟩:=h;obtain⟨u,rfl,BS⟩:=vals1 r;cases BS;obtain⟨Ao,BO,xs,kt,o,A2,Ak,A5,A8,Au,BC,EL,Cu,_⟩:=Vz I.BX I.EA AT;have ae:Ac.length=xs.length:=Paired.length kt;have lk:Ac.length=ks.length:=(congrArg M4 AG:)
 have Co:A2.toList.map (·.key)=(xs.map (·.2.1)).map DF:=by rw[BC,Hd,Hd];rfl
 have all:∀(i:Nat) v k,((xs.map (·.2.1)).map DF)[i]?=some v->ks[i]?=some k->∃b,v=.ref b/\Iv X.K H (FM k) b:=λi v k A7 AH=>by
  rw[Hd,Dm]at A7;obtain⟨x,ex,rfl⟩:=Option.map_eq_some_iff.mp A7;have AC:=(List.getElem?_eq_some_iff.mp ex).1;have VJ:Ac[i]?=some Ac[i]:=DV δ;have pp:=eD kt i _ _ VJ ex;have:(Ac.map (·.1))[i]?=(ks.map FM)[i]?:=by rw[AG]
  rw[Dm,Dm,VJ,AH]at this;have this:Ac[i].1=FM k:=(this:)
  exact⟨x.2.1,rfl,by rw[<-this];exact pp.2.1⟩
 have lv:((xs.map (·.2.1)).map DF).length=ks.length:=θ
 refine LT.aeZ (ks:=ks) An BO ⟨o,A5,A8,Au⟩ Co δ lv (λi v k A7 AH=>?_) λvs l h' BU e F1 g AX kp gl=>?_
 .obtain⟨b,rfl,LC⟩:=all i v k A7 AH;exact dJ I.BX I.EA (Aa k (HY AH)) LC
 .obtain⟨zs,Fo,FQ,IP⟩:=fB (R:=λz k=>∃b,z=V.ref b/\Iv X.K H (FM k) b) (vs:=vs) (ks:=LT.E4 ks) (by rw[F1,(LT.Jp ks).length_eq];exact lv) λi v k A7 AH=>by
    obtain⟨g1,g2⟩:=g i v k A7 AH;obtain⟨j,Bs,J0⟩:=Mz g1;obtain⟨b,Bh,LC⟩:=all j v (ks[j]' δ) (by rw[DV Bs,J0]) (DV δ);subst Bh;have:=(dJ I.BX I.EA (Aa _ (Lx _)) LC).inj g2;rw[this]at LC;exact⟨.ref b,rfl,b,rfl,LC⟩
  refine⟨.ref l,_,I.laid (a:=l) (t':=BU) kp AX (show Em X.prog X.w X.K _ _ _ (.lst zs)from⟨by rw[FQ,F1,Ii];lia,vs,e,Fo,gl⟩),rfl,q l zs (I.BX.fresh AX) δ IP⟩
end
end Bv
namespace CR
open PySem PySem.Spec Bv PyProof.Rows
noncomputable def WN:Bq->Option (Int×Int×Int)
 |[.inl (.inr x),.inl (.inl h)]=>if x=Ek "at" then some (0,h,0)else if x=Ek "drop" then some (1,h,0)else none
 |[.inl (.inr x),.inl (.inl h),.inl (.inl d)]=>if x=Ek "out" then some (2,h,d)else none
 |[.inl (.inr x)]=>if x=Ek "ring" then some (3,0,0)else none
 |_=>none
def Ri:List Bq->Option (List (Int×Int×Int))
 |[]=>some []
 |d::ds=>match WN d,Ri ds with
  |some k,some ks=>some (k::ks)
  |_,_=>none
def Ce(k:Int×Int×Int):D:=if k.1=3 then .EI [.str (Ek "ring")]else .tup ((FM k).map UO)
def nF{n:Bq}{k:Int×Int×Int}(h:WN n=some k):n=FM k/\N_ k:=by
 unfold WN at h
 split at h
 .split at h
  .rename_i e;cases h;rw[e];exact⟨rfl,.inl rfl⟩
  .split at h
   .rename_i e;cases h;rw[e];exact⟨rfl,.inr (.inl rfl)⟩
   .cases h
 .split at h
  .rename_i e;cases h;rw[e];exact⟨rfl,.inr (.inr (.inl rfl))⟩
  .cases h
 .split at h
  .rename_i e;cases h;rw[e];exact⟨rfl,.inr (.inr (.inr rfl))⟩
  .cases h
 .cases h
theorem nH:∀{ns:List Bq}{ks:List (Int×Int×Int)},Ri ns=some ks->ns=ks.map FM/\∀k∈ks,N_ k
 |[],ks,h=>by erw[Ri]at h;cases h;exact⟨rfl,λk AG=>nomatch AG⟩
 |d::ds,ks,h=>by
  erw[Ri]at h
  split at h
  .rename_i k ks' A7 AH;cases h;obtain⟨rfl,g1⟩:=nF A7;obtain⟨rfl,g2⟩:=nH AH;refine⟨rfl,λk AG=>?_⟩;rcases List.mem_cons.mp AG with rfl|AG
   .exact g1
   .exact g2 k AG
  .cases h
def b_:χ->R χ
 |[.B5 ns _]=>match Ri ns with
  |some ks=>if ns.length<64 then .ok ((LT.E4 ks).map Ce)else .bad
  |none=>.bad
 |_=>.bad
def WD(m:Ap):Ap:=λρ=>(m ρ).bind b_
def uE{K:AZ}{G H:AA}{b:A6}{k:Int×Int×Int}(g:N_ k)(e:Iv K H (FM k) b):At K (H6 G H) (Ce k) (.ref b):=by
 have tt:∀b ys,H b=some (.tup ys)->H6 G H b=some (.tup ys):=λ_ _ e=>i2 e;by_cases Au:k.1=3
 .have D7:FM k=[.inl (.inr (Ek "ring"))]:=by unfold FM;rw[Au];rfl
  rw[D7]at e;unfold Ce;rw[if_pos Au];erw[At];rcases e with⟨vs,ev,HU⟩|⟨x,o,n,t,A7,AG,AO,hd⟩
  .cases HU with
   |cons a r=>cases r;have a:_=D_ _:=a;subst a;exact⟨b,_,rfl,Ct.of (tt _ _ ev),.cons (by erw[At];rfl) .nil⟩
  .obtain rfl:x=Ek "ring":=by simpa using A7.symm
   exact⟨b,[.str (Ek "ring")],rfl,.inr ⟨o,_,n,AG,AO,hd,by show 1<=CK;decide,.cons ⟨t,rfl⟩ .nil⟩,.cons ζ .nil⟩
 .unfold Ce;rw[if_neg Au];have BU:JU H (FM k) b:=e.elim id λ⟨x,_,_,_,A7,_⟩=>by
   rcases g with g|g|g|g
   .rw[g]at A7;cases A7
   .rw[g]at A7;cases A7
   .rw[g]at A7;cases A7
   .exact absurd (by rw[g]) Au
  obtain⟨vs,ev,HU⟩:=BU;erw[At];exact⟨b,vs,rfl,tt _ _ ev,WR tt HU⟩
section
variable{X:Ad}{F:B6}{e:AS}{pos p:Pos}{ma:Ap}
def ahY(An:X.A.handled=none)(hm:X.mg "sorted"=none)(AB:F6 X F [e] ma)(Ar:F.K=X.K:=by rfl)(Aa:Dg X "sorted":=by rfl)(he:Fr:=by rfl)(DQ:(Cq pos (B9 [] X.env)).any (·.1)=false:=by rfl) :
  JW X F (.Call (.Name "sorted" p) [e] [] pos) (WD ma):=by
 refine⟨Ay.imp (W2 (tr An) Aa hm η AB.1 ε ε he DQ) ?_⟩;delta WD r;refine rb h λds Av h vs H1 Ai AL s1 a=>?_;unfold b_ at h
 split at h
 .split at h
  .rename_i ks Co
   split at h
   .rename_i AK;obtain⟨v,rfl,B4⟩:=a.one;erw[At]at B4;obtain⟨q,xs,rfl,AT,AJ,Fd⟩:=B4;obtain⟨A7,l2⟩:=nH Co;refine⟨q,xs,ks,rfl,.inl (AL.kp.sub _ _ AT),by have:=congrArg M4 AJ;simp at this;lia,by rw[AJ,A7],l2,λl zs AP n8 Ao=>?_⟩;have BA:=AL.H6;refine h l _ _ _ (BA.lay0 AP) ((s1.trans (C5.H6 AL.kp.sub)).trans (C5.lay0 AP)) (s1.h.gone AP) Do (BA.kp.sub.gone AP) (hC (by rw[Ea,n8,(LT.Jp ks).length_eq]) λi x d A7 AH=>?_);rw[Dm]at AH;obtain⟨k,PV,rfl⟩:=Option.map_eq_some_iff.mp AH;obtain⟨b,rfl,LC⟩:=Ao i x k A7 PV;rw[<-Ar]at LC;exact uE (l2 k ((LT.Jp ks).mem_iff.mp (HY PV))) LC
   .exact h.elim
  .exact h.elim
 .exact h.elim
end
end CR
namespace LT
open PySem PyProof.Rows
section
variable{prog:Ba}{w:BL}{A:Bt}{E:ξ}{s:AM}
def aeY{l:A6}{vs:List A4}{ks:List (Int×Int×Int)}{Q:ξ}(AP:s.heap.IsList l vs.toArray)(P_:vs.length<64)(AQ:vs.length=ks.length)(AG:∀(i:Nat) v k,vs[i]?=some v->ks[i]?=some k->KM s.heap v k)(h:∀HG:List A4,HG.length=vs.length->(∀(i:Nat) v k,HG[i]?=some v->(E4 ks)[i]?=some k->v∈vs/\KM s.heap v k)->Q (.ref (s.heap.objs.size+1)) { s with heap:=sortedAll s.heap vs HG.toArray }) :
  AW ψ A (call (.builtin "sorted") [.ref l]) Q E s:=by
 obtain⟨KC,I6,c1⟩:=oJ default (R:=KM s.heap) (λ_ _ _ x y=>x.inj y) AQ AG;have pm:∀p∈(pairsOf vs).toList,p.1=p.2/\p.1∈vs:=λp AX=>by rw[Uo]at AX;exact YO AX
 refine aeb (κ:=Wk s.heap) (kd:=PL true) AP P_ (λh' KS O6 Gj kp ne=>⟨λR hR=>?_,⟨λi8 x y hr AJ BO CI=>?_⟩⟩) λt AX AK=>?_
 .exact l_ (s:=i8) ne (λv BE=>⟨_,(I6 v BE).mono kp⟩) hR
 .obtain⟨_,E3⟩:=pm x AJ;obtain⟨_,GE⟩:=pm y BO;rw[TU (I6 _ E3),TU (I6 _ GE)]at CI;exact n6 (s:=i8) ((I6 _ E3).mono kp) ((I6 _ GE).mono kp) CI
 .obtain⟨HG,K5,HU,Rv⟩:=fR (f:=(Wk s.heap).keyOf) (g:=λv=>Gi (KC v)) (YC _) (λv BE=>TU (I6 v BE)) AX AK;have A2:HG.map KC=E4 ks:=fQ (by rw[c1];exact HU.map KC) (List.pairwise_map.mpr Rv);rw[K5];refine h HG HU.length_eq λi v k A7 AH=>?_;have mv:v∈vs:=HU.mem_iff.mp (HY A7);rw[<-A2,Dm,A7]at AH;simp at AH;exact⟨mv,by rw[<-AH];exact I6 v mv⟩
end
end LT
namespace Bv
open PySem PySem.Spec PyProof.Rows
def T_(H:AA)(y:V)(k:Int×Int×Int):Prop:=N_ k/\∃b,y=.ref b/\JU H (FM k) b
section
variable{X:Ad}
def lg{pins:υ}{σ :St}{H:AA}{s:AM}{y:V}{v:A4}{k:Int×Int×Int}(I:π)(C0:RelV y v)(x:T_ H y k):LT.KM s.heap v k:=by obtain⟨g,b,rfl,t⟩:=x;cases(show v=DF b from C0);exact dJ I.BX I.EA g (.inl t)
noncomputable def aeN(K:AZ):List V->AA->CQ->Prop:=λxs H Q=>∃p ys ks,xs=[.ref p]/\C4 K H p ys/\ys.length<64/\ys.length=ks.length/\(∀(i:Nat) y k,ys[i]?=some y->ks[i]?=some k->T_ H y k)/\
 ∀l zs,H l=none->zs.length=ys.length->(∀(i:Nat) z k,zs[i]?=some z->(LT.E4 ks)[i]?=some k->T_ H z k)->Q (.ref l) (upd H l (.lst zs))
def tq:HM X (.builtin "sorted") (aeN X.K):=by
 intro pins s σ H xs us Q I r h;obtain⟨p,ys,ks,rfl,AT,AQ,AG,kY,q⟩:=h;obtain⟨u,rfl,BS⟩:=vals1 r;cases BS;obtain⟨its,BB,pl,Ao⟩:=I.list AT;have hlen:=BB.length;refine LT.aeY (ks:=ks) pl.isList δ δ (λi v k A7 AH=>?_) λHG OR g=>?_
 .obtain⟨y,DZ,C0⟩:∃y,ys[i]?=some y/\RelV y v:=by
    have AC:i<ys.length:=by rw[hlen];exact(List.getElem?_eq_some_iff.mp A7).1
    obtain⟨Lo,CF,C9⟩:=BB.get (DV AC);rw[A7]at CF;cases CF;exact⟨_,DV AC,C9⟩
  exact lg I C0 (kY i y k DZ AH)
 .have back:∀v∈its,∃y∈ys,RelV y v:=λv BE=>by
    obtain⟨i,AC,rfl⟩:=Mz BE;have MV:i<ys.length:=δ
    obtain⟨Lo,CF,C9⟩:=BB.get (DV MV);rw[DV AC]at CF;cases CF;exact⟨_,Lx MV,C9⟩
  have find:∀y∈ys,∃k,T_ H y k:=λy BO=>by obtain⟨j,Bs,rfl⟩:=Mz BO;exact⟨_,kY j _ _ (DV Bs) (DV δ)⟩
  obtain⟨zs,Fo,FQ,IP⟩:=fB (R:=λz k=>T_ H z k) (vs:=HG) (ks:=LT.E4 ks) (by rw[OR,(LT.Jp ks).length_eq];lia) λi v k A7 AH=>by obtain⟨g1,g2⟩:=g i v k A7 AH;obtain⟨y,HW,GE⟩:=back v g1;obtain⟨k',NB⟩:=find y HW;have:=(lg I GE NB).inj g2;subst this;exact⟨y,GE,NB⟩
  obtain⟨Ak,he⟩:=sortedAll_at s.heap its HG.toArray;refine⟨.ref (s.heap.objs.size+1),_,I.laid (a:=s.heap.objs.size+1) (t':=s.toks) (λb o e=>sortedAll_old e) (M3 _) (show Em X.prog X.w X.K _ _ _ (.lst zs)from⟨by rw[Ii];lia,HG,Ak,Fo,he⟩),rfl,q _ zs (I.BX.fresh (M3 _)) δ IP⟩
end
end Bv
namespace CR
open PySem PySem.Spec Bv PyProof.Rows
def aU(d:D):Option (Int×Int×Int):=(J9 d).bind WN
def Je:χ->Option (List (Int×Int×Int))
 |[]=>some []
 |d::ds=>match aU d,Je ds with
  |some k,some ks=>some (k::ks)
  |_,_=>none
def Iz(k:Int×Int×Int):D:=.tup ((FM k).map UO)
def bZ:χ->R χ
 |[.lst ds]=>if ds.length<64 then match Je ds with
  |some ks=>.ok ((LT.E4 ks).map Iz)
  |none=>.bad
  else .bad
 |_=>.bad
def WC(m:Ap):Ap:=λρ=>(m ρ).bind bZ
def aaU{K:AZ}{G H:AA}{d:D}{v:V}{k:Int×Int×Int}(e:aU d=some k)(s:Sub G H)(a:At K G d v):T_ H v k:=by obtain⟨n,A7,AH⟩:=Option.bind_eq_some_iff.mp e;obtain⟨rfl,g⟩:=nF AH;obtain⟨b,rfl,J⟩:=OQ A7 a;exact⟨g,b,rfl,N6 J s⟩
theorem lb:∀{ds:χ}{ks:List (Int×Int×Int)},Je ds=some ks->ds.length=ks.length/\∀(i:Nat) d k,ds[i]?=some d->ks[i]?=some k->aU d=some k
 |[],ks,h=>by erw[Je]at h;cases h;exact⟨rfl,λi d k e=>by simp at e⟩
 |d::ds,ks,h=>by
  erw[Je]at h
  split at h
  .rename_i k ks' A7 AH;cases h;obtain⟨l,g⟩:=lb AH;refine⟨by simp[l],λi d' k' x y=>?_⟩;cases i with
   |zero=>simp at x y;subst x y;exact A7
   |succ i=>exact g i d' k' (x:) (y:)
  .cases h
section
variable{X:Ad}{F:B6}{e:AS}{pos p:Pos}{ma:Ap}
def ahX(hm:X.mg "sorted"=none)(AB:F6 X F [e] ma)(Ar:F.K=X.K:=by rfl)(Aa:Dg X "sorted":=by rfl)(he:Fr:=by rfl)(DQ:(Cq pos (B9 [] X.env)).any (·.1)=false:=by rfl) :
  JW X F (.Call (.Name "sorted" p) [e] [] pos) (WC ma):=by
 refine⟨Ay.imp (W2 tq Aa hm η AB.1 ε ε he DQ) ?_⟩;delta WC r;refine rb h λds Av h vs H1 Ai AL s1 a=>?_;unfold bZ at h
 split at h
 .split at h
  .rename_i F9
   split at h
   .rename_i ks Co;obtain⟨v,rfl,B4⟩:=a.one;erw[At]at B4;obtain⟨q,xs,rfl,AT,Fd⟩:=B4;obtain⟨lk,ZK⟩:=lb Co;have AP:=Fd.length;refine⟨q,xs,ks,rfl,C4.of (AL.kp.sub _ _ AT),δ,δ,λi y k A7 AH=>?_,λl zs Hn Ao Aa=>?_⟩
    .obtain⟨d',B1,G7⟩:=Fd.TB A7;exact aaU (ZK i d' k B1 AH) AL.kp.sub G7
    .have BA:=AL.H6;refine h l zs _ _ (BA.lay0 Hn) ((s1.trans (C5.H6 AL.kp.sub)).trans (C5.lay0 Hn)) (s1.h.gone Hn) Do (BA.kp.sub.gone Hn) (hC (by rw[Ea,(LT.Jp ks).length_eq];lia) λi z d A7 AH=>?_);rw[Dm]at AH;obtain⟨k,PV,rfl⟩:=Option.map_eq_some_iff.mp AH;obtain⟨g,b,rfl,ws,ev,HU⟩:=Aa i z k A7 PV;have tt:∀b ys,H1 b=some (.tup ys)->H6 Ai H1 b=some (.tup ys):=λ_ _ e=>i2 e;unfold Iz;erw[At];exact⟨b,ws,rfl,tt _ _ ev,WR tt HU⟩
   .exact h.elim
  .exact h.elim
 .exact h.elim
end
end CR
namespace Ex
open PySem PySem.Spec SetTable
noncomputable def tb(p:φ)(led:Bool):Ik:={ mask:=if p.length<5 then 7 else 31,place:=p.toArray,dummies:= #[],finger:=0,led:=led,moves:=if p.length<5 then 0 else 1,plain:=true }
noncomputable def J7(p:φ)(k:Nat):φ:=p.filter (· <k)++k::p.filter (k<·)
noncomputable def subs:List φ:=(DK 64).map λm=>(DK 6).filter λi=>m.testBit i
noncomputable def ar(p:φ)(k:Nat)(led:Bool):Bool:=
 decide ((tb p led).freeSlot (k:Int)=some (k,false))&&(decide (((tb p led).put k).2=(p.filter (· <k)).length)&&(decide (((tb p led).put k).1.place=(J7 p k).toArray)&&(((tb p led).put k).1.fits (p.length+1)&&(decide (p=p.filter (· <k)++p.filter (k<·))&&(decide (J7 p k∈subs)&&
  if((tb p led).put k).1.tooFull then decide (((tb p led).put k).1.relaid ((J7 p k).map Sq).toArray (SetTable.grown (p.length+1))=some (tb (J7 p k) led,(DK (p.length+1)).toArray))&&(coversAll (DK (p.length+1)).toArray (p.length+1)&&(tb (J7 p k) led).fits (p.length+1))else decide (((tb p led).put k).1=tb (J7 p k) led))))))
def agF:(subs.all λp=>(DK 6).all λk=>p.contains k||(ar p k true&&ar p k false))=true:=by decide+kernel
def agN:(subs.all λp=>decide (p.Pairwise (· <·))&&(decide (∀i∈p,i<6)&&((tb p true).fits p.length&&(tb p false).fits p.length)))=true:=by decide+kernel
def fX{p:φ}(h:p∈subs)(led:Bool):p.Pairwise (· <·)/\(∀i∈p,i<6)/\(tb p led).fits p.length=true:=by have:=List.all_eq_true.mp agN p h;erw[FR,decide_eq_true_eq]at this;obtain⟨a,b,c,d⟩:=this;exact⟨a,b,by cases led<;>assumption⟩
def agG{p:φ}{k:Nat}(h:p∈subs)(AG:k<6)(n:k∉p)(led:Bool):ar p k led=true:=by
 have:=List.all_eq_true.mp (List.all_eq_true.mp agF p h) k (List.mem_range.mpr AG);rw[List.contains_eq_mem,decide_eq_false n,Y2,FR]at this;cases led
 .exact this.2
 .exact this.1
theorem oD{α:Type}[DecidableEq α]:∀{S L:List α},S.Nodup->(∀x∈S,x∈L)->L.length<=S.length->L.Perm S
 |[],L,_,_,h=>by have:L=[]:=rj (h:);subst this;exact YC _
 |a::S,L,n,s,h=>by have AB:=s a LJ;have GV:=List.nodup_cons.mp n;refine(List.perm_cons_erase AB).trans (List.Perm.cons a (oD GV.2 (λx AJ=>(List.mem_erase_of_ne (λe=>GV.1 (by rw[<-e];exact AJ))).mpr (s x (FG _ AJ))) ?_));rw[List.length_erase_of_mem AB];simp at h;lia
def m6{α:Type}(xs:Array α)(p:Nat)(x:α):(insertAt xs p x).toList=xs.toList.take p++x::xs.toList.drop p:=by unfold insertAt;simp[Array.toList_extract,List.extract_eq_take_drop];exact UT γ
def sv{α:Type}(A2:Array α):((DK A2.size).toArray).filterMap (A2[·]?)=A2:=by
 apply YE;rw[Array.toList_filterMap];apply SP;intro i;have e:(DK A2.size).filterMap (A2[·]?)=A2.toList:=by
  have:(DK A2.size).filterMap (A2[·]?)=(DK A2.size).attach.map λi=>A2[i.1]'(List.mem_range.mp i.2):=by
   conv=>lhs;rw[<-List.attach_map_subtype_val (DK A2.size)]
   rw[List.filterMap_map];rw[<-List.filterMap_eq_map]
   congr 1
   funext i
   exact Js _
  rw[this];apply SP;intro j;by_cases Bs:j<A2.size
  .simp[Bs]
  .simp[Bs]
 simpa using congrArg (·[i]?) e
def kQ(prog:Ba)(w:BL){k:Nat}(h:k<6):(MA prog w).hash (k:Int)=(k:Int):=by
 have:k=0\/k=1\/k=2\/k=3\/k=4\/k=5:=δ
 rcases this with rfl|rfl|rfl|rfl|rfl|rfl<;>rfl
section
variable{prog:Ba}{w:BL}{A:Bt}{E:ξ}{s:AM}
structure Kh(w:BL)(h:B2)(a:A6)(S:List Int):Prop where
 ex:∃o A2 Ak p,h.get? a=some o/\o.ExactSet/\o.data=.set A2 Ak (tb p (!w.params.followText "set-order"))/\p∈subs/\A2.toList.map (·.1)=p.map Sq/\(∀e∈A2.toList,∃t,e.2=.int e.1 t)/\(∀k:Int,k∈S↔k∈p.map Sq)/\A2.size=S.length
def sq{a:A6}{S:List Int}{k:Nat}(kX:k<6){BU:Tok}{Q:Bool->ο}(T:Kh w s.heap a S)(h:∀b h',I0 a s.heap h'->Kh w h' a (if(k:Int)∈S then S else S++[(k:Int)])->Q b i8) :
  AW ψ A (setAddHashed a (.int (k:Int) BU) ((MA prog w).hash (k:Int))) Q E s:=by
 obtain⟨o,A2,Ak,p,AN,hex,hd,AX,hm,BE,IZ,AQ⟩:=T.ex;generalize xC:(!w.params.followText "set-order")=led at hd;obtain⟨_,Cu,TH⟩:=fX AX led;have Ao:A2.size=p.length:=by have:=congrArg M4 hm;simpa using this
 rw[<-Ao]at TH;have ki:(Jv (k:Int) BU).scannable=true:=rfl;have Ja:(MA prog w).is (k:Int) (.int (k:Int) BU)=true:=intKind_is _ _ _ _;have SG:p.length<=6:=by have:=Lu (l₂:=DK 6) ((fX AX led).1.imp Eb) λi AC=>List.mem_range.mpr (Cu i AC);simpa using this
 have J:A2.size<scanBound:=by show A2.size<4096;lia
 have dT:ElemsOf (MA prog w) A2.toList:=λe he=>by
  obtain⟨t,Hl⟩:=BE e he;have:e.1∈p.map Sq:=by rw[<-hm];exact List.mem_map.mpr ⟨e,he,rfl⟩
  obtain⟨n,AQ,Ca⟩:=List.mem_map.mp this;have Ca:e.1=(n:Int):=Ca.symm;rw[Hl];exact⟨⟨e.1,intKind_is _ _ _ _,by rw[Ca];exact(kQ prog w (Cu n AQ)).symm⟩,rfl⟩
 unfold setAddHashed setAddHashedIn;refine Hb (AF (Xw AN hd TH ?_));dsimp only;rw[byScan_of ki J dT];simp only[↓reduceIte];unfold setAddByScan;refine AF ?_;refine AF (JI ?_);refine AF (wpAny_setScan_of Ja AN hd TH dT ?_);cases hf:List.findIdx? (λe=>(MA prog w).is (k:Int) e.2) A2.toList with
 |some j=>
  dsimp only;obtain⟨Bs,kg,_⟩:=List.findIdx?_eq_some_iff_getElem.mp hf;have AG:(k:Int)∈S:=by
   obtain⟨t,Hl⟩:=BE A2.toList[j] (Lx Bs);rw[Hl]at kg;have e:A2.toList[j].1=(k:Int):=by simpa[MA,gk]using kg
   rw[IZ,<-hm,<-e];exact List.mem_map.mpr ⟨_,Lx Bs,rfl⟩
  refine Ag (Ag ?_);have:=h false s.heap (sJ a s.heap) (by rw[if_pos AG];exact T);exact this
 |none=>
  dsimp only;have kp:k∉p:=λz=>by
   have:(k:Int)∈A2.toList.map (·.1):=by rw[hm];exact List.mem_map.mpr ⟨k,z,rfl⟩
   obtain⟨e,he,VI⟩:=List.mem_map.mp this;obtain⟨t,Hl⟩:=BE e he;have:=List.findIdx?_eq_none_iff.mp hf e he;rw[Hl,VI,intKind_is]at this;cases this
  have no:(k:Int)∉S:=λz=>by
   obtain⟨n,AQ,Ca⟩:=List.mem_map.mp ((IZ _).mp z);have:n=k:=by have Ca:(n:Int)=(k:Int):=Ca;lia
   exact kp (this▸AQ)
  have sp:=agG AX kX kp led;erw[ar,FR,decide_eq_true_eq]at sp;obtain⟨f1,f2,Fh,f4,GS,jG,Ry⟩:=sp;generalize c8:((tb p led).put k).1=t1 at Fh f4 Ry;generalize eq1:((tb p led).put k).2=Al at f2;have ZT:(insertAt A2 Al ((k:Int),Jv (k:Int) BU)).toList.map (·.1)=(J7 p k).map Sq:=by
   rw[m6,Hx,Dc,Ul,List.map_drop,hm,f2];unfold J7;clear AX hm BE IZ Ao TH Cu dT kp f2 jG Ry Fh f4 f1 c8 eq1 SG hd T AQ;generalize p.filter (λx=>decide (x<k))=ak6 at GS |-;generalize p.filter (λx=>decide (k<x))=ak7 at GS |-;rw[GS,Hx,Hx,Dc]
   congr 1
   .rw[rk γ,UT γ]
   .rw[List.drop_append_of_le_length γ,List.drop_of_length_le γ];rfl
  have R1:(insertAt A2 Al ((k:Int),Jv (k:Int) BU)).size=A2.size+1:=by have:=congrArg M4 ZT;have DJ:=congrArg M4 GS;simp[J7]at this DJ;rw[this];lia
  have mi:∀e,e∈(insertAt A2 Al ((k:Int),Jv (k:Int) BU)).toList->e=((k:Int),Jv (k:Int) BU)\/e∈A2.toList:=λe he=>by
   rw[m6]at he;rcases List.mem_append.mp he with he|he
   .exact .inr (sW he)
   .rcases List.mem_cons.mp he with he|he
    .exact .inl he
    .exact .inr (List.mem_of_mem_drop he)
  have f4:t1.fits (insertAt A2 Al ((k:Int),Jv (k:Int) BU)).size=true:=by rw[R1,Ao];exact f4
  have vc:layNew (tb p led) A2 (k:Int) (.int (k:Int) BU)=(insertAt A2 Al ((k:Int),Jv (k:Int) BU),t1,false,false):=by unfold layNew;rw[f1];dsimp only;rw[c8,eq1];unfold SetTable.orStandIn;rw[if_pos f4,f4];rfl
  rw[kQ prog w kX,vc];dsimp only;generalize insertAt A2 Al ((k:Int),Jv (k:Int) BU)=Nl at ZT R1 mi f4;have acq:t1.plain=true:=by rw[<-c8];rfl
  have done:∀(h':B2)(Bo:Obj)(R0:Nat),I0 a s.heap h'->h'.get? a=some Bo->Bo.ExactSet->Bo.data=.set Nl R0 (tb (J7 p k) led)->Q true i8:=by
   intro h' Bo R0 KP Al BN Dt;refine h true h' KP ⟨Bo,Nl,R0,J7 p k,Al,BN,by rw[xC];exact Dt,jG,ZT,λe he=>?_,λj=>?_,by rw[if_neg no,R1,AQ];simp⟩
   .rcases mi e he with rfl|he
    .exact⟨BU,rfl⟩
    .exact BE e he
   .have mp:∀i,i∈J7 p k↔i∈p\/i=k:=λi=>by
      unfold J7
      conv=>rhs;rw[GS]
      erw[UX,Lv];constructor
      .rintro(z|z|z)
       .exact .inl (.inl z)
       .exact .inr z
       .exact .inl (.inr z)
      .rintro((z|z)|z)
       .exact .inl z
       .exact .inr (.inr z)
       .exact .inr (.inl z)
    rw[if_neg no,UX,IZ,Ui,Si,Si];constructor
    .rintro(⟨i,AC,e⟩|z)
     .exact⟨i,(mp i).mpr (.inl AC),e⟩
     .exact⟨k,(mp k).mpr (.inr rfl),z.symm⟩
    .rintro⟨i,AC,e⟩;rcases(mp i).mp AC with AC|rfl
     .exact .inl ⟨i,AC,e⟩
     .exact .inr e.symm
  refine AF (Ag ?_);rw[acq];simp only[↓reduceIte];refine AF ?_;rw[hashByValue_scannable 8 ki];refine Ag ?_;have QJ:plainKind (Jv (k:Int) BU)=true:=rfl;simp only[QJ,↓reduceIte];obtain⟨Ci,g1,g2,g3⟩:=l5 (es':=Nl) (t':=t1) AN hex hd;have p0:=IK s.heap a (Obj.putSet Nl t1);refine AF (wpAny_storeSet_of AN hd ?_ (by rw[R1,Ii];lia));by_cases full:t1.tooFull=true
  .rw[if_pos (by rw[full];rfl)];rw[if_pos full]at Ry;erw[FR,decide_eq_true_eq]at Ry;obtain⟨AL,BA,E9⟩:=Ry;have em:Nl.map (·.1)=((J7 p k).map Sq).toArray:=by apply YE;simpa using ZT
   have CY:relayAll t1 Nl (SetTable.grown Nl.size)=(Nl,tb (J7 p k) led,false):=by unfold relayAll;have ab:=sv Nl;rw[R1,Ao]at ab |-;rw[em,AL];dsimp only;rw[ab,R1,Ao,BA,E9];rfl
   rw[CY];dsimp only;refine AF (Ag ?_);obtain⟨Cj,k1,k2,k3⟩:=l5 (es':=Nl) (t':=tb (J7 p k) led) g1 g2 g3;refine AF (wpAny_storeSet_of g1 g3 ?_ (by rw[R1,Ii];lia));exact Ag (Ag (done _ Cj _ (p0.trans (IK _ a _)) k1 k2 k3))
  .rw[if_neg (full:)];rw[if_neg full,decide_eq_true_eq]at Ry;rw[Ry]at g3;exact Ag (Ag (done _ Ci _ p0 g1 g2 g3))
end
end Ex
namespace Ex
open PySem PySem.Spec PyProof.Rows
noncomputable def Fg(ks:List Int):List Int:=ks.foldl (λS k=>if k∈S then S else S++[k]) []
theorem Vw:∀(ks S:List Int),S.Nodup->(ks.foldl (λS k=>if k∈S then S else S++[k]) S).Nodup/\(∀k,k∈ks.foldl (λS k=>if k∈S then S else S++[k]) S↔k∈S\/k∈ks)/\(ks.foldl (λS k=>if k∈S then S else S++[k]) S).length<=S.length+ks.length
 |[],S,n=>⟨n,λk=>γ,γ⟩
 |k::ks,S,n=>by
  rw[List.foldl_cons];by_cases h:k∈S
  .rw[if_pos h];obtain⟨a,b,c⟩:=Vw ks S n;refine⟨a,λx=>?_,θ⟩;rw[b x];constructor
   .rintro(z|z)
    .exact .inl z
    .exact .inr (by simp[z])
   .rintro(z|z)
    .exact .inl z
    .rcases List.mem_cons.mp z with rfl|z
     .exact .inl h
     .exact .inr z
  .rw[if_neg h];have GV:(S++[k]).Nodup:=List.nodup_append.mpr ⟨n,γ,λx AJ y BO z=>by rw[List.mem_singleton.mp BO]at z;exact h (z▸AJ)⟩;obtain⟨a,b,c⟩:=Vw ks (S++[k]) GV;refine⟨a,λx=>?_,by simp at c |-;lia⟩;rw[b x];simp[or_assoc]
def jr(ks:List Int):(Fg ks).length<=ks.length:=by simpa[Fg]using(Vw ks [] Um).2.2
def js(ks:List Int):(Fg ks).Nodup:=(Vw ks [] Um).1
def ti(ks:List Int)(k:Int):k∈Fg ks↔k∈ks:=by simpa[Fg]using(Vw ks [] Um).2.1 k
def tj{keys:List Int}{i:Nat}{k:Int}(h:keys[i]?=some k):Fg (keys.take (i+1))=if k∈Fg (keys.take i)then Fg (keys.take i)else Fg (keys.take i)++[k]:=by unfold Fg;rw[Ub,h];simp[List.foldl_append]
section
variable{prog:Ba}{w:BL}{A:Bt}{R:Result->ο}{I:A6}{Ah wr:List A6}{G:Array Sn->Array Sn->Prop}{n:Nat}{P:Nat->A4->Prop}{St:Nat->ο}
def Kh.moved{h h':B2}{a:A6}{S:List Int}(T:Kh w h a S)(m:∀o,h.get? a=some o->h'.get? a=some o):Kh w h' a S:=by obtain⟨o,A2,Ak,p,AN,r⟩:=T.ex;exact⟨o,A2,Ak,p,m o AN,r⟩
def abQ(W:WalksS prog w A.in1 I Ah wr G n P St)(S:A6)(No:S∉Ah)(keys:List Int)(AQ:keys.length=n)(J:n<77)(AC:∀i v,P i v->∃k t,v=.int k t/\keys[i]?=some k)(AK:∀k∈keys,∃m:Nat,m<6/\k=(m:Int)) :
  ∀(k i:Nat)(s:AM),n-i=k->i<=n->St i s->Kh w s.heap S (Fg (keys.take i))->
   (∀s',Moved (S::wr) G s s'->Kh w s'.heap S (Fg keys)->R (.ok (.ret .none)) s')->
   MB ψ A (.builtin "set.update.loop" ⟨[.ref S,.ref I],[]⟩) R s:=by
 have lB:S∉wr:=λh=>No (W.sub _ h);have VD:∀b∈wr,b∈S::wr:=λb J=>FG _ J;intro k;induction k with
 |zero=>
  intro i s AG MV Gk T hR;have e:i=n:=δ
  subst e;refine P7 rx ?_;rw[QW fl _];show AW _ A.in1 (Gs (.ref I)>>=_) _ _ s;refine AF (W.done s _ _ Gk λs' hm=>?_);show AW _ A.in1 (ret FF) _ _ s';rw[<-AQ,Xk]at T;exact Ag (hR s' (hm.mono VD) (T.moved λo e=>hm.heap S o lB e))
 |succ k BW=>
  intro i s AG MV Gk T hR;have F9:i<n:=δ
  refine P7 rx ?_;rw[QW fl _];show AW _ A.in1 (Gs (.ref I)>>=_) _ _ s;refine AF (W.item i s _ _ F9 Gk λv s' hP yO hm=>?_);obtain⟨x,t,rfl,Co⟩:=AC i v hP;obtain⟨m,xG,rfl⟩:=AK x (HY Co);have hs:=T.moved λo e=>hm.heap S o lB e;show AW _ A.in1 (JK [Jv (m:Int) t] (setAdd S (.int (m:Int) t))>>=_) _ _ s';refine AF (Hb ?_);unfold setAdd;refine Hb (AF ((MA prog w).pyHash (k:=(m:Int)) (intKind_is _ _ _ _) ?_));refine sq (s:={ s' with toks:=s'.toks+1 }) xG hs λc h' KP iz=>?_;have tX:Kh w h' S (Fg (keys.take (i+1))):=by rw[tj Co];exact iz
  refine Ag ⟨SY fl _,BW (i+1) _ δ F9 (W.frame _ s' _ _ yO (M3 _) λG8 L3 o e=>?_) tX λJn xF xV=>?_⟩
  .rw[KP.2 G8 (λh:G8=S=>No (by rw[<-h];exact L3))];exact e
  .refine hR Jn (Moved.trans W.gtrans ((hm.mono VD).then_heap (M3 _) λG8 o L3 e=>?_) xF) xV;rw[KP.2 G8 (λh:G8=S=>L3 (by rw[h];exact LJ))];exact e
end
section
variable{prog:Ba}{w:BL}{A:Bt}{E:ξ}{s:AM}
def Kh.new{h:B2}{S:A6}{led:Bool}(el:led=!w.params.followText "set-order")(e:h.get? S=some (KQ led)):Kh w h S []:=
 ⟨_,#[],0,[],e,⟨rfl,rfl,rfl⟩,by rw[<-el];rfl,by decide+kernel,rfl,(λe he=>by simp at he),λk=>⟨(λz=>nomatch z),(λz=>nomatch z)⟩,rfl⟩
set_option maxHeartbeats 3200000 in
theorem ub{l:A6}{items:Array A4}{keys:List Int}{Q:ξ}(An:A.handled=none)(BD:A.units+64<DH)(AP:s.heap.IsList l items)(AG:keys.length=items.size)(J:items.size<77)(AC:∀(i:Nat) v,items[i]?=some v->∃k t,v=.int k t/\keys[i]?=some k)(AK:∀k∈keys,∃m:Nat,m<6/\k=(m:Int))(h:∀(h':B2)(BU:Nat),Kh w h' s.heap.objs.size (Fg keys)->(∀b o,dl->h'.get? b=some o)->Q (.ref s.heap.objs.size) BT) :
  AW ψ A (call (.type "set") [.ref l]) Q E s:=by
 obtain⟨c,Ei,ak2⟩:=F.called_set.mro;have ak1:=F.called_set.made;have VD:=F.called_set.sub;refine wpAny_call (codeAny_of_tree ?_);show AW _ _ (callAny (.type "set") _) _ _ _;refine Ag ⟨Code.quiet_builtin _ (by decide+kernel),P7 F.entry_type_call ?_⟩;rw[Around.under_plain (weight_type_call_type "set" [.ref l] []) rfl];have A5:=F.called_set.notType;have A8:=F.called_set.canCreate;have ajv:=F.typeCall_set_1 (.ref l)
 repeat (any_goals (first|assumption|wp_step))
 refine Sf (aeo (.ref l) (E:=E) (Q₁:=λobj D4=>∃led:Bool,led=(!w.params.followText "set-order")/\obj=.ref s.heap.objs.size/\D4={ s with heap:=s.heap.push (KQ led) }) ⟨_,rfl,rfl,rfl⟩) λr D4 B8=>?_;rcases r with e|G1
 .exact B8
 .cases G1 with
  |ret obj=>
   obtain⟨led,el,rfl,rfl⟩:=B8;have IZ:(s.heap.push (KQ led)).get? s.heap.objs.size=some (KQ led):=EB _ rfl;have C7:gV { s with heap:=s.heap.push (KQ led) } (.ref s.heap.objs.size) "set":=⟨_,IZ,rfl⟩;have V9:=F.called_set.init.lookup;have aju:=F.called_set.init.bind (.ref s.heap.objs.size)
   repeat (any_goals (first|assumption|wp_step))
   refine Sf (codeAny_call_builtin (R:=wants (λr Io=>r=.none/\∃h' BU,Io=BT/\Kh w h' s.heap.objs.size (Fg keys)/\(∀b o,dl->h'.get? b=some o)) E) F.called_set.init.plain F.entry_set_init (check_set_init_1 C7 ?_)) λae2 Io de=>?_
   .obtain⟨ol,TK,S4,nl,TF⟩:=AP;obtain⟨alF,abg,alG,ab_⟩:=ol;simp only at S4 TF;subst S4;subst TF;have wq:(s.heap.push (KQ led)).get? l=some { cls:=.type "list",dict:=abg,data:=.seq items nl,slots:=ab_ }:=Cp _ TK;have ajX:=F.sub_list_set;have ajW:=F.sub_list_frozenset;have NC:(JJ "list"==JJ "dict")=false:=ε
    have kZ:(s.heap.push (KQ led)).IsList l items:=⟨_,wq,rfl,nl,rfl⟩;unfold Gq.«set.__init__» noKeywords Builtin.Frozenset.updateFrom;generalize xT:pyIter=G6
    wp_walk
    subst xT;refine gM kZ ?_;refine AF (gi ?_);have k_:l<s.heap.objs.size:=Cr TK;have c7:(s.heap.push (KQ led)).objs.size=s.heap.objs.size+1:=KW _ _;have wi:l≠(s.heap.push (KQ led)).objs.size:=by rw[c7];exact Eb (U_ k_)
    have No:s.heap.objs.size∉[(s.heap.push (KQ led)).objs.size,l]:=by rw[c7];erw[Lv,Ui,Lw,or_false,not_or];exact⟨Eb (Uc _),M5 k_⟩
    have vq:∀b o,dl->((s.heap.push (KQ led)).push { cls:=.type "list_iterator",data:=.fields #[.ref l,.int 0 0] }).get? b=some o:=λb o e=>Cp _ (Cp _ e);have w1:∀b o,dl->b∉s.heap.objs.size::[(s.heap.push (KQ led)).objs.size]:=λb o e=>by have:=Cr e;rw[c7];erw[Lv,Ui,Lw,or_false,not_or];exact⟨Eb this,Eb (U_ this)⟩
    refine abQ ((Walks.list (by simp[An]) _ l wi items).toS) s.heap.objs.size No keys AG J AC AK (items.size-0) 0 _ δ (Hy _)
     ⟨⟨_,EB _ rfl,rfl,rfl⟩,(kZ.push _)⟩ (Kh.new (led:=led) el (Cp _ IZ)) ?hR
    case hR=>intro s' hm Oy;obtain⟨h',g',d',afm,e4⟩:=s';have eg:g'=s.gens:=hm.gens;have F7:d'=s.drawn:=hm.drawn;have K5:e4=s.os:=hm.os;subst eg;subst F7;subst K5;show AW _ _ _ _ _ _;refine Ag ?_;show AW _ _ (ret FF) _ _ _;exact Ag ⟨rfl,h',afm,rfl,Oy,λb o e=>hm.heap b o (w1 b o e) (vq b o e)⟩
   .rcases ae2 with e|wF
    .exact de
    .cases wF with
     |ret r=>
      obtain⟨rfl,h',BU,rfl,Oy,NB⟩:=de
      repeat (any_goals (first|assumption|wp_step))
      exact h _ _ Oy NB
     |_=>cases de
  |_=>cases B8
end
end Ex
namespace LT
open PySem PyProof.Rows
def uy:entryFor table "set.__iter__"=some Gq.«frozenset.__iter__»:=entryFor_alias (id':="frozenset.__iter__") η η (by decide+kernel) η
def jV:entryFor table "set_iterator.__next__"=some Gq.«set_iterator.__next__»:=entryFor_of_tree η
def Tz:Slot "set_iterator" (Ek "__next__") "set_iterator.__next__":=Slot.of (owner:="set_iterator") (n:="__next__") (by rw[Xs,XX];kernel_rfl) (by decide+kernel) (by decide+kernel) (by decide+kernel) (.inl η) (by rw[YB];kernel_rfl)
def iO(a:A4):argsOk "set_iterator.__next__" { pos:=[a] }:=η
noncomputable abbrev Tj(w:BL):Bool:=w.params.followText "set-order"
structure IU(w:BL)(h:B2)(d:A6)(A2:Array (Int×A4))(Ak:Nat)(t:Ik):Prop where
 ex:∃o,h.get? d=some o/\o.ExactSet/\o.data=.set A2 Ak t
 fits:t.fits A2.size=true
 plain:t.plain=true
 sorted:t.place.toList.Pairwise (· <·)
 led:t.led=!Tj w
def IU.at{w:BL}{h h':B2}{d:A6}{A2:Array (Int×A4)}{Ak:Nat}{t:Ik}(x:IU w h d A2 Ak t)(e:∀o,h.get? d=some o->h'.get? d=some o):IU w h' d A2 Ak t:=
 ⟨let⟨o,AN,r⟩:=x.ex;⟨o,e _ AN,r⟩,x.fits,x.plain,x.sorted,x.led⟩
def IU.typeIs{w:BL}{s:AM}{d:A6}{A2:Array (Int×A4)}{Ak:Nat}{t:Ik}(x:IU w s.heap d A2 Ak t):s.TypeIs (.ref d) "set":=let⟨o,AN,c,_⟩:=x.ex;⟨o,AN,c.1⟩
def Kw(w:BL)(d:A6)(Ak:Nat)(A2:Array (Int×A4)):Array (Int×A4):=if Tj w=true then pickOrder (w.params.setOrder d Ak) A2 else A2
theorem oI{α:Type}(next:Nat->Nat):∀(n a:Nat)(l:List α)(acc:Array α),l.length=n->(pickOrder.go next n a l acc).toList.Perm (acc.toList++l)
 |0,a,l,acc,h=>by have:l=[]:=rj h;subst this;simp[pickOrder.go]
 |n+1,a,l,acc,h=>by
  rw[pickOrder.go.eq_2];have AP:next a%l.length<l.length:=Nat.mod_lt _ δ;rw[DV AP];dsimp only;refine(oI next n (a+1) _ _ (by rw[XP AP];lia)).trans ?_;rw[Array.toList_push,Qj];refine sS _ ?_;generalize next a%l.length=k at AP |-;rw[fk];have e:l=l.take k++l[k]::l.drop (k+1):=by rw[List.getElem_cons_drop,List.take_append_drop]
  conv=>rhs;rw[e]
  show(l[k]::(l.take k++l.drop (k+1))).Perm _;exact List.perm_middle.symm
def r4(w:BL)(d:A6)(Ak:Nat)(A2:Array (Int×A4)):(Kw w d Ak A2).toList.Perm A2.toList:=by
 unfold Kw
 split
 .have:=oI (w.params.setOrder d Ak) A2.size 0 A2.toList #[] γ;simpa[pickOrder]using this
 .exact YC _
def bB(w:BL)(d:A6)(Ak:Nat)(A2:Array (Int×A4)):(Kw w d Ak A2).size=A2.size:=by have:=(r4 w d Ak A2).length_eq;simpa using this
def below_at{xs:Array Nat}(AK:xs.toList.Pairwise (· <·)){i:Nat}(AC:i<xs.size):Up xs (xs[i]+1)=i+1:=by
 obtain⟨FV,Ez,Op⟩:=Ex.iZ AK (xs[i]+1);have p:=List.pairwise_iff_getElem.mp AK;generalize Up xs (xs[i]+1)=k at FV Ez Op;have MV:i<xs.toList.length:=(AC:)
 by_cases A5:k<=i
 .have m:xs[i]∈xs.toList.drop k:=by
    rw[fy];exact⟨i-k,θ,by simp[List.getElem_drop,show k+(i-k)=i by lia]⟩
  have:=Op _ m;lia
 .by_cases A8:i+1<k
  .have m:xs.toList[i+1]' θ∈xs.toList.take k:=by
     rw[fy];exact⟨i+1,θ,by simp[List.getElem_take]⟩
   have q:=Ez _ m;have:=p i (i+1) MV θ δ;simp at q this;lia
  .lia
def sg{xs:Array Nat}(AK:xs.toList.Pairwise (· <·)):Up xs 0=0:=by
 obtain⟨FV,Ez,Op⟩:=Ex.iZ AK 0;generalize Up xs 0=k at FV Ez Op;cases k with
 |zero=>rfl
 |succ k=>
  have m:xs.toList[0]' θ∈xs.toList.take (k+1):=by rw[fy];exact⟨0,θ,γ⟩
  exact absurd (Ez _ m) (Nat.not_lt_zero _)
def Mo(h:B2)(it d:A6)(i n Ak:Nat)(slot:Nat):Prop:=∃o,h.get? it=some o/\o.cls=.type "set_iterator"/\o.data=.fields #[.int slot 0,.int i 0,.ref d,.int n 0,.int Ak 0]
def Mo.typeIs{s:AM}{it d:A6}{i n Ak slot:Nat}(x:Mo s.heap it d i n Ak slot):s.TypeIs (.ref it) "set_iterator":=let⟨o,AN,c,_⟩:=x;⟨o,AN,c⟩
def Mo.at{h h':B2}{it d:A6}{i n Ak slot:Nat}(x:Mo h it d i n Ak slot)(e:∀o,h.get? it=some o->h'.get? it=some o):Mo h' it d i n Ak slot:=let⟨o,AN,r⟩:=x;⟨o,e _ AN,r⟩
section
variable{prog:Ba}{w:BL}{A:Bt}{E:ξ}{s:AM}{A2:Array (Int×A4)}{t:Ik}
def cP{Q:Bool->ο}(h:Q (Tj w) s):AW ψ A setsByText Q E s:=by unfold setsByText;exact AF (gH (Ag h))
def vR{d:A6}{Ak:Nat}{Q:Bool->ο}(hm:IU w s.heap d A2 Ak t)(h:Q false s):AW ψ A (setDrawn d) Q E s:=by
 obtain⟨o,AN,AO,hd⟩:=hm.ex;unfold setDrawn;refine AF (Xw AN hd hm.fits ?_);dsimp only;refine AF (cP (Ag ?_));have e:∀b:Bool,(!b&&(!t.plain&&decide (A2.size>1)))=false:=by simp[hm.plain]
 show Q (!_&&(!t.plain&&decide (A2.size>1))) s;rw[e];exact h
theorem ael{d:A6}{Ak:Nat}{Q:ξ}(hm:IU w s.heap d A2 Ak t)(CI:Q (.ref s.heap.objs.size) { s with heap:=s.heap.push { cls:=.type "set_iterator",data:=.fields #[.int 0 0,.int 0 0,.ref d,.int A2.size 0,.int Ak 0] } }) :
  AW ψ A (pyIter (.ref d)) Q E s:=by
 have C7:s.TypeIs (.ref d) "set":=hm.typeIs;obtain⟨o,AN,AO,Pa⟩:=hm.ex;refine Ua C7 F.slot_set_iter (Gn F.slot_set_iter C7 uy ?_ (F.args_set_iter_1 _));unfold Gq.«frozenset.__iter__»;refine AF ?_;unfold Builtin.Frozenset.slot0;refine AF ?_;show AW _ _ (pure (DF d,([]:List A4))) _ _ s;refine Ag ?_;show AW _ _ (pure d) _ _ s;refine Ag ?_;unfold Builtin.Frozenset.sizeOf;refine AF (AF (ft AN Pa hm.fits (Ag ?_)));refine AF (vR hm ?_);dsimp only;rw[if_neg Fq];refine AF (Ag ?_);refine AF (wpAny_setEpoch_of AN Pa hm.fits ?_);unfold newFields;refine AF (Ih (Ag ⟨_,rfl,"set_iterator",_,⟨_,EB _ rfl,rfl⟩,Tz.lookup,?_⟩));simpa[I1]using CI
def Spot(w:BL)(t:Ik)(i slot:Nat):Prop:=Tj w=false->Up t.place slot=i
def pg{d:A6}{i Ak slot:Nat}{Q:Option (A4×Nat)->ο}(hm:IU w s.heap d A2 Ak t)(AX:Spot w t i slot)(h:∀NX,(i<A2.size->Spot w t (i+1) NX)->Q ((Kw w d Ak A2)[i]?.map λe=>(e.2,NX)) s):AW ψ A (setNext d slot i Ak) Q E s:=by
 obtain⟨o,AN,AO,hd⟩:=hm.ex;unfold setNext;refine AF (Xw AN hd hm.fits ?_);dsimp only;refine AF (cP ?_);by_cases b:Tj w=true
 .rw[if_pos b];rw[if_neg γ];refine AF ?_;unfold setWalk;refine AF (Xw AN hd hm.fits ?_);dsimp only;refine AF (cP ?_);rw[if_pos b];refine AF (gH (Ag (Ag ?_)));have:=h slot λ_ z=>by rw[b]at z;cases z
  unfold Kw at this;rw[if_pos b]at this;exact this
 .have G8:Tj w=false:=by simpa using b
  have AP:t.led=true:=by rw[hm.led,G8];rfl
  rw[if_neg b];have A7:¬((!t.plain&&decide (A2.size>1))=true):=by simp[hm.plain]
  refine(show AW ψ A (if(!t.plain&&decide (A2.size>1))=true then _ else _) Q E s from ?_);rw[if_neg A7];refine AF ?_;have AH:¬((!t.led&&!A2.isEmpty)=true):=by simp[AP]
  refine(show AW ψ A (if(!t.led&&!A2.isEmpty)=true then _ else pure ()) _ E s from ?_);rw[if_neg AH];refine Ag (Ag ?_);have J:=AX G8;rw[J];have Ao:t.place.size=A2.size:=by have:=hm.fits;unfold SetTable.fits at this;simp at this;exact this.1
  by_cases AC:i<A2.size
  .have:=h (t.place[i]+1) λ_ _=>below_at hm.sorted δ;unfold Kw at this;rw[if_neg b]at this;rw[Js AC]at this |-;rw[Js (show i<t.place.size by lia)];exact this
  .have:=h 0 λz=>absurd z AC;unfold Kw at this;rw[if_neg b]at this;rw[Xd δ]at this |-;exact this
def aet{it d:A6}{i Ak slot:Nat}{Q:Option A4->ο}(hit:Mo s.heap it d i A2.size Ak slot)(AX:Spot w t i slot)(hm:IU w s.heap d A2 Ak t)(F9:i<A2.size)(CI:∀h' NX v,(Kw w d Ak A2)[i]?.map (·.2)=some v->Spot w t (i+1) NX->Mo h' it d (i+1) A2.size Ak NX->I0 it s.heap h'->Q (some v) i8) :
  AW ψ A (Gs (.ref it)) Q E s:=by
 obtain⟨o,AN,AO,hd⟩:=id hit;obtain⟨E0,Jb,D8,J_⟩:=hm.ex;unfold Gs
 refine AF (Nw (Lr (name:=Ek "__next__") hit.typeIs Tz
  (Gn Tz hit.typeIs jV ?_ (iO _))))
 unfold Gq.«set_iterator.__next__»;refine AF ?_;show AW _ _ (pure (DF it,([]:List A4))) _ _ s;refine Ag ?_;dsimp only;refine AF (SZ AN hd ?_);dsimp only;refine AF (ft Jb J_ hm.fits ?_);rw[if_neg γ];refine AF (pg hm (AX:) λNX AK=>?_);have qa:i<(Kw w d Ak A2).size:=by rw[bB];exact F9
 erw[LK];rw[Js qa];erw[Xr];refine AF (O0 AN hd γ ?_);have g1:(s.heap.update it (Y7 (·.setIfInBounds 0 (I1 (NX:Int))))).get? it=some _:=KU _ AN (UW (Nt hd _));have d1:=Nt hd (·.setIfInBounds 0 (I1 (NX:Int)));refine AF (O0 g1 d1 γ ?_);have g2:=KU (Y7 (·.setIfInBounds 1 (I1 ((i:Int)+1)))) g1 (UW (Nt d1 _));refine Ag ⟨_,rfl,AF (Ag (Ag (CI _ NX _ (by rw[Js qa];rfl) (AK F9) ⟨_,g2,?_,?_⟩ ?_)))⟩
 .rw[X_,X_];exact AO
 .rw[Nt d1];simp[I1]
 .exact(IK _ _ _).trans (IK _ _ _)
def aes{it d:A6}{i Ak slot:Nat}{Q:Option A4->ο}(An:A.handled=none)(hit:Mo s.heap it d i A2.size Ak slot)(AX:Spot w t i slot)(hm:IU w s.heap d A2 Ak t)(AC:i=A2.size)(CI:∀h',YH it s.heap h'->Q none i8):AW ψ A (Gs (.ref it)) Q E s:=by
 obtain⟨o,AN,AO,hd⟩:=id hit;obtain⟨E0,Jb,D8,J_⟩:=hm.ex;unfold Gs
 refine AF (Nw (Lr (name:=Ek "__next__") hit.typeIs Tz
  (Gn Tz hit.typeIs jV ?_ (iO _))))
 unfold Gq.«set_iterator.__next__»;refine AF ?_;show AW _ _ (pure (DF it,([]:List A4))) _ _ s;refine Ag ?_;dsimp only;refine AF (SZ AN hd ?_);dsimp only;refine AF (ft Jb J_ hm.fits ?_);rw[if_neg γ];refine AF (pg hm (AX:) λNX AK=>?_);erw[LK];rw[Xd (by rw[bB];lia)];erw[Option.map_none];refine AF (O0 AN hd γ ?_);refine AF ?_;erw[newExc,newTuple];refine AF (Ih ?_ (by size_fits));refine AF (m:=P9 _ _) (Uq (a:=FF) (by first|rfl|(erw[P9];rfl)) ?_);refine Ih ?_ (by size_fits);erw[raiseNew];refine AF (Y4 ?_);rw[show A.in1.handled=none from An];refine AF (Ag (YI ?_));refine AF (Nr (T:="StopIteration") (b:=true) ⟨_,EB _ rfl,rfl⟩ YA ?_);exact Ag (CI _ (((IK ..).extBut.push _).push _))
def pq:Slot "set_iterator" (Ek "__iter__") "set_iterator.__iter__":=Slot.of (owner:="set_iterator") (n:="__iter__") (by rw[Xs,XX];kernel_rfl) (by decide+kernel) (by decide+kernel) (by decide+kernel) (.inl η) (by rw[YB];kernel_rfl)
def uz:entryFor table "set_iterator.__iter__"=some Gq.«dict_keyiterator.__iter__»:=entryFor_alias (id':="dict_keyiterator.__iter__") η η (by decide+kernel) η
def t6(a:A4):argsOk "set_iterator.__iter__" { pos:=[a] }:=η
def aeu{it d:A6}{i n Ak slot:Nat}{Q:ξ}(hit:Mo s.heap it d i n Ak slot)(h:Q (.ref it) s):AW ψ A (pyIter (.ref it)) Q E s:=
 Ua hit.typeIs pq (Gn pq hit.typeIs uz (id (Ag ⟨.ref it,rfl,"set_iterator",_,hit.typeIs,Tz.lookup,h⟩)) (t6 _))
def aev(An:A.handled=none)(I d:A6)(NC:d≠I)(A2:Array (Int×A4))(Ak:Nat)(t:Ik) :
  Walks prog w A I [I,d] [I] A2.size (λi v=>(Kw w d Ak A2)[i]?.map (·.2)=some v) (λi h=>(∃slot,Mo h I d i A2.size Ak slot/\Spot w t i slot)/\IU w h d A2 Ak t) where
 sub:=λb J=>by simp at J;simp[J]
 frame:=λ_ _ _⟨⟨CJ,st,sp⟩,m⟩ AG=>⟨⟨CJ,st.at λo e=>AG I γ o e,sp⟩,m.at λo e=>AG d γ o e⟩
 item:=λi s Q E AC⟨⟨CJ,st,sp⟩,m⟩ CI=>aet st sp m AC λh' dw v BE Ic Pb J=>
  CI _ h' s.toks BE ⟨⟨dw,Pb,Ic⟩,m.at λo e=>J.extBut d o NC e⟩ λb o L3 e=>J.extBut b o (λh=>L3 (by simp[h])) e
 done:=λs Q E⟨⟨CJ,st,sp⟩,m⟩ CI=>aes An st sp m rfl λh' dS=>CI h' s.toks λb o J e=>dS b o (λh=>J (by simp[h])) e
 self:=λ_ _ _ _⟨⟨CJ,st,sp⟩,m⟩ CI=>aeu st CI
end
section
variable{prog:Ba}{w:BL}{A:Bt}{E:ξ}{s:AM}{A2:Array (Int×A4)}{t:Ik}
def aem:typeLookup (.type "set") "__len__"=pure (some (.builtin "set.__len__")):=by rw[Xs,XX];kernel_rfl
def yj{acc:Array A4}{A2:Array (Int×A4)}{n:Nat}(h:ItemsOf (λi v=>A2[i]?.map (·.2)=some v) acc n)(AQ:A2.size=n):acc.toList=A2.toList.map (·.2):=by
 apply SP;intro i;have A7:acc.toList[i]?=acc[i]?:=γ
 rw[Dm,A7];cases e:acc[i]? with
 |none=>
  have:acc.size<=i:=(e:)
  rw[h.1]at this;have AH:A2.toList[i]?=none:=XY (by simpa using(by lia:A2.size<=i));rw[AH];rfl
 |some v=>have:=h.2 i v e;rw[<-this];simp
theorem u3{d:A6}{Ak:Nat}{Q:List A4->ο}(An:A.handled=none)(hm:IU w s.heap d A2 Ak t)(AQ:A2.size<=CK)(CI:∀h' BU,(∀b o,dl->h'.get? b=some o)->s.heap.objs.size<h'.objs.size->Q ((Kw w d Ak A2).toList.map (·.2)) BT):AW ψ A (collect (.ref d)) Q E s:=by
 have F9:d<s.heap.objs.size:=by obtain⟨o,AN,_⟩:=hm.ex;exact Cr AN
 have VV:s.heap.objs.size≠d:=λe=>Hc _ (e▸F9);unfold collect;refine AF (gi (P7 F.entry_proto_collect ?_));rw[QW F.plain_proto_collect _];show AW _ A.in1 (newList []>>=λl=>again (.builtin "list.__iadd__" ⟨[l,.ref d],[]⟩)) _ _ s;refine AF (Ih ?_);refine Ag ⟨SY Xv _,P7 F.entry_list_iadd ?_⟩;rw[QW Xv _];have P3:IU w (s.heap.push { cls:=.type "list",data:=.seq ([]:List A4).toArray }) d A2 Ak t:=hm.at λo e=>Cp _ e;have VT:(s.heap.push { cls:=.type "list",data:=.seq ([]:List A4).toArray }).get? s.heap.objs.size=some { cls:=.type "list",data:=.seq ([]:List A4).toArray }:=EB _ rfl;show AW _ A.in1 (XN (.ref s.heap.objs.size) (.ref d) (.ref s.heap.objs.size)) _ _ { s with heap:=s.heap.push { cls:=.type "list",data:=.seq ([]:List A4).toArray } };generalize D2:s.heap.push { cls:=.type "list",data:=.seq ([]:List A4).toArray }=f1 at P3 VT |-;unfold XN;refine AF (Sh (s:={ s with heap:=f1 }) (P3.typeIs (s:={ s with heap:=f1 })) ?_);have A5:XM (.ref s.heap.objs.size) (.ref d)=false:=by simp[XM,VV]
 rw[if_neg (by rw[A5];decide)];refine AF (ael (s:={ s with heap:=f1 }) P3 ?_);dsimp only;have GO:Mo (f1.push { cls:=.type "set_iterator",data:=.fields #[.int 0 0,.int 0 0,.ref d,.int A2.size 0,.int Ak 0] }) f1.objs.size d 0 A2.size Ak 0:=⟨_,EB _ rfl,rfl,rfl⟩;have Ib:IU w (f1.push { cls:=.type "set_iterator",data:=.fields #[.int 0 0,.int 0 0,.ref d,.int A2.size 0,.int Ak 0] }) d A2 Ak t:=P3.at λo e=>Cp _ e;have S2:(f1.push { cls:=.type "set_iterator",data:=.fields #[.int 0 0,.int 0 0,.ref d,.int A2.size 0,.int Ak 0] }).get? s.heap.objs.size=some { cls:=.type "list",data:=.seq ([]:List A4).toArray }:=Cp _ VT;have Li:∀b o,dl->(f1.push { cls:=.type "set_iterator",data:=.fields #[.int 0 0,.int 0 0,.ref d,.int A2.size 0,.int Ak 0] }).get? b=some o:=λb o e=>Cp _ (by rw[<-D2];exact Cp _ e);have Ao:f1.objs.size=s.heap.objs.size+1:=by rw[<-D2];exact size_push' _ _
 generalize f1.push { cls:=.type "set_iterator",data:=.fields #[.int 0 0,.int 0 0,.ref d,.int A2.size 0,.int Ak 0] }=f2 at GO Ib S2 Li |-;have e_:d≠f1.objs.size:=Eb (by rw[Ao];exact U_ F9);have W:=(aev (prog:=prog) (w:=w) (A:=A.in1) An f1.objs.size d e_ A2 Ak t).toS;have No:s.heap.objs.size∉[f1.objs.size,d]:=λh=>by
  rcases List.mem_cons.mp h with e|h
  .lia
  .exact VV (List.mem_singleton.mp h)
 refine AF (Hb ?_);unfold rd;refine AF (Qf (s:={ s with heap:=f2 }) (Ib.typeIs (s:={ s with heap:=f2 })) aem ?_)
 (generalize S5:("set.__len__" :String)=Wd;(fail_if_success (clear S5 Wd));wp_delta;rw[show splitId Wd=some ("set","__len__")from by subst S5;decide+kernel];subst S5)
 refine AF (Nr (b:=true) (Ib.typeIs (s:={ s with heap:=f2 })) (by rw[YB];kernel_rfl) ?_);rw[if_neg γ];dsimp only;rw[if_pos (by decide+kernel)];refine AF (Sh (Ib.typeIs (s:={ s with heap:=f2 })) ?_);refine Ag ?_;rw[if_pos (by decide+kernel)];refine AF (JI (AF ?_));show AW _ A.in1 (updateSeq s.heap.objs.size (·.push .none)>>=λ_=>updateSeq s.heap.objs.size (·.pop)) _ _ { s with heap:=f2 };refine AF (Xh (s:={ s with heap:=f2 }) S2 rfl ?_);have VU:=KU (Go (·.push FF)) S2 rfl;refine Xh VU rfl ?_;have dN:=KU (Go (·.pop)) VU rfl
 have Kq:∀b o,b≠s.heap.objs.size->f2.get? b=some o->
   ((f2.update s.heap.objs.size (Go (·.push FF))).update s.heap.objs.size (Go (·.pop))).get? b=some o:=
  λb o J e=>(SN _ _ (He J)).trans ((SN _ _ (He J)).trans e)
 refine Ag ⟨SY F.plain_extend_loop _,codeAny_extend_loopS W AQ _ No _ A2.size 0 _ _ _ δ (Hy _)
  (W.frame 0 ({ s with heap:=f2 }:AM) _ s.toks ⟨⟨0,GO,λ_=>sg hm.sorted⟩,Ib⟩ (CS _) λb J o e=>Kq b o (λh=>No (h▸J)) e) dN (ItemsOf.nil _) λs' Te Eo db Oy ZQ=>?_⟩
 show AW _ A (load s.heap.objs.size>>=_) _ _ s';refine AF (wpAny_load Oy ?_);refine Ag ?_;show Q Te.toList s';rw[yj ZQ (bB _ _ _ _)];obtain⟨Fk,FY,NF,Wp,abV⟩:=db;have FJ:=Cr Oy;obtain⟨a1,a2,G7,Kk,Q6⟩:=s';dsimp only at Fk FY NF Wp FJ;subst FY NF Wp;refine CI a1 Kk (λb o e=>?_) FJ;have J:=Cr e;exact Fk b o (λz=>by
  rcases List.mem_cons.mp z with e|z
  .rw[e]at J;exact Hc _ J
  .rw[List.mem_singleton.mp z,Ao]at J;exact absurd J (Nat.not_lt.mpr (M3 _))) (Kq b o (λz=>by rw[z]at J;exact Hc _ J) (Li b o e))
end
section
variable{prog:Ba}{w:BL}{A:Bt}{E:ξ}{s:AM}{A2:Array (Int×A4)}{t:Ik}
def aec{d:A6}{Ak:Nat}{κ:KeyKind}{kd:Il}{vs:List A4}{Q:ξ}(An:A.handled=none)(hm:IU w s.heap d A2 Ak t)(ev:(Kw w d Ak A2).toList.map (·.2)=vs)(AQ:vs.length<64)(AG:∀(h':B2)(BU:Nat)(KS:Bt)(O6:ξ),KS.units<=A.units+8->(∀b o,dl->h'.get? b=some o)->vs≠[]->(∀R:Il->ο,R kd BT->AW ψ KS (Qr vs.toArray) R O6 BT)/\LX prog w KS BT kd κ (pairsOf vs))(h:∀(u:G4)(l:A6)(h':B2) BU e,(Bm u).Perm (pairsOf vs)->GH κ (Bm u) (pairsOf vs).size->s.heap.objs.size<=l->(∀b o,dl->h'.get? b=some o)->h'.get? l=some (Ew "list" ((Bm u).map (·.2)) e)->Q (.ref l) BT) :
  AW ψ A (call (.builtin "sorted") [.ref d]) Q E s:=by
 refine fp kind_sorted plain_sorted entry_sorted (args_sorted1 _) ?_;unfold Gq.«sorted»;have Ao:A2.size<=CK:=by have:=congrArg M4 ev;rw[Ea,SX,bB]at this;rw[Ii];lia
 refine AF (m:=checkCount "sorted" 1 1 _) (Ag (AF (u3 (A:=A.in1) An hm Ao λf BU kp Ao=>?_)));rw[ev];refine AF (Y6 ?_);have g:(f.push (Ew "list" vs.toArray 0)).get? f.objs.size=some (Ew "list" vs.toArray 0):=EB _ rfl;have keep:∀b o,dl->(f.push (Ew "list" vs.toArray 0)).get? b=some o:=λb o e=>Cp _ (kp b o e);have Ao:=Nx Ao;show AW _ _ _ _ _ { s with heap:=f.push (Ew "list" vs.toArray 0),toks:=BU };refine AF (Hb (Gn gg ⟨_,g,rfl⟩ gY (eO (s:={ s with heap:=f.push (Ew "list" vs.toArray 0),toks:=BU }) (κ:=κ) (kd:=kd) g AQ (λh' k ne=>AG h' BU _ _ (by erw[gI];lia) (λb o e=>k b o (λz=>absurd (z▸Cr e) (Nat.not_lt.mpr Ao)) (keep b o e)) ne) λu AX AK=>⟨_,rfl,?_⟩) (gh _)));obtain⟨e,ge⟩:=sortedHeap_at (out:=(Bm u).map (·.2)) g;refine Ag ⟨_,rfl,h u _ _ BU e AX AK Ao (λb o q=>?_) ge⟩;have W6:=keep b o q;exact(sortedHeap_old (λz:b=f.objs.size=>absurd (z▸Cr q) (Nat.not_lt.mpr Ao)) (Cr W6)).trans W6
def hj(prog:Ba)(w:BL)(h:B2)(v:A4)(k:Int×Int):Prop:=∃a,v=.ref a/\Ut (MA prog w) h [k.1,k.2] a
theorem hj.inj{h:B2}{v:A4}{k k':Int×Int}(x:hj prog w h v k)(y:hj prog w h v k'):k=k':=by obtain⟨a,rfl,AJ⟩:=x;obtain⟨b,e,BO⟩:=y;cases e;have:=AJ.inj BO;simp at this;exact PI this.1 this.2
end
section
variable{prog:Ba}{w:BL}{A:Bt}{E:ξ}{s:AM}
structure KB(prog:Ba)(w:BL)(h:B2)(v:A4)(k:Int×Int×Int):Prop where
 ex:∃a o m b t,v=.ref a/\h.get? a=some o/\o.cls=.type "tuple"/\o.data=.seq #[.ref b,.int k.2.2 t] m/\Ut (MA prog w) h [k.1,k.2.1] b
theorem KB.inj{h:B2}{v:A4}{k k':Int×Int×Int}(x:KB prog w h v k)(y:KB prog w h v k'):k=k':=by obtain⟨a,o,m,b,t,rfl,AN,AO,hd,J⟩:=x.ex;obtain⟨Ix,Bo,Ds,G8,t',e,Dr,TC,F8,L3⟩:=y.ex;cases e;rw[AN]at Dr;cases Dr;rw[hd]at F8;simp at F8;obtain⟨⟨rfl,A7,_⟩,_⟩:=F8;have AH:=J.inj L3;simp at AH;obtain⟨k1,k2,k3⟩:=k;obtain⟨aQ,dB,Pl⟩:=k';simp at A7 AH |-;exact⟨AH.1,AH.2,A7⟩
end
end LT
namespace Bv
open PySem PySem.Spec PyProof.Rows
section
variable{X:Ad}
end
end Bv
namespace CR
open PySem PySem.Spec Bv PyProof.Rows
section
variable{X:Ad}{F:B6}{e a b c:AS}{A2:List AS}{pos p:Pos}{m n:A_}{ma:Ap}
end
end CR
namespace LT
open PySem PyProof.Rows
noncomputable def Ma(a b:Int):Bool:=decide (a<=b)
def JF(ks:List Int):List Int:=ks.mergeSort Ma
def q0{ks l:List Int}(p:l.Perm ks)(h:l.Pairwise λa b=>Ma a b=true):l=JF ks:=
 sG (le:=λa b=>Ma a b=true) (λa b _ _ A5 A8=>by
  unfold Ma at A5 A8;have A5:=of_decide_eq_true A5;have A8:=of_decide_eq_true A8;lia) h (Xa (λa b c A5 A8=>by
   unfold Ma at*;have A5:=of_decide_eq_true A5;have A8:=of_decide_eq_true A8;exact decide_eq_true δ) (λa b=>by
   unfold Ma;by_cases h:a<=b
   .simp[h]
   .have:b<=a:=δ
    simp[this]) ks) (p.trans (SR _ _).symm)
def la:KeyKind:={ Zo with keyOf:=λv=>match v with|.int k _=>some [k]|_=>none,dflt:=[] }
def n5(a b:Int):ltI [a] [b]=decide (a<b):=by
 unfold ltI;by_cases h:a=b
 .rw[if_pos h,h];simp[ltI]
 .rw[if_neg h]
def aaR{v:A4}{vs:List A4}{ns:List Int}(GO:IntsAre (v::vs) ns):Qr (v::vs).toArray=pure oneType':=by
 rw[keyKind'_eq,Xu,mapM_first_ints GO];erw[map_pure,pure_bind];rw[if_neg γ,if_neg γ];rw[oneTypeOnly'_eq,Xu,mapM_typeOf_ints GO];erw[map_pure,pure_bind];have Np:((Uw (λ_=>JJ "int") (v::vs)).toArray.all λx=>x==JJ "int")=true:=by erw[List.all_toArray,PF,Mv];intro _ _;rfl
 have h0:(Uw (λ_=>JJ "int") (v::vs)).toArray[0]?=some (JJ "int"):=γ
 rw[h0];erw[Np,if_true,pure_bind,g5]
section
variable{prog:Ba}{w:BL}{A:Bt}{E:ξ}{s:AM}{A2:Array (Int×A4)}{t:Ik}
def ae_{d:A6}{Ak:Nat}{us:List A4}{Q:ξ}(An:A.handled=none)(hm:IU w s.heap d A2 Ak t)(I4:A2.toList.map (·.2)=us)(AQ:us.length<64)(AG:∀v∈us,∃k t,v=.int k t)(h:∀(vs:List A4)(l:A6)(h':B2) BU e,vs.length=us.length->(∀v∈vs,∃k t,v=.int k t)->vs.map numOf=JF (us.map numOf)->s.heap.objs.size<=l->(∀b o,dl->h'.get? b=some o)->h'.get? l=some (Ew "list" vs.toArray e)->Q (.ref l) BT) :
  AW ψ A (call (.builtin "sorted") [.ref d]) Q E s:=by
 obtain⟨vs,ev⟩:∃vs,(Kw w d Ak A2).toList.map (·.2)=vs:=⟨_,rfl⟩;have pu:vs.Perm us:=by rw[<-ev,<-I4];exact(r4 w d Ak A2).map _
 have BE:∀v∈vs,∃k t,v=.int k t:=λv BE=>AG v (pu.mem_iff.mp BE);have pm:∀p∈(pairsOf vs).toList,p.1=p.2/\p.1∈us:=λp AX=>by rw[Uo]at AX;have:=YO AX;exact⟨this.1,pu.mem_iff.mp this.2⟩
 refine aec (κ:=la) (kd:=oneType') An hm ev (by rw[pu.length_eq];exact AQ) (λh' BU KS O6 Gj kp ne=>⟨λR hR=>?_,⟨λi8 x y hr AJ BO CI=>?_⟩⟩) λu l h' BU e AX AK Hn kp g=>?_
 .obtain⟨v,r,rfl⟩:=rg ne;have:=aaR (intsAre_map (v::r) BE);rw[this];exact Ag hR
 .obtain⟨_,E3⟩:=pm x AJ;obtain⟨_,GE⟩:=pm y BO;obtain⟨k,t1,A7⟩:=AG _ E3;obtain⟨k',DO,AH⟩:=AG _ GE;rw[A7,AH]at CI |-;have CI:hr (ltI [k] [k']) _:=CI;rw[n5]at CI;rw[keyLt'_oneType];exact oneLt_int CI
 .obtain⟨HG,K5,HU,Rv⟩:=fR (f:=la.keyOf) (g:=λv=>[numOf v]) pu (λv BE=>by obtain⟨k,t,rfl⟩:=AG v BE;rfl) AX AK;have Rv:(HG.map numOf).Pairwise λa b=>Ma a b=true:=List.pairwise_map.mpr (Rv.imp λ{a b} q=>by
   rw[n5]at q;unfold Ma;exact decide_eq_true (q:))
  have A2:HG.map numOf=JF (us.map numOf):=q0 (HU.map numOf) Rv;rw[K5]at g;exact h HG l h' BU e HU.length_eq (λv di=>AG v (HU.mem_iff.mp di)) A2 Hn kp g
end
end LT
namespace Bv
open PySem PySem.Spec PyProof.Rows
section
variable{X:Ad}
def iq(w:BL)(a:A6)(ks:List Int)(h:B2):Prop:=∃A2 Ak t,LT.IU w h a A2 Ak t/\(∀v∈A2.toList.map (·.2),∃k t,v=.int k t)/\(A2.toList.map (·.2)).map numOf=ks
def WV(w:BL)(a:A6)(ks:List Int):Dd:=.ext (iq w a ks)
def acP{P:Ba}{w v:BL}{K:AZ}{H:AA}{h:B2}{a:A6}{ks:List Int}(x:iq v a ks h):Em P w K H h a (WV v a ks):=
 ⟨x,by obtain⟨_,_,_,r,_⟩:=x;obtain⟨o,e,_⟩:=r.ex;exact⟨o,e⟩,λA5 A8 y k=>by obtain⟨A2,Ak,t,r,e⟩:=y;exact⟨A2,Ak,t,r.at k,e⟩⟩
noncomputable def aeM(w:BL)(K:AZ):List V->AA->CQ->Prop:=λxs H Q=>∃p ks,xs=[.ref p]/\C4 K H p (ks.map V.int)/\ks.length<64/\(∀k∈ks,0<=k/\k<6)/\
 ∀l ks',H l=none->ks'.Perm (Ex.Fg ks)->Q (.ref l) (upd H l (WV w l ks'))
theorem r0:∀{ks:List Int}{us:List A4},Vals (ks.map V.int) us->(∀(i:Nat) v,us[i]?=some v->∃k t,v=.int k t/\ks[i]?=some k)
 |[],us,r=>by cases r;intro i v e;simp at e
 |k::ks,us,r=>by
  rw[Dc]at r;cases r with
  |cons a b=>
   obtain⟨t,rfl⟩:=a;intro i v e;cases i with
   |zero=>simp at e;exact⟨k,t,e.symm,rfl⟩
   |succ i=>simpa using r0 b i v (e:)
def uc(An:X.A.handled=none)(BD:X.A.units+64<DH):HM X (.type "set") (aeM X.w X.K):=by
 intro pins s σ H xs us Q I r h;obtain⟨p,ks,rfl,AT,AQ,Cu,q⟩:=h;obtain⟨u,rfl,BS⟩:=vals1 r;cases BS;obtain⟨its,BB,pl,Ao⟩:=I.list AT;have hlen:=BB.length;rw[Ea]at hlen;refine Ex.ub (items:=its.toArray) (keys:=ks) An BD pl.isList (by rw[Dx];lia) (by rw[Dx];lia) (λi v BE=>?_) (λk AG=>⟨k.toNat,by have:=Cu k AG;lia,by have:=Cu k AG;lia⟩) λh' BU T kp=>?_
 .exact r0 BB i v (BE:)
 .obtain⟨o,A2,Ak,Kr,g1,g2,g3,g4,PY,Lg,vo,bi⟩:=T.ex;obtain⟨so,_,w7⟩:=Ex.fX g4 (!X.w.params.followText "set-order");have dm:A2.size=Kr.length:=by have:=congrArg M4 PY;simpa using this
  have ev:(A2.toList.map (·.2)).map numOf=A2.toList.map (·.1):=by rw[Hd];refine g0 λe he=>?_;obtain⟨t,Hl⟩:=Lg e he;erw[Y8,Hl];rfl
  refine⟨.ref s.heap.objs.size,_,I.laid (t':=BU) kp (CS _) (acP ⟨A2,Ak,_,⟨⟨o,g1,g2,g3⟩,by rw[dm];exact w7,rfl,by simpa[Ex.tb]using so,rfl⟩,λv BE=>?_,rfl⟩),rfl,q _ _ (I.BX.fresh (CS _)) (Ex.oD (Ex.js ks) (λk AG=>?_) ?_)⟩
  .obtain⟨e,he,rfl⟩:=List.mem_map.mp BE;obtain⟨t,Hl⟩:=Lg e he;exact⟨e.1,t,Hl⟩
  .rw[ev,PY];exact(vo k).mp AG
  .erw[Ea,SX];lia
def aeP(w:BL):List V->AA->CQ->Prop:=λxs H Q=>∃a ks,xs=[.ref a]/\H a=some (WV w a ks)/\ks.length<64/\
 ∀l,H l=none->Q (.ref l) (upd H l (.lst ((LT.JF ks).map V.int)))
theorem mA:∀{vs:List A4},(∀v∈vs,∃k t,v=.int k t)->Vals ((vs.map numOf).map V.int) vs
 |[],_=>.nil
 |v::vs,h=>by obtain⟨k,t,rfl⟩:=h v γ;exact .cons ⟨t,rfl⟩ (mA λu BD=>h u (by simp[BD]))
def ts(An:X.A.handled=none):HM X (.builtin "sorted") (aeP X.w):=by
 intro pins s σ H xs us Q I r h;obtain⟨a,ks,rfl,AB,AQ,q⟩:=h;obtain⟨u,rfl,BS⟩:=vals1 r;cases BS;obtain⟨⟨A2,Ak,t,g,xO,ZK⟩,_⟩:=(show Em X.prog X.w X.K H s.heap a (WV X.w a ks)from I.BX a _ AB);have AP:(A2.toList.map (·.2)).length=ks.length:=by rw[<-ZK];simp
 refine LT.ae_ An g rfl δ xO λvs l h' BU e lv Fs ev AX kp gl=>?_;rw[ZK]at ev;have r3:=mA Fs;rw[ev]at r3;have n8:(LT.JF ks).length=ks.length:=(SR _ _).length_eq;refine⟨.ref l,_,I.laid (a:=l) (t':=BU) kp AX (show Em X.prog X.w X.K _ _ _ (.lst ((LT.JF ks).map V.int))from⟨by rw[Ea,Ii];lia,vs,e,r3,gl⟩),rfl,q l (I.BX.fresh AX)⟩
end
end Bv
namespace CR
open PySem PySem.Spec Bv PyProof.Rows
section
variable{X:Ad}{F:B6}{e:AS}{pos p:Pos}{ma:Ap}
noncomputable def ba:χ->R χ
 |[.lst ds]=>if ds.length<64 then match SB ds with
  |some ks=>if ks.all (λk=>decide (0<=k)&&decide (k<6))=true then .ok ((LT.JF (Ex.Fg ks)).map D.int)else .bad
  |none=>.bad
  else .bad
 |_=>.bad
def R_(m:Ap):Ap:=λρ=>(m ρ).bind ba
theorem m9{K:AZ}{G:AA}:∀ks:List Int,AY K G (ks.map D.int) (ks.map V.int)
 |[]=>.nil
 |k::ks=>.cons ζ (m9 ks)
def ahZ{Kr pos':Pos}(An:X.A.handled=none)(BD:X.A.units+64<DH)(hm:X.mg "sorted"=none)(Ib:X.mg "set"=none)(AB:F6 X F [e] ma)(Ar:F.K=X.K:=by rfl)(Aa:Dg X "sorted":=by rfl)(Vb:Dg X "set":=by rfl)(AK:B9 [.Call (.Name "set" Kr) [e] [] pos'] X.env=(false,BH (.Call (.Name "set" Kr) [e] [] pos') X.env)::B9 [] X.env:=by rfl)(he:Fr:=by rfl)(DQ:(Cq pos (B9 [] X.env)).any (·.1)=false:=by rfl)(yJ:(Cq pos' (B9 [] X.env)).any (·.1)=false:=by rfl) :
  JW X F (.Call (.Name "sorted" p) [.Call (.Name "set" Kr) [e] [] pos'] [] pos) (R_ ma):=by
 refine⟨Ay.imp (W2 (ts An) Aa hm η (Of (e8 (uc An BD) Vb Ib η AB.1 ε ε he yJ) QI AK) ε ε AK DQ) ?_⟩;delta R_ r;refine rb h λds Av h vs H1 Ai AL s1 a=>?_;unfold ba at h
 split at h
 .split at h
  .split at h
   .rename_i AP ks Co
    split at h
    .rename_i Cu;obtain⟨v,rfl,B4⟩:=a.one;erw[At]at B4;obtain⟨q,xs,rfl,AT,Fd⟩:=B4;have ex:=m8 Fd Co;subst ex;have KD:=Fd.length;rw[Ea]at KD;refine⟨q,ks,rfl,C4.of (AL.kp.sub _ _ AT),δ,λk AG=>(List.all_eq_true.mp Cu k AG:),λl ks' Hn pp=>?_⟩;have lk:=pp.length_eq;have ld:=Ex.jr ks;refine⟨l,ks',rfl,Do,δ,λDJ J5=>?_⟩;have A2:LT.JF ks'=LT.JF (Ex.Fg ks):=LT.q0 ((SR _ _).trans pp) (Xa (λa b c A5 A8=>by
      unfold LT.Ma at*;have A5:=of_decide_eq_true A5;have A8:=of_decide_eq_true A8;exact decide_eq_true δ) (λa b=>by
      unfold LT.Ma;by_cases h:a<=b
      .simp[h]
      .have:b<=a:=δ
       simp[this]) _)
     rw[A2];have BA:=AL.lay0 (o:=WV X.w l ks') Hn;exact h DJ _ _ _ (BA.lay0 J5) ((s1.trans (C5.lay0 Hn)).trans (C5.lay0 J5)) (s1.h.gone (Sub.gone (Sub.upd Hn) J5)) Do (BA.kp.sub.gone J5) (m9 _)
    .exact h.elim
   .exact h.elim
  .exact h.elim
 .exact h.elim
end
end CR
namespace CR
open PySem PySem.Spec Bv
@[simp] theorem BV{α β:Type}(a:α)(k:α->R β):(R.ok a).bind k=k a:=(rfl)
@[simp] theorem alS{α β:Type}(c:Str)(k:α->R β):(R.exc c:R α).bind k=.exc c:=(rfl)
def Rt(b:As):Fy->R Fy
 |.BG ρ=>b ρ
 |f=>.ok f
@[simp] theorem EZ(a b:As)(ρ:AI):Ab a b ρ=(a ρ).bind (Rt b):=by unfold Ab;congr 1
@[simp] theorem GD(b:As)(ρ:AI):Rt b (.BG ρ)=b ρ:=(rfl)
@[simp] theorem akc(b:As)(d:D):Rt b (.Du d)=.ok (.Du d):=(rfl)
@[simp] theorem akb(b:As)(d:χ):Rt b (.JD d)=.ok (.JD d):=(rfl)
def bL:Option Bw->R D
 |some (.A1 d)=>.ok d
 |_=>.bad
@[simp] theorem v_var(i:Nat)(ρ:AI):A0 i ρ=bL ρ[i]?:=by unfold A0 bL;rfl
@[simp] theorem QL(d:D):bL (some (.A1 d))=.ok d:=(rfl)
@[simp] theorem ql(d:D)(ρ:AI):AD d ρ=.ok d:=(rfl)
@[simp] theorem b8(f:D->D->R D)(a b:A_)(ρ:AI):A9 f a b ρ=(a ρ).bind λx=>(b ρ).bind λy=>f x y:=(rfl)
@[simp] theorem f7(f:D->R D)(a:A_)(ρ:AI):Ch f a ρ=(a ρ).bind f:=(rfl)
@[simp] theorem Ip(ρ:AI):AE ρ=.ok []:=(rfl)
@[simp] theorem GY(a:A_)(r:Ap)(ρ:AI):A3 a r ρ=(a ρ).bind λx=>(r ρ).bind λxs=>.ok (x::xs):=(rfl)
def fj(xs:χ):R D:=if xs.length<=1000000 then .ok (.tup xs)else .bad
@[simp] theorem qx(m:Ap)(ρ:AI):DS m ρ=(m ρ).bind fj:=(rfl)
@[simp] theorem akf{xs:χ}(h:xs.length<=1000000):fj xs=.ok (.tup xs):=if_pos h
@[simp] theorem Jx(m:Ap)(ρ:AI):BQ m ρ=(m ρ).bind λxs=>.ok (.lst xs):=(rfl)
@[simp] theorem qr(m:Ap)(ρ:AI):CL m ρ=(m ρ).bind lim:=(rfl)
@[simp] theorem ah6(m:A_)(ρ:AI):BF m ρ=(m ρ).bind MP:=(rfl)
@[simp] theorem t7(b:Bool):MP (.AV b)=.ok b:=(rfl)
@[simp] theorem v_and(a b:CG)(ρ:AI):Ig a b ρ=(a ρ).bind λc=>if c=true then b ρ else .ok false:=(rfl)
@[simp] theorem v_or(a b:CG)(ρ:AI):JC a b ρ=(a ρ).bind λc=>if c=true then .ok true else b ρ:=(rfl)
@[simp] theorem v_not(a:CG)(ρ:AI):ES a ρ=(a ρ).bind λc=>.ok (!c):=(rfl)
@[simp] theorem aki(a b:A_)(ρ:AI):Mb a b ρ=(a ρ).bind λx=>(MP x).bind λc=>if c=true then b ρ else .ok (.AV false):=(rfl)
@[simp] theorem ahC(c:CG)(a b:As)(ρ:AI):Cf c a b ρ=(c ρ).bind λk=>if k=true then a ρ else b ρ:=(rfl)
@[simp] theorem akP(ρ:AI):Cs ρ=.ok (.BG ρ):=(rfl)
@[simp] theorem ahE(a:A_)(ρ:AI):Cc a ρ=(a ρ).bind λd=>.ok (.Du d):=(rfl)
@[simp] theorem qu(a:Ap)(ρ:AI):GP a ρ=(a ρ).bind λd=>.ok (.JD d):=(rfl)
@[simp] theorem ahG(i:Nat)(d:D)(ρ:AI):BR i d ρ=if i<ρ.length then .ok (ρ.set i (.A1 d))else .bad:=(rfl)
@[simp] theorem alQ(i:Nat)(a:A_)(ρ:AI):Bc i a ρ=(a ρ).bind λd=>(BR i d ρ).bind λBK=>.ok (.BG BK):=(rfl)
@[simp] theorem f6(i:Nat)(a:Ap)(ρ:AI):Eg i a ρ=(a ρ).bind λds=>if i<ρ.length then .ok (.BG (ρ.set i (.C8 ds)))else .bad:=(rfl)
@[simp] theorem ahF(i:Nat)(a:HO)(ρ:AI):NJ i a ρ=(a ρ).bind λx=>(BR i x.1 x.2).bind λBK=>.ok (.BG BK):=(rfl)
@[simp] theorem qo(a:HO)(ρ:AI):Pq a ρ=(a ρ).bind λx=>.ok (.BG x.2):=(rfl)
@[simp] theorem f3(f:χ->R D)(m:Ap)(ρ:AI):Bz f m ρ=(m ρ).bind f:=(rfl)
@[simp] theorem ah8(n:Nat)(BP:χ->R C2)(m:Ap)(ρ:AI):CB n BP m ρ=(m ρ).bind λds=>if ds.length=n then(BP ds).bind Ks else .bad:=(rfl)
@[simp] theorem XC(n:Nat)(BP:χ->R C2)(m:Ap)(ρ:AI):EM n BP m ρ=(m ρ).bind λds=>if ds.length=n then(BP ds).bind bQ else .bad:=(rfl)
def qp(mi:Ap)(set:D->AI->R AI)(body:As)(ρ:AI):Ep mi set body ρ=(mi ρ).bind λds=>JX set body ds ρ:=(rfl)
@[simp] theorem akX(m:Ap)(ρ:AI):FK m ρ=(m ρ).bind Rr:=(rfl)
@[simp] theorem akt(m:A_)(ρ:AI):Er m ρ=(m ρ).bind Tw:=(rfl)
@[simp] theorem v_bor(m:A_)(ρ:AI):Mc m ρ=(m (EK ρ)).bind Zm:=(rfl)
@[simp] theorem akn(m:CG)(ρ:AI):KF m ρ=m (EK ρ):=(rfl)
def qm(nl:Nat)(caps:φ)(mi:Ap)(set:D->AI->R AI)(tst:CG)(elt:A_)(ρ:AI):D3 nl caps mi set tst elt ρ=(mi ρ).bind λds=>GC (I3 set tst elt ds (Ng nl caps ρ) []):=(rfl)
@[simp] theorem akF(i j:Int):DP (.int i) (.int j)=.ok (.int (i+j)):=(rfl)
@[simp] theorem akd(i j:Int):QT (.int i) (.int j)=.ok (.int (i-j)):=(rfl)
@[simp] theorem al9{i j:Int}(A5: -18446744073709551616<i)(A8:i<18446744073709551616):Mf (.int i) (.int j)=.ok (.int (i*j)):=if_pos (Dk ⟨A5,A8⟩)
@[simp] theorem mul_r{i j:Int}(A5: -18446744073709551616<j)(A8:j<18446744073709551616):Mf (.int i) (.int j)=.ok (.int (i*j)):=if_pos (Cn ⟨A5,A8⟩)
@[simp] theorem w6{i j:Int}(A5:0<j)(A8:j<1073741824):ER (.int i) (.int j)=.ok (.int (i/j)):=if_pos ⟨A5,A8⟩
@[simp] theorem nI{i j:Int}(h:0<j):Cy (.int i) (.int j)=.ok (.int (i%j)):=if_pos h
def acz:Og (.int 10) (.int 30)=.ok (.int 1000000000000000000000000000000):=(rfl)
@[simp] theorem al7(i j:Int):Wn (.int i) (.int j)=.ok (.AV (decide (i<j))):=(rfl)
@[simp] theorem ak5(i j:Int):SF (.int i) (.int j)=.ok (.AV (decide (i<=j))):=(rfl)
@[simp] theorem ajs(i j:Int):VS (.int i) (.int j)=.ok (.AV (decide (j<i))):=(rfl)
@[simp] theorem akN(i j:Int):Bi true (.int i) (.int j)=.ok (.AV (i==j)):=(rfl)
@[simp] theorem alA(i j:Int):Bi false (.int i) (.int j)=.ok (.AV (!(i==j))):=(rfl)
@[simp] theorem al0(xs:χ):CN [.lst xs]=.ok (.int xs.length):=(rfl)
@[simp] theorem al2(xs:χ):CN [.tup xs]=.ok (.int xs.length):=(rfl)
@[simp] theorem al1(xs:χ):CN [.CO xs]=.ok (.int xs.length):=(rfl)
@[simp] theorem alM(d:D):Ks (.v d)=.ok d:=(rfl)
@[simp] theorem alL(ds:χ):bQ (.o ds)=.ok ds:=(rfl)
@[simp] theorem alJ(d:D):outD (.Du d)=.ok (.v d):=(rfl)
@[simp] theorem alI(d:χ):outD (.JD d)=.ok (.o d):=(rfl)
@[simp] theorem ahA(N:Nat)(m:As)(ds:χ):D9 N m ds=(m (J6 N ds)).bind outD:=(rfl)
noncomputable def e6:Option Bw->R χ
 |some (.C8 ds)=>.ok ds
 |_=>.bad
@[simp] theorem akU(i:Nat)(ρ:AI):ownAt i ρ=e6 ρ[i]?:=by unfold ownAt e6;rfl
@[simp] theorem alK(ds:χ):e6 (some (.C8 ds))=.ok ds:=(rfl)
@[simp] theorem ajj(set:D->AI->R AI)(body:As)(ρ:AI):JX set body [] ρ=.ok (.BG ρ):=(rfl)
theorem ku{set:D->AI->R AI}{body:As}(I:Nat->AI->Prop):∀(ds:χ)(i:Nat)(ρ:AI),(∀(j:Nat) d ρ,ds[j]?=some d->I (i+j) ρ->∃ED BK,set d ρ=.ok ED/\body ED=.ok (.BG BK)/\I (i+j+1) BK)->I i ρ->∃BK,JX set body ds ρ=.ok (.BG BK)/\I (i+ds.length) BK
 |[],i,ρ,_,h=>⟨ρ,rfl,h⟩
 |d::ds,i,ρ,st,h=>by
  obtain⟨ED,Ej,A7,AH,A8⟩:=st 0 d ρ rfl h;obtain⟨BK,B1,Au⟩:=ku I ds (i+1) Ej (λj d ρ e AC=>by obtain⟨a,b,B_,EQ,Hk⟩:=st (j+1) d ρ (e:) (by rw[show i+(j+1)=i+1+j by lia];exact AC);exact⟨a,b,B_,EQ,by rw[show i+1+j+1=i+(j+1)+1 by lia];exact Hk⟩) (A8:)
  refine⟨BK,?_,by rw[HL,show i+(ds.length+1)=i+1+ds.length by lia];exact Au⟩;rw[JX,A7,BV,AH,BV];exact B1
def vh{mi:Ap}{set:D->AI->R AI}{body:As}{ds:χ}{ρ:AI}(I:Nat->AI->Prop)(AC:mi ρ=.ok ds)(st:∀(j:Nat) d ρ,ds[j]?=some d->I j ρ->∃ED BK,set d ρ=.ok ED/\body ED=.ok (.BG BK)/\I (j+1) BK)(h:I 0 ρ):∃BK,Ep mi set body ρ=.ok (.BG BK)/\I ds.length BK:=by obtain⟨BK,e,h'⟩:=ku I ds 0 ρ (λj d ρ e Bs=>by rw[YN]at Bs |-;exact st j d ρ e Bs) h;rw[YN]at h';exact⟨BK,by rw[qp,AC,BV,e],h'⟩
@[simp] theorem cV(d:D):H8 (.A1 d)=.A1 d:=(rfl)
noncomputable def hA(i:Nat)(ρ:AI)(ds:χ)(d:D):R Fy:=if ds.length<1000000 then .ok (.BG (ρ.set i (.C8 (ds++[d]))))else .bad
@[simp] theorem akG{i:Nat}{ρ:AI}{ds:χ}{d:D}(h:ds.length<1000000):hA i ρ ds d=.ok (.BG (ρ.set i (.C8 (ds++[d])))):=if_pos h
@[simp] theorem akj(i:Nat)(m:A_)(ρ:AI):JB i m ρ=(ownAt i ρ).bind λds=>(m ρ).bind λd=>hA i ρ ds d:=(rfl)
@[simp] theorem akk(i:Nat)(m:HO)(ρ:AI):af i m ρ=(ownAt i ρ).bind λ_=>(m ρ).bind λx=>(ownAt i x.2).bind λds=>hA i x.2 ds x.1:=(rfl)
noncomputable def ajh(i:Nat)(ds:χ)(ρ:AI):D->R (D×AI)
 |.lst A2=>if ds.length+A2.length<=1000000 then .ok (.non,ρ.set i (.C8 (ds++A2)))else .bad
 |_=>.bad
noncomputable def Zt(i:Nat)(ds:χ)(ρ:AI):D->R (D×AI)
 |.int k=>if-(2^63)<=k/\k<2^63 then match Sk k ds.length with
  |some j=>match ds[j]? with
   |some y=>.ok (y,ρ.set i (.C8 (ds.eraseIdx j)))
   |none=>.bad
  |none=>.bad
  else .bad
 |_=>.bad
@[simp] theorem akV(i:Nat)(m:A_)(ρ:AI):OX i m ρ=(ownAt i ρ).bind λds=>(m ρ).bind λd=>Zt i ds ρ d:=by unfold OX;congr 1
def acv{i:Nat}{ds:χ}{ρ:AI}{k:Nat}(h:k<ds.length)(AP:ds.length<1000000):Zt i ds ρ (.int (k:Int))=.ok (ds[k],ρ.set i (.C8 (ds.eraseIdx k))):=by
 have FV: -(2^63)<=(k:Int):=Int.le_trans ε (Int.natCast_nonneg k);have Ez:(k:Int)<2^63:=Int.lt_trans (b:=1000000) δ ε;have s:Sk (k:Int) ds.length=some k:=by rw[PySem.seqIndex_of δ δ];simp
 erw[Zt,if_pos (And.intro FV Ez),s,DV h]
@[simp] theorem akv(m:Ap)(ρ:AI):W9 m ρ=(m ρ).bind Wm:=(rfl)
@[simp] theorem aku(m:Ap)(ρ:AI):OW m ρ=(m ρ).bind aY:=(rfl)
@[simp] theorem ahH(set:D->AI->R AI)(m:A_)(ρ:AI):Md set m ρ=(m ρ).bind λd=>(set d ρ).bind λBK=>.ok (.BG BK):=(rfl)
@[simp] theorem qv(m:A_)(ρ:AI):Jg m ρ=(m (EK ρ)).bind λd=>.ok (.Du d):=(rfl)
@[simp] theorem alN(ds:χ):Tw (.lst ds)=.ok ds:=(rfl)
@[simp] theorem al4(ds:χ):aY [.lst ds]=.ok ds:=(rfl)
@[simp] theorem al3{xs:χ}(h:xs.length<=1000000):lim xs=.ok xs:=if_pos h
@[simp] theorem ajo:EK []=[]:=(rfl)
@[simp] theorem ajn(s:Bw)(ρ:AI):EK (s::ρ)=K7 s::EK ρ:=(rfl)
@[simp] theorem vl(d:D):K7 (.A1 d)=.A1 d:=(rfl)
@[simp] theorem vm:K7 .un=.un:=(rfl)
@[simp] theorem ajm(ds:χ):K7 (.ob (.lst ds))=.A1 (.lst ds):=(rfl)
@[simp] theorem alH(i:Int):Zm (.int i)=.ok (.int i):=(rfl)
@[simp] theorem UP{α:Type}(a:α):GC (R.ok a)=.ok a:=(rfl)
def fC:Option Bw->R χ
 |some (.ob (.lst ds))=>.ok ds
 |_=>.bad
@[simp] theorem alR(i:Nat)(ρ:AI):Jh i ρ=fC ρ[i]?:=by unfold Jh fC;rfl
@[simp] theorem alT(ds:χ):fC (some (.C8 ds))=.ok ds:=(rfl)
@[simp] theorem akp(f g:D->D->R D)(a b c:A_)(ρ:AI):OU f g a b c ρ=(a ρ).bind λx=>(b ρ).bind λy=>(f x y).bind λz=>(MP z).bind λk=>if k=true then(c ρ).bind λw=>g y w else .ok (.AV false):=(rfl)
@[simp] theorem aj_(N:Nat)(ds:χ):J6 N ds=ds.map .A1++GF (N-ds.length) .un:=(rfl)
def LB{xs:χ}{k:Nat}{d:D}(h:xs[k]?=some d):AU (.lst xs) (.int (k:Int))=.ok d:=by
 have AG:=(List.getElem?_eq_some_iff.mp h).1;have e:H7 xs (k:Int)=some d:=by unfold H7 KA;rw[if_pos δ,if_pos δ];simpa using h
 erw[AU,e]
def yq{xs:χ}{k:Nat}{d:D}(h:xs[k]?=some d):AU (.CO xs) (.int (k:Int))=.ok d:=by
 have AG:=(List.getElem?_eq_some_iff.mp h).1;have e:H7 xs (k:Int)=some d:=by unfold H7 KA;rw[if_pos δ,if_pos δ];simpa using h
 erw[AU,e]
def lL{xs:χ}{k:Nat}{d:D}(h:xs[k]?=some d):AU (.tup xs) (.int (k:Int))=.ok d:=by
 have AG:=(List.getElem?_eq_some_iff.mp h).1;have e:H7 xs (k:Int)=some d:=by unfold H7 KA;rw[if_pos δ,if_pos δ];simpa using h
 erw[AU,e]
def KI(x:Int){n:Nat}(h:0<n):∃k:Nat,k<n/\x%(n:Int)=(k:Int):=by have h0:0<=x%(n:Int):=gZ _ δ;have A5:x%(n:Int)<(n:Int):=gK _ δ;obtain⟨k,e⟩:=Int.eq_ofNat_of_zero_le h0;exact⟨k,δ,e⟩
@[simp] theorem QO(n:Nat)(h:n<1000000):Rr [.int (n:Int)]=.ok (Ft 0 n):=by have: -(2^62)<=(n:Int)/\(n:Int)<2^62:=⟨δ,δ⟩;erw[Rr,if_pos this,LK]
def aeQ{n j:Nat}{d:D}(h:(Ft 0 n)[j]?=some d):j<n/\d=.int (j:Int):=by
 unfold Ft at h;rw[Dm]at h;cases e:(DK n)[j]? with
 |none=>rw[e]at h;cases h
 |some k=>
  rw[e]at h;have Bs:j<n:=by have:=(List.getElem?_eq_some_iff.mp e).1;simpa using this
  rw[QY Bs]at e;cases e;simp at h;exact⟨Bs,h.symm⟩
@[simp] theorem aeR(a:Int)(n:Nat):(Ft a n).length=n:=by simp[Ft]
@[simp] theorem RP{α β ajV:Type}(r:R α)(f:α->R β)(g:β->R ajV):(r.bind f).bind g=r.bind λx=>(f x).bind g:=by cases r<;>rfl
def Ends{β:Type}(r:R β)(T:β->Prop):Prop:=∃b,r=.ok b/\T b
@[simp] theorem akL{β:Type}(b:β)(T:β->Prop):Ends (.ok b) T=T b:=propext ⟨λ⟨c,e,h⟩=>by cases e;exact h,λh=>⟨b,rfl,h⟩⟩
theorem Ends.bind{α β:Type}{r:R α}{k:α->R β}{S:α->Prop}{T:β->Prop}(h:Ends r S)(f:∀b,S b->Ends (k b) T):Ends (r.bind k) T:=by obtain⟨b,rfl,J⟩:=h;exact f b J
def Ends.mono{β:Type}{r:R β}{S T:β->Prop}(h:Ends r S)(f:∀b,S b->T b):Ends r T:=by obtain⟨b,e,J⟩:=h;exact⟨b,e,f b J⟩
def Kg(I:AI->Prop)(f:Fy):Prop:=∃ρ,f=.BG ρ/\I ρ
@[simp] theorem akA(I:AI->Prop)(ρ:AI):Kg I (.BG ρ)=I ρ:=propext ⟨λ⟨r,e,h⟩=>by cases e;exact h,λh=>⟨ρ,rfl,h⟩⟩
def jQ{β:Type}{mi:Ap}{set:D->AI->R AI}{body:As}{ds:χ}{ρ:AI}{k:Fy->R β}{T:β->Prop}(I:Nat->AI->Prop)(AC:mi ρ=.ok ds)(h0:I 0 ρ)(st:∀(j:Nat) d ρ,ds[j]?=some d->I j ρ->Ends ((set d ρ).bind body) (Kg (I (j+1))))(fin:∀BK,I ds.length BK->Ends (k (.BG BK)) T):Ends ((Ep mi set body ρ).bind k) T:=by
 obtain⟨BK,e,h⟩:=vh (body:=body) (set:=set) (mi:=mi) I AC (λj d ρ hd GO=>by
  obtain⟨b,e,BK,rfl,h⟩:=st j d ρ hd GO;cases A2:set d ρ with
  |bad=>rw[A2]at e;cases e
  |exc c=>rw[A2]at e;cases e
  |ok ED=>rw[A2,BV]at e;exact⟨ED,BK,rfl,e,h⟩) h0
 rw[e,BV];exact fin BK h
def q4(i:Nat):Fy->R Fy
 |.BG BK=>.ok (.BG (L1 i BK))
 |f=>.ok f
@[simp] theorem f5(i:Nat)(a:Ap)(ρ:AI):NK i a ρ=(Eg i a ρ).bind (q4 i):=by unfold NK;congr 1
@[simp] theorem fT(i:Nat)(ρ:AI):q4 i (.BG ρ)=.ok (.BG (L1 i ρ)):=(rfl)
noncomputable def iF(ds:χ):D->R χ
 |.lst A2=>if ds.length+A2.length<=1000000 then .ok (ds++A2)else .bad
 |_=>.bad
@[simp] theorem akH{ds A2:χ}(h:ds.length+A2.length<=1000000):iF ds (.lst A2)=.ok (ds++A2):=if_pos h
noncomputable def iE:D->D->R χ
 |.lst ds,.lst A2=>if ds.length+A2.length<=1000000 then .ok (ds++A2)else .bad
 |_,_=>.bad
@[simp] theorem ZZ{ds A2:χ}(h:ds.length+A2.length<=1000000):iE (.lst ds) (.lst A2)=.ok (ds++A2):=if_pos h
@[simp] theorem b9(m n:A_)(ρ:AI):I8 m n ρ=(m ρ).bind λc=>(n ρ).bind λd=>iE c d:=by unfold I8;congr 1
@[simp] theorem ako(i:Nat)(m:A_)(ρ:AI):Wq i m ρ=(ownAt i ρ).bind λds=>(m ρ).bind λd=>iF ds d:=by unfold Wq;congr 1
@[simp] theorem qw(f:D->Option Int->Option Int->R D)(m:A_)(lo AC:Pz)(ρ:AI):I9 f m lo AC ρ=(m ρ).bind λd=>(lo ρ).bind λl=>(AC ρ).bind λh=>f d l h:=(rfl)
def bg(i:Nat)(ρ:AI):Option Bw->AI
 |some (.ob o)=>ρ.set i (.A1 (Oc o))
 |_=>ρ
@[simp] theorem ajl(i:Nat)(ρ:AI):L1 i ρ=bg i ρ ρ[i]?:=by unfold L1 bg;rfl
@[simp] theorem ajk(i:Nat)(ρ:AI)(ds:χ):bg i ρ (some (.C8 ds))=ρ.set i (.A1 (.lst ds)):=(rfl)
@[simp] theorem qs(ρ:AI):NH ρ=.ok none:=(rfl)
@[simp] theorem qt(m:A_)(ρ:AI):GU m ρ=(m ρ).bind intD:=(rfl)
@[simp] theorem m7(i:Int):intD (.int i)=.ok (some i):=(rfl)
def Zi{β α:Type}{mi:Ap}{elt:A_}{tst:CG}{caps:φ}{ρ:AI}{k:χ->R β}{T:β->Prop}(g:α->D)(xs:List α)(p:α->Bool)(f:α->D)(AC:mi ρ=.ok (xs.map g))(AP:xs.length<=1000)(Ax:∀a∈xs,tst (.A1 (g a)::caps.map λj=>H8 (ρ.getD j .un))=.ok (p a))(h:∀a∈xs,p a=true->elt (.A1 (g a)::caps.map λj=>H8 (ρ.getD j .un))=.ok (f a))(fin:Ends (k ((xs.filter p).map f)) T):Ends ((D3 1 caps mi (BR 0) tst elt ρ).bind k) T:=by
 have go:∀(xs:List α)(ws:χ)(s0:Bw),ws.length+xs.length<=1000000->(∀a∈xs,tst (.A1 (g a)::caps.map λj=>H8 (ρ.getD j .un))=.ok (p a))->(∀a∈xs,p a=true->elt (.A1 (g a)::caps.map λj=>H8 (ρ.getD j .un))=.ok (f a))->I3 (BR 0) tst elt (xs.map g) (s0::caps.map λj=>H8 (ρ.getD j .un)) ws=.ok (ws++(xs.filter p).map f):=by
  intro xs;induction xs with
  |nil=>intro ws s0 _ _ _;simp[I3]
  |cons a xs BW=>
   intro ws s0 AP Ax h;erw[HL]at AP;have D7:BR 0 (g a) (s0::caps.map λj=>H8 (ρ.getD j .un))=.ok (.A1 (g a)::caps.map λj=>H8 (ρ.getD j .un)):=γ
   rw[Dc,I3,D7,BV,Ax a γ,BV];cases e:p a with
   |true=>erw[if_true,h a γ e,BV,if_pos (show ws.length<1000000 by lia)];rw[BW (ws++[f a]) _ θ (λx AJ=>Ax x (by simp[AJ])) λx AJ=>h x (by simp[AJ])];simp[e]
   |false=>erw[HJ,if_false];rw[BW ws _ δ (λx AJ=>Ax x (by simp[AJ])) λx AJ=>h x (by simp[AJ])];simp[e]
 rw[qm,AC,BV];have e:=go xs [] .un θ Ax h;have:GC (I3 (BR 0) tst elt (xs.map g) (Ng 1 caps ρ) [])=.ok ((xs.filter p).map f):=by show GC (I3 (BR 0) tst elt (xs.map g) (.un::caps.map λj=>H8 (ρ.getD j .un)) [])=_;rw[e];rfl
 rw[this,BV];exact fin
def Qy{β α:Type}{mi:Ap}{elt:A_}{caps:φ}{ρ:AI}{k:χ->R β}{T:β->Prop}(g:α->D)(xs:List α)(f:α->D)(AC:mi ρ=.ok (xs.map g))(AP:xs.length<=1000)(h:∀a∈xs,elt (.A1 (g a)::caps.map λj=>H8 (ρ.getD j .un))=.ok (f a))(fin:Ends (k (xs.map f)) T):Ends ((D3 1 caps mi (BR 0) ET elt ρ).bind k) T:=
 Zi g xs (λ_=>true) f AC AP (λ_ _=>rfl) (λa AB _=>h a AB) (by rw[List.filter_eq_self.mpr λ_ _=>rfl];exact fin)
def eJ(n:Nat):Ft 0 n=(DK n).map λ(i:Nat)=>.int (i:Int):=by simp[Ft]
def Qz{β:Type}{mi:Ap}{elt:A_}{caps:φ}{ρ:AI}{k:χ->R β}{T:β->Prop}(n:Nat)(f:Nat->D)(AC:mi ρ=.ok (Ft 0 n))(AP:n<=1000)(h:∀a,a<n->elt (.A1 (.int (a:Int))::caps.map λj=>H8 (ρ.getD j .un))=.ok (f a))(fin:Ends (k ((DK n).map f)) T):Ends ((D3 1 caps mi (BR 0) ET elt ρ).bind k) T:=
 Qy (λ(i:Nat)=>.int (i:Int)) (DK n) f (by rw[AC,eJ]) (AP:) (λa AB=>h a (AB:)) fin
def VK{β α:Type}{mi:Ap}{set:D->AI->R AI}{body:As}{ρ:AI}{k:Fy->R β}{T:β->Prop}(g:α->D)(xs:List α)(I:Nat->AI->Prop)(AC:mi ρ=.ok (xs.map g))(h0:I 0 ρ)(st:∀(j:Nat) a ρ,xs[j]?=some a->I j ρ->Ends ((set (g a) ρ).bind body) (Kg (I (j+1))))(fin:∀BK,I xs.length BK->Ends (k (.BG BK)) T):Ends ((Ep mi set body ρ).bind k) T:=
 jQ I AC h0 (λj d ρ hd GO=>by
  rw[Dm]at hd;cases e:xs[j]? with
  |none=>rw[e]at hd;cases hd
  |some a=>rw[e]at hd;cases hd;exact st j a ρ e GO) (by rw[Ea];exact fin)
def Os{β:Type}{mi:Ap}{set:D->AI->R AI}{body:As}{ρ:AI}{k:Fy->R β}{T:β->Prop}(n:Nat)(I:Nat->AI->Prop)(AC:mi ρ=.ok (Ft 0 n))(h0:I 0 ρ)(st:∀(j:Nat) ρ,j<n->I j ρ->Ends ((set (.int (j:Int)) ρ).bind body) (Kg (I (j+1))))(fin:∀BK,I n BK->Ends (k (.BG BK)) T):Ends ((Ep mi set body ρ).bind k) T:=
 jQ I AC h0 (λj d ρ hd GO=>by obtain⟨Bs,rfl⟩:=aeQ hd;exact st j ρ Bs GO) (by rw[aeR];exact fin)
theorem nB{α β:Type}(f:α->β):∀(l:List α)(i:Nat),(l.map f).eraseIdx i=(l.eraseIdx i).map f
 |[],_=>rfl
 |x::l,0=>rfl
 |x::l,i+1=>by erw[ry,Dc,nB f l i]
def eC{α:Type}(g:α->D){l:List α}{i:Nat}{k:Nat}(h:k<l.length)(AP:l.length<1000000)(ρ:AI):Zt i (l.map g) ρ (.int (k:Int))=.ok (g l[k],ρ.set i (.C8 ((l.eraseIdx k).map g))):=by rw[acv (h:) (AP:),nB];simp
@[simp] theorem al6(n:Nat)(h:n<=1000000):Wm [.int (n:Int)]=.ok (Ft 0 n):=by have: -(2^62)<=(n:Int)/\(n:Int)<=1000000:=⟨δ,δ⟩;erw[Wm,if_pos this,LK]
@[simp] theorem pj(xs:χ)(l h:Option Int):HV (.lst xs) l h=.ok (.lst (G9 xs l h)):=(rfl)
@[simp] theorem aka(xs:χ)(l h:Option Int):HV (.CO xs) l h=.ok (.lst (G9 xs l h)):=(rfl)
def uD{α:Type}(xs:List α)(k:Nat):G9 xs none (some (k:Int))=xs.take k:=by
 unfold G9;rw[Ec.adW,Ec.adV,List.drop_zero,Nat.sub_zero];by_cases h:k<=xs.length
 .rw[g_ h]
 .rw[Nat.min_eq_right δ,Xk,UT δ]
def cb{α β:Type}(g:α->β)(xs:List α)(l h:Option Int):G9 (xs.map g) l h=(G9 xs l h).map g:=by unfold G9;simp[Ul,List.map_drop]
@[simp] theorem aej(Aw:List (D->AI->R AI))(ds:χ)(ρ:AI):Fv Aw (.tup ds) ρ=IJ Aw ds ρ:=(rfl)
@[simp] theorem aeh(ρ:AI):IJ [] [] ρ=.ok ρ:=(rfl)
@[simp] theorem aeg(f:D->AI->R AI)(Aw:List (D->AI->R AI))(d:D)(ds:χ)(ρ:AI):IJ (f::Aw) (d::ds) ρ=(f d ρ).bind λBK=>IJ Aw ds BK:=(rfl)
@[simp] theorem akw(Af:Str)(n:Nat)(BP:χ->R (List Str×χ))(ma:Ap)(ρ:AI):RY Af n BP ma ρ=(ma ρ).bind λds=>if ds.length=n then(GC (BP ds)).bind λx=>.ok (.ins Af x.1 x.2)else .bad:=(rfl)
@[simp] theorem alB(i:Int):NS (.int i)=.ok (.int (-i)):=(rfl)
@[simp] theorem qq(m:Ap)(ρ:AI):T0 m ρ=(m ρ).bind T4:=(rfl)
@[simp] theorem v_is(m:A_)(ρ:AI):Wu m ρ=(m ρ).bind dv:=(rfl)
@[simp] theorem akx(i:Nat)(m:As)(ρ:AI):SK i m ρ=m (L1 i ρ):=(rfl)
@[simp] theorem aks(c:CG)(a b:A_)(ρ:AI):LS c a b ρ=(c ρ).bind λk=>if k=true then a ρ else b ρ:=(rfl)
@[simp] theorem akT(a b:A_)(ρ:AI):WA a b ρ=(a ρ).bind λx=>(MP x).bind λc=>if c=true then .ok (.AV true)else b ρ:=(rfl)
@[simp] theorem ahD(Af mt:Str)(n:Nat)(BP:χ->R C2)(o:A_)(ma:Ap)(ρ:AI):HT Af mt n BP o ma ρ=(o ρ).bind λd=>(ME Af mt d).bind λd=>(ma ρ).bind λds=>if ds.length=n then(BP (d::ds)).bind Ks else .bad:=(rfl)
@[simp] theorem akW(i:Nat)(mk mv:A_)(ρ:AI):ak i mk mv ρ=(mv ρ).bind λv=>(ownAt i ρ).bind λds=>(mk ρ).bind λk=>putK i ρ ds v k:=(rfl)
def acZ{i:Nat}{ρ:AI}{ds:χ}{v:D}{k:Nat}(h:k<ds.length):putK i ρ ds v (.int (k:Int))=.ok (.BG (ρ.set i (.C8 (ds.set k v)))):=by
 have e:KA ds.length (k:Int)=some k:=by unfold KA;rw[if_pos δ,if_pos δ];simp
 erw[putK,e,putN]
@[simp] theorem rT(k:Bool):X6 [.AV k]=.ok (.int (if k then 1 else 0)):=(rfl)
@[simp] theorem aja(x:D):Hp true x .non=.ok (.AV (K9 x)):=(rfl)
@[simp] theorem alO(x:Str):dv (.str x)=.ok (x.cps.toList.map Jo):=(rfl)
def jW{α:Type}(g:α->D)(xs:List α):T4 [.lst (xs.map g)]=.ok (xs.zipIdx.map λp=>.tup [.int (p.2:Int),g p.1]):=by
 erw[T4,PW]
 congr 1
 rw[List.zipIdx_map,Hd];rfl
def ajS{α:Type}{xs:List α}{j:Nat}{p:α×Nat}(h:xs.zipIdx[j]?=some p):p.2=j/\xs[j]?=some p.1:=by
 rw[sU]at h;cases e:xs[j]? with
 |none=>rw[e]at h;cases h
 |some a=>rw[e]at h;simp at h;subst h;exact⟨rfl,rfl⟩
def r9{α:Type}{xs:List α}{p:α×Nat}(h:p∈xs.zipIdx):xs[p.2]?=some p.1:=by obtain⟨j,e⟩:=List.mem_iff_getElem?.mp h;obtain⟨A5,A8⟩:=ajS e;rw[A5];exact A8
def jP{β α:Type}{mi:Ap}{elt:A_}{caps:φ}{ρ:AI}{k:χ->R β}{j3:β->Prop}(g1 g2:α->D)(xs:List α)(f:α->D)(AC:mi ρ=.ok (xs.map λa=>.tup [g1 a,g2 a]))(AP:xs.length<=1000)(h:∀a∈xs,elt (.A1 (g1 a)::.A1 (g2 a)::caps.map λj=>H8 (ρ.getD j .un))=.ok (f a))(fin:Ends (k (xs.map f)) j3):Ends ((D3 2 caps mi (Fv [BR 0,BR 1]) ET elt ρ).bind k) j3:=by
 have go:∀(xs:List α)(ws:χ)(s0 s1:Bw),ws.length+xs.length<=1000000->(∀a∈xs,elt (.A1 (g1 a)::.A1 (g2 a)::caps.map λj=>H8 (ρ.getD j .un))=.ok (f a))->I3 (Fv [BR 0,BR 1]) ET elt (xs.map λa=>.tup [g1 a,g2 a]) (s0::s1::caps.map λj=>H8 (ρ.getD j .un)) ws=.ok (ws++xs.map f):=by
  intro xs;induction xs with
  |nil=>intro ws s0 s1 _ _;simp[I3]
  |cons a xs BW=>
   intro ws s0 s1 AP h;erw[HL]at AP;have D7:Fv [BR 0,BR 1] (.tup [g1 a,g2 a]) (s0::s1::caps.map λj=>H8 (ρ.getD j .un))=.ok (.A1 (g1 a)::.A1 (g2 a)::caps.map λj=>H8 (ρ.getD j .un)):=γ
   rw[Dc,I3,D7,BV];erw[ET,BV,if_true,h a γ,if_pos (show ws.length<1000000 by lia)];rw[BW (ws++[f a]) _ _ θ λx AJ=>h x (by simp[AJ])];simp
 rw[qm,AC,BV];have e:=go xs [] .un .un θ h;have:GC (I3 (Fv [BR 0,BR 1]) ET elt (xs.map λa=>.tup [g1 a,g2 a]) (Ng 2 caps ρ) [])=.ok (xs.map f):=by show GC (I3 (Fv [BR 0,BR 1]) ET elt (xs.map λa=>.tup [g1 a,g2 a]) (.un::.un::caps.map λj=>H8 (ρ.getD j .un)) [])=_;rw[e];rfl
 rw[this,BV];exact fin
def Ends.done{β:Type}{r:R β}{b:β}(h:Ends r (· =b)):r=.ok b:=by obtain⟨c,e,rfl⟩:=h;exact e
end CR
namespace JM
open PySem PySem.Spec Bv CR
noncomputable def top(i:Nat):BZ:=PySem.Challenge.pw_nohalfway_k40_rows_of_few.main.body.getD i (.Pass ⟨0,0,0,0⟩)
abbrev pP:BZ:=top 46
abbrev pT:BZ:=top 47
abbrev pQ:BZ:=top 48
abbrev pR:BZ:=top 49
abbrev oj:BZ:=top 50
abbrev pS:BZ:=top 54
abbrev og:BZ:=top 53
abbrev pN:BZ:=top 55
abbrev pO:BZ:=top 56
abbrev pL:BZ:=top 59
abbrev pM:BZ:=top 51
abbrev pV:BZ:=top 52
abbrev oi:BZ:=top 57
abbrev pI:BZ:=top 1
abbrev pJ:BZ:=top 2
abbrev p7:BZ:=top 39
abbrev pF:BZ:=top 40
abbrev pD:BZ:=top 41
abbrev pK:BZ:=top 42
abbrev p8:BZ:=top 43
abbrev nO:BZ:=inClass (top 44) 0
abbrev nR:BZ:=inClass (top 32) 3
abbrev o3:BZ:=inClass (top 32) 4
abbrev nU:BZ:=inClass (top 32) 5
abbrev nS:BZ:=inClass (top 32) 2
abbrev pG:BZ:=top 8
abbrev pA:BZ:=top 7
abbrev p9:BZ:=top 9
abbrev ow:BZ:=top 23
abbrev nM:BZ:=inClass (top 44) 3
abbrev ot:BZ:=top 25
abbrev p6:BZ:=inClass (top 32) 1
abbrev nT:BZ:=inClass (top 32) 0
abbrev oq:BZ:=top 29
abbrev ov:BZ:=top 33
abbrev oo:BZ:=top 34
abbrev om:BZ:=top 35
abbrev oe:BZ:=top 60
abbrev pE:BZ:=top 18
abbrev pH:BZ:=top 19
abbrev pB:BZ:=top 20
abbrev nN:BZ:=inClass (top 44) 1
abbrev pC:BZ:=top 21
abbrev ou:BZ:=top 22
abbrev nP:BZ:=inClass (top 44) 5
abbrev nQ:BZ:=inClass (top 44) 6
abbrev ox:BZ:=top 26
abbrev oy:BZ:=top 27
abbrev oh:BZ:=top 58
abbrev pU:BZ:=top 61
abbrev OC:BZ:=top 62
def Vp:D:=.int 15
def Vq:D:=.int 4
def Vr:D:=.int 6
def Vs:D:=.int 12
def ZY:D:=.EI [.str (Be "ring")]
noncomputable def Tk:D:=.EI [.str (Be "0"),.str (Be "1"),.str (Be "x")]
noncomputable def RJ:D:=.EI [.int 8,.int 4,.int 2,.int 1]
structure Dh(K:AZ)(mg:Str->Option A4):Prop where
 wW:Df K mg "_law_cell_at" pP ["_law_script","_law_k"]
 w_:Df K mg "_law_mixed" pT ["_law_cell","_law_k"]
 wX:Df K mg "_law_counts" pQ ["_law_cell"]
 wY:Df K mg "_law_doors" pR ["_law_counts_here"]
 wg:Df K mg "_law_wires" oj ["_law_cell","_law_counts_here"]
 wZ:Df K mg "_law_free_book" pS ["_law_number","_law_count"]
 wd:Df K mg "_law_row" og ["_law_cell","_law_k","_law_count"]
 wU:Df K mg "_law_books" pN ["_law_cells","_law_counts_here","_law_shift"]
 wV:Df K mg "_law_both" pO ["_law_script","_law_counts_here"]
 wS:Df K mg "_law_all" pL ["_law_script"]
 wT:Df K mg "_law_beyond" pM ["_law_wires_here","_law_door"]
 wb:Df K mg "_law_outer" pV ["_law_counts_here","_law_wires_here"]
 wf:Df K mg "_law_some" oi ["_law_cell","_law_many"]
 wP:Df K mg "is_whole" pI ["thing"]
 wQ:Df K mg "is_whole_within" pJ ["thing","least","greatest"]
 ui:Df K mg "are_counts" p7 ["thing"]
 wM:Df K mg "is_pair" pF ["thing"]
 wK:Df K mg "is_door_among" pD ["counts","thing"]
 wR:Df K mg "is_wire_among" pK ["counts","thing"]
 uj:Df K mg "far_doors" p8 ["counts","wires"]
 vF:InK K mg "Net" "Net.__init__" nO ["self","counts","wires"]
 vI:L_ K "Weaver" "behind" "Weaver.behind" nR ["self","spot"]
 uf:L_ K "Weaver" "round_from" "Weaver.round_from" o3 ["self","spot"]
 ue:L_ K "Weaver" "met" "Weaver.met" nU ["self"]
 vJ:L_ K "Weaver" "entered" "Weaver.entered" nS ["self","door","ahead"]
 wN:Df K mg "is_pattern" pG ["thing"]
 um:Df K mg "is_address" pA ["thing"]
 uk:Df K mg "fits" p9 ["pattern","address"]
 vy:Df K mg "taken" ow ["book","door","address"]
 vD:L_ K "Net" "beyond" "Net.beyond" nM ["self","door"]
 vv:Df K mg "onward" ot ["net","book","door","address"]
 ug:L_ K "Weaver" "weave" "Weaver.weave" p6 ["self","door"]
 ud:InK K mg "Weaver" "Weaver.__init__" nT ["self","net","stages","door","address","shunned"]
 vt:Df K mg "mixed" oq ["old","new","houses"]
 vx:Df K mg "stages_of" ov ["old","new","row"]
 vr:Df K mg "met_with_leadings" oo ["net","old","new","row","door","address"]
 wh:Df K mg "meets" om ["net","old","new","row","door","address"]
 wc:Df K mg "_law_plainly" oe ["_law_told"]
 wL:Df K mg "is_number_or_none" pE ["thing","doors"]
 wO:Df K mg "is_row" pH ["thing","doors"]
 vK:Df K mg "is_book" pB ["thing","doors"]
 vE:L_ K "Net" "count" "Net.count" nN ["self","house"]
 wJ:Df K mg "is_books" pC ["thing","net"]
 vw:Df K mg "refuse_unless_books" ou ["thing","net"]
 vG:L_ K "Net" "is_door" "Net.is_door" nP ["self","thing"]
 vH:L_ K "Net" "is_outer" "Net.is_outer" nQ ["self","thing"]
 vz:Df K mg "walked" ox ["net","books","door","address"]
 w0:Df K mg "way" oy ["net","books","door","address"]
 we:Df K mg "_law_shelves" oh ["_law_old","_law_new","_law_some_here"]
 wa:Df K mg "_law_one" pU ["_law_net","_law_both_here","_law_some_here","_law_door","_law_address"]
 aji:Df K mg "law" OC ["_law_script"]
 ags:V2 K mg "NoAddress"
 agt:V2 K mg "NoBooks"
 agu:V2 K mg "NoDoor"
 lV:N4 K "Net" ["many","counts","joined","far"]
 Wi:N4 K "Weaver" ["net","stages","address","shunned","woven","told"]
 tE:mg "all"=none
 tF:mg "bool"=none
 tG:mg "enumerate"=none
 iS:mg "int"=none
 Vm:mg "isinstance"=none
 sa:mg "len"=none
 h6:mg "list"=none
 cG:mg "range"=none
 se:mg "set"=none
 cI:mg "sorted"=none
 iV:mg "str"=none
 iW:mg "tuple"=none
 sf:mg "zip"=none
 Vp:Ke K mg "GREATEST_ADDRESS" Vp
 Vq:Ke K mg "MOST_DOORS" Vq
 Vr:Ke K mg "MOST_HOUSES" Vr
 Vs:Ke K mg "MOST_ROWS" Vs
 ZY:Ke K mg "RING" ZY
 Tk:Ke K mg "SIGNS" Tk
 RJ:Ke K mg "WORTHS" RJ
def afJ:CT ["_law_script","_law_k"] ["_law_script","_law_k"] (Br pP):=DN
def Yu:As:=
    Ab (Cf (BF (A9 Wn (A0 1) (Bz CN (A3 (A0 0) (AE))))) (Cc (A9 AU (A0 0) (A0 1))) (Cs))
    (Cc Δ)
def LH:χ->R C2:=D9 2 Yu
def qC:CT ["_law_cell","_law_k","_law_factor","_law_prime"] ["_law_cell","_law_k"] (Br pT):=DN
noncomputable def gz:As:=
    Ab (Bc 2 (A9 AU (BQ (CL (A3 (AD (.int 48271)) (A3 (AD (.int 69621)) (A3 (AD (.int 16807)) (A3 (AD (.int 39373)) (A3 (AD (.int 40692)) (A3 (AD (.int 742938285)) (A3 (AD (.int 950706376)) (A3 (AD (.int 1343714438)) (AE))))))))))) (A9 Cy (A0 1) (AD (.int 8)))))
    (Ab (Bc 3 (A9 AU (BQ (CL (A3 (AD (.int 2147483647)) (A3 (AD (.int 2147483629)) (A3 (AD (.int 2147483587)) (A3 (AD (.int 2147483579)) (A3 (AD (.int 2147483563)) (AE)))))))) (A9 Cy (A0 1) (AD (.int 5)))))
    (Cc (A9 ER (A9 Cy (A9 Mf (A9 DP (A9 DP (A9 Cy (A0 0) (A9 Og (AD (.int 10)) (AD (.int 30)))) (A9 Mf (AD (.int 31)) (A0 1))) (AD (.int 7))) (A0 2)) (A0 3)) (AD (.int 7)))))
def FL:χ->R C2:=D9 4 gz
def oc:CT ["_law_cell","_law_number","_law_most","_law_many"] ["_law_cell"] (Br pQ):=DN
noncomputable def YQ:As:=
    Ab (Cf (BF (A9 (Bi true) (A9 Cy (A0 0) (AD (.int 2))) Γ)) (Ab (Bc 1 (A9 Cy (A9 ER (A0 0) (AD (.int 2))) (A9 Og (AD (.int 10)) (AD (.int 60)))))
    (Ab (Bc 2 (A9 AU (BQ (CL (A3 (AD (.int 4)) (A3 (AD (.int 4)) (A3 (AD (.int 4)) (A3 (AD (.int 3)) (A3 (AD (.int 2)) (A3 (AD (.int 2)) (AE))))))))) (A9 Cy (A0 1) (AD (.int 6)))))
    (GP (D3 1 [2,1] (FK (A3 (A9 DP Γ (A9 Cy (A0 1) (AD (.int 6)))) (AE))) (BR 0) (ET) (A9 DP Γ (A9 Cy (A9 Cy (A9 ER (A9 ER (A0 2) (AD (.int 6))) (A9 AU (BQ (CL (A3 Γ (A3 (AD (.int 4)) (A3 (AD (.int 16)) (A3 (AD (.int 64)) (A3 (AD (.int 256)) (A3 (AD (.int 1024)) (AE))))))))) (A0 0))) (AD (.int 4))) (A0 1))))))) (Cs))
    (Ab (Bc 3 (A9 DP Γ (A9 Cy (CB 2 FL (A3 (A0 0) (A3 Δ (AE)))) (AD (.int 6)))))
    (GP (D3 1 [0,3] (FK (A3 (A0 3) (AE))) (BR 0) (ET) (A9 DP Γ (A9 Cy (CB 2 FL (A3 (A0 1) (A3 (A9 DP Γ (A0 0)) (AE)))) (A9 AU (BQ (CL (A3 (AD (.int 4)) (A3 (AD (.int 4)) (A3 (AD (.int 4)) (A3 (AD (.int 3)) (A3 (AD (.int 2)) (A3 (AD (.int 2)) (AE))))))))) (A9 QT (A0 2) Γ)))))))
def UH:χ->R C2:=D9 4 YQ
def od:CT ["_law_counts_here","_law_doors_here","_law_house"] ["_law_counts_here"] (Br pR):=DN
noncomputable def gx:As:=
    Ab (Eg 1 (CL (AE)))
    (Ab (Ep (FK (A3 (Bz CN (A3 (A0 0) (AE))) (AE))) (BR 2) (Eg 1 (Wq 1 (BQ (D3 1 [2] (FK (A3 (A9 AU (A0 0) (A0 2)) (AE))) (BR 0) (ET) (DS (A3 (A0 1) (A3 (A0 0) (AE)))))))))
    (GP (Jh 1)))
def UI:χ->R C2:=D9 3 gx
def qI:CT ["_law_cell","_law_counts_here","_law_doors_here","_law_wires_here","_law_number","_law_keep","_law_k","_law_picks","_law_one_here","_law_other"] ["_law_cell","_law_counts_here"] (Br oj):=DN
noncomputable def h5:As:=
    Ab (Eg 2 (EM 1 UI (A3 (A0 1) (AE))))
    (Ab (Eg 3 (CL (AE)))
    (Ab (Bc 4 (A9 ER (A9 Cy (A9 ER (A0 0) (AD (.int 2))) (A9 Og (AD (.int 10)) (AD (.int 60)))) (AD (.int 24576))))
    (Ab (Bc 5 (A9 DP Γ (A9 Cy (CB 2 FL (A3 (A0 0) (A3 (AD (.int 8)) (AE)))) (AD (.int 3)))))
    (Ab (Cf (BF (A9 (Bi true) (A9 Cy (A0 0) (AD (.int 2))) Γ)) (Ab (Bc 5 (A9 DP Γ (A9 Cy (A0 4) (AD (.int 24)))))
    (Bc 4 (A9 ER (A0 4) (AD (.int 24))))) (Cs))
    (Ab (Bc 6 (AD (.int 9)))
    (Ab (LG (KF (BF (A9 VS (Bz CN (A3 (A0 2) (AE))) (A9 DP (A0 5) Γ)))) (Ab (Bc 7 (BQ (Pn (CL (A3 (CB 2 FL (A3 (A0 0) (A3 (A0 6) (AE)))) (A3 (CB 2 FL (A3 (A0 0) (A3 (A9 DP (A0 6) Γ) (AE)))) (AE)))))))
    (Ab (Cf (BF (A9 (Bi true) (A9 Cy (A0 0) (AD (.int 2))) Γ)) (Ab (Bc 7 (BQ (Pn (CL (A3 (A0 4) (A3 (A9 ER (A0 4) (Bz CN (A3 (A0 2) (AE)))) (AE)))))))
    (Bc 4 (Mc (A9 ER (A9 ER (A0 4) (Bz CN (A3 (A0 2) (AE)))) (A9 QT (Bz CN (A3 (A0 2) (AE))) Γ))))) (Cs))
    (Ab (NJ 8 (OX 2 (Mc (A9 Cy (A9 AU (A0 7) Δ) (Bz CN (A3 (A0 2) (AE)))))))
    (Ab (NJ 9 (OX 2 (Mc (A9 Cy (A9 AU (A0 7) Γ) (Bz CN (A3 (A0 2) (AE)))))))
    (Ab (JB 3 (DS (A3 (A0 8) (A3 (A0 9) (AE)))))
    (Bc 6 (A9 DP (A0 6) (AD (.int 2))))))))))
    (GP (Jh 3))))))))
def Rh:χ->R C2:=D9 10 h5
def p5:CT ["_law_number","_law_count","_law_book","_law_many","_law_choices","_law_k","_law_pattern","_law_j"] ["_law_number","_law_count"] (Br pS):=DN
noncomputable def gy:As:=
    Ab (Eg 2 (CL (AE)))
    (Ab (Bc 3 (A9 Cy (A0 0) (AD (.int 13))))
    (Ab (Bc 0 (A9 ER (A0 0) (AD (.int 13))))
    (Ab (Bc 4 (BQ (I8 (BQ (CL (A3 (AD .non) (AE)))) (BQ (W9 (A3 (A0 1) (AE)))))))
    (Ab (Ep (FK (A3 (A0 3) (AE))) (BR 5) (Ab (Bc 6 (AD (.str (Be ""))))
    (Ab (Ep (FK (A3 (AD (.int 4)) (AE))) (BR 7) (Ab (Bc 6 (A9 DP (A0 6) (A9 AU (AD (.str (Be "01x"))) (A9 Cy (A0 0) (AD (.int 3))))))
    (Bc 0 (A9 ER (A0 0) (AD (.int 3))))))
    (Ab (JB 2 (DS (A3 (A0 6) (A3 (A9 AU (A0 4) (A9 Cy (A0 0) (A9 DP (A0 1) Γ))) (A3 (A9 AU (A0 4) (A9 Cy (A9 ER (A0 0) (A9 DP (A0 1) Γ)) (A9 DP (A0 1) Γ))) (AE))))))
    (Bc 0 (A9 ER (A9 ER (A0 0) (A9 DP (A0 1) Γ)) (A9 DP (A0 1) Γ)))))))
    (GP (Jh 2))))))
def Re:χ->R C2:=D9 8 gy
def qF:CT ["_law_cell","_law_k","_law_count","_law_number","_law_pattern","_law_j","_law_door","_law_out"] ["_law_cell","_law_k","_law_count"] (Br og):=DN
noncomputable def h2:As:=
    Ab (Bc 3 (CB 2 FL (A3 (A0 0) (A3 (A0 1) (AE)))))
    (Ab (Bc 4 (AD (.str (Be ""))))
    (Ab (Ep (FK (A3 (AD (.int 4)) (AE))) (BR 5) (Ab (Bc 4 (A9 DP (A0 4) (A9 AU (BQ (CL (A3 (AD (.str (Be "x"))) (A3 (AD (.str (Be "x"))) (A3 (AD (.str (Be "0"))) (A3 (AD (.str (Be "1"))) (A3 (AD (.str (Be "x"))) (AE)))))))) (A9 Cy (A0 3) (AD (.int 5))))))
    (Bc 3 (A9 ER (A0 3) (AD (.int 5))))))
    (Ab (Bc 6 (AD .non))
    (Ab (Cf (BF (A9 (Bi true) (A9 Cy (A0 3) (AD (.int 3))) Δ)) (Bc 6 (A9 Cy (A9 ER (A0 3) (AD (.int 3))) (A0 2))) (Cs))
    (Ab (Bc 7 (A9 Cy (A9 ER (A0 3) (AD (.int 20))) (A0 2)))
    (Ab (Cf (BF (A9 (Bi true) (A9 Cy (A9 ER (A0 3) (AD (.int 100))) (AD (.int 9))) Δ)) (Bc 7 (AD .non)) (Cs))
    (Cc (DS (A3 (A0 4) (A3 (A0 6) (A3 (A0 7) (AE))))))))))))
def OY:χ->R C2:=D9 8 h2
def o_:CT ["_law_cells","_law_counts_here","_law_shift","_law_books_here","_law_house","_law_cell","_law_many"] ["_law_cells","_law_counts_here","_law_shift"] (Br pN):=DN
noncomputable def hZ:As:=
    Ab (Eg 3 (CL (AE)))
    (Ab (Ep (FK (A3 (Bz CN (A3 (A0 1) (AE))) (AE))) (BR 4) (Ab (Bc 5 (A9 DP (A9 DP (AD (.int 17)) (A9 Mf (AD (.int 5)) (A0 4))) (A0 2)))
    (Ab (Cf (BF (A9 (Bi false) (A0 0) (BQ (CL (AE))))) (Bc 5 (A9 AU (A0 0) (A9 Cy (A9 DP (A0 4) (A0 2)) (Bz CN (A3 (A0 0) (AE)))))) (Cs))
    (Cf (Ig (BF (A9 (Bi false) (A0 0) (BQ (CL (AE))))) (BF (A9 (Bi true) (A9 Cy (A0 5) (AD (.int 2))) Γ))) (JB 3 (BQ (EM 2 Re (A3 (A9 Cy (A9 ER (A0 5) (AD (.int 2))) (A9 Og (AD (.int 10)) (AD (.int 60)))) (A3 (A9 AU (A0 1) (A0 4)) (AE)))))) (Ab (Bc 5 (A9 DP (A0 5) (A9 Mf (AD (.int 3)) (A0 4))))
    (Ab (Bc 6 (A9 AU (BQ (CL (A3 Γ (A3 (AD (.int 2)) (A3 (AD (.int 3)) (A3 Δ (A3 (AD (.int 2)) (A3 (AD (.int 4)) (A3 (AD (.int 12)) (AE)))))))))) (A9 Cy (CB 2 FL (A3 (A0 5) (A3 (AD (.int 3)) (AE)))) (AD (.int 7)))))
    (JB 3 (BQ (D3 1 [5,1,4,2] (FK (A3 (A0 6) (AE))) (BR 0) (ET) (CB 3 OY (A3 (A0 1) (A3 (A9 DP (A9 DP (AD (.int 4)) (A0 4)) (A9 Mf (AD (.int 3)) (A0 0))) (A3 (A9 AU (A0 2) (A0 3)) (AE))))))))))))))
    (GP (Jh 3)))
def PQ:χ->R C2:=D9 7 hZ
def oa:CT ["_law_script","_law_counts_here","_law_old","_law_new","_law_house"] ["_law_script","_law_counts_here"] (Br pO):=DN
noncomputable def gw:As:=
    Ab (Bc 2 (BQ (EM 3 PQ (A3 (I9 HV (A0 0) (GU (AD (.int 2))) (GU (AD (.int 9)))) (A3 (A0 1) (A3 Δ (AE)))))))
    (Ab (Eg 3 (EM 3 PQ (A3 (I9 HV (A0 0) (GU (AD (.int 9))) (GU (AD (.int 16)))) (A3 (A0 1) (A3 Γ (AE))))))
    (Ab (Ep (FK (A3 (Bz CN (A3 (A0 1) (AE))) (AE))) (BR 4) (Cf (BF (A9 (Bi true) (A9 Cy (CB 2 FL (A3 (CB 2 LH (A3 (A0 0) (A3 Γ (AE)))) (A3 (A0 4) (AE)))) (AD (.int 4))) Δ)) (ak 3 (A0 4) (BQ (OW (A3 (A9 AU (A0 2) (A0 4)) (AE))))) (Cs)))
    (Jg (DS (A3 (A0 2) (A3 (A0 3) (AE)))))))
def UG:χ->R C2:=D9 5 gw
def oY:CT ["_law_script","_law_cell","_law_counts_here","_law_wires_here","_law_old","_law_new"] ["_law_script"] (Br pL):=DN
noncomputable def hX:As:=
    Ab (Bc 1 (CB 2 LH (A3 (A0 0) (A3 Δ (AE)))))
    (Ab (Bc 2 (BQ (EM 1 UH (A3 (A0 1) (AE)))))
    (Ab (Bc 3 (BQ (EM 2 Rh (A3 (A0 1) (A3 (A0 2) (AE))))))
    (Ab (Md (Fv [BR 4,BR 5]) (CB 2 UG (A3 (A0 0) (A3 (A0 2) (AE)))))
    (Cc (DS (A3 (A0 2) (A3 (A0 3) (A3 (A0 4) (A3 (A0 5) (AE))))))))))
def UF:χ->R C2:=D9 6 hX
def oZ:CT ["_law_wires_here","_law_door","_law_one_here","_law_other"] ["_law_wires_here","_law_door"] (Br pM):=DN
def hY:As:=
    Ab (Ep (Er (A0 0)) (Fv [BR 2,BR 3]) (Ab (Cf (BF (A9 (Bi true) (A0 2) (A0 1))) (Cc (A0 3)) (Cs))
    (Cf (BF (A9 (Bi true) (A0 3) (A0 1))) (Cc (A0 2)) (Cs))))
    (Cc (AD .non))
def Zy:χ->R C2:=D9 4 hY
def afK:CT ["_law_counts_here","_law_wires_here"] ["_law_counts_here","_law_wires_here"] (Br pV):=DN
def h1:As:=
    GP (D3 1 [1] (Er (BQ (EM 1 UI (A3 (A0 0) (AE))))) (BR 0) (BF (A9 (Hp true) (CB 2 Zy (A3 (A0 1) (A3 (A0 0) (AE)))) (AD .non))) (A0 0))
def UK:χ->R C2:=D9 2 h1
def qH:CT ["_law_cell","_law_many","_law_houses","_law_some_here","_law_k"] ["_law_cell","_law_many"] (Br oi):=DN
noncomputable def h4:As:=
    Ab (Eg 2 (W9 (A3 (A0 1) (AE))))
    (Ab (Eg 3 (CL (AE)))
    (Ab (Ep (FK (A3 (A9 Cy (CB 2 FL (A3 (A0 0) (A3 (AD (.int 3)) (AE)))) (A9 DP (A0 1) Γ)) (AE))) (BR 4) (af 3 (OX 2 (Mc (A9 Cy (CB 2 FL (A3 (A0 0) (A3 (A9 DP (AD (.int 4)) (A0 4)) (AE)))) (Bz CN (A3 (A0 2) (AE))))))))
    (GP (Jh 3))))
def Rg:χ->R C2:=D9 5 h4
def afH:CT ["thing"] ["thing"] (Br pI):=DN
def iU:As:=
    Cc (Mb (Ch (Jd "int") (A0 0)) (aj (Ch (Jd "bool") (A0 0))))
def ct:χ->R C2:=D9 1 iU
def afI:CT ["thing","least","greatest"] ["thing","least","greatest"] (Br pJ):=DN
def hV:As:=
    Cc (Mb (CB 1 ct (A3 (A0 0) (AE))) (OU SF SF (A0 1) (A0 0) (A0 2)))
def PP:χ->R C2:=D9 3 hV
def af7:CT ["thing"] ["thing"] (Br p7):=DN
noncomputable def hJ:As:=
    Ab (Cf (JC (ES (BF (Ch (Jd "list") (A0 0)))) (ES (BF (OU SF SF Γ (Bz CN (A3 (A0 0) (AE))) (AD Vr))))) (Cc (AD (.AV false))) (Cs))
    (Cc (Bz CH (A3 (BQ (D3 1 [] (Er (A0 0)) (BR 0) (ET) (CB 3 PP (A3 (A0 0) (A3 Γ (A3 (AD Vq) (AE))))))) (AE))))
def UA:χ->R C2:=D9 1 hJ
def afE:CT ["thing"] ["thing"] (Br pF):=DN
def iT:As:=
    Cc (Mb (Ch (Jd "tuple") (A0 0)) (A9 (Bi true) (Bz CN (A3 (A0 0) (AE))) (AD (.int 2))))
def WK:χ->R C2:=D9 1 iT
def afC:CT ["counts","thing"] ["counts","thing"] (Br pD):=DN
noncomputable def hS:As:=
    Ab (Cf (JC (ES (BF (CB 1 WK (A3 (A0 1) (AE))))) (ES (BF (CB 3 PP (A3 (A9 AU (A0 1) Δ) (A3 Δ (A3 (A9 QT (Bz CN (A3 (A0 0) (AE))) Γ) (AE)))))))) (Cc (AD (.AV false))) (Cs))
    (Cc (CB 3 PP (A3 (A9 AU (A0 1) Γ) (A3 Δ (A3 (A9 QT (A9 AU (A0 0) (A9 AU (A0 1) Δ)) Γ) (AE))))))
def Rd:χ->R C2:=D9 2 hS
def oW:CT ["counts","thing","both"] ["counts","thing"] (Br pK):=DN
noncomputable def hW:As:=
    Ab (Cf (ES (BF (CB 1 WK (A3 (A0 1) (AE))))) (Cc (AD (.AV false))) (Cs))
    (Ab (Bc 2 (Mb (CB 2 Rd (A3 (A0 0) (A3 (A9 AU (A0 1) Δ) (AE)))) (CB 2 Rd (A3 (A0 0) (A3 (A9 AU (A0 1) Γ) (AE))))))
    (Cc (Mb (A0 2) (A9 (Bi false) (A9 AU (A0 1) Δ) (A9 AU (A0 1) Γ)))))
def Zx:χ->R C2:=D9 3 hW
def oV:CT ["counts","wires","far","wire"] ["counts","wires"] (Br p8):=DN
noncomputable def hK:As:=
    Ab (RZ 2)
    (Ab (Ep (ag (A0 1)) (BR 3) (Ab (Cf (ES (BF (CB 2 Zx (A3 (A0 0) (A3 (A0 3) (AE)))))) (cn) (Cs))
    (Ab (Cf (KF (JC (BF (A9 (GR true) (A9 AU (A0 3) Δ) (A0 2))) (BF (A9 (GR true) (A9 AU (A0 3) Γ) (A0 2))))) (cn) (Cs))
    (Ab (Sx 2 (A9 AU (A0 3) Δ) (A9 AU (A0 3) Γ))
    (Sx 2 (A9 AU (A0 3) Γ) (A9 AU (A0 3) Δ))))))
    (Jg (A0 2)))
def Ra:χ->R C2:=D9 4 hK
def ade:CT ["self","counts","wires"] ["self","counts","wires"] (Br nO):=DN
noncomputable def Ym:JQ:=
    NL (Pt (ES (BF (CB 1 UA (A3 (A0 1) (AE))))))
    (NL (Pt (ES (BF (Ch (Jd "list") (A0 2)))))
    (NL (LF "Net" "many" (Bz CN (A3 (A0 1) (AE))))
    (NL (LF "Net" "counts" (Bz RO (A3 (A0 1) (AE))))
    (NL (LF "Net" "joined" (Bz RO (A3 (A0 2) (AE))))
    (LF "Net" "far" (SI (CB 2 Ra (A3 (Ch (DL "Net" "counts") (A0 0)) (A3 (Ch (DL "Net" "joined") (A0 0)) (AE))))))))))
def WG:χ->R (List Str×χ):=λA2=>outI "Net" (Ym (LA "Net" A2))
def p1:CT ["self","spot","told"] ["self","spot"] (Br nR):=DN
noncomputable def Vk:As:=
    Ab (Bc 2 (A9 IY (Ch (DL "Weaver" "told") (A0 0)) (A0 1)))
    (Ab (Cf (JC (BF (A9 (Bi false) (A9 AU (A0 2) Δ) (AD (.str (Be "at"))))) (BF (A9 (Bi true) (A9 AU (A0 2) Γ) (Ch (DL "Weaver" "shunned") (A0 0))))) (Cc (AD .non)) (Cs))
    (Cc (DS (A3 (DS (A3 (A9 AU (A0 2) Γ) (A3 (A9 AU (A0 2) (AD (.int 2))) (AE)))) (A3 (A9 AU (A0 1) Γ) (AE))))))
def NM:χ->R C2:=D9 3 Vk
def p4:CT ["self","spot","gone","further"] ["self","spot"] (Br o3):=DN
noncomputable def Yp:As:=
    Ab (Eg 2 (CL (A3 (A0 1) (AE))))
    (Ab (Bc 3 (HT "Weaver" "behind" 1 NM (A0 0) (A3 (A0 1) (AE))))
    (Ab (LG (KF (Ig (BF (A9 (Hp false) (A0 3) (AD .non))) (BF (A9 (inD false) (A0 3) (A0 2))))) (Ab (JB 2 (A0 3))
    (Bc 3 (HT "Weaver" "behind" 1 NM (A0 0) (A3 (A0 3) (AE))))))
    (SK 2 (Cc (LS (BF (A9 (Bi true) (A0 3) (A0 1))) (A0 2) (BQ (CL (AE))))))))
def U9:χ->R C2:=D9 4 Yp
def p3:CT ["self","found","spot","numbers","ring"] ["self"] (Br nU):=DN
noncomputable def Yo:As:=
    Ab (RZ 1)
    (Ab (Ep (SM (Ch (DL "Weaver" "woven") (A0 0))) (Fv [BR 2,BR 3]) (Ab (NI 1 (OV (DS (A3 (AD (.str (Be "at"))) (A3 (A9 AU (A9 AU (A0 2) Δ) Δ) (AE))))) (A0 3))
    (Ab (Cf (BF (A9 (Bi false) (A9 AU (A9 IY (Ch (DL "Weaver" "told") (A0 0)) (A0 2)) Δ) (AD (.str (Be "at"))))) (NI 1 (OV (A9 IY (Ch (DL "Weaver" "told") (A0 0)) (A0 2))) (A0 3)) (Cs))
    (Ab (Bc 4 (HT "Weaver" "round_from" 1 U9 (A0 0) (A3 (A0 2) (AE))))
    (Cf (BF (A9 (Bi false) (A0 4) (BQ (CL (AE))))) (NI 1 (cp (Be "ring")) (BQ (I8 (I9 HV (A0 3) (NH) (GU (Ch NS Γ))) (A9 QM (BQ (CL (A3 (A9 AU (A0 2) Γ) (AE)))) (Bz CN (A3 (A0 4) (AE))))))) (Cs))))))
    (Jg (A0 1)))
def Zw:χ->R C2:=D9 5 Yo
def p2:CT ["self","door","ahead","least","spots","spot"] ["self","door","ahead"] (Br nS):=DN
noncomputable def Yn:As:=
    Ab (Cf (KF (BF (A9 (Bi true) (A9 AU (A0 1) Δ) (Ch (DL "Weaver" "shunned") (A0 0))))) (PM (BQ (CL (AE)))) (Cs))
    (Ab (Bc 3 (LS (BF (A9 (Bi false) (A0 2) (BQ (CL (AE))))) (A9 AU (A0 2) (Ch NS Γ)) Δ))
    (Ab (NK 4 (SJ (D3 1 [1,0] (TV (A3 (A0 3) (A3 (Bz CN (A3 (Ch (DL "Weaver" "stages") (A0 0)) (AE))) (AE)))) (BR 0) (BF (A9 (GR false) (DS (A3 (A0 1) (A3 (A0 0) (AE)))) (Ch (DL "Weaver" "woven") (A0 2)))) (DS (A3 (A0 1) (A3 (A0 0) (AE)))))))
    (Ab (Ep (Er (A0 4)) (BR 5) (NG 0 "Weaver" "woven" (A0 5) (BQ (I8 (A0 2) (BQ (CL (A3 (A9 AU (A0 5) Γ) (AE))))))))
    (PM (A0 4)))))
def PN:T->χ->R (D×T):=Pp 6 Yn
def afF:CT ["thing"] ["thing"] (Br pG):=DN
noncomputable def hT:As:=
    Ab (Cf (JC (ES (BF (Ch (Jd "str") (A0 0)))) (BF (A9 (Bi false) (Bz CN (A3 (A0 0) (AE))) (Bz CN (A3 (AD RJ) (AE)))))) (Cc (AD (.AV false))) (Cs))
    (Cc (Bz CH (A3 (BQ (D3 1 [] (Wu (A0 0)) (BR 0) (ET) (A9 (inD true) (A0 0) (AD Tk)))) (AE))))
def UD:χ->R C2:=D9 1 hT
def af9:CT ["thing"] ["thing"] (Br pA):=DN
def hM:As:=
    Cc (CB 3 PP (A3 (A0 0) (A3 Δ (A3 (AD Vp) (AE)))))
def Rb:χ->R C2:=D9 1 hM
def af8:CT ["pattern","address"] ["pattern","address"] (Br p9):=DN
noncomputable def hL:As:=
    Ab (Cf (JC (ES (BF (CB 1 UD (A3 (A0 0) (AE))))) (ES (BF (CB 1 Rb (A3 (A0 1) (AE)))))) (Cc (AD (.AV false))) (Cs))
    (Cc (Bz CH (A3 (BQ (D3 2 [1] (ah (A3 (A0 0) (A3 (AD RJ) (AE)))) (Fv [BR 0,BR 1]) (ET) (A9 (inD true) (A0 0) (DS (A3 (AD (.str (Be "x"))) (A3 (Bz U3 (A3 (A9 Cy (A9 ER (A0 2) (A0 1)) (AD (.int 2))) (AE))) (AE))))))) (AE))))
def UB:χ->R C2:=D9 2 hL
def qK:CT ["book","door","address","number","row"] ["book","door","address"] (Br ow):=DN
noncomputable def cK:As:=
    Ab (Ep (T0 (A3 (A0 0) (AE))) (Fv [BR 3,BR 4]) (Cf (Ig (JC (BF (A9 (Hp true) (A9 AU (A0 4) Γ) (AD .non))) (BF (A9 (Bi true) (A9 AU (A0 4) Γ) (A0 1)))) (BF (CB 2 UB (A3 (A9 AU (A0 4) Δ) (A3 (A0 2) (AE)))))) (Cc (A0 3)) (Cs)))
    (Cc (AD .non))
def a3:χ->R C2:=D9 5 cK
def ada:CT ["self","door"] ["self","door"] (Br nM):=DN
def hF:As:=
    Cc (Wr (Ch (DL "Net" "far") (A0 0)) (A0 1))
def WE:χ->R C2:=D9 2 hF
def qJ:CT ["net","book","door","address","number","out","far"] ["net","book","door","address"] (Br ot):=DN
noncomputable def Ti:As:=
    Ab (Bc 4 (CB 3 a3 (A3 (A0 1) (A3 (A9 AU (A0 2) Γ) (A3 (A0 3) (AE))))))
    (Ab (Bc 5 (LS (BF (A9 (Hp true) (A0 4) (AD .non))) (AD .non) (A9 AU (A9 AU (A0 1) (A0 4)) (AD (.int 2)))))
    (Ab (Cf (BF (A9 (Hp true) (A0 5) (AD .non))) (Cc (DS (A3 (AD (.str (Be "drop"))) (A3 (A9 AU (A0 2) Δ) (AE))))) (Cs))
    (Ab (Bc 6 (HT "Net" "beyond" 1 WE (A0 0) (A3 (DS (A3 (A9 AU (A0 2) Δ) (A3 (A0 5) (AE)))) (AE))))
    (Ab (Cf (BF (A9 (Hp true) (A0 6) (AD .non))) (Cc (DS (A3 (AD (.str (Be "out"))) (A3 (A9 AU (A0 2) Δ) (A3 (A0 5) (AE)))))) (Cs))
    (Cc (DS (A3 (AD (.str (Be "at"))) (A3 (A9 AU (A0 6) Δ) (A3 (A9 AU (A0 6) Γ) (AE))))))))))
def LI:χ->R C2:=D9 7 Ti
def oU:CT ["self","door","waiting","further","spot","told"] ["self","door"] (Br p6):=DN
noncomputable def Yq:As:=
    Ab (NJ 2 (KG 0 "Weaver" "entered" 2 PN (A3 (A0 1) (A3 (BQ (CL (AE))) (AE)))))
    (LG (BF (A9 (Bi false) (A0 2) (BQ (CL (AE))))) (Ab (Eg 3 (CL (AE)))
    (Ab (Ep (Er (A0 2)) (BR 4) (Ab (Bc 5 (Sw (CB 4 LI (A3 (Ch (DL "Weaver" "net") (A0 0)) (A3 (A9 AU (A9 AU (Ch (DL "Weaver" "stages") (A0 0)) (A9 AU (A0 4) Γ)) (A9 AU (A9 AU (A0 4) Δ) Δ)) (A3 (A9 AU (A0 4) Δ) (A3 (Ch (DL "Weaver" "address") (A0 0)) (AE))))))))
    (Ab (NG 0 "Weaver" "told" (A0 4) (A0 5))
    (Cf (BF (A9 (Bi true) (A9 AU (A0 5) Δ) (AD (.str (Be "at"))))) (Pq (Sy 3 (KG 0 "Weaver" "entered" 2 PN (A3 (DS (A3 (A9 AU (A0 5) Γ) (A3 (A9 AU (A0 5) (AD (.int 2))) (AE)))) (A3 (Pr 0 "Weaver" "woven" (A0 4)) (AE)))))) (Cs)))))
    (SK 3 (Bc 2 (A0 3))))))
def WJ:T->χ->R (D×T):=Pp 6 Yq
def af6:CT ["self","net","stages","door","address","shunned"] ["self","net","stages","door","address","shunned"] (Br nT):=DN
noncomputable def Vl:As:=
    Ab (Ps "Weaver" "net" (A0 1))
    (Ab (Ps "Weaver" "stages" (A0 2))
    (Ab (Ps "Weaver" "address" (A0 4))
    (Ab (Ps "Weaver" "shunned" (A0 5))
    (Ab (Sz "Weaver" "woven")
    (Ab (Sz "Weaver" "told")
    (Pq (KG 0 "Weaver" "weave" 1 WJ (A3 (A0 3) (AE)))))))))
def WI:χ->R T:=ai "Weaver" 6 Vl
def afN:CT ["old","new","houses"] ["old","new","houses"] (Br oq):=DN
def h_:As:=
    GP (D3 1 [2,1,0] (FK (A3 (Bz CN (A3 (A0 0) (AE))) (AE))) (BR 0) (ET) (BQ (OW (A3 (LS (BF (A9 (inD true) (A0 0) (A0 1))) (A9 AU (A0 2) (A0 0)) (A9 AU (A0 3) (A0 0))) (AE)))))
def Zz:χ->R C2:=D9 3 h_
def afP:CT ["old","new","row"] ["old","new","row"] (Br ov):=DN
def cJ:As:=
    GP (D3 1 [0,1,2] (FK (A3 (A9 DP (Bz CN (A3 (A0 2) (AE))) Γ) (AE))) (BR 0) (ET) (BQ (EM 3 Zz (A3 (A0 1) (A3 (A0 2) (A3 (I9 HV (A0 3) (NH) (GU (A0 0))) (AE)))))))
def WM:χ->R C2:=D9 3 cJ
def afM:CT ["net","old","new","row","door","address"] ["net","old","new","row","door","address"] (Br oo):=DN
def YU:As:=
    Cc (HT "Weaver" "met" 0 Zw (T1 5 WI (A3 (A0 0) (A3 (BQ (EM 3 WM (A3 (A0 1) (A3 (A0 2) (A3 (A0 3) (AE)))))) (A3 (A0 4) (A3 (A0 5) (A3 (AD .non) (AE))))))) AE)
def UL:χ->R C2:=D9 6 YU
def afL:CT ["net","old","new","row","door","address"] ["net","old","new","row","door","address"] (Br om):=DN
def YT:As:=
    GP (WD (A3 (CB 6 UL (A3 (A0 0) (A3 (A0 1) (A3 (A0 2) (A3 (A0 3) (A3 (A0 4) (A3 (A0 5) (AE)))))))) (AE)))
def NO:χ->R C2:=D9 6 YT
def qE:CT ["_law_told","_law_found","_law_end"] ["_law_told"] (Br oe):=DN
noncomputable def YS:As:=
    Ab (NK 1 (D3 1 [] (Er (BQ (R_ (A3 (BQ (D3 1 [] (Er (A9 AU (A0 0) Δ)) (BR 0) (ET) (A9 AU (A0 0) Δ))) (AE))))) (BR 0) (ET) (DS (A3 (AD (.str (Be "at"))) (A3 (A0 0) (AE))))))
    (Ab (Bc 2 (A9 AU (A0 0) Γ))
    (Ab (Cf (BF (A9 (Bi true) (A9 AU (A0 2) Δ) (AD (.str (Be "ring"))))) (Bc 2 (DS (A3 (AD (.str (Be "ring"))) (AE)))) (Cs))
    (GP (WC (A3 (BQ (I8 (A0 1) (BQ (CL (A3 (A0 2) (AE)))))) (AE))))))
def NN:χ->R C2:=D9 3 YS
def afD:CT ["thing","doors"] ["thing","doors"] (Br pE):=DN
def Yr:As:=
    Cc (WA (A9 (Hp true) (A0 0) (AD .non)) (CB 3 PP (A3 (A0 0) (A3 Δ (A3 (A9 QT (A0 1) Γ) (AE))))))
def PO:χ->R C2:=D9 2 Yr
def afG:CT ["thing","doors"] ["thing","doors"] (Br pH):=DN
noncomputable def hU:As:=
    Ab (Cf (JC (ES (BF (Ch (Jd "tuple") (A0 0)))) (BF (A9 (Bi false) (Bz CN (A3 (A0 0) (AE))) (AD (.int 3))))) (Cc (AD (.AV false))) (Cs))
    (Ab (Cf (ES (BF (CB 1 UD (A3 (A9 AU (A0 0) Δ) (AE))))) (Cc (AD (.AV false))) (Cs))
    (Cc (Mb (CB 2 PO (A3 (A9 AU (A0 0) Γ) (A3 (A0 1) (AE)))) (CB 2 PO (A3 (A9 AU (A0 0) (AD (.int 2))) (A3 (A0 1) (AE)))))))
def UE:χ->R C2:=D9 2 hU
def afA:CT ["thing","doors"] ["thing","doors"] (Br pB):=DN
noncomputable def hO:As:=
    Ab (Cf (JC (ES (BF (Ch (Jd "list") (A0 0)))) (BF (A9 VS (Bz CN (A3 (A0 0) (AE))) (AD Vs)))) (Cc (AD (.AV false))) (Cs))
    (Cc (Bz CH (A3 (BQ (D3 1 [1] (Er (A0 0)) (BR 0) (ET) (CB 2 UE (A3 (A0 0) (A3 (A0 1) (AE)))))) (AE))))
def UC:χ->R C2:=D9 2 hO
def adb:CT ["self","house"] ["self","house"] (Br nN):=DN
def hG:As:=
    Cc (LS (BF (OU SF Wn Δ (A0 1) (Ch (DL "Net" "many") (A0 0)))) (A9 AU (Ch (DL "Net" "counts") (A0 0)) (A0 1)) Δ)
def Zu:χ->R C2:=D9 2 hG
def afB:CT ["thing","net"] ["thing","net"] (Br pC):=DN
noncomputable def hQ:As:=
    Ab (Cf (JC (ES (BF (Ch (Jd "list") (A0 0)))) (BF (A9 (Bi false) (Bz CN (A3 (A0 0) (AE))) (Ch (DL "Net" "many") (A0 1))))) (Cc (AD (.AV false))) (Cs))
    (Cc (Bz CH (A3 (BQ (D3 2 [1] (T0 (A3 (A0 0) (AE))) (Fv [BR 0,BR 1]) (ET) (CB 2 UC (A3 (A0 1) (A3 (HT "Net" "count" 1 Zu (A0 2) (A3 (A0 0) (AE))) (AE)))))) (AE))))
def Rc:χ->R C2:=D9 2 hQ
def afO:CT ["thing","net"] ["thing","net"] (Br ou):=DN
def cH:As:=
    Cf (Rk (ES (BF (CB 2 Rc (A3 (A0 0) (A3 (A0 1) (AE))))))) (WB "NoBooks") (Cs)
def a0:χ->R C2:=D9 2 cH
def adf:CT ["self","thing"] ["self","thing"] (Br nP):=DN
def hH:As:=
    Cc (CB 2 Rd (A3 (Ch (DL "Net" "counts") (A0 0)) (A3 (A0 1) (AE))))
def Zv:χ->R C2:=D9 2 hH
def ae7:CT ["self","thing"] ["self","thing"] (Br nQ):=DN
def hI:As:=
    Cc (Mb (HT "Net" "is_door" 1 Zv (A0 0) (A3 (A0 1) (AE))) (A9 (GR false) (A0 1) (Ch (DL "Net" "far") (A0 0))))
def WH:χ->R C2:=D9 2 hI
def qL:CT ["net","books","door","address","doors","told"] ["net","books","door","address"] (Br ox):=DN
noncomputable def Yv:As:=
    Ab (Eg 4 (CL (AE)))
    (Ab (LG (KF (BF (A9 (inD false) (A0 2) (A0 4)))) (Ab (JB 4 (A0 2))
    (Ab (Bc 5 (CB 4 LI (A3 (A0 0) (A3 (A9 AU (A0 1) (A9 AU (A0 2) Δ)) (A3 (A0 2) (A3 (A0 3) (AE)))))))
    (Ab (Cf (BF (A9 (Bi false) (A9 AU (A0 5) Δ) (AD (.str (Be "at"))))) (Jg (DS (A3 (A0 4) (A3 (A0 5) (AE))))) (Cs))
    (Bc 2 (DS (A3 (A9 AU (A0 5) Γ) (A3 (A9 AU (A0 5) (AD (.int 2))) (AE)))))))))
    (Jg (DS (A3 (A0 4) (A3 (DS (A3 (AD (.str (Be "ring"))) (A3 (SL (A0 4) (A3 (A0 2) (AE))) (AE)))) (AE))))))
def UM:χ->R C2:=D9 6 Yv
def afQ:CT ["net","books","door","address"] ["net","books","door","address"] (Br oy):=DN
noncomputable def cL:As:=
    Ab (Ws (CB 2 a0 (WT (A3 (A0 1) (A3 (A0 0) (AE))))))
    (Ab (Cf (Rk (ES (BF (HT "Net" "is_outer" 1 WH (A0 0) (A3 (A0 2) (AE)))))) (WB "NoDoor") (Cs))
    (Ab (Cf (Rk (ES (BF (CB 1 Rb (A3 (A0 3) (AE)))))) (WB "NoAddress") (Cs))
    (WU (Cc (CB 4 UM (A3 (A0 0) (A3 (A0 1) (A3 (A0 2) (A3 (A0 3) (AE))))))))))
def NP:χ->R C2:=D9 4 cL
def qG:CT ["_law_old","_law_new","_law_some_here","_law_shelves_here","_law_count"] ["_law_old","_law_new","_law_some_here"] (Br oh):=DN
noncomputable def h3:As:=
    Ab (Eg 3 (CL (AE)))
    (Ab (Ep (FK (A3 (A9 DP (Bz CN (A3 (A0 2) (AE))) Γ) (AE))) (BR 4) (JB 3 (BQ (D3 1 [0,1,2,4] (FK (A3 (Bz CN (A3 (A0 0) (AE))) (AE))) (BR 0) (ET) (A9 AU (A9 AU (BQ (CL (A3 (A0 1) (A3 (A0 2) (AE))))) (Bz X6 (A3 (A9 (inD true) (A0 0) (I9 HV (A0 3) (NH) (GU (A0 4)))) (AE)))) (A0 0))))))
    (GP (Jh 3)))
def Rf:χ->R C2:=D9 5 h3
def qD:CT ["_law_net","_law_both_here","_law_some_here","_law_door","_law_address","_law_old","_law_new","_law_last","_law_count","_law_found","_law_books_here","_law_alike"] ["_law_net","_law_both_here","_law_some_here","_law_door","_law_address"] (Br pU):=DN
noncomputable def YR:As:=
    Ab (Md (Fv [BR 5,BR 6]) (A0 1))
    (Ab (Cf (BF (A9 (Bi false) (BQ (EM 6 NO (A3 (A0 0) (A3 (A0 5) (A3 (A0 6) (A3 (BQ (CL (AE))) (A3 (A0 3) (A3 (A0 4) (AE))))))))) (BQ (EM 1 NN (A3 (Po 4 NP (A3 (A0 0) (A3 (A0 5) (A3 (A0 3) (A3 (A0 4) (AE)))))) (AE)))))) (Cc (AD (.AV false))) (Cs))
    (Ab (Cf (BF (A9 (Bi false) (BQ (EM 6 NO (A3 (A0 0) (A3 (A0 6) (A3 (A0 6) (A3 (A0 2) (A3 (A0 3) (A3 (A0 4) (AE))))))))) (BQ (EM 1 NN (A3 (Po 4 NP (A3 (A0 0) (A3 (A0 6) (A3 (A0 3) (A3 (A0 4) (AE)))))) (AE)))))) (Cc (AD (.AV false))) (Cs))
    (Ab (Bc 7 (BQ (CL (AE))))
    (Ab (Ep (FK (A3 (A9 DP (Bz CN (A3 (A0 2) (AE))) Γ) (AE))) (BR 8) (Ab (Bc 9 (BQ (EM 6 NO (A3 (A0 0) (A3 (A0 5) (A3 (A0 6) (A3 (I9 HV (A0 2) (NH) (GU (A0 8))) (A3 (A0 3) (A3 (A0 4) (AE))))))))))
    (Ab (Cf (ES (BF (Bz CH (A3 (BQ (D3 1 [9] (Er (A0 7)) (BR 0) (ET) (A9 (inD true) (A0 0) (A0 1)))) (AE))))) (Cc (AD (.AV false))) (Cs))
    (Ab (Bc 10 (A9 AU (BQ (EM 3 Rf (A3 (A0 5) (A3 (A0 6) (A3 (A0 2) (AE)))))) (A0 8)))
    (Ab (Cf (ES (BF (Bz CH (A3 (BQ (D3 1 [9] (Er (BQ (EM 1 NN (A3 (Po 4 NP (A3 (A0 0) (A3 (A0 10) (A3 (A0 3) (A3 (A0 4) (AE)))))) (AE))))) (BR 0) (ET) (A9 (inD true) (A0 0) (A0 1)))) (AE))))) (Cc (AD (.AV false))) (Cs))
    (Bc 7 (A0 9)))))))
    (Ab (NK 11 (D3 1 [2,5,6] (FK (A3 (Bz CN (A3 (A0 5) (AE))) (AE))) (BR 0) (Ig (BF (A9 (Bi true) (A9 AU (A0 2) (A0 0)) (A9 AU (A0 3) (A0 0)))) (BF (A9 (inD false) (A0 0) (A0 1)))) (A0 0)))
    (Cc (A9 (Bi true) (BQ (EM 6 NO (A3 (A0 0) (A3 (A0 5) (A3 (A0 6) (A3 (BQ (I8 (A0 2) (A0 11))) (A3 (A0 3) (A3 (A0 4) (AE))))))))) (A0 7))))))))
def UJ:χ->R C2:=D9 12 YR
def oX:CT ["_law_script","_law_counts_here","_law_wires_here","_law_old","_law_new","_law_outer_here","_law_some_here","_law_net","_law_cell","_law_number"] ["_law_script"] (Br OC):=DN
noncomputable def Yt:As:=
    Ab (Md (Fv [BR 1,BR 2,BR 3,BR 4]) (CB 1 UF (A3 (A0 0) (AE))))
    (Ab (Bc 5 (BQ (EM 2 UK (A3 (A0 1) (A3 (A0 2) (AE))))))
    (Ab (Bc 6 (BQ (EM 2 Rg (A3 (CB 2 LH (A3 (A0 0) (A3 Γ (AE)))) (A3 (Bz CN (A3 (A0 1) (AE))) (AE))))))
    (Ab (Bc 7 (RY "Net" 2 WG (A3 (A0 1) (A3 (A0 2) (AE)))))
    (Ab (Ep (Er (BQ (I8 (BQ (CL (A3 (AD (.int 4)) (AE)))) (I9 HV (A0 0) (GU (AD (.int 16))) (GU (AD (.int 17))))))) (BR 8) (Ab (Bc 9 (CB 2 FL (A3 (A0 8) (A3 (AD (.int 2)) (AE)))))
    (Cf (ES (BF (CB 5 UJ (A3 (A0 7) (A3 (DS (A3 (A0 3) (A3 (A0 4) (AE)))) (A3 (A0 6) (A3 (A9 AU (A0 5) (A9 Cy (A0 9) (Bz CN (A3 (A0 5) (AE))))) (A3 (A9 Cy (A9 ER (A0 9) (AD (.int 50))) (AD (.int 16))) (AE))))))))) (Cc (AD (.AV false))) (Cs))))
    (Cc (AD (.AV true)))))))
def WL:χ->R C2:=D9 10 Yt
def IX{α β:Type}(a:α)(k:α->R β):(R.ok a).bind k=k a:=rfl
def du{a b:As}{ρ BK:AI}(h:a ρ=.ok (.BG BK)):Ab a b ρ=b BK:=by erw[Ab,h,IX]
def iG{f:χ->R C2}{a:A_}{ρ:AI}{x y:D}(AB:a ρ=.ok x)(h:f [x]=.ok (.v y)):CB 1 f (A3 a AE) ρ=.ok y:=by erw[CB,A3,AE,AB,IX,HL,Lz,if_true,h,Ks]
def call2{f:χ->R C2}{a b:A_}{ρ:AI}{x z y:D}(AB:a ρ=.ok x)(J:b ρ=.ok z)(h:f [x,z]=.ok (.v y)):CB 2 f (A3 a (A3 b AE)) ρ=.ok y:=by erw[CB,A3,AE,AB,J,IX,HL,Lz,if_true,h,Ks]
def Fe{f:D->D->R D}{a b:A_}{ρ:AI}{x y z:D}(AB:a ρ=.ok x)(J:b ρ=.ok y)(h:f x y=.ok z):A9 f a b ρ=.ok z:=by erw[A9,AB,J,IX,h]
def Jf{a:A_}{ρ:AI}{c:Bool}(AB:a ρ=.ok (.AV c)):BF a ρ=.ok c:=by erw[BF,AB,IX,MP]
def cq{a:CG}{ρ:AI}{c:Bool}(AB:a ρ=.ok c):ES a ρ=.ok (!c):=by erw[ES,AB,IX]
def sy{a b:CG}{ρ:AI}{c d:Bool}(AB:a ρ=.ok c)(J:c=true->b ρ=.ok d):Ig a b ρ=.ok (c&&d):=by
 cases c
 .erw[Ig,AB,IX,HJ,if_false,Bool.false_and]
 .erw[Ig,AB,IX,J rfl,if_true,Y3]
def Tx{i:Nat}{a:A_}{ρ BK:AI}{d:D}(AB:a ρ=.ok d)(AK:BR i d ρ=.ok BK):Bc i a ρ=.ok (.BG BK):=by erw[Bc,AB,IX,AK]
def Ph{c:CG}{a b:As}{ρ:AI}{k:Bool}(AO:c ρ=.ok k):Cf c a b ρ=if k=true then a ρ else b ρ:=by erw[Cf,AO,IX]
def bV{c:CG}{a b:As}{ρ:AI}(AO:c ρ=.ok false):Ab (Cf c a Cs) b ρ=b ρ:=by erw[Ab,Cf,AO,IX,Cs];rfl
def adm{e:A_}{ρ:AI}{d:D}(he:e ρ=.ok d):Cc e ρ=.ok (.Du d):=by erw[Cc,he,IX]
def Su{a:A_}{ρ:AI}{xs:χ}(AB:a ρ=.ok (.lst xs)):Bz CN (A3 a AE) ρ=.ok (.int (xs.length:Nat)):=by erw[Bz,A3,AE,AB,IX,CN]
def C6(cs:φ):χ:=cs.map λ(c:Nat)=>D.int (c:Int)
abbrev AR:=Nat×Nat
noncomputable def Ae(d:AR):D:=.tup [.int (d.1:Nat),.int (d.2:Nat)]
def DA(w:AR×AR):D:=.tup [Ae w.1,Ae w.2]
noncomputable def ends(ws:τ):List AR:=(ws.map λw=>[w.1,w.2]).flatten
theorem Zk{α:Type}:∀(l:List α)(i:Nat)(h:i<l.length),List.Perm (l[i]::l.eraseIdx i) l
 |x::l,0,_=>YC _
 |x::l,i+1,h=>by have BW:=Zk l i (h:);erw[List.getElem_cons_succ,ry];exact(List.Perm.swap x _ _).trans (BW.cons x)
noncomputable def Oq(cs:φ)(h:Nat):List AR:=(DK (cs.getD h 0)).map λk=>(h,k)
def CH(cs:φ)(n:Nat):List AR:=(DK n).flatMap (Oq cs)
def hz(cs:φ)(n:Nat):CH cs (n+1)=CH cs n++Oq cs n:=by unfold CH;rw[List.range_succ,List.flatMap_append];simp
def eP{cs:φ}{h:Nat}{d:AR}:d∈Oq cs h↔d.1=h/\d.2<cs.getD h 0:=by
 unfold Oq;rw[Si];constructor
 .rintro⟨k,AG,rfl⟩;exact⟨rfl,List.mem_range.mp AG⟩
 .rintro⟨rfl,A8⟩;exact⟨d.2,List.mem_range.mpr A8,rfl⟩
def NQ{cs:φ}{n:Nat}{d:AR}:d∈CH cs n↔d.1<n/\d.2<cs.getD d.1 0:=by
 unfold CH;rw[List.mem_flatMap];constructor
 .rintro⟨h,An,hd⟩;obtain⟨rfl,A8⟩:=eP.mp hd;exact⟨List.mem_range.mp An,A8⟩
 .rintro⟨A5,A8⟩;exact⟨d.1,List.mem_range.mpr A5,eP.mpr ⟨rfl,A8⟩⟩
def vT(cs:φ)(h:Nat):(Oq cs h).Nodup:=by unfold Oq;rw[List.nodup_iff_pairwise_ne,List.pairwise_map];exact List.nodup_range.imp λP0 z=>P0 (Prod.mk.inj z).2
theorem j9(cs:φ):∀n,(CH cs n).Nodup
 |0=>Um
 |n+1=>by rw[hz];refine List.nodup_append.mpr ⟨j9 cs n,vT cs n,λa AB b J z=>?_⟩;subst z;have A5:=(NQ.mp AB).1;have A8:=(eP.mp J).1;lia
def ZI{cs:φ}(h:∀c∈cs,c<=4)(k:Nat):cs.getD k 0<=4:=by
 rw[HI];cases e:cs[k]? with
 |none=>simp
 |some c=>simpa using h c (HY e)
def vS{cs:φ}(h:∀c∈cs,1<=c/\c<=4)(k:Nat):(Oq cs k).length<=4:=by unfold Oq;rw[Ea,List.length_range];exact ZI (λc AO=>(h c AO).2) k
theorem Q7{cs:φ}(h:∀c∈cs,1<=c/\c<=4):∀n,(CH cs n).length<=4*n
 |0=>by simp[CH]
 |n+1=>by rw[hz,KX];have:=Q7 h n;have:=vS h n;lia
def Vv{cs:φ}{h:Nat}(An:h<cs.length):(C6 cs)[h]?=some (.int (cs.getD h 0:Nat)):=by simp[C6,DV An,HI]
structure Hg(cs:φ)(ws:τ):Prop where
 A5:1<=cs.length
 Cu:cs.length<=6
 c:∀c∈cs,1<=c/\c<=4
 CW:(ends ws).Nodup
 sub:∀d∈ends ws,d∈CH cs cs.length
 few:ws.length<100
def head_mem{cs:φ}(A5:1<=cs.length)(c:∀c∈cs,1<=c/\c<=4):((0,0):AR)∈CH cs cs.length:=by
 refine NQ.mpr ⟨A5,?_⟩;cases cs with
 |nil=>simp at A5
 |cons x r=>exact(c x (LJ ..)).1
noncomputable def Gl(d:AR):Bq:=[.inl (.inl (d.1:Nat)),.inl (.inl (d.2:Nat))]
def aS{a b:AR}(h:Gl a=Gl b):a=b:=by
 obtain⟨a1,a2⟩:=a;obtain⟨FV,Ez⟩:=b;erw[Gl,Qg,Sum.inl.injEq,and_true]at h;have A5:a1=FV:=δ
 have A8:a2=Ez:=δ
 rw[A5,A8]
def SD(d:AR):J9 (Ae d)=some (Gl d):=rfl
def EH(ws:τ):List Bq:=(ends ws).map Gl
def F2(ws:τ):χ:=(ws.map λw=>[Ae w.2,Ae w.1]).flatten
def ks_any(ws:τ)(d:AR):(EH ws).any (λx=>decide (x=Gl d))=decide (d∈ends ws):=by
 unfold EH;rw[O1];by_cases h:d∈ends ws
 .rw[decide_eq_true h,Sd];exact⟨d,h,γ⟩
 .rw[decide_eq_false h,List.any_eq_false];intro x AJ;erw[Y8,decide_eq_true_eq];exact λz=>h (aS z▸AJ)
def Zj(ws:τ):(ends ws).length=2*ws.length:=by
 induction ws with
 |nil=>rfl
 |cons w r BW=>erw[ends,Dc,Qi,KX,HL,Lz]at BW |-;lia
def jx{i:Nat}{mk mv:A_}{ρ:AI}{ks:List Bq}{ds:χ}{k v:D}{Bp:Bq}(AK:ρ[i]?=some (.ob (.B5 ks ds)))(AG:mk ρ=.ok k)(BE:mv ρ=.ok v)(Co:J9 k=some Bp)(AQ:ks.any (λx=>decide (x=Bp))=false)(AP:ks.length<1000000) :
  Sx i mk mv ρ=.ok (.BG (ρ.set i (.ob (.B5 (ks++[Bp]) (ds++[v]))))):=by
 erw[Sx,BE,AK,AG,IX,Co,putD,if_pos (And.intro AQ AP)]
def t4{ks:List Bq}{a b:Bq}(h:ks.any (λx=>decide (x=b))=false)(ne:a≠b):(ks++[a]).any (λx=>decide (x=b))=false:=by rw[List.any_append,h];simp[ne]
def abA(ws:τ)(w:AR×AR):EH (ws++[w])=EH ws++[Gl w.1]++[Gl w.2]:=by simp[EH,ends]
def ahK(ws:τ)(w:AR×AR):F2 (ws++[w])=F2 ws++[Ae w.2]++[Ae w.1]:=by simp[F2]
def acA{P:τ}{w:AR×AR}{r:τ}(CW:(ends (P++w::r)).Nodup):w.1∉ends P/\w.2∉ends P/\w.1≠w.2:=by
 have e:ends (P++w::r)=ends P++(w.1::w.2::ends r):=by simp[ends]
 rw[e]at CW;obtain⟨_,DW,Kn⟩:=List.nodup_append.mp CW;refine⟨λz=>Kn _ z w.1 γ rfl,λz=>Kn _ z w.2 γ rfl,λz=>?_⟩;rw[List.nodup_cons]at DW;exact DW.1 (by rw[z];simp)
def bC(i lo AC:Int):PP [.int i,.int lo,.int AC]=.ok (.v (.AV (decide (lo<=i)&&decide (i<=AC)))):=by have w:ct [.int i]=.ok (.v (.AV true)):=rfl;simp[PP,hV,w];by_cases h:lo<=i<;>simp[h]
def bp{cs:φ}{d:AR}(h:d∈CH cs cs.length):Rd [.tup (C6 cs),Ae d]=.ok (.v (.AV true)):=by
 obtain⟨A5,A8⟩:=NQ.mp h;have p:WK [Ae d]=.ok (.v (.AV true)):=rfl;have D7:AU (Ae d) (.int 0)=.ok (.int d.1):=rfl;have A7:AU (Ae d) (.int 1)=.ok (.int d.2):=rfl;have AH:AU (.tup (C6 cs)) (.int (d.1:Nat))=.ok (.int (cs.getD d.1 0:Nat)):=lL (Vv A5);have l:(C6 cs).length=cs.length:=by simp[C6]
 erw[HI]at A8 AH;simp[Rd,hS,p,D7,A7,AH,l,bC,show¬((cs.length:Int)-1<(d.1:Nat))by lia];lia
def vQ{a b:AR}(h:a≠b):Bi false (Ae a) (Ae b)=.ok (.AV true):=by
 show R.ok (D.AV (!(((a.1:Nat):Int)==((b.1:Nat):Int)&&(((a.2:Nat):Int)==((b.2:Nat):Int)&&true))))=_;by_cases A5:a.1=b.1
 .by_cases A8:a.2=b.2
  .exact absurd (PI A5 A8) h
  .rw[beq_eq_false_iff_ne.mpr (show((a.2:Nat):Int)≠((b.2:Nat):Int)by lia)];simp
 .rw[beq_eq_false_iff_ne.mpr (show((a.1:Nat):Int)≠((b.1:Nat):Int)by lia)];simp
def agg{cs:φ}{w:AR×AR}(A5:w.1∈CH cs cs.length)(A8:w.2∈CH cs cs.length)(ne:w.1≠w.2):Zx [.tup (C6 cs),DA w]=.ok (.v (.AV true)):=by have p:WK [DA w]=.ok (.v (.AV true)):=rfl;have D7:AU (DA w) (.int 0)=.ok (Ae w.1):=rfl;have A7:AU (DA w) (.int 1)=.ok (Ae w.2):=rfl;simp[Zx,hW,p,D7,A7,bp A5,bp A8,vQ ne]
def d6(l:χ):Jd "list" (.lst l)=.ok (.AV true):=rfl
theorem ik{α:Type}(f:α->Bool):∀l:List α,RI (l.map λa=>D.AV (f a))=some (l.map f)
 |[]=>rfl
 |a::l=>by simp[RI,ik f l]
def Tf{α:Type}(f:α->Bool)(l:List α):CR.CH [.lst (l.map λa=>D.AV (f a))]=.ok (.AV (l.all f)):=by simp[CR.CH,ik,SQ]
def w2(cs:φ)(ws:τ)(h:Hg cs ws):Ra [.tup (C6 cs),.tup (ws.map DA)]=.ok (.v (.B5 (EH ws) (F2 ws))):=by
 apply Ends.done;have few:=h.few;simp[Ra,hK,RZ];refine VK DA ws (λj ρ=>∃s3,ρ=[.A1 (.tup (C6 cs)),.A1 (.tup (ws.map DA)),.ob (.B5 (EH (ws.take j)) (F2 (ws.take j))),s3]) rfl ⟨.un,by simp[EH,F2,ends]⟩ ?_ ?_
 .rintro j w _ hw ⟨s3,rfl⟩;obtain⟨Bs,HS⟩:=List.getElem?_eq_some_iff.mp hw;have aee:ws=ws.take j++w::ws.drop (j+1):=by rw[<-HS];simp
  obtain⟨DC,DW,Kn⟩:=acA (P:=ws.take j) (w:=w) (r:=ws.drop (j+1)) (by rw[<-aee];exact h.CW);have BU:ws.take (j+1)=ws.take j++[w]:=by rw[List.take_succ,hw];rfl
  have KD:(EH (ws.take j)).length<1000:=by simp[EH,Zj];lia
  have qR:∀x,x=w.1\/x=w.2->x∈CH cs cs.length:=λx AJ=>h.sub x (List.mem_flatten.mpr ⟨[w.1,w.2],List.mem_map.mpr ⟨w,HY hw,rfl⟩,(AJ:)⟩);have agi:=agg (qR _ (.inl rfl)) (qR _ (.inr rfl)) Kn;generalize hP:ws.take j=P at*;have D7:AU (DA w) (.int 0)=.ok (Ae w.1):=rfl;have A7:AU (DA w) (.int 1)=.ok (Ae w.2):=rfl;have k1:GR true (Ae w.1) (.B5 (EH P) (F2 P))=.ok (.AV false):=by simp[GR,SD,ks_any,DC]
  have k2:GR true (Ae w.2) (.B5 (EH P) (F2 P))=.ok (.AV false):=by simp[GR,SD,ks_any,DW]
  have Et:=jx (i:=2) (mk:=A9 AU (A0 3) Δ) (mv:=A9 AU (A0 3) Γ) (ρ:=[.A1 (.tup (C6 cs)),.A1 (.tup (ws.map DA)),.ob (.B5 (EH P) (F2 P)),.A1 (DA w)]) rfl rfl rfl (SD w.1) (by rw[ks_any];simp[DC]) δ;have DU:=jx (i:=2) (mk:=A9 AU (A0 3) Γ) (mv:=A9 AU (A0 3) Δ) (ρ:=[.A1 (.tup (C6 cs)),.A1 (.tup (ws.map DA)),.ob (.B5 (EH P++[Gl w.1]) (F2 P++[Ae w.2])),.A1 (DA w)]) rfl rfl rfl (SD w.2) (t4 (by rw[ks_any];simp[DW]) λz=>Kn (aS z)) θ;have Gw:K7 (.ob (.B5 (EH P) (F2 P)))=.A1 (.B5 (EH P) (F2 P)):=rfl;simp at Et DU;simp[agi,EK,Gw,D7,A7,k1,k2,Et,DU,BU,abA,ahK]
 .rintro _ ⟨s3,rfl⟩;have Gw:K7 (.ob (.B5 (EH ws) (F2 ws)))=.A1 (.B5 (EH ws) (F2 ws)):=rfl;simp[Jg,EK,Gw]
def u6(cs:φ)(A5:1<=cs.length)(Cu:cs.length<=6)(h:∀c∈cs,1<=c/\c<=4):UA [.lst (C6 cs)]=.ok (.v (.AV true)):=by
 apply Ends.done;have lcs:(C6 cs).length=cs.length:=by simp[C6]
 simp[UA,hJ,d6,lcs,Vr,show(1:Int)<=cs.length by lia,show(cs.length:Int)<=6 by lia];refine Qy (λc:Nat=>D.int (c:Int)) cs (λ_=>.AV true) (by simp[C6]) δ (λc AO=>by have:=h c AO;simp[bC,Vq];lia) ?_;have a:=Tf (λ_:Nat=>true) cs;erw[a];simp
def X5{a b:JQ}{ρ ED:AI}(h:a ρ=.ok ED):NL a b ρ=b ED:=by erw[NL,h,IX]
theorem r2:∀ws:τ,LU (F2 ws)=true
 |[]=>rfl
 |w::ws=>by show LU (Ae w.2::Ae w.1::F2 ws)=true;erw[LU,r2 ws];rfl
def yu(cs:φ)(ws:τ)(h:Hg cs ws):WG [.lst (C6 cs),.lst (ws.map DA)]=.ok (["many","counts","joined","far"],[.int (cs.length:Nat),.tup (C6 cs),.tup (ws.map DA),.B5 (EH ws) (F2 ws)]):=by
 let r (ns:List Str) (ds:χ):AI:=[.ob (.ins "Net" ns ds),Ξ,Φ]
 have g1:Pt (ES (BF (CB 1 UA (A3 (A0 1) (AE))))) (r [] [])=.ok (r [] []):=by have z:ES (BF (CB 1 UA (A3 (A0 1) (AE)))) (r [] [])=.ok false:=cq (c:=true) (Jf (iG rfl (u6 cs h.A5 h.Cu h.c)));erw[Pt,z,IX,HJ,if_false]
 have g2:Pt (ES (BF (Ch (Jd "list") (A0 2)))) (r [] [])=.ok (r [] []):=rfl;have f1:LF "Net" "many" (Bz CN (A3 (A0 1) (AE))) (r [] [])=.ok (r ["many"] [.int (cs.length:Nat)]):=by
  have KD:Bz CN (A3 (A0 1) AE) (r [] [])=.ok (.int (cs.length:Nat)):=by rw[Su (xs:=C6 cs) rfl];simp[C6]
  rw[LF,KD];rfl
 have f2:LF "Net" "counts" (Bz RO (A3 (A0 1) (AE))) (r ["many"] [.int (cs.length:Nat)])=.ok (r ["many","counts"] [.int (cs.length:Nat),.tup (C6 cs)]):=rfl;have Fh:LF "Net" "joined" (Bz RO (A3 (A0 2) (AE))) (r ["many","counts"] [.int (cs.length:Nat),.tup (C6 cs)])=.ok (r ["many","counts","joined"] [.int (cs.length:Nat),.tup (C6 cs),.tup (ws.map DA)]):=rfl;have f4:LF "Net" "far" (SI (CB 2 Ra (A3 (Ch (DL "Net" "counts") (A0 0)) (A3 (Ch (DL "Net" "joined") (A0 0)) (AE))))) (r ["many","counts","joined"] [.int (cs.length:Nat),.tup (C6 cs),.tup (ws.map DA)])=.ok (r ["many","counts","joined","far"] [.int (cs.length:Nat),.tup (C6 cs),.tup (ws.map DA),.B5 (EH ws) (F2 ws)]):=by
  have z:SI (CB 2 Ra (A3 (Ch (DL "Net" "counts") (A0 0)) (A3 (Ch (DL "Net" "joined") (A0 0)) (AE)))) (r ["many","counts","joined"] [.int (cs.length:Nat),.tup (C6 cs),.tup (ws.map DA)])=.ok (.B5 (EH ws) (F2 ws)):=by have y:CB 2 Ra (A3 (Ch (DL "Net" "counts") (A0 0)) (A3 (Ch (DL "Net" "joined") (A0 0)) (AE))) (EK (r ["many","counts","joined"] [.int (cs.length:Nat),.tup (C6 cs),.tup (ws.map DA)]))=.ok (.B5 (EH ws) (F2 ws)):=call2 (x:=.tup (C6 cs)) (z:=.tup (ws.map DA)) rfl rfl (w2 cs ws h);have n:Ko (.B5 (EH ws) (F2 ws))=true/\e1 (r ["many","counts","joined"] [.int (cs.length:Nat),.tup (C6 cs),.tup (ws.map DA)])=true:=⟨by erw[Ko];exact r2 ws,rfl⟩;erw[SI,y,IX,if_pos n]
  rw[LF,z];rfl
 show outI "Net" (Ym (r [] []))=_;unfold Ym;rw[X5 g1,X5 g2,X5 f1,X5 f2,X5 Fh,f4];rfl
theorem jR{β:Type}{c:CG}{b:As}{k:Fy->R β}{T:β->Prop}(I:Nat->AI->Prop)(st:∀n ρ,I n ρ->∃t,c ρ=.ok t/\(t=true->Ends (b ρ) (Kg λBK=>∃m,m<n/\I m BK))/\(t=false->Ends (k (.BG ρ)) T)):∀(f n:Nat)(ρ:AI),I n ρ->n<f->Ends ((N9 c b f ρ).bind k) T
 |0,n,ρ,h,hf=>δ
 |f+1,n,ρ,h,hf=>by
  obtain⟨t,e,A5,A8⟩:=st n ρ h;erw[N9,e,BV];cases t with
  |false=>simpa using A8 rfl
  |true=>obtain⟨x,ex,BK,rfl,m,hm,GO⟩:=A5 rfl;erw[if_true,ex,BV];exact jR I st f m BK GO δ
def c2{β:Type}{c:CG}{b:As}{k:Fy->R β}{T:β->Prop}(I:Nat->AI->Prop){n:Nat}{ρ:AI}(h:I n ρ)(AQ:n<1000)(st:∀n ρ,I n ρ->∃t,c ρ=.ok t/\(t=true->Ends (b ρ) (Kg λBK=>∃m,m<n/\I m BK))/\(t=false->Ends (k (.BG ρ)) T)):Ends ((LG c b ρ).bind k) T:=jR I st 1000 n ρ h AQ
def Z_(ns:List Int)(k:Nat):∃c:Int,LH [.CO (ns.map D.int),.int k]=.ok (.v (.int c)):=by
 by_cases h:k<ns.length
 .refine⟨ns[k],?_⟩;have e:AU (.CO (ns.map D.int)) (.int (k:Int))=.ok (.int ns[k]):=yq (by simp[h]);simp[LH,Yu,h,e]
 .exact⟨0,by simp[LH,Yu,h]⟩
def aL:Og (.int 10) (.int 60)=.ok (.int ν):=(rfl)
def Zs(l:List Int)(x:Int){n:Nat}(AQ:l.length=n)(h:0<n):∃f∈l,AU (.lst (l.map D.int)) (.int (x%(n:Int)))=.ok (.int f):=by obtain⟨j,Bs,e⟩:=KI x h;rw[e];exact⟨l[j],Lx _,LB (by simp[AQ,Bs])⟩
def Me(c:Int)(k:Nat)(AG:k<1000):∃y:Int,FL [.int c,.int k]=.ok (.v (.int y)):=by obtain⟨f,hf,D2⟩:=Zs [48271,69621,16807,39373,40692,742938285,950706376,1343714438] k (n:=8) rfl ε;obtain⟨p,AX,Ak⟩:=Zs [2147483647,2147483629,2147483587,2147483579,2147483563] k (n:=5) rfl ε;have f0:0<f/\f<18446744073709551616:=(by decide:∀f∈([48271,69621,16807,39373,40692,742938285,950706376,1343714438]:List Int),0<f/\f<18446744073709551616) f hf;have FO:0<p:=(by decide:∀p∈([2147483647,2147483629,2147483587,2147483579,2147483563]:List Int),0<p) p AX;have D2:AU (.lst [.int 48271,.int 69621,.int 16807,.int 39373,.int 40692,.int 742938285,.int 950706376,.int 1343714438]) (.int ((k:Int)%8))=.ok (.int f):=D2;have Ak:AU (.lst [.int 2147483647,.int 2147483629,.int 2147483587,.int 2147483579,.int 2147483563]) (.int ((k:Int)%5))=.ok (.int p):=Ak;simp![FL,gz,acz,lim,D2,Ak]
def oG(x:Int)(l:List Int)(AP:l.length=6)(h:∀c∈l,1<=c/\c<=4):∃b:Int,(1<=b/\b<=4)/\AU (.lst (l.map D.int)) (.int (x%6))=.ok (.int b):=by obtain⟨f,hf,e⟩:=Zs l x (n:=6) AP ε;exact⟨f,h f hf,e⟩
def u5(cell:Int):∃cs:φ,(1<=cs.length/\cs.length<=6)/\(∀c∈cs,1<=c/\c<=4)/\UH [.int cell]=.ok (.o (C6 cs)):=by
 suffices h:Ends (UH [.int cell]) λb=>∃cs:φ,(1<=cs.length/\cs.length<=6)/\(∀c∈cs,1<=c/\c<=4)/\b=.o (C6 cs)by
  obtain⟨b,e,cs,A5,A8,rfl⟩:=h;exact⟨cs,A5,A8,e⟩
 have AP:([4,4,4,3,2,2]:List Int).length=6:=rfl;have J:∀c∈([4,4,4,3,2,2]:List Int),1<=c/\c<=4:=ε
 by_cases AN:cell%2=1
 .obtain⟨m,hm,em⟩:=KI (cell/2%ν) (n:=6) ε;obtain⟨b,x_,Bh⟩:=oG (cell/2%ν) _ AP J;have Bh:AU (.lst [.int 4,.int 4,.int 4,.int 3,.int 2,.int 2]) (.int (cell/2%ν%6))=.ok (.int b):=Bh;have Qx:(1:Int)+cell/2%ν%6=((m+1:Nat):Int):=by have:cell/2%ν%6=(m:Int):=em;lia
  have ex:∀k:Nat,∃c:Nat,(1<=c/\c<=4)/\(k<6->∃g:Int,0<g/\g<1073741824/\AU (.lst [.int 1,.int 4,.int 16,.int 64,.int 256,.int 1024]) (.int (k:Int))=.ok (.int g)/\1+cell/2%ν/6/g%4%b=(c:Int)):=λk=>by
   by_cases AG:k<6
   .have Aa:∃g:Int,0<g/\g<1073741824/\AU (.lst [.int 1,.int 4,.int 16,.int 64,.int 256,.int 1024]) (.int (k:Int))=.ok (.int g):=by
      rcases(by lia:k=0\/k=1\/k=2\/k=3\/k=4\/k=5)with rfl|rfl|rfl|rfl|rfl|rfl
      .exact⟨1,ε,ε,rfl⟩
      .exact⟨4,ε,ε,rfl⟩
      .exact⟨16,ε,ε,rfl⟩
      .exact⟨64,ε,ε,rfl⟩
      .exact⟨256,ε,ε,rfl⟩
      .exact⟨1024,ε,ε,rfl⟩
    obtain⟨g,g1,g2,g3⟩:=Aa;have XH:=gZ (cell/2%ν/6/g%4) (show b≠0 by lia);have Dw:=gK (cell/2%ν/6/g%4) (show 0<b by lia);exact⟨(1+cell/2%ν/6/g%4%b).toNat,δ,λ_=>⟨g,g1,g2,g3,δ⟩⟩
   .exact⟨1,δ,λh=>absurd h AG⟩
  let MQ:Nat->Nat:=λk=>(ex k).choose
  have cY:∀k,1<=MQ k/\MQ k<=4:=λk=>(ex k).choose_spec.1;have cZ:∀k:Nat,k<6->∃g:Int,0<g/\g<1073741824/\AU (.lst [.int 1,.int 4,.int 16,.int 64,.int 256,.int 1024]) (.int (k:Int))=.ok (.int g)/\1+cell/2%ν/6/g%4%b=(MQ k:Int):=λk=>(ex k).choose_spec.2;simp![UH,YQ,AN,aL,Bh,Qx,lim,-Qd,-Dc];refine Qz (m+1) (λk=>.int (MQ k:Int)) (by simp[Qx,show m+1<1000000 by lia,-Qd]) δ (λk AG=>?_) ?_
  .obtain⟨g,g1,g2,g3,g4⟩:=cZ k δ;simp![g3,g4,lim]
  .simp;refine⟨(DK (m+1)).map MQ,⟨γ,θ⟩,λc AO=>?_,by simp[C6]⟩;obtain⟨k,_,rfl⟩:=List.mem_map.mp AO;exact cY k
 .obtain⟨y,DZ⟩:=Me cell 0 ε;have T5:FL [.int cell,.int 0]=.ok (.v (.int y)):=DZ;obtain⟨m,hm,em⟩:=KI y (n:=6) ε;have Qx:(1:Int)+y%6=((m+1:Nat):Int):=by have:y%6=(m:Int):=em;lia
  obtain⟨b,x_,Bh⟩:=oG y _ AP J;have vg:AU (.lst [.int 4,.int 4,.int 4,.int 3,.int 2,.int 2]) (.int (m:Int))=.ok (.int b):=by rw[<-Bh];congr 2;have:y%6=(m:Int):=em;lia
  have ex:∀k:Nat,∃c:Nat,(1<=c/\c<=4)/\(k<10->∃z:Int,FL [.int cell,.int (1+(k:Int))]=.ok (.v (.int z))/\1+z%b=(c:Int)):=λk=>by
   by_cases AG:k<10
   .obtain⟨z,RN⟩:=Me cell (1+k) δ;have XH:=gZ z (show b≠0 by lia);have Dw:=gK z (show 0<b by lia);exact⟨(1+z%b).toNat,δ,λ_=>⟨z,by rw[<-RN];simp,δ⟩⟩
   .exact⟨1,δ,λh=>absurd h AG⟩
  let MQ:Nat->Nat:=λk=>(ex k).choose
  have cY:∀k,1<=MQ k/\MQ k<=4:=λk=>(ex k).choose_spec.1;have cZ:∀k:Nat,k<10->∃z:Int,FL [.int cell,.int (1+(k:Int))]=.ok (.v (.int z))/\1+z%b=(MQ k:Int):=λk=>(ex k).choose_spec.2;have KP:((m+1:Nat):Int)-1=(m:Int):=δ
  simp![UH,YQ,AN,T5,Qx,-Qd];refine Qz (m+1) (λk=>.int (MQ k:Int)) (by simp[show m+1<1000000 by lia,-Qd]) δ (λk AG=>?_) ?_
  .obtain⟨z,AH,B1⟩:=cZ k δ;simp![AH,B1,KP,vg,lim,-Qd]
  .simp;refine⟨(DK (m+1)).map MQ,⟨γ,θ⟩,λc AO=>?_,by simp[C6]⟩;obtain⟨k,_,rfl⟩:=List.mem_map.mp AO;exact cY k
def jv{cs:φ}(Cu:cs.length<=6)(I2:∀c∈cs,1<=c/\c<=4):UI [.lst (C6 cs)]=.ok (.o ((CH cs cs.length).map Ae)):=by
 apply Ends.done;have lcs:(C6 cs).length=cs.length:=by simp[C6]
 simp![UI,gx,lim];refine Os cs.length (λj ρ=>∃s2,ρ=[Ξ,.C8 ((CH cs j).map Ae),s2]) (by simp[lcs,show cs.length<1000000 by lia]) ⟨.un,by simp[CH]⟩ ?_ ?_
 .rintro j _ Bs ⟨s5,rfl⟩;have B1:AU (.lst (C6 cs)) (.int (j:Int))=.ok (.int (cs.getD j 0:Nat)):=LB (Vv Bs);have Sr:=ZI (λc h=>(I2 c h).2) j;simp;refine Qz (cs.getD j 0) (λk=>Ae (j,k)) (by erw[HI]at B1 Sr;simp[B1,show cs[j]?.getD 0<1000000 by lia]) δ (λk AG=>by simp[Ae]) ?_;have KD:=Q7 I2 j;erw[HI]at Sr |-;simp[show(CH cs j).length+cs[j]?.getD 0<=1000000 by lia];rw[hz];simp[Oq]
 .rintro _ ⟨s5,rfl⟩;simp
@[simp] theorem akl(m:Ap)(ρ:AI):Pn m ρ=(m (EK ρ)).bind λds=>if Kp ds=true/\W0 ρ=true then .ok ds else .bad:=(rfl)
def uu(ws:τ)(w:AR×AR):ends (ws++[w])=ends ws++[w.1,w.2]:=by simp[ends]
def pk(d:D):OE (.A1 d)=true:=(rfl)
def pn(d:χ):OE (.C8 d)=true:=(rfl)
noncomputable def fD:As:=Ab (NJ 8 (OX 2 (Mc (A9 Cy (A9 AU (A0 7) Δ) (Bz CN (A3 (A0 2) (AE)))))))
    (Ab (NJ 9 (OX 2 (Mc (A9 Cy (A9 AU (A0 7) Γ) (Bz CN (A3 (A0 2) (AE)))))))
    (Ab (JB 3 (DS (A3 (A0 8) (A3 (A0 9) (AE)))))
    (Bc 6 (A9 DP (A0 6) (AD (.int 2))))))
noncomputable def U6:As:=Ab (Bc 7 (BQ (Pn (CL (A3 (CB 2 FL (A3 (A0 0) (A3 (A0 6) (AE)))) (A3 (CB 2 FL (A3 (A0 0) (A3 (A9 DP (A0 6) Γ) (AE)))) (AE)))))))
    (Ab (Cf (BF (A9 (Bi true) (A9 Cy (A0 0) (AD (.int 2))) Γ)) (Ab (Bc 7 (BQ (Pn (CL (A3 (A0 4) (A3 (A9 ER (A0 4) (Bz CN (A3 (A0 2) (AE)))) (AE)))))))
    (Bc 4 (Mc (A9 ER (A9 ER (A0 4) (Bz CN (A3 (A0 2) (AE)))) (A9 QT (Bz CN (A3 (A0 2) (AE))) Γ))))) (Cs))
    fD)
def bA:CG:=KF (BF (A9 VS (Bz CN (A3 (A0 2) (AE))) (A9 DP (A0 5) Γ)))
noncomputable def MM(cell:Int)(X:D)(R:List AR)(ws:τ)(nm kp:Int)(Da s8 s9:Bw):AI:=[.A1 (.int cell),.A1 X,.C8 (R.map Ae),.C8 (ws.map DA),.A1 (.int nm),.A1 (.int kp),.A1 (.int ((9+2*ws.length:Nat):Int)),Da,s8,s9]
noncomputable def hu(cell:Int)(X:D)(al:List AR)(kp:Int)(n:Nat)(ρ:AI):Prop:=∃(ws:τ)(R:List AR)(nm:Int)(Da s8 s9:Bw),(ends ws++R).Perm al/\1<=R.length/\n=R.length/\(OE Da=true/\OE s8=true/\OE s9=true)/\ρ=MM cell X R ws nm kp Da s8 s9
def r8{cell:Int}{X:D}{al R:List AR}{ws:τ}{nm kp:Int}{s8 s9:Bw}(pm:(ends ws++R).Perm al)(OS:3<=R.length)(Pm:al.length<=100)(Al BN:Int) :
  Ends (fD (MM cell X R ws nm kp (.A1 (.lst [.int Al,.int BN])) s8 s9)) (Kg λBK=>∃m,m<R.length/\hu cell X al kp m BK):=by
 have KD:(ends ws).length+R.length=al.length:=by have:=pm.length_eq;simpa using this
 rw[Zj]at KD;obtain⟨k1,dZ,uq⟩:=KI Al (n:=R.length) δ;have al5:(R.eraseIdx k1).length=R.length-1:=XP dZ;obtain⟨k2,Li,ur⟩:=KI BN (n:=(R.eraseIdx k1).length) δ;have abS:((R.eraseIdx k1).eraseIdx k2).length=R.length-2:=by rw[XP Li];lia
 have EG:AU (.lst [.int Al,.int BN]) (.int 0)=.ok (.int Al):=rfl;have Bf:AU (.lst [.int Al,.int BN]) (.int 1)=.ok (.int BN):=rfl;have g1:=eC Ae (i:=2) dZ δ;have g2:=eC Ae (i:=2) Li δ;unfold MM fD;simp![EG,Bf,uq,g1];rw[ur];simp![g2];refine⟨R.length-2,δ,ws++[(R[k1],(R.eraseIdx k1)[k2])],(R.eraseIdx k1).eraseIdx k2,nm,_,_,_,?_,δ,abS.symm,⟨rfl,rfl,rfl⟩,by simp[MM,DA];exact⟨δ,rfl,rfl,rfl⟩⟩;rw[uu,Qj];refine sZ (sS _ ?_) pm;exact((Zk (R.eraseIdx k1) k2 Li).cons _).trans (Zk R k1 dZ)
def ahT{cell:Int}{X:D}{al R:List AR}{ws:τ}{nm kp:Int}{Da s8 s9:Bw}(pm:(ends ws++R).Perm al)(OS:3<=R.length)(Pm:al.length<=100)(AK:OE Da=true/\OE s8=true/\OE s9=true) :
  Ends (U6 (MM cell X R ws nm kp Da s8 s9)) (Kg λBK=>∃m,m<R.length/\hu cell X al kp m BK):=by
 have KD:(ends ws).length+R.length=al.length:=by have:=pm.length_eq;simpa using this
 rw[Zj]at KD;obtain⟨HW,f1⟩:=Me cell (9+2*ws.length) δ;obtain⟨GE,f2⟩:=Me cell (9+2*ws.length+1) δ;have jE:FL [.int cell,.int (((9+2*ws.length:Nat):Int)+1)]=.ok (.v (.int GE)):=f2;by_cases AN:cell%2=1
 .have:=r8 (cell:=cell) (X:=X) (nm:=nm/R.length/((R.length:Int)-1)) (kp:=kp) (s8:=s8) (s9:=s9) pm OS Pm nm (nm/R.length);unfold U6;unfold MM at this |-;simp![AN,f1,jE,lim,Kp,Mi,W0,pk,pn,AK.1,AK.2.1,AK.2.2,-Qd];exact this
 .have:=r8 (cell:=cell) (X:=X) (nm:=nm) (kp:=kp) (s8:=s8) (s9:=s9) pm OS Pm HW GE;unfold U6;unfold MM at this |-;simp![AN,f1,jE,lim,Kp,Mi,W0,pk,pn,AK.1,AK.2.1,AK.2.2,-Qd];exact this
def agh(cell:Int)(cs:φ)(A5:1<=cs.length)(Cu:cs.length<=6)(I2:∀c∈cs,1<=c/\c<=4):∃ws,Hg cs ws/\(∃d∈CH cs cs.length,d∉ends ws)/\Rh [.int cell,.lst (C6 cs)]=.ok (.o (ws.map DA)):=by
 suffices h:Ends (Rh [.int cell,.lst (C6 cs)]) λb=>∃ws,Hg cs ws/\(∃d∈CH cs cs.length,d∉ends ws)/\b=.o (ws.map DA)by
  obtain⟨b,e,ws,h,h',rfl⟩:=h;exact⟨ws,h,h',e⟩
 have tU:1<=(CH cs cs.length).length:=Xe (head_mem A5 I2);have ak8:=Q7 I2 cs.length;have ac6:=j9 cs cs.length;have out:=jv Cu I2;obtain⟨qh,va⟩:=Me cell 8 ε;have k6:FL [.int cell,.int 8]=.ok (.v (.int qh)):=va;have fin:∀(nm kp:Int),1<=kp->Ends ((LG bA U6 (MM cell (.lst (C6 cs)) (CH cs cs.length) [] nm kp .un .un .un)).bind λf=>(Rt (GP (Jh 3)) f).bind outD) λb=>∃ws,Hg cs ws/\(∃d∈CH cs cs.length,d∉ends ws)/\b=.o (ws.map DA):=λnm kp ajy=>by
  refine c2 (n:=(CH cs cs.length).length) (hu cell (.lst (C6 cs)) (CH cs cs.length) kp) ⟨[],_,nm,.un,.un,.un,.refl _,tU,rfl,⟨rfl,rfl,rfl⟩,rfl⟩ δ ?_;rintro n _ ⟨ws,R,nm,Da,s8,s9,pm,F1,rfl,AK,rfl⟩;refine⟨decide (kp+1<(R.length:Int)),by simp[bA,MM],λAx=>ahT pm (by have:=of_decide_eq_true Ax;lia) δ AK,λhf=>?_⟩;simp[MM];have KD:(ends ws).length+R.length=(CH cs cs.length).length:=by have:=pm.length_eq;simpa using this
  rw[Zj]at KD;have CW:(ends ws++R).Nodup:=pm.nodup_iff.mpr ac6;have hR:R[0]∈R:=Lx _;exact⟨ws,⟨A5,Cu,I2,(List.nodup_append.mp CW).1,λd hd=>pm.mem_iff.mp (G2 _ hd),δ⟩,⟨R[0].1,R[0].2,pm.mem_iff.mp (Fb _ hR),λz=>(List.nodup_append.mp CW).2.2 _ z _ hR rfl⟩,rfl⟩
 have ev:∀x:Int,1<=1+x%3/\1<=1+x%24:=λx=>δ
 have Bh:h5=Ab (Eg 2 (EM 1 UI (A3 (A0 1) (AE))))
  (Ab (Eg 3 (CL (AE)))
  (Ab (Bc 4 (A9 ER (A9 Cy (A9 ER (A0 0) (AD (.int 2))) (A9 Og (AD (.int 10)) (AD (.int 60)))) (AD (.int 24576))))
  (Ab (Bc 5 (A9 DP Γ (A9 Cy (CB 2 FL (A3 (A0 0) (A3 (AD (.int 8)) (AE)))) (AD (.int 3)))))
  (Ab (Cf (BF (A9 (Bi true) (A9 Cy (A0 0) (AD (.int 2))) Γ)) (Ab (Bc 5 (A9 DP Γ (A9 Cy (A0 4) (AD (.int 24)))))
  (Bc 4 (A9 ER (A0 4) (AD (.int 24))))) (Cs))
  (Ab (Bc 6 (AD (.int 9)))
  (Ab (LG bA U6) (GP (Jh 3)))))))):=rfl
 have key:∀T:C2->Prop,(∀nm kp:Int,1<=kp->Ends ((LG bA U6 (MM cell (.lst (C6 cs)) (CH cs cs.length) [] nm kp .un .un .un)).bind λf=>(Rt (GP (Jh 3)) f).bind outD) T)->Ends (Rh [.int cell,.lst (C6 cs)]) T:=λT h=>by
  by_cases AN:cell%2=1
  .have:=h (cell/2%ν/24576/24) (1+cell/2%ν/24576%24) (ev _).2;simp![Rh,Bh,out,lim,aL,k6,AN];exact this
  .have:=h (cell/2%ν/24576) (1+qh%3) (ev _).1;simp![Rh,Bh,out,lim,aL,k6,AN];exact this
 exact key _ fin
def Nb(c:Nat):Prop:=c=48\/c=49\/c=120
structure RB(x:Str):Prop where
 l:x.cps.toList.length=4
 s:∀c∈x.cps.toList,Nb c
def aew{c:Nat}(h:Nb c):inD true (Jo c) Tk=.ok (.AV true):=by rcases h with h|h|h<;>subst h<;>rfl
def len_str(x:Str)(h:x.cps.toList.length<=1000):CN [.str x]=.ok (.int (x.cps.toList.length:Int)):=by
 have e:x.length=x.cps.toList.length:=rfl;have AH:x.length<=1000000:=δ
 rw[<-e];erw[CN,if_pos AH]
def z7(x:Str):Jd "str" (.str x)=.ok (.AV true):=rfl
def z8(l:χ):Jd "tuple" (.tup l)=.ok (.AV true):=rfl
def agk:CN [RJ]=.ok (.int 4):=rfl
def n0{x:Str}(h:RB x):UD [.str x]=.ok (.v (.AV true)):=by apply Ends.done;have l:=h.l;simp[UD,hT,z7,len_str x δ,agk,l];refine Qy Jo x.cps.toList (λ_=>.AV true) γ δ (λc AO=>by simp[aew (h.s c AO)]) ?_;have a:=Tf (λ_:Nat=>true) x.cps.toList;erw[a];simp
def sr{x y:Str}(h:x.length+y.length<=1000000):DP (.str x) (.str y)=.ok (.str (x++y)):=if_pos h
def u7(x:Str)(c:Nat):(x++(⟨#[c]⟩:Str)).cps.toList=x.cps.toList++[c]:=by show(x.cps++ #[c]).toList=_;simp
structure CZ where
 p:Str
 a:Option Nat
 b:Option Nat
noncomputable def FN:Option Nat->D
 |none=>.non
 |some k=>.int (k:Int)
def FC(r:CZ):D:=.tup [.str r.p,FN r.a,FN r.b]
structure Q1(c:Nat)(r:CZ):Prop where
 p:RB r.p
 a:∀k,r.a=some k->k<c
 b:∀k,r.b=some k->k<c
def D6(b:List CZ):D:=.lst (b.map FC)
def LW(c:Nat)(b:List CZ):Prop:=b.length<=12/\∀r∈b,Q1 c r
def l3{cs:φ}(h:∀c∈cs,1<=c/\c<=4){k:Nat}(AG:k<cs.length):1<=cs.getD k 0/\cs.getD k 0<=4:=by have:=h (cs[k]) (Lx _);simpa[AG]using this
def pi{I:AI->Prop}{x:Str}{c j:Nat}(AP:x.cps.toList.length=j)(AK:∀c∈x.cps.toList,Nb c)(AO:Nb c)(Bs:j<4):DP (.str x) (.str ⟨#[c]⟩)=.ok (.str (x++(⟨#[c]⟩:Str)))/\(x++(⟨#[c]⟩:Str)).cps.toList.length=j+1/\∀d∈(x++(⟨#[c]⟩:Str)).cps.toList,Nb d:=by
 have abF:x.length+(⟨#[c]⟩:Str).length<=1000000:=by
  have A5:x.length=x.cps.toList.length:=rfl;have A8:(⟨#[c]⟩:Str).length=1:=rfl
  lia
 have ca:=u7 x c;refine⟨sr abF,by rw[ca];erw[KX,AP,HL,Lz],λd hd=>?_⟩;rw[ca]at hd;rcases List.mem_append.mp hd with h|h
 .exact AK d h
 .rw[List.mem_singleton.mp h];exact AO
def aco(y:Int):∃c,Nb c/\AU (.lst [.str (Be "x"),.str (Be "x"),.str (Be "0"),.str (Be "1"),.str (Be "x")]) (.int (y%5))=.ok (.str ⟨#[c]⟩):=by
 have h:y%5=0\/y%5=1\/y%5=2\/y%5=3\/y%5=4:=δ
 rcases h with h|h|h|h|h<;>rw[h]
 .exact⟨120,.inr (.inr rfl),rfl⟩
 .exact⟨120,.inr (.inr rfl),rfl⟩
 .exact⟨48,.inl rfl,rfl⟩
 .exact⟨49,.inr (.inl rfl),rfl⟩
 .exact⟨120,.inr (.inr rfl),rfl⟩
def acn(y:Int):∃c,Nb c/\AU (.str (Be "01x")) (.int (y%3))=.ok (.str ⟨#[c]⟩):=by
 have h:y%3=0\/y%3=1\/y%3=2:=δ
 rcases h with h|h|h<;>rw[h]
 .exact⟨48,.inl rfl,rfl⟩
 .exact⟨49,.inr (.inl rfl),rfl⟩
 .exact⟨120,.inr (.inr rfl),rfl⟩
def aG:(Be "").cps.toList.length=0/\∀c∈(Be "").cps.toList,Nb c:=⟨ε,λc h=>nomatch (show c∈([]:φ)from h)⟩
def adt(cell:Int)(k:Nat)(AG:k<900)(c:Nat)(AO:1<=c)(xb:c<=4):∃r,Q1 c r/\OY [.int cell,.int k,.int (c:Int)]=.ok (.v (FC r)):=by
 suffices h:Ends (OY [.int cell,.int k,.int (c:Int)]) λb=>∃r,Q1 c r/\b=.v (FC r)by
  obtain⟨b,e,p,h,rfl⟩:=h;exact⟨p,h,e⟩
 obtain⟨y,DZ⟩:=Me cell k δ;have key:∀T:C2->Prop,(∀(r:CZ),Q1 c r->T (.v (FC r)))->Ends (OY [.int cell,.int k,.int (c:Int)]) T:=λT C7=>by
  simp![OY,h2,DZ];refine Os 4 (λj ρ=>∃(z:Int)(x:Str)(s5:Bw),x.cps.toList.length=j/\(∀c∈x.cps.toList,Nb c)/\ρ=[.A1 (.int cell),.A1 (.int k),.A1 (.int c),.A1 (.int z),.A1 (.str x),s5,.un,.un]) (by simp;exact QO 4 ε) ⟨y,Be "",.un,aG.1,aG.2,rfl⟩ ?_ ?_
  .rintro j _ Bs ⟨z,x,s2,AP,AK,rfl⟩;obtain⟨d,hd,e⟩:=aco z;obtain⟨A7,AH,B1⟩:=pi (I:=λ_=>True) AP AK hd Bs;simp![e,A7,lim];exact⟨_,_,(AH:),(B1:),rfl,rfl⟩
  .rintro _ ⟨z,x,s5,AP,AK,rfl⟩;obtain⟨Al,kh,eq1⟩:=KI (z/3) (n:=c) δ;obtain⟨BN,S9,eq2⟩:=KI (z/20) (n:=c) δ;by_cases Au:z%3=0<;>by_cases bl:z/100%9=0<;>simp![Au,bl,eq1,eq2]
   .exact C7 ⟨x,some Al,none⟩ ⟨⟨AP,AK⟩,(λk h=>by cases h;exact kh),λ_ h=>nomatch h⟩
   .exact C7 ⟨x,some Al,some BN⟩ ⟨⟨AP,AK⟩,(λk h=>by cases h;exact kh),λk h=>by cases h;exact S9⟩
   .exact C7 ⟨x,none,none⟩ ⟨⟨AP,AK⟩,(λ_ h=>nomatch h),λ_ h=>nomatch h⟩
   .exact C7 ⟨x,none,some BN⟩ ⟨⟨AP,AK⟩,(λ_ h=>nomatch h),λk h=>by cases h;exact S9⟩
 exact key _ λr B8=>⟨r,B8,rfl⟩
def choice(c:Nat)(y:Int):∃o:Option Nat,(∀k,o=some k->k<c)/\AU (.lst (D.non::Ft 0 c)) (.int (y%((c:Int)+1)))=.ok (FN o):=by
 obtain⟨k,AG,e⟩:=KI y (n:=c+1) δ;have e:y%((c:Int)+1)=(k:Int):=by rw[<-e];simp
 rw[e];cases k with
 |zero=>exact⟨none,(λ_ h=>nomatch h),LB rfl⟩
 |succ k=>exact⟨some k,(λj h=>by cases h;lia),LB (by simp[Ft,FN,QY (show k<c by lia)])⟩
def vj(y:Int)(c:Nat)(AO:1<=c)(xb:c<=4):∃b,LW c b/\Re [.int y,.int (c:Int)]=.ok (.o (b.map FC)):=by
 suffices h:Ends (Re [.int y,.int (c:Int)]) λt=>∃b,LW c b/\t=.o (b.map FC)by
  obtain⟨t,e,p,h,rfl⟩:=h;exact⟨p,h,e⟩
 have key:∀T:C2->Prop,(∀b,LW c b->T (.o (b.map FC)))->Ends (Re [.int y,.int (c:Int)]) T:=λT C7=>by
  obtain⟨m,hm,em⟩:=KI y (n:=13) ε;have em:y%13=(m:Int):=em;simp![Re,gy,lim,em];refine Os m (λj ρ=>∃(z:Int)(b:List CZ)(s5 IM Da:Bw),b.length=j/\(∀r∈b,Q1 c r)/\ρ=[.A1 (.int z),.A1 (.int c),.C8 (b.map FC),.A1 (.int m),.A1 (.lst (D.non::Ft 0 c)),s5,IM,Da]) (by simp;exact QO m δ) ⟨y/13,[],.un,.un,.un,rfl,(λ_ h=>nomatch h),rfl⟩ ?_ ?_
  .rintro j _ Bs ⟨z,b,s5,IM,Da,AP,J,rfl⟩;simp;refine Os 4 (λj ρ=>∃(z:Int)(x:Str)(s5 Da:Bw),x.cps.toList.length=j/\(∀c∈x.cps.toList,Nb c)/\ρ=[.A1 (.int z),.A1 (.int c),.C8 (b.map FC),.A1 (.int m),.A1 (.lst (D.non::Ft 0 c)),s5,.A1 (.str x),Da]) (by simp;exact QO 4 ε) ⟨z,Be "",_,_,aG.1,aG.2,rfl⟩ ?_ ?_
   .rintro j _ Bs ⟨z,x,s5,Da,AP,AK,rfl⟩;obtain⟨d,hd,e⟩:=acn z;obtain⟨A7,AH,B1⟩:=pi (I:=λ_=>True) AP AK hd Bs;simp![e,A7];exact⟨_,_,(AH:),(B1:),rfl,rfl⟩
   .rintro _ ⟨z,x,s5,Da,J5,AK,rfl⟩;obtain⟨Ci,A5,Bf⟩:=choice c z;obtain⟨Cj,A8,By⟩:=choice c (z/((c:Int)+1));simp![Bf,By];refine⟨_,b++[⟨x,Ci,Cj⟩],by simp[AP],λr B8=>?_,rfl,by simp[FC]⟩;rcases List.mem_append.mp B8 with h|h
    .exact J r h
    .rw[List.mem_singleton.mp h];exact⟨⟨J5,AK⟩,A5,A8⟩
  .rintro _ ⟨z,b,s5,IM,Da,AP,J,rfl⟩;simp;exact C7 b ⟨δ,J⟩
 exact key _ λb J=>⟨b,J,rfl⟩
def ne_nil{l:χ}(h:l.all (okN 7)=true):Bi false (.lst l) (.lst [])=.ok (.AV (!l.isEmpty)):=by unfold Bi;have:okN 8 (.lst l)=true:=h;cases l<;>simp_all[okN,CE,Dp]
def UR(zs:List Int):(zs.map D.int).all (okN 7)=true:=by simp[okN]
structure E5(cs:φ)(bs:List (List CZ)):Prop where
 l:bs.length=cs.length
 b:∀(i:Nat) b,bs[i]?=some b->LW (cs.getD i 0) b
noncomputable def hE:As:=Ab (Bc 5 (A9 DP (A0 5) (A9 Mf (AD (.int 3)) (A0 4))))
    (Ab (Bc 6 (A9 AU (BQ (CL (A3 Γ (A3 (AD (.int 2)) (A3 (AD (.int 3)) (A3 Δ (A3 (AD (.int 2)) (A3 (AD (.int 4)) (A3 (AD (.int 12)) (AE)))))))))) (A9 Cy (CB 2 FL (A3 (A0 5) (A3 (AD (.int 3)) (AE)))) (AD (.int 7)))))
    (JB 3 (BQ (D3 1 [5,1,4,2] (FK (A3 (A0 6) (AE))) (BR 0) (ET) (CB 3 OY (A3 (A0 1) (A3 (A9 DP (A9 DP (AD (.int 4)) (A0 4)) (A9 Mf (AD (.int 3)) (A0 0))) (A3 (A9 AU (A0 2) (A0 3)) (AE)))))))))
def R3(Z:D)(cs:φ)(HE:Nat)(bs:List (List CZ))(s4 s5 IM:Bw):AI:=[.A1 Z,Ξ,.A1 (.int (HE:Int)),.C8 (bs.map D6),s4,s5,IM]
def i6(Z:D)(cs:φ)(HE:Nat)(j:Nat)(ρ:AI):Prop:=∃(bs:List (List CZ))(s4 s5 IM:Bw),bs.length=j/\(∀(i:Nat) b,bs[i]?=some b->LW (cs.getD i 0) b)/\ρ=R3 Z cs HE bs s4 s5 IM
def nY{cs:φ}{bs:List (List CZ)}{b:List CZ}(J:∀(i:Nat) b,bs[i]?=some b->LW (cs.getD i 0) b)(dP:LW (cs.getD bs.length 0) b):∀(i:Nat) x,(bs++[b])[i]?=some x->LW (cs.getD i 0) x:=λi x e=>by
 by_cases AC:i<bs.length
 .rw[Ms AC]at e;exact J i x e
 .rw[Nq δ]at e;have z:i-bs.length=0:=by
   have:=(List.getElem?_eq_some_iff.mp e).1;simpa using this
  rw[z]at e;simp at e;subst e;rw[show i=bs.length by lia];exact dP
def uQ{Z:D}{cs:φ}(I2:∀c∈cs,1<=c/\c<=4)(Cu:cs.length<=6){HE:Nat}(Z2:HE<=1){bs:List (List CZ)}(Bs:bs.length<cs.length)(J:∀(i:Nat) b,bs[i]?=some b->LW (cs.getD i 0) b)(cell:Int)(IM:Bw):Ends (hE (R3 Z cs HE bs (.A1 (.int (bs.length:Int))) (.A1 (.int cell)) IM)) (Kg (i6 Z cs HE (bs.length+1))):=by
 have B1:AU (.lst (C6 cs)) (.int (bs.length:Int))=.ok (.int (cs.getD bs.length 0:Nat)):=LB (Vv Bs);obtain⟨B_,IH⟩:=l3 I2 Bs;have put:=λb=>nY (cs:=cs) (bs:=bs) (b:=b) J;generalize cs.getD bs.length 0=c at B1 B_ IH put;obtain⟨y,DZ⟩:=Me (cell+3*(bs.length:Int)) 3 ε;have T5:FL [.int (cell+3*(bs.length:Int)),.int 3]=.ok (.v (.int y)):=DZ;obtain⟨m,hm,em⟩:∃m:Nat,m<=12/\AU (.lst [.int 1,.int 2,.int 3,.int 0,.int 2,.int 4,.int 12]) (.int (y%7))=.ok (.int (m:Int)):=by obtain⟨f,hf,D2⟩:=Zs [1,2,3,0,2,4,12] y (n:=7) rfl ε;have f0:=(by decide:∀f∈([1,2,3,0,2,4,12]:List Int),0<=f/\f<=12) f hf;exact⟨f.toNat,δ,by rw[show((f.toNat:Nat):Int)=f by lia];exact D2⟩
 have ex:∀k:Nat,∃r:CZ,k<13->Q1 (c) r/\OY [.int (cell+3*(bs.length:Int)),.int (4+(HE:Int)+3*(k:Int)),.int (c:Nat)]=.ok (.v (FC r)):=λk=>by
  by_cases AG:k<13
  .obtain⟨r,B8,CY⟩:=adt (cell+3*(bs.length:Int)) (4+HE+3*k) δ (c) B_ IH;exact⟨r,λ_=>⟨B8,by rw[<-CY];simp⟩⟩
  .exact⟨⟨Be "",none,none⟩,λh=>absurd h AG⟩
 let bN:Nat->CZ:=λk=>(ex k).choose
 have o0:∀k,k<13->Q1 (c) (bN k)/\OY [.int (cell+3*(bs.length:Int)),.int (4+(HE:Int)+3*(k:Int)),.int (c:Nat)]=.ok (.v (FC (bN k))):=λk=>(ex k).choose_spec;unfold hE R3;simp![lim,T5,em];refine Qz m (λk=>FC (bN k)) (by simp[show m<1000000 by lia]) δ (λk AG=>?_) ?_
 .have:=(o0 k δ).2;simp![B1,this]
 .simp(disch:=first|lia|(simp;done)|(simp;lia));exact⟨bs++[(DK m).map bN],_,_,_,γ,put _ ⟨θ,λr B8=>by obtain⟨k,AG,rfl⟩:=List.mem_map.mp B8;exact(o0 k (by have:=List.mem_range.mp AG;lia)).1⟩,by simp[R3,D6];exact⟨rfl,rfl,rfl⟩⟩
def ii(zs:List Int)(HE:Nat)(Z2:HE<=1)(cs:φ)(A5:1<=cs.length)(Cu:cs.length<=6)(I2:∀c∈cs,1<=c/\c<=4):∃bs,E5 cs bs/\PQ [.lst (zs.map D.int),.lst (C6 cs),.int (HE:Int)]=.ok (.o (bs.map D6)):=by
 suffices h:Ends (PQ [.lst (zs.map D.int),.lst (C6 cs),.int (HE:Int)]) λb=>∃bs,E5 cs bs/\b=.o (bs.map D6)by
  obtain⟨b,e,bs,h,rfl⟩:=h;exact⟨bs,h,e⟩
 have lcs:(C6 cs).length=cs.length:=by simp[C6]
 have ne:=ne_nil (UR zs)
 have Bh:hZ=Ab (Eg 3 (CL (AE)))
  (Ab (Ep (FK (A3 (Bz CN (A3 (A0 1) (AE))) (AE))) (BR 4) (Ab (Bc 5 (A9 DP (A9 DP (AD (.int 17)) (A9 Mf (AD (.int 5)) (A0 4))) (A0 2)))
  (Ab (Cf (BF (A9 (Bi false) (A0 0) (BQ (CL (AE))))) (Bc 5 (A9 AU (A0 0) (A9 Cy (A9 DP (A0 4) (A0 2)) (Bz CN (A3 (A0 0) (AE)))))) (Cs))
  (Cf (Ig (BF (A9 (Bi false) (A0 0) (BQ (CL (AE))))) (BF (A9 (Bi true) (A9 Cy (A0 5) (AD (.int 2))) Γ))) (JB 3 (BQ (EM 2 Re (A3 (A9 Cy (A9 ER (A0 5) (AD (.int 2))) (A9 Og (AD (.int 10)) (AD (.int 60)))) (A3 (A9 AU (A0 1) (A0 4)) (AE)))))) hE))))
  (GP (Jh 3))):=rfl
 erw[PQ,Bh];simp[lim];refine Os cs.length (i6 (.lst (zs.map D.int)) cs HE) (by simp[lcs,show cs.length<1000000 by lia]) ⟨[],.un,.un,.un,rfl,(λi b e=>by simp at e),rfl⟩ ?_ ?_
 .rintro j _ Bs ⟨bs,s4,s5,IM,rfl,J,rfl⟩;have B1:AU (.lst (C6 cs)) (.int (bs.length:Int))=.ok (.int (cs.getD bs.length 0:Nat)):=LB (Vv Bs);obtain⟨B_,IH⟩:=l3 I2 Bs;have put:=λb=>nY (cs:=cs) (bs:=bs) (b:=b) J;have tail:=λcell=>uQ (Z:=.lst (zs.map D.int)) I2 Cu Z2 Bs J cell IM;generalize cs.getD bs.length 0=c at B1 B_ IH put;unfold R3 at tail |-;cases zs with
  |nil=>erw[PE]at ne tail |-;have ne:Bi false (.lst []) (.lst [])=.ok (.AV false):=ne;simp![lim,ne];exact tail _
  |cons z zs=>
   have ne:Bi false (.lst ((z::zs).map D.int)) (.lst [])=.ok (.AV true):=ne;obtain⟨k,AG,Co⟩:=KI ((bs.length:Int)+(HE:Int)) (n:=(z::zs).length) γ;have PV:((bs.length:Int)+(HE:Int))%(((z::zs).map D.int).length:Int)=(k:Int):=by rw[Ea];exact Co
   have Pj:AU (.lst ((z::zs).map D.int)) (.int (k:Int))=.ok (.int (z::zs)[k]):=LB (by rw[Dm,DV AG];rfl);generalize(z::zs)[k]=cell at Pj;generalize(z::zs).map D.int=Z at ne PV Pj tail;have akE:0<(Z.length:Int):=by
    cases Z with
    |nil=>cases ne
    |cons _ _=>simp
   by_cases AN:cell%2=1
   .obtain⟨b,dP,D2⟩:=vj (cell/2%ν) c B_ IH;simp![lim,ne,PV,Pj,AN,aL,B1,D2];exact⟨bs++[b],_,_,_,γ,put _ dP,by simp[R3,D6];exact⟨rfl,rfl,rfl⟩⟩
   .simp![lim,ne,PV,Pj,AN];exact tail _
 .rintro _ ⟨bs,s4,s5,IM,AP,J,rfl⟩;simp[R3];exact⟨bs,⟨AP,J⟩,rfl⟩
def uP(ns:List Int)(cs:φ)(A5:1<=cs.length)(Cu:cs.length<=6)(I2:∀c∈cs,1<=c/\c<=4):∃os nw,E5 cs os/\E5 cs nw/\UG [.CO (ns.map D.int),.lst (C6 cs)]=.ok (.v (.tup [.lst (os.map D6),.lst (nw.map D6)])):=by
 suffices h:Ends (UG [.CO (ns.map D.int),.lst (C6 cs)]) λb=>∃os nw,E5 cs os/\E5 cs nw/\b=.v (.tup [.lst (os.map D6),.lst (nw.map D6)])by
  obtain⟨b,e,os,nw,h,h',rfl⟩:=h;exact⟨os,nw,h,h',e⟩
 have lcs:(C6 cs).length=cs.length:=by simp[C6]
 obtain⟨os,Od,A7⟩:=ii (G9 ns (some 2) (some 9)) 0 ε cs A5 Cu I2;obtain⟨nw,en,AH⟩:=ii (G9 ns (some 9) (some 16)) 1 ε cs A5 Cu I2;have Ee:PQ [.lst (G9 (ns.map D.int) (some 2) (some 9)),.lst (C6 cs),.int 0]=.ok (.o (os.map D6)):=by rw[cb];exact A7
 have T3:PQ [.lst (G9 (ns.map D.int) (some 9) (some 16)),.lst (C6 cs),.int 1]=.ok (.o (nw.map D6)):=by rw[cb];exact AH
 obtain⟨B_,uo⟩:=Z_ ns 1;have kA:LH [.CO (ns.map D.int),.int 1]=.ok (.v (.int B_)):=uo;have key:∀T:C2->Prop,(∀nw,E5 cs nw->T (.v (.tup [.lst (os.map D6),.lst (nw.map D6)])))->Ends (UG [.CO (ns.map D.int),.lst (C6 cs)]) T:=λT C7=>by
  simp![UG,gw,Ee,T3];refine Os cs.length (λj ρ=>∃(nw:List (List CZ))(s4:Bw),E5 cs nw/\ρ=[Θ,Ξ,.A1 (.lst (os.map D6)),.C8 (nw.map D6),s4]) (by simp[lcs,show cs.length<1000000 by lia]) ⟨nw,.un,en,rfl⟩ ?_ ?_
  .rintro j _ Bs ⟨nw,s4,ok,rfl⟩;obtain⟨y,DZ⟩:=Me B_ j δ;have lo:=Od.l;have ln:=ok.l;have Pj:AU (.lst (os.map D6)) (.int (j:Int))=.ok (D6 os[j]):=LB (by simp[show j<os.length by lia]);by_cases BC:y%4=0
   .simp![kA,DZ,BC,Pj,OW,D6];rw[acZ θ];simp;refine⟨nw.set j os[j],⟨by simp[ln],λi b e=>?_⟩,by simp[List.map_set,D6]⟩;rw[gQ]at e
    split at e
    .rename_i Vc;subst Vc;rw[if_pos δ]at e;cases e;exact Od.b j _ (DV _)
    .exact ok.b i b e
   .simp![kA,DZ,BC];exact⟨nw,ok,rfl⟩
  .rintro _ ⟨nw,s4,ok,rfl⟩;simp![Jg];exact C7 nw ok
 exact key _ λnw h=>⟨os,nw,Od,h,rfl⟩
def sw(ns:List Int):∃cs ws os nw,Hg cs ws/\(∃d∈CH cs cs.length,d∉ends ws)/\E5 cs os/\E5 cs nw/\UF [.CO (ns.map D.int)]=.ok (.v (.tup [.lst (C6 cs),.lst (ws.map DA),.lst (os.map D6),.lst (nw.map D6)])):=by obtain⟨Vo,D7⟩:=Z_ ns 0;obtain⟨B_,A7⟩:=Z_ ns 1;have vY:LH [.CO (ns.map D.int),.int 0]=.ok (.v (.int Vo)):=D7;have Ee:LH [.CO (ns.map D.int),.int 1]=.ok (.v (.int B_)):=A7;obtain⟨cs,⟨A5,Cu⟩,I2,ec⟩:=u5 Vo;obtain⟨ws,DD,ex,HS⟩:=agh Vo cs A5 Cu I2;obtain⟨os,nw,Od,en,Bh⟩:=uP ns cs A5 Cu I2;refine⟨cs,ws,os,nw,DD,ex,Od,en,?_⟩;simp![UF,hX,vY,ec,HS,Bh,Md]
@[simp] theorem akq(m n:A_)(ρ:AI):Wr m n ρ=(m ρ).bind λd=>match d with
  |.B5 ks ds=>(n ρ).bind λk=>match J9 k with
   |some Bp=>.ok ((findD ks ds Bp).getD .non)
   |none=>.bad
  |_=>.bad:=(rfl)
@[simp] theorem qv(e:A_)(ρ:AI):Jg e ρ=(e (EK ρ)).bind λd=>.ok (.Du d):=by unfold Jg;rfl
def j7(i:Int):Rb [.int i]=.ok (.v (.AV (decide (0<=i)&&decide (i<=15)))):=by simp[Rb,hM,bC,Vp]
noncomputable def ZV(a w:Nat):Nat:=48+a/w%2
def ZB(p:Str)(a:Nat):Bool:=(p.cps.toList.zip [8,4,2,1]).all λq=>decide (q.1=120\/q.1=ZV a q.2)
def agJ(b:Nat)(h:b=0\/b=1):U3 [.int (b:Int)]=.ok (.str ⟨#[48+b]⟩):=by rcases h with rfl|rfl<;>rfl
def sign_eq(c d:Nat):CE (.str ⟨#[d]⟩) (Jo c)=decide (c=d):=by show CE (.str ⟨#[d]⟩) (.str ⟨#[c]⟩)=_;erw[CE];rw[Nz,beq_iff_eq,decide_eq_true_iff];simp;exact eq_comm
def agK:Be "x"=⟨#[120]⟩:=ε
def zV(c d:Nat):inD true (Jo c) (.tup [.str (Be "x"),.str ⟨#[d]⟩])=.ok (.AV (decide (c=120\/c=d))):=by have o:okN 7 (Jo c)=true:=rfl;have Ci:okN 7 (.str (Be "x"))=true:=rfl;have Cj:okN 7 (.str ⟨#[d]⟩)=true:=rfl;have s:NW (.tup [.str (Be "x"),.str ⟨#[d]⟩])=some [.str (Be "x"),.str ⟨#[d]⟩]:=rfl;erw[inD,s,o,Ci,Cj,Qm,List.all_nil,S_,and_self,if_true,N0,List.any_nil,Bool.or_false];rw[agK,sign_eq,sign_eq];simp
def wC{p:Str}(AX:RB p){a:Nat}(AB:a<16):UB [.str p,.int (a:Int)]=.ok (.v (.AV (ZB p a))):=by
 apply Ends.done;have l:=AX.l;simp[UB,hL,n0 AX,j7,show(a:Int)<=15 by lia];refine jP (λq:Nat×Nat=>Jo q.1) (λq=>.int (q.2:Int)) (p.cps.toList.zip [8,4,2,1]) (λq=>.AV (decide (q.1=120\/q.1=ZV a q.2))) ?_ θ (λq AT=>?_) ?_
 .show R.ok (RW p.cps.toList [.int 8,.int 4,.int 2,.int 1])=_;unfold RW;rw[show([.int 8,.int 4,.int 2,.int 1]:χ)=([8,4,2,1]:φ).map λ(n:Nat)=>D.int (n:Int)from rfl,List.zip_map_right,Hd];rfl
 .have hw:q.2=8\/q.2=4\/q.2=2\/q.2=1:=by
    have:=(Xo (show(q.1,q.2)∈_ from AT)).2;simpa using this
  have KP:U3 [.int ((a:Int)/(q.2:Int)%2)]=.ok (.str ⟨#[48+a/q.2%2]⟩):=by have:=agJ (a/q.2%2) δ;rw[<-this];simp
  simp![KP,zV,ZV];rw[Nz];simp;exact decide_eq_true_iff.symm
 .have al:=Tf (λq:Nat×Nat=>decide (q.1=120\/q.1=ZV a q.2)) (p.cps.toList.zip [8,4,2,1]);erw[al];simp[ZB]
def mt(d a:Nat)(r:CZ):Bool:=(r.a.isNone||r.a==some d)&&ZB r.p a
def z4(o:Option Nat):K9 (FN o)=o.isNone:=by cases o<;>rfl
def v5(o:Option Nat)(d:Nat):Bi true (FN o) (.int (d:Int))=.ok (.AV (o==some d)):=by
 cases o with
 |none=>rfl
 |some k=>
  show R.ok (D.AV ((k:Int)==(d:Int)))=_
  congr 2
  rw[Nz];simp
  lia
def ahB(mi:Ap)(set:D->AI->R AI)(body:As)(ρ:AI):Ep mi set body ρ=(mi ρ).bind λds=>JX set body ds ρ:=(rfl)
def MI(d a:Nat):Nat->List CZ->Option Nat
 |_,[]=>none
 |i,r::rs=>if mt d a r=true then some i else MI d a (i+1) rs
theorem rN{d a:Nat}(AB:a<16):∀(rs:List CZ)(i:Nat)(s0 s3 s4:Bw),(∀r∈rs,RB r.p)->
  Ends ((JX (Fv [BR 3,BR 4]) (Cf (Ig (JC (BF (A9 (Hp true) (A9 AU (A0 4) Γ) (AD .non))) (BF (A9 (Bi true) (A9 AU (A0 4) Γ) (A0 1)))) (BF (CB 2 UB (A3 (A9 AU (A0 4) Δ) (A3 (A0 2) (AE)))))) (Cc (A0 3)) (Cs)) ((rs.zipIdx i).map λp=>.tup [.int (p.2:Int),FC p.1]) [s0,.A1 (.int (d:Int)),.A1 (.int (a:Int)),s3,s4]).bind (Rt (Cc (AD .non)))) (· =.Du (FN (MI d a i rs)))
 |[],i,s0,s3,s4,_=>by simp[MI,FN]
 |r::rs,i,s0,s3,s4,h=>by
  have EG:AU (FC r) (.int 0)=.ok (.str r.p):=rfl;have Bf:AU (FC r) (.int 1)=.ok (FN r.a):=rfl;have BW:=rN (d:=d) AB rs (i+1) s0 (.A1 (.int (i:Int))) (.A1 (FC r)) λx AJ=>h x (FG _ AJ);have f:=wC (h r LJ) AB;have bd:(Cf (Ig (JC (BF (A9 (Hp true) (A9 AU (A0 4) Γ) (AD .non))) (BF (A9 (Bi true) (A9 AU (A0 4) Γ) (A0 1)))) (BF (CB 2 UB (A3 (A9 AU (A0 4) Δ) (A3 (A0 2) (AE)))))) (Cc (A0 3)) (Cs)) [s0,.A1 (.int (d:Int)),.A1 (.int (a:Int)),.A1 (.int (i:Int)),.A1 (FC r)]=if mt d a r=true then .ok (.Du (.int (i:Int)))else .ok (.BG [s0,.A1 (.int (d:Int)),.A1 (.int (a:Int)),.A1 (.int (i:Int)),.A1 (FC r)]):=by unfold mt;have Al:=z4 r.a;have BN:=v5 r.a d;generalize r.a.isNone=FV at Al |-;generalize(r.a==some d)=Ez at BN |-;generalize ZB r.p a=Op at f |-;cases FV<;>cases Ez<;>cases Op<;>simp[EG,Bf,Al,BN,f]
  rw[Qe,Dc,JX];erw[aej,aeg,aeh,ahG,HL,Lz,BV];erw[show(3:Nat)<0+1+1+1+1+1 by decide,if_true,BV,List.set_cons_succ,List.set_cons_zero,HL,Lz,show(4:Nat)<0+1+1+1+1+1 by decide,bd];cases hm:mt d a r with
  |true=>simp[MI,hm,FN]
  |false=>erw[HJ,if_false,BV,MI,hm];exact BW
def afj{b:List CZ}(J:∀r∈b,RB r.p)(d a:Nat)(AB:a<16):a3 [D6 b,.int (d:Int),.int (a:Int)]=.ok (.v (FN (MI d a 0 b))):=by apply Ends.done;have e:T4 [D6 b]=.ok (b.zipIdx.map λp=>.tup [.int (p.2:Int),FC p.1]):=jW FC b;have k:=rN (d:=d) AB b 0 (.A1 (D6 b)) .un .un J;obtain⟨f,hf,rfl⟩:=k;erw[a3,ahA,cK,EZ,ahB,qq,GY,v_var,Ip];have z:bL (J6 5 [D6 b,.int (d:Int),.int (a:Int)])[0]?=.ok (D6 b):=rfl;erw[z,BV,e];have Db:J6 5 [D6 b,.int (d:Int),.int (a:Int)]=[.A1 (D6 b),.A1 (.int (d:Int)),.A1 (.int (a:Int)),.un,.un]:=rfl;rw[Db,hf];simp
def Bg(cs:φ)(ws:τ):D:=.ins "Net" ["many","counts","joined","far"] [.int (cs.length:Nat),.tup (C6 cs),.tup (ws.map DA),.B5 (EH ws) (F2 ws)]
noncomputable def st(s:String):D:=.str (Be s)
inductive On where
 |drop|out (o:Nat)|to (e:AR)
noncomputable def pairsOf(ws:τ):τ:=ws.flatMap λw=>[(w.1,w.2),(w.2,w.1)]
def Hj(ws:τ)(d:AR):Option AR:=((pairsOf ws).find? λp=>decide (p.1=d)).map (·.2)
theorem bE:∀ws:τ,(EH ws).zip (F2 ws)=(pairsOf ws).map λp=>(Gl p.1,Ae p.2)
 |[]=>rfl
 |w::ws=>by
  have BW:=bE ws;have A7:EH (w::ws)=Gl w.1::Gl w.2::EH ws:=by simp[EH,ends]
  have AH:F2 (w::ws)=Ae w.2::Ae w.1::F2 ws:=by simp[F2]
  have B1:pairsOf (w::ws)=(w.1,w.2)::(w.2,w.1)::pairsOf ws:=by simp[pairsOf]
  rw[A7,AH,B1,M0,M0,BW];rfl
def w9(Am:τ)(d:AR):((Am.map λp=>(Gl p.1,Ae p.2)).find? λp=>decide (p.1=Gl d))=(Am.find? λp=>decide (p.1=d)).map λp=>(Gl p.1,Ae p.2):=by
 induction Am with
 |nil=>rfl
 |cons p Am BW=>
  rw[Dc,Jt,Jt];by_cases h:p.1=d
  .simp[h]
  .have:Gl p.1≠Gl d:=λz=>h (aS z);simp[h,this,BW]
def w8(ws:τ)(d:AR):findD (EH ws) (F2 ws) (Gl d)=(Hj ws d).map Ae:=by unfold findD Hj;rw[bE,w9,Option.map_map,Option.map_map];rfl
def si{ws:τ}{d e:AR}(h:Hj ws d=some e):e∈ends ws:=by
 unfold Hj at h;obtain⟨p,AX,rfl⟩:=Option.map_eq_some_iff.mp h;have hm:=sD AX;unfold pairsOf at hm;obtain⟨w,hw,Ao⟩:=List.mem_flatMap.mp hm;have Va:∀x,x=w.1\/x=w.2->x∈ends ws:=λx AJ=>List.mem_flatten.mpr ⟨[w.1,w.2],List.mem_map.mpr ⟨w,hw,rfl⟩,(AJ:)⟩;erw[Lv,Lw,or_false]at Ao;rcases Ao with rfl|rfl
 .exact Va _ (.inr rfl)
 .exact Va _ (.inl rfl)
def vM(ws:τ)(d:AR):GR true (Ae d) (.B5 (EH ws) (F2 ws))=.ok (.AV (Hj ws d).isSome):=by
 have h:(EH ws).any (λx=>decide (x=Gl d))=(Hj ws d).isSome:=by
  have Ao:(EH ws)=((EH ws).zip (F2 ws)).map (·.1):=by
   rw[bE,Hd];induction ws with
   |nil=>rfl
   |cons w ws BW=>simp[EH,ends,pairsOf]at BW |-;exact BW
  rw[Ao,bE];unfold Hj;induction pairsOf ws with
  |nil=>rfl
  |cons p Am BW=>
   erw[Dc,N0,Jt]at BW |-;by_cases An:p.1=d
   .simp[An]
   .have:Gl p.1≠Gl d:=λz=>An (aS z);erw[An,this,decide_false,Y2];exact BW
 show R.ok (D.AV ((EH ws).any λx=>decide (x=Gl d)))=_;rw[h]
def DM(h:Nat):On->D
 |.drop=>.tup [st "drop",.int (h:Int)]
 |.out o=>.tup [st "out",.int (h:Int),.int (o:Int)]
 |.to e=>.tup [st "at",.int (e.1:Int),.int (e.2:Int)]
noncomputable def BG(ws:τ)(b:List CZ)(h d a:Nat):On:=match MI d a 0 b with
 |none=>.drop
 |some i=>match(b[i]?).bind (·.b)with
  |none=>.drop
  |some o=>match Hj ws (h,o)with
   |none=>.out o
   |some e=>.to e
theorem rM{d a:Nat}:∀(rs:List CZ)(i k:Nat),MI d a i rs=some k->i<=k/\k<i+rs.length
 |[],_,_,h=>by simp[MI]at h
 |r::rs,i,k,h=>by
  erw[MI]at h
  split at h
  .cases h;simp
  .have:=rM rs (i+1) k h;simp;lia
def jJ(cs:φ)(ws:τ):DL "Net" "far" (Bg cs ws)=.ok (.B5 (EH ws) (F2 ws)):=rfl
def qT(cs:φ)(ws:τ):ME "Net" "beyond" (Bg cs ws)=.ok (Bg cs ws):=rfl
def sj(cs:φ)(ws:τ)(d:AR):WE [Bg cs ws,Ae d]=.ok (.v (((Hj ws d).map Ae).getD .non)):=by simp[WE,hF,jJ,SD,w8]
def z3(o:Option AR):K9 ((o.map Ae).getD .non)=o.isNone:=by cases o<;>rfl
def mL{cs:φ}{ws:τ}{b:List CZ}(J:∀r∈b,RB r.p)(h d a:Nat)(AB:a<16):LI [Bg cs ws,D6 b,Ae (h,d),.int (a:Int)]=.ok (.v (DM h (BG ws b h d a))):=by
 have EG:AU (Ae (h,d)) (.int 0)=.ok (.int (h:Int)):=rfl;have Bf:AU (Ae (h,d)) (.int 1)=.ok (.int (d:Int)):=rfl;have BU:=afj J d a AB;have DI:∀o:Nat,WE [Bg cs ws,.tup [.int (h:Int),.int (o:Int)]]=.ok (.v (((Hj ws (h,o)).map Ae).getD .non)):=λo=>sj cs ws (h,o);have NR:K9 .non=true:=rfl;have DC:∀i,K9 (.int i)=false:=λ_=>rfl;unfold BG;cases e:MI d a 0 b with
 |none=>simp[LI,Ti,EG,Bf,BU,e,FN,NR,DC,DM,st]
 |some i=>
  have AC:=rM b 0 i e;have MV:i<b.length:=δ
  have cy:AU (D6 b) (.int (i:Int))=.ok (FC b[i]):=LB (by simp[MV]);have By:AU (FC b[i]) (.int 2)=.ok (FN b[i].b):=rfl;erw[DV MV,Ue];cases Bh:b[i].b with
  |none=>simp[LI,Ti,EG,Bf,BU,e,FN,NR,DC,DM,st,cy,By,Bh]
  |some o=>
   have ZW:=DI o;cases DZ:Hj ws (h,o)with
   |none=>rw[DZ]at ZW;simp[LI,Ti,EG,Bf,BU,e,FN,NR,DC,DM,st,cy,By,Bh,qT,ZW,DZ]
   |some f=>rw[DZ]at ZW;have f0:AU (Ae f) (.int 0)=.ok (.int (f.1:Int)):=rfl;have f1:AU (Ae f) (.int 1)=.ok (.int (f.2:Int)):=rfl;have Jj:K9 (Ae f)=false:=rfl;simp[LI,Ti,EG,Bf,BU,e,FN,NR,DC,DM,st,cy,By,Bh,qT,ZW,DZ,f0,f1,Jj]
def Vy(a b:AR):CE (Ae a) (Ae b)=decide (a=b):=by
 show(((a.1:Int)==(b.1:Int))&&(((a.2:Int)==(b.2:Int))&&true))=_;rw[S_,Nz,FR,beq_iff_eq,beq_iff_eq,decide_eq_true_iff];constructor
 .intro⟨A5,A8⟩;exact PI δ δ
 .rintro rfl;exact⟨rfl,rfl⟩
def jy(ds:List AR):(ds.map Ae).all (okN 7)=true:=by rw[PF,Mv];intro d _;rfl
def t2(ds:List AR)(d:AR):((ds.map Ae).any λy=>CE y (Ae d))=decide (d∈ds):=by
 rw[O1,Nz,Sd,decide_eq_true_iff];constructor
 .rintro⟨x,AJ,h⟩;have:=(Vy x d).symm.trans h;rw[decide_eq_true_iff]at this;rw[<-this];exact AJ
 .intro h;exact⟨d,h,by show CE (Ae d) (Ae d)=true;rw[Vy];simp⟩
def acO{Fk FY:A_}{ρ:AI}{ds:List AR}{d:AR}(A5:Fk ρ=.ok (Ae d))(A8:FY ρ=.ok (.lst (ds.map Ae))):BF (A9 (inD false) Fk FY) ρ=.ok (!decide (d∈ds)):=by refine Jf (Fe A5 A8 ?_);have s:NW (.lst (ds.map Ae))=some (ds.map Ae):=rfl;have o:okN 7 (Ae d)=true:=rfl;erw[inD,s,jy,o,and_self,if_true,t2];rfl
def Ta(I:AI->Prop)(o:Option D)(f:Fy):Prop:=match o with
 |some d=>f=.Du d
 |none=>Kg I f
@[simp] theorem akB(I:AI->Prop):Ta I none=Kg I:=(rfl)
@[simp] theorem akC(I:AI->Prop)(d:D):Ta I (some d)=(· =.Du d):=(rfl)
theorem qS{α:Type}{set:D->AI->R AI}{body:As}(g:α->D)(I:AI->Prop)(f:α->Option D):∀(xs:List α)(ρ:AI),(∀a ρ,a∈xs->I ρ->Ends ((set (g a) ρ).bind body) (Ta I (f a)))->I ρ->Ends (JX set body (xs.map g) ρ) (Ta I (xs.findSome? f))
 |[],ρ,_,h=>by simpa[Ta,Kg]using h
 |a::xs,ρ,st,h=>by
  obtain⟨G1,e,hf⟩:=st a ρ γ h;rw[Dc,JX];cases A2:set (g a) ρ with
  |bad=>rw[A2]at e;cases e
  |exc c=>rw[A2]at e;cases e
  |ok ED=>
   rw[A2,BV]at e;rw[BV,e,BV,List.findSome?_cons];cases D2:f a with
   |some d=>rw[D2]at hf;have hf:G1=.Du d:=hf;subst hf;exact⟨_,rfl,rfl⟩
   |none=>rw[D2]at hf;obtain⟨Ej,rfl,A8⟩:=hf;exact qS g I f xs Ej (λb ρ J=>st b ρ (by simp[J])) A8
def ut{β α:Type}{mi:Ap}{set:D->AI->R AI}{body:As}{ρ:AI}{k:Fy->R β}{T:β->Prop}(g:α->D)(xs:List α)(I:AI->Prop)(f:α->Option D)(AC:mi ρ=.ok (xs.map g))(h0:I ρ)(st:∀a ρ,a∈xs->I ρ->Ends ((set (g a) ρ).bind body) (Ta I (f a)))(f1:∀d,xs.findSome? f=some d->Ends (k (.Du d)) T)(f2:∀BK,xs.findSome? f=none->I BK->Ends (k (.BG BK)) T):Ends ((Ep mi set body ρ).bind k) T:=by
 obtain⟨G1,e,h⟩:=qS (set:=set) (body:=body) g I f xs ρ st h0;rw[qp,AC,BV,e,BV];cases D2:xs.findSome? f with
 |some d=>rw[D2]at h;have h:G1=.Du d:=h;rw[h];exact f1 d D2
 |none=>rw[D2]at h;obtain⟨Ej,rfl,A8⟩:=h;exact f2 Ej D2 A8
def jd(a b:AR):Bi true (Ae a) (Ae b)=.ok (.AV (decide (a=b))):=by have o:∀d,okN 8 (Ae d)=true:=λ_=>rfl;simp[Bi,o,Vy]
def abK(ws:τ)(d:AR):Zy [.lst (ws.map DA),Ae d]=.ok (.v (((Hj ws d).map Ae).getD .non)):=by
 apply Ends.done;simp[Zy,hY];have jk:∀ws:τ,ws.findSome? (λw=>if w.1=d then some (Ae w.2)else if w.2=d then some (Ae w.1)else none)=(Hj ws d).map Ae:=λws=>by
  induction ws with
  |nil=>rfl
  |cons w ws BW=>
   rw[List.findSome?_cons];unfold Hj pairsOf;rw[List.flatMap_cons,List.find?_append];by_cases A5:w.1=d
   .simp[A5]
   .by_cases A8:w.2=d
    .simp[A5,A8]
    .erw[A5,A8,if_false,Jt,List.find?_nil,decide_false,Option.none_or];exact BW
 refine ut DA ws (λρ=>∃s2 s3,ρ=[Φ,.A1 (Ae d),s2,s3]) (λw=>if w.1=d then some (Ae w.2)else if w.2=d then some (Ae w.1)else none) γ ⟨.un,.un,rfl⟩ ?_ ?_ ?_
 .rintro w _ hw ⟨s2,s3,rfl⟩;have Al:=jd w.1 d;have BN:=jd w.2 d;by_cases A5:w.1=d
  .rw[decide_eq_true A5]at Al;rw[if_pos A5];simp[DA,Al]
  .rw[decide_eq_false A5]at Al;rw[if_neg A5];by_cases A8:w.2=d
   .rw[decide_eq_true A8]at BN;rw[if_pos A8];simp[DA,Al,BN]
   .rw[decide_eq_false A8]at BN;rw[if_neg A8];simp[DA,Al,BN]
 .intro x AJ;rw[jk]at AJ;rw[AJ];simp
 .rintro _ AQ ⟨s2,s3,rfl⟩;rw[jk]at AQ;rw[AQ];simp
def outs(cs:φ)(ws:τ):List AR:=(CH cs cs.length).filter λd=>(Hj ws d).isNone
def abR{cs:φ}{ws:τ}(DD:Hg cs ws):UK [.lst (C6 cs),.lst (ws.map DA)]=.ok (.o ((outs cs ws).map Ae)):=by
 apply Ends.done;have Pm:=Q7 DD.c cs.length;have Cu:=DD.Cu;simp[UK,h1];refine Zi Ae (CH cs cs.length) (λd=>(Hj ws d).isNone) Ae (by simp[jv Cu DD.c]) δ (λd hd=>?_) (λd hd=>γ) ?_
 .simp[abK,z3]
 .simp[outs]
noncomputable def Bb(k:Nat):D:=.int (k:Int)
def BY(bs:List (List CZ)):D:=.lst (bs.map D6)
noncomputable def DB(os nw:List (List CZ))(row:φ)(k:Nat):List (List CZ):=(DK os.length).map λh=>if h∈row.take k then nw.getD h []else os.getD h []
def cz(l:φ)(h:Nat):inD true (.int (h:Int)) (.lst (l.map Bb))=.ok (.AV (decide (h∈l))):=by
 have o:(l.map Bb).all (okN 7)=true:=by simp[Bb,okN]
 have a:((l.map Bb).any λy=>CE y (.int (h:Int)))=decide (h∈l):=by
  rw[O1];induction l with
  |nil=>rfl
  |cons x l BW=>
   have:CE (Bb x) (.int (h:Int))=decide (x=h):=by
    show((x:Int)==(h:Int))=_;by_cases q:x=h
    .subst q;simp
    .have:¬(x:Int)=(h:Int):=λz=>q δ;simp[q,this]
   have Z7:=BW (by simp[Bb,okN]);rw[N0,Z7];erw[Y8,this];by_cases q:x=h
   .subst q;simp
   .simp[q,He q]
 unfold inD;erw[NW];rw[if_pos ⟨rfl,o⟩];erw[if_true,a]
def Zc(l:φ)(k:Nat):G9 (l.map Bb) none (some (k:Int))=(l.take k).map Bb:=by rw[uD,Ul]
def Pk{bs:List (List CZ)}{h:Nat}(An:h<bs.length):AU (BY bs) (.int (h:Int))=.ok (D6 (bs.getD h [])):=LB (by simp[An])
def aer{os nw:List (List CZ)}{row:φ}(AP:os.length<=6)(AQ:nw.length=os.length)(B8:row.length<=6):Rf [BY os,BY nw,.lst (row.map Bb)]=.ok (.o ((DK (row.length+1)).map λk=>BY (DB os nw row k))):=by
 apply Ends.done;simp[Rf,h3,lim];refine Os (row.length+1) (λj ρ=>∃s4,ρ=[.A1 (BY os),.A1 (BY nw),.A1 (.lst (row.map Bb)),.C8 ((DK j).map λk=>BY (DB os nw row k)),s4]) (by have:=QO (row.length+1) δ;simp at this |-;exact this) ⟨.un,rfl⟩ ?_ ?_
 .rintro j _ Bs ⟨s4,rfl⟩;have lo:CN [BY os]=.ok (.int (os.length:Int)):=by simp[BY]
  simp;refine Qz os.length (λh=>D6 (if h∈row.take j then nw.getD h []else os.getD h [])) (by simp[lo,show os.length<1000000 by lia]) δ (λh An=>?_) ?_
  .have Bf:=Pk An;have By:=Pk (bs:=nw) (h:=h) δ;have q:=cz (row.take j) h;have FO:AU (.lst [BY os,BY nw]) (.int 0)=.ok (BY os):=rfl;have Et:AU (.lst [BY os,BY nw]) (.int 1)=.ok (BY nw):=rfl;erw[HI]at Bf By |-;by_cases hm:h∈row.take j
   .rw[decide_eq_true hm]at q;simp(disch:=first|lia|(simp;done)|(simp;lia)) only[b8,Jx,qr,GY,v_var,Ip,f3,qw,qs,qt,cV,Dc,PE,HI,Ls,Mt,Xz,QL,BV,m7,pj,Zc,q,rT,lim,if_true,Et,By,hm];simp[lim,Et,By]
   .rw[decide_eq_false hm]at q;simp(disch:=first|lia|(simp;done)|(simp;lia)) only[b8,Jx,qr,GY,v_var,Ip,f3,qw,qs,qt,cV,Dc,PE,HI,Ls,Mt,Xz,QL,BV,m7,pj,Zc,q,rT,lim,if_true,FO,Bf,hm];simp[lim,FO,Bf]
  .simp(disch:=first|lia|(simp;done)|(simp;lia));rw[List.range_succ,Hx];simp[BY,DB,SQ]
 .rintro _ ⟨s4,rfl⟩;simp
def aaw{os nw:List (List CZ)}{row:φ}{k:Nat}(AP:os.length<=6)(AQ:nw.length=os.length):Zz [BY os,BY nw,.lst ((row.take k).map Bb)]=.ok (.o ((DB os nw row k).map D6)):=by
 apply Ends.done;have lo:CN [BY os]=.ok (.int (os.length:Int)):=by simp[BY]
 simp[Zz,h_];refine Qz os.length (λh=>D6 (if h∈row.take k then nw.getD h []else os.getD h [])) (by simp[lo,show os.length<1000000 by lia]) δ (λh An=>?_) ?_
 .have Bf:=Pk An;have By:=Pk (bs:=nw) (h:=h) δ;have q:=cz (row.take k) h;rw[Ul]at q;erw[HI]at Bf By |-;by_cases hm:h∈row.take k
  .rw[decide_eq_true hm]at q;simp[q,By,hm,OW,D6]
  .rw[decide_eq_false hm]at q;simp[q,Bf,hm,OW,D6]
 .simp[DB,SQ]
def agC{os nw:List (List CZ)}{row:φ}(AP:os.length<=6)(AQ:nw.length=os.length)(B8:row.length<=6):WM [BY os,BY nw,.lst (row.map Bb)]=.ok (.o ((DK (row.length+1)).map λk=>BY (DB os nw row k))):=by
 apply Ends.done;simp[WM,cJ];refine Qz (row.length+1) (λk=>BY (DB os nw row k)) (by have:=QO (row.length+1) δ;simp at this |-;exact this) δ (λk AG=>?_) ?_
 .have mo:=aaw (os:=os) (nw:=nw) (row:=row) (k:=k) AP AQ;simp[Zc,mo,-Ul];rfl
 .simp
abbrev BJ:=AR×Nat
def BM(s:BJ):D:=.tup [Ae s.1,Bb s.2]
noncomputable def Eu(s:BJ):Bq:=[.inr [.inl (s.1.1:Int),.inl (s.1.2:Int)],.inl (.inl (s.2:Int))]
def fO{a b:BJ}(h:Eu a=Eu b):a=b:=by erw[Eu,Qg,Sum.inr.injEq,Sum.inl.injEq,and_true]at h;obtain⟨⟨A5,A8⟩,Au⟩:=h;exact PI (PI δ δ) δ
def Wj(s:BJ):J9 (BM s)=some (Eu s):=rfl
def h9(l:List BJ)(s:BJ):(l.map Eu).any (λx=>decide (x=Eu s))=decide (s∈l):=by
 rw[O1];induction l with
 |nil=>rfl
 |cons x l BW=>
  rw[N0,BW];erw[Y8];by_cases q:x=s
  .subst q;simp
  .have:¬Eu x=Eu s:=λz=>q (fO z);simp[q,this,He q]
theorem XB:∀ds:χ,N8 (ds.map .A1)=some ds
 |[]=>rfl
 |d::ds=>by rw[Dc,N8,XB ds];rfl
theorem rS:∀ds:χ,MJ (ds.map .A1)=ds
 |[]=>rfl
 |d::ds=>by rw[Dc,MJ,rS ds];rfl
def DE(l:φ):D:=.lst (l.map Bb)
abbrev GQ:=List (BJ×φ)
abbrev To:=List (BJ×On)
noncomputable def QE:List Str:=["net","stages","address","shunned","woven","told"]
noncomputable def D5(X Y:D)(a:Nat)(W:GQ)(U:To):T:=.ins "Weaver" QE [.A1 X,.A1 Y,.A1 (.int (a:Int)),.A1 .non,.B5 ((W.map (·.1)).map Eu) ((W.map λp=>DE p.2).map .A1),.B5 ((U.map (·.1)).map Eu) ((U.map λp=>DM p.1.1.1 p.2).map .A1)]
def Dj(X Y:D)(a:Nat)(W:GQ)(U:To):D:=.ins "Weaver" QE [X,Y,.int (a:Int),.non,.B5 ((W.map (·.1)).map Eu) (W.map λp=>DE p.2),.B5 ((U.map (·.1)).map Eu) (U.map λp=>DM p.1.1.1 p.2)]
def U4(X Y:D)(a:Nat)(W:GQ)(U:To):toD (D5 X Y a W U)=Dj X Y a W U:=by erw[D5,toD,MJ,rS,Dj]
@[simp] theorem vn(k:Nat)(t:T):K7 (.Bl k t)=.A1 (toD t):=(rfl)
section
variable{X Y:D}{a:Nat}{W:GQ}{U:To}
def vu:DL "Weaver" "net" (Dj X Y a W U)=.ok X:=rfl
def jH:DL "Weaver" "stages" (Dj X Y a W U)=.ok Y:=rfl
def uh:DL "Weaver" "address" (Dj X Y a W U)=.ok (.int (a:Int)):=rfl
def cC:DL "Weaver" "shunned" (Dj X Y a W U)=.ok .non:=rfl
def jI:DL "Weaver" "woven" (Dj X Y a W U)=.ok (.B5 ((W.map (·.1)).map Eu) (W.map λp=>DE p.2)):=rfl
def Z9:DL "Weaver" "told" (Dj X Y a W U)=.ok (.B5 ((U.map (·.1)).map Eu) (U.map λp=>DM p.1.1.1 p.2)):=rfl
def jM(r:AI):K6 0 "Weaver" "woven" (.Bl 0 (D5 X Y a W U)::r)=.ok ⟨.Bl 0 (D5 X Y a W U),QE,[.A1 X,.A1 Y,.A1 (.int (a:Int)),.A1 .non,.B5 ((W.map (·.1)).map Eu) ((W.map λp=>DE p.2).map .A1),.B5 ((U.map (·.1)).map Eu) ((U.map λp=>DM p.1.1.1 p.2).map .A1)],4,(W.map (·.1)).map Eu,W.map λp=>DE p.2⟩:=by
 have e:QE.findIdx? (λk=>("woven" :Str)==k)=some 4:=ε
 erw[K6,Ls,KO,D5,VM,if_true,e,VN,XB,Mt]
def w5(r:AI):K6 0 "Weaver" "told" (.Bl 0 (D5 X Y a W U)::r)=.ok ⟨.Bl 0 (D5 X Y a W U),QE,[.A1 X,.A1 Y,.A1 (.int (a:Int)),.A1 .non,.B5 ((W.map (·.1)).map Eu) ((W.map λp=>DE p.2).map .A1),.B5 ((U.map (·.1)).map Eu) ((U.map λp=>DM p.1.1.1 p.2).map .A1)],5,(U.map (·.1)).map Eu,U.map λp=>DM p.1.1.1 p.2⟩:=by
 have e:QE.findIdx? (λk=>("told" :Str)==k)=some 5:=ε
 erw[K6,Ls,KO,D5,VM,if_true,e,VN,XB,Mt]
def aca{r:AI}{mk mv:A_}{s:BJ}{l:φ}(AG:mk (.Bl 0 (D5 X Y a W U)::r)=.ok (BM s))(BE:mv (.Bl 0 (D5 X Y a W U)::r)=.ok (DE l))(AQ:s∉W.map (·.1))(AP:W.length<1000) :
  NG 0 "Weaver" "woven" mk mv (.Bl 0 (D5 X Y a W U)::r)=.ok (.BG (.Bl 0 (D5 X Y a (W++[(s,l)]) U)::r)):=by
 unfold NG;rw[BE,BV,jM,BV,AG,BV,Wj];erw[ZD,putD];have:=h9 (W.map (·.1)) s;rw[decide_eq_false AQ]at this;rw[if_pos ⟨this,θ⟩];simp[bc,Oj,D5]
def ac_{r:AI}{mk mv:A_}{s:BJ}{o:On}(AG:mk (.Bl 0 (D5 X Y a W U)::r)=.ok (BM s))(BE:mv (.Bl 0 (D5 X Y a W U)::r)=.ok (DM s.1.1 o))(AQ:s∉U.map (·.1))(AP:U.length<1000) :
  NG 0 "Weaver" "told" mk mv (.Bl 0 (D5 X Y a W U)::r)=.ok (.BG (.Bl 0 (D5 X Y a W (U++[(s,o)]))::r)):=by
 unfold NG;rw[BE,BV,w5,BV,AG,BV,Wj];erw[ZD,putD];have:=h9 (U.map (·.1)) s;rw[decide_eq_false AQ]at this;rw[if_pos ⟨this,θ⟩];simp[bc,Oj,D5]
noncomputable def FZ(W:GQ)(d:AR)(l n:Nat):List BJ:=(((YM l (n-l)).map λk=>((d,k):BJ))).filter λs=>!decide (s∈W.map (·.1))
def Fj(l:φ):Nat:=l.getLast?.getD 0
def yo(l:φ)(h:l≠[]):AU (DE l) (.int (-1))=.ok (Bb (Fj l)):=by
 have AP:0<l.length:=List.length_pos_iff.mpr h;have e:H7 (l.map Bb) (-1)=some (Bb (Fj l)):=by unfold H7 KA;rw[if_neg ε,if_pos θ];erw[Ue,Ea];rw[show((-1:Int)+(l.length:Int)).toNat=l.length-1 by lia,Dm];unfold Fj;rw[List.getLast?_eq_getElem?];rw[DV (show l.length-1<l.length by lia)];rfl
 erw[DE,AU,e]
def aD(W:GQ)(d:AR)(l n:Nat):(FZ W d l n).Nodup:=by exact List.Pairwise.filter _ (List.pairwise_map.mpr ((List.nodup_range' (s:=l) (n:=n-l) (step:=1)).imp λh z=>h (Prod.ext_iff.mp z).2))
def OZ{W:GQ}{d:AR}{l n:Nat}{s:BJ}:s∈FZ W d l n↔s.1=d/\l<=s.2/\s.2<n/\s∉W.map (·.1):=by
 unfold FZ;rw[List.mem_filter,Si];constructor
 .rintro⟨⟨k,AG,rfl⟩,h⟩;rw[List.mem_range'_1]at AG;exact⟨rfl,AG.1,by show k<n;lia,(h:)⟩
 .rintro⟨A5,A8,Au,BC⟩;exact⟨⟨s.2,List.mem_range'_1.mpr ⟨A8,δ⟩,PI A5.symm rfl⟩,(BC:)⟩
def adp{l n:Nat}(A5:l<=1000)(A8:n<=1000):W_ [.int (l:Int),.int (n:Int)]=.ok ((YM l (n-l)).map Bb):=by erw[W_];rw[if_pos (by refine⟨?_,?_,?_,?_⟩<;>lia),show((n:Int)-(l:Int)).toNat=n-l by lia];simp[Ft,List.range'_eq_map_range,Bb]
@[simp] theorem akY(m:Ap)(ρ:AI):TV m ρ=(m ρ).bind W_:=(rfl)
@[simp] theorem ah7(m:Ap)(ρ:AI):SJ m ρ=(m (EK ρ)).bind λds=>if QR ds=true then .ok ds else .bad:=(rfl)
@[simp] theorem akm(m:A_)(ρ:AI):Sw m ρ=(m (EK ρ)).bind λd=>if Rs d=true then .ok d else .bad:=(rfl)
@[simp] theorem alP(m:A_)(ρ:AI):PM m ρ=(m ρ).bind λd=>.ok (.rs d ρ):=(rfl)
theorem pr:∀l:List BJ,QR (l.map BM)=true
 |[]=>rfl
 |s::l=>by simp[QR,Rs,BM,Ae,Bb,pr l]
def abo(l:φ):(l.map Bb).all (okN 7)=true:=by simp[Bb,okN]
def jT:As:=NG 0 "Weaver" "woven" (A0 5) (BQ (I8 (A0 2) (BQ (CL (A3 (A9 AU (A0 5) Γ) (AE))))))
def c3:As:=Ab (Ep (Er (A0 4)) (BR 5) jT) (PM (A0 4))
def uw{Z:D}{N:List BJ}(ZP:W.length+N.length<=1000)(CW:N.Nodup)(AQ:∀s∈N,s∉W.map (·.1))(d:AR)(DY:φ)(AP:DY.length<=1000)(s3:Bw) :
  Ends (c3 [.Bl 0 (D5 X Z a W U),.A1 (Ae d),.A1 (DE DY),s3,.A1 (.lst (N.map BM)),.un]) λf=>∃r,f=.rs (.lst (N.map BM)) (.Bl 0 (D5 X Z a (W++N.map λs=>(s,DY++[s.2])) U)::r):=by
 unfold c3;rw[EZ];refine VK BM N (λj ρ=>∃s5,ρ=[.Bl 0 (D5 X Z a (W++(N.take j).map λs=>(s,DY++[s.2])) U),.A1 (Ae d),.A1 (DE DY),s3,.A1 (.lst (N.map BM)),s5]) γ ⟨.un,γ⟩ ?_ ?_
 .rintro j s _ Bs ⟨s5,rfl⟩;obtain⟨x7,A2⟩:=List.getElem?_eq_some_iff.mp Bs;have AK:s∈N:=A2▸Lx _;have nm:s∉(W++(N.take j).map λs=>(s,DY++[s.2])).map (·.1):=by
   rw[Hx,Hd,UX];rintro(z|z)
   .exact AQ s AK z
   .have z:s∈N.take j:=by simpa[SQ]using z
    obtain⟨i,AC,Fz⟩:=Mz z;rw[Sb]at AC;rw[List.getElem_take]at Fz;exact absurd (Fz.trans A2.symm) (List.pairwise_iff_getElem.mp CW i j δ x7 δ)
  have Oh:=aca (X:=X) (Y:=Z) (a:=a) (U:=U) (r:=[.A1 (Ae d),.A1 (DE DY),s3,.A1 (.lst (N.map BM)),.A1 (BM s)]) (mk:=A0 5) (mv:=BQ (I8 (A0 2) (BQ (CL (A3 (A9 AU (A0 5) Γ) (AE)))))) (l:=DY++[s.2]) γ (by have Bf:AU (BM s) (.int 1)=.ok (Bb s.2):=rfl;simp![Bf,lim,DE]) nm θ
  have OH:BR 5 (BM s) [.Bl 0 (D5 X Z a (W++(N.take j).map λs=>(s,DY++[s.2])) U),.A1 (Ae d),.A1 (DE DY),s3,.A1 (.lst (N.map BM)),s5]=.ok [.Bl 0 (D5 X Z a (W++(N.take j).map λs=>(s,DY++[s.2])) U),.A1 (Ae d),.A1 (DE DY),s3,.A1 (.lst (N.map BM)),.A1 (BM s)]:=rfl;rw[OH,BV,jT,Oh];exact⟨_,rfl,_,rfl,_,by rw[Ub,Bs,Hx,<-Qj];rfl⟩
 .rintro _ ⟨s5,rfl⟩;simp
noncomputable def jU:As:=NK 4 (SJ (D3 1 [1,0] (TV (A3 (A0 3) (A3 (Bz CN (A3 (Ch (DL "Weaver" "stages") (A0 0)) (AE))) (AE)))) (BR 0) (BF (A9 (GR false) (DS (A3 (A0 1) (A3 (A0 0) (AE)))) (Ch (DL "Weaver" "woven") (A0 2)))) (DS (A3 (A0 1) (A3 (A0 0) (AE))))))
def uv{Z:D}(iw:As)(d:AR)(DY:φ):Ab (Cf (KF (BF (A9 (Bi true) (A9 AU (A0 1) Δ) (Ch (DL "Weaver" "shunned") (A0 0))))) (PM (BQ (CL (AE)))) (Cs))
  (Ab (Bc 3 (LS (BF (A9 (Bi false) (A0 2) (BQ (CL (AE))))) (A9 AU (A0 2) (Ch NS Γ)) Δ)) iw) [.Bl 0 (D5 X Z a W U),.A1 (Ae d),.A1 (DE DY),.un,.un,.un]=iw [.Bl 0 (D5 X Z a W U),.A1 (Ae d),.A1 (DE DY),.A1 (Bb (Fj DY)),.un,.un]:=by
 have EG:AU (Ae d) (.int 0)=.ok (.int (d.1:Int)):=rfl;have D7:Bi true (.int (d.1:Int)) .non=.ok (.AV false):=rfl;have ne:Bi false (DE DY) (.lst [])=.ok (.AV (!(DY.map Bb).isEmpty)):=ne_nil (abo DY);by_cases h:DY=[]
 .subst h;have ne:Bi false (DE []) (.lst [])=.ok (.AV false):=ne;simp[U4,EG,cC,D7,ne,lim];rfl
 .have OO:=yo DY h;have:(DY.map Bb).isEmpty=false:=by cases DY<;>simp_all
  rw[this]at ne;simp[U4,EG,cC,D7,ne,lim,OO]
def ux{Ys:χ}(AQ:Ys.length<=7)(ZP:W.length+7<=1000)(d:AR)(DY:φ)(AP:DY.length<=1000)(V8:Fj DY<=1000) :
  PN (D5 X (.lst Ys) a W U) [Ae d,DE DY]=.ok (.lst ((FZ W d (Fj DY) Ys.length).map BM),D5 X (.lst Ys) a (W++(FZ W d (Fj DY) Ys.length).map λs=>(s,DY++[s.2])) U):=by
 apply Ends.done;have ln:(FZ W d (Fj DY) Ys.length).length<=7:=by unfold FZ;refine Fp (sT _ _) ?_;simp;lia
 have Bh:Yn=Ab (Cf (KF (BF (A9 (Bi true) (A9 AU (A0 1) Δ) (Ch (DL "Weaver" "shunned") (A0 0))))) (PM (BQ (CL (AE)))) (Cs))
  (Ab (Bc 3 (LS (BF (A9 (Bi false) (A0 2) (BQ (CL (AE))))) (A9 AU (A0 2) (Ch NS Γ)) Δ))
  (Ab jU c3)):=rfl
 show Ends ((Yn [.Bl 0 (D5 X (.lst Ys) a W U),.A1 (Ae d),.A1 (DE DY),.un,.un,.un]).bind Ts) _;rw[Bh,uv,EZ,RP,jU,f5,f6,ah7];erw[RP];have QN:=adp (l:=Fj DY) (n:=Ys.length) V8 δ;refine Zi Bb (YM (Fj DY) (Ys.length-Fj DY)) (λk=>!decide (((d,k):BJ)∈W.map (·.1))) (λk=>BM (d,k)) (by simp[U4,jH,Bb]at QN |-;exact QN) θ (λk AG=>?_) (λk AG _=>by simp[BM,Bb]) ?_
 .have:GR false (BM (d,k)) (.B5 ((W.map (·.1)).map Eu) (W.map λp=>DE p.2))=.ok (.AV (!decide (((d,k):BJ)∈W.map (·.1)))):=by
    erw[GR,Wj,h9];rfl
  have aft:fj [Ae d,Bb k]=.ok (BM (d,k)):=rfl;erw[EK,Dc,PE,vn,vl,vm,HI,Ls,Mt,Xz,cV,ah6,b8,qx,GY,Ip,v_var,QL,BV,f7,U4,jI,aft,this,t7]
 .have Ca:((YM (Fj DY) (Ys.length-Fj DY)).filter λk=>!decide (((d,k):BJ)∈W.map (·.1))).map (λk=>BM (d,k))=(FZ W d (Fj DY) Ys.length).map BM:=by
    unfold FZ;rw[List.filter_map,Hd];rfl
  rw[Ca,if_pos (pr _),BV,if_pos γ,BV,fT,BV,GD];have CY:=uw (X:=X) (Z:=.lst Ys) (a:=a) (W:=W) (U:=U) (N:=FZ W d (Fj DY) Ys.length) δ (aD _ _ _ _) (λs AK=>(OZ.mp AK).2.2.2) d DY AP (.A1 (Bb (Fj DY)));obtain⟨f,D2,r,rfl⟩:=CY;have z:L1 4 (List.set [.Bl 0 (D5 X (.lst Ys) a W U),.A1 (Ae d),.A1 (DE DY),.A1 (Bb (Fj DY)),.un,.un] 4 (.C8 ((FZ W d (Fj DY) Ys.length).map BM)))=[.Bl 0 (D5 X (.lst Ys) a W U),.A1 (Ae d),.A1 (DE DY),.A1 (Bb (Fj DY)),.A1 (.lst ((FZ W d (Fj DY) Ys.length).map BM)),.un]:=rfl;rw[z,D2];exact⟨_,rfl,rfl⟩
end
def EJ(ws:τ)(Bk:Nat->List (List CZ))(a:Nat)(s:BJ):On:=BG ws ((Bk s.2).getD s.1.1 []) s.1.1 s.1.2 a
structure Q2(cs:φ)(ws:τ)(Bk:Nat->List (List CZ))(n a:Nat):Prop where
 DD:Hg cs ws
 AB:a<16
 DC:1<=n
 Ji:n<=7
 AV:∀k,k<n->(Bk k).length=cs.length
 pt:∀k,k<n->∀b∈Bk k,∀r∈b,RB r.p
def E1(n:Nat)(Bk:Nat->List (List CZ)):χ:=(DK n).map λk=>BY (Bk k)
inductive Om(N:BJ->On)(n:Nat)(d0:AR):BJ->Prop
 |st (k:Nat):k<n->Om N n d0 (d0,k)
 |go (s:BJ) (e:AR) (k:Nat):Om N n d0 s->N s=.to e->s.2<=k->k<n->Om N n d0 (e,k)
structure Good(A:List AR)(N:BJ->On)(n:Nat)(d0:AR)(W:GQ)(U:To)(pd:List BJ):Prop where
 nw:(W.map (·.1)).Nodup
 inr:∀p∈W,p.1.1∈A/\p.1.2<n
 up:∀p∈W,∀k,p.1.2<=k->k<n->(p.1.1,k)∈W.map (·.1)
 lst:∀p∈W,Fj p.2=p.1.2/\p.2.length<=W.length
 mj:(U.map (·.1)).Nodup
 un:∀q∈U,q.1∈W.map (·.1)/\q.2=N q.1
 cl:∀p∈W,p.1∈pd\/(p.1∈U.map (·.1)/\∀e,N p.1=.to e->(e,p.1.2)∈W.map (·.1))
 Bl:pd.Nodup
 Oh:∀s∈pd,s∈W.map (·.1)/\s∉U.map (·.1)
 rc:∀p∈W,Om N n d0 p.1
def KL(W:GQ)(n:Nat)(s:BJ):On->List BJ
 |.to e=>FZ W e s.2 n
 |_=>[]
def abG(l:φ)(k:Nat):Fj (l++[k])=k:=by simp[Fj]
def UQ{W:GQ}{n:Nat}{s t:BJ}{o:On}(h:t∈KL W n s o):∃e,o=.to e/\t.1=e/\s.2<=t.2/\t.2<n/\t∉W.map (·.1):=by
 cases o with
 |to e=>exact⟨e,rfl,OZ.mp h⟩
 |drop=>cases h
 |out _=>cases h
def mm(W:GQ)(n:Nat)(s:BJ)(o:On):(KL W n s o).Nodup:=by
 cases o with
 |to e=>exact aD _ _ _ _
 |drop=>exact .nil
 |out _=>exact .nil
section
variable{A:List AR}{N:BJ->On}{n:Nat}{d0:AR}{W:GQ}{U:To}{pd:List BJ}
def Good.few(g:Good A N n d0 W U pd)(Gj:A.length<=24)(AQ:n<=7):W.length<=168:=by
 have:=Lu (l₂:=A.flatMap λd=>(DK n).map λk=>((d,k):BJ)) g.nw λs AK=>by obtain⟨p,AX,rfl⟩:=List.mem_map.mp AK;obtain⟨A5,A8⟩:=g.inr p AX;exact List.mem_flatMap.mpr ⟨_,A5,List.mem_map.mpr ⟨_,List.mem_range.mpr A8,rfl⟩⟩
 rw[Ea,List.length_flatMap]at this;simp at this;have e:∀A:List AR,(A.map λ_=>n).sum=A.length*n:=λA=>by
  induction A with
  |nil=>simp
  |cons x A BW=>simp[BW,Nat.succ_mul];lia
 rw[e]at this;have:A.length*n<=24*7:=Nat.mul_le_mul Gj AQ
 lia
def Good.step(K4:∀s e,N s=.to e->e∈A){s:BJ}{l:φ}(g:Good A N n d0 W U (s::pd))(AK:(s,l)∈W):Good A N n d0 (W++(KL W n s (N s)).map λt=>(t,l++[t.2])) (U++[(s,N s)]) (pd++KL W n s (N s)):=by
 have bT:s∈W.map (·.1):=List.mem_map.mpr ⟨_,AK,rfl⟩;have k1:(W++(KL W n s (N s)).map λt=>(t,l++[t.2])).map (·.1)=W.map (·.1)++KL W n s (N s):=by simp[SQ]
 have k2:(U++[(s,N s)]).map (·.1)=U.map (·.1)++[s]:=γ
 obtain⟨sp,acu⟩:=List.nodup_cons.mp g.Bl;have adX:=(g.Oh s γ).2;have s2:=(g.inr _ AK).2;have mem:∀{p:BJ×φ},p∈W++(KL W n s (N s)).map (λt=>(t,l++[t.2]))->p∈W\/∃t∈KL W n s (N s),p=(t,l++[t.2]):=λh=>by
  rcases List.mem_append.mp h with h|h
  .exact .inl h
  .obtain⟨t,Ax,rfl⟩:=List.mem_map.mp h;exact .inr ⟨t,Ax,rfl⟩
 refine⟨?_,λp AX=>?_,λp AX k A5 A8=>?_,λp AX=>?_,?_,λq AT=>?_,λp AX=>?_,?_,λt Ax=>?_,λp AX=>?_⟩
 .rw[k1];exact List.nodup_append.mpr ⟨g.nw,mm _ _ _ _,λx AJ y BO z=>(UQ BO).choose_spec.2.2.2.2 (z▸AJ)⟩
 .rcases mem AX with h|⟨t,Ax,rfl⟩
  .exact g.inr p h
  .obtain⟨e,A7,AH,B1,CV,GK⟩:=UQ Ax;exact⟨AH▸K4 s e A7,CV⟩
 .rw[k1];rcases mem AX with h|⟨t,Ax,rfl⟩
  .exact G2 _ (g.up p h k A5 A8)
  .obtain⟨e,A7,AH,B1,CV,GK⟩:=UQ Ax;by_cases hw:((t.1,k):BJ)∈W.map (·.1)
   .exact G2 _ hw
   .refine Fb _ ?_;rw[A7];exact OZ.mpr ⟨AH,Fp B1 A5,A8,hw⟩
 .rw[KX,Ea];rcases mem AX with h|⟨t,Ax,rfl⟩
  .exact⟨(g.lst p h).1,Fp (g.lst p h).2 (Sc _ _)⟩
  .have:=Xe Ax;have:=(g.lst _ AK).2;refine⟨abG _ _,?_⟩;simp at this |-;lia
 .rw[k2];exact List.nodup_append.mpr ⟨g.mj,γ,λx AJ y BO z=>by rw[List.mem_singleton.mp BO]at z;exact adX (z▸AJ)⟩
 .rw[k1];rcases List.mem_append.mp AT with h|h
  .exact⟨G2 _ (g.un q h).1,(g.un q h).2⟩
  .rw[List.mem_singleton.mp h];exact⟨G2 _ bT,rfl⟩
 .rw[k1,k2];rcases mem AX with h|⟨t,Ax,rfl⟩
  .by_cases A2:p.1=s
   .refine .inr ⟨by rw[A2];simp,λe he=>?_⟩;rw[A2]at he |-;by_cases hw:((e,s.2):BJ)∈W.map (·.1)
    .exact G2 _ hw
    .refine Fb _ ?_;rw[he];exact OZ.mpr ⟨rfl,CS _,s2,hw⟩
   .rcases g.cl p h with q|⟨Al,BN⟩
    .rcases List.mem_cons.mp q with q|q
     .exact absurd q A2
     .exact .inl (G2 _ q)
    .exact .inr ⟨G2 _ Al,λe he=>G2 _ (BN e he)⟩
  .exact .inl (Fb _ Ax)
 .exact List.nodup_append.mpr ⟨acu,mm _ _ _ _,λx AJ y BO z=>(UQ BO).choose_spec.2.2.2.2 (z▸(g.Oh x (by simp[AJ])).1)⟩
 .rw[k1,k2];rcases List.mem_append.mp Ax with h|h
  .refine⟨G2 _ (g.Oh t (by simp[h])).1,λz=>?_⟩;rcases List.mem_append.mp z with z|z
   .exact(g.Oh t (by simp[h])).2 z
   .rw[List.mem_singleton.mp z]at h;exact sp h
  .obtain⟨e,A7,AH,B1,CV,GK⟩:=UQ h;refine⟨Fb _ h,λz=>?_⟩;rcases List.mem_append.mp z with z|z
   .obtain⟨q,AT,rfl⟩:=List.mem_map.mp z;exact GK (g.un q AT).1
   .rw[List.mem_singleton.mp z]at GK;exact GK bT
 .rcases mem AX with h|⟨t,Ax,rfl⟩
  .exact g.rc p h
  .obtain⟨e,A7,AH,B1,CV,GK⟩:=UQ Ax;have:=Om.go s e t.2 (g.rc _ AK) A7 B1 CV;rw[<-AH]at this;exact this
def Good.start{A:List AR}{N:BJ->On}{n:Nat}{d0:AR}(hd:d0∈A):Good A N n d0 ((FZ [] d0 0 n).map λt=>(t,[]++[t.2])) [] (FZ [] d0 0 n):=by
 have k1:((FZ [] d0 0 n).map λt=>(t,([]:φ)++[t.2])).map (·.1)=FZ [] d0 0 n:=by simp[SQ]
 have mem:∀{p:BJ×φ},p∈(FZ [] d0 0 n).map (λt=>(t,([]:φ)++[t.2]))->p.1∈FZ [] d0 0 n/\p.2=[p.1.2]:=λh=>by obtain⟨t,Ax,rfl⟩:=List.mem_map.mp h;exact⟨Ax,rfl⟩
 refine⟨by rw[k1];exact aD _ _ _ _,λp AX=>?_,λp AX k A5 A8=>?_,λp AX=>?_,.nil,(λq AT=>nomatch AT),λp AX=>.inl (mem AX).1,aD _ _ _ _,λs AK=>⟨by rw[k1];exact AK,(λz=>nomatch z)⟩,λp AX=>?_⟩
 .obtain⟨A7,AH,B1,CV⟩:=OZ.mp (mem AX).1;exact⟨A7▸hd,B1⟩
 .obtain⟨A7,AH,B1,CV⟩:=OZ.mp (mem AX).1;rw[k1];exact OZ.mpr ⟨A7,Hy _,A8,(λz=>nomatch z)⟩
 .rw[(mem AX).2];refine⟨rfl,?_⟩;have:=Xe AX;simp at this |-;lia
 .obtain⟨A7,AH,B1,CV⟩:=OZ.mp (mem AX).1;have:=Om.st (N:=N) (n:=n) (d0:=d0) p.1.2 B1
  rwa [show((d0,p.1.2):BJ)=p.1 from PI A7.symm rfl]at this
end
def wB(W:GQ)(s:BJ):findD ((W.map (·.1)).map Eu) (W.map λp=>DE p.2) (Eu s)=(W.find? λp=>decide (p.1=s)).map λp=>DE p.2:=by
 unfold findD;induction W with
 |nil=>rfl
 |cons p W BW=>
  erw[Dc,M0,Jt];by_cases h:p.1=s
  .simp[h]
  .have:¬Eu p.1=Eu s:=λz=>h (fO z);erw[h,this,decide_false];exact BW
def wA(U:To)(s:BJ):findD ((U.map (·.1)).map Eu) (U.map λp=>DM p.1.1.1 p.2) (Eu s)=(U.find? λp=>decide (p.1=s)).map λp=>DM p.1.1.1 p.2:=by
 unfold findD;induction U with
 |nil=>rfl
 |cons p U BW=>
  erw[Dc,M0,Jt];by_cases h:p.1=s
  .simp[h]
  .have:¬Eu p.1=Eu s:=λz=>h (fO z);erw[h,this,decide_false];exact BW
def km{β:Type}{l:List (BJ×β)}{s:BJ}(h:s∈l.map (·.1)):∃x,(s,x)∈l/\l.find? (λp=>decide (p.1=s))=some (s,x):=by
 cases e:l.find? λp=>decide (p.1=s)with
 |none=>obtain⟨p,AX,rfl⟩:=List.mem_map.mp h;have:=List.find?_eq_none.mp e p AX;simp at this
 |some q=>
  have A5:=List.find?_some e;have A8:=sD e;have:q.1=s:=(A5:)
  refine⟨q.2,?_,?_⟩<;>rw[<-this]<;>first|exact A8|rfl
noncomputable def fH:As:=Bc 5 (Sw (CB 4 LI (A3 (Ch (DL "Weaver" "net") (A0 0)) (A3 (A9 AU (A9 AU (Ch (DL "Weaver" "stages") (A0 0)) (A9 AU (A0 4) Γ)) (A9 AU (A9 AU (A0 4) Δ) Δ)) (A3 (A9 AU (A0 4) Δ) (A3 (Ch (DL "Weaver" "address") (A0 0)) (AE)))))))
noncomputable def XF:As:=Cf (BF (A9 (Bi true) (A9 AU (A0 5) Δ) (AD (.str (Be "at"))))) (Pq (Sy 3 (KG 0 "Weaver" "entered" 2 PN (A3 (DS (A3 (A9 AU (A0 5) Γ) (A3 (A9 AU (A0 5) (AD (.int 2))) (AE)))) (A3 (Pr 0 "Weaver" "woven" (A0 4)) (AE)))))) (Cs)
def fF:As:=Ab fH (Ab (NG 0 "Weaver" "told" (A0 4) (A0 5)) XF)
def af4(h:Nat)(o:On):Rs (DM h o)=true:=by cases o<;>rfl
section
variable{cs:φ}{ws:τ}{Bk:Nat->List (List CZ)}{n a:Nat}{W:GQ}{U:To}
def agq(ok:Q2 cs ws Bk n a){s:BJ}(A5:s.1.1<cs.length)(A8:s.2<n)(s1 s2 s3 s5:Bw):fH [.Bl 0 (D5 (Bg cs ws) (.lst (E1 n Bk)) a W U),s1,s2,s3,.A1 (BM s),s5]=.ok (.BG [.Bl 0 (D5 (Bg cs ws) (.lst (E1 n Bk)) a W U),s1,s2,s3,.A1 (BM s),.A1 (DM s.1.1 (EJ ws Bk a s))]):=by
 have Bf:AU (BM s) (.int 1)=.ok (Bb s.2):=rfl;have EG:AU (BM s) (.int 0)=.ok (Ae s.1):=rfl;have d9:AU (Ae s.1) (.int 0)=.ok (.int (s.1.1:Int)):=rfl;have AV:=ok.AV s.2 A8;have k1:AU (.lst (E1 n Bk)) (Bb s.2)=.ok (BY (Bk s.2)):=LB (by simp[E1,A8]);have k2:=Pk (bs:=Bk s.2) (h:=s.1.1) δ;have on:=mL (cs:=cs) (ws:=ws) (b:=(Bk s.2).getD s.1.1 []) (λr B8=>by
  have AP:s.1.1<(Bk s.2).length:=δ
  have eg:(Bk s.2).getD s.1.1 []=(Bk s.2)[s.1.1]:=by simp[AP]
  rw[eg]at B8;exact ok.pt s.2 A8 _ (Lx _) r B8) s.1.1 s.1.2 a ok.AB
 have my:LI [Bg cs ws,D6 ((Bk s.2).getD s.1.1 []),Ae s.1,.int (a:Int)]=.ok (.v (DM s.1.1 (EJ ws Bk a s))):=on;generalize(Bk s.2).getD s.1.1 []=cM at k2 my;simp[fH,U4,vu,jH,uh,EG,Bf,d9,k1,k2,my,af4]
end
section
variable{cs:φ}{ws:τ}{Bk:Nat->List (List CZ)}{n a:Nat}{W:GQ}{U:To}
def iH{X:D}{Ys:χ}{ma:Ap}{r:AI}{e:AR}{l:φ}(AQ:Ys.length<=7)(ZP:W.length+7<=1000)(AP:l.length<=1000)(V8:Fj l<=1000)(hm:ma (.Bl 0 (D5 X (.lst Ys) a W U)::r)=.ok [Ae e,DE l]) :
  KG 0 "Weaver" "entered" 2 PN ma (.Bl 0 (D5 X (.lst Ys) a W U)::r)=.ok (.lst ((FZ W e (Fj l) Ys.length).map BM),.Bl 0 (D5 X (.lst Ys) a (W++(FZ W e (Fj l) Ys.length).map λs=>(s,l++[s.2])) U)::r):=by
 have Ca:=ux (X:=X) (a:=a) (W:=W) (U:=U) AQ ZP e l AP V8;have B_:QE.all (λk=>!(("entered" :Str)==k))=true:=ε
 erw[KG,Ls,hm,UP,BV,KO];unfold D5 at Ca |-;erw[Vu];rw[if_pos ⟨trivial,B_,rfl⟩,Ca];rfl
def ago(AQ:n<=7)(ZP:W.length<=168){s:BJ}{l:φ}(hf:W.find? (λp=>decide (p.1=s))=some (s,l))(AP:l.length<=1000)(V8:Fj l=s.2)(AK:s.2<n)(F:List BJ)(GN:F.length<=1000)(s1 s2:Bw)(o:On) :
  XF [.Bl 0 (D5 (Bg cs ws) (.lst (E1 n Bk)) a W U),s1,s2,.C8 (F.map BM),.A1 (BM s),.A1 (DM s.1.1 o)]=.ok (.BG [.Bl 0 (D5 (Bg cs ws) (.lst (E1 n Bk)) a (W++(KL W n s o).map λt=>(t,l++[t.2])) U),s1,s2,.C8 ((F++KL W n s o).map BM),.A1 (BM s),.A1 (DM s.1.1 o)]):=by
 cases o with
 |drop=>have EG:AU (DM s.1.1 .drop) (.int 0)=.ok (st "drop"):=rfl;have q:Bi true (st "drop") (.str (Be "at"))=.ok (.AV false):=rfl;simp[XF,EG,q,KL]
 |out x=>have EG:AU (DM s.1.1 (.out x)) (.int 0)=.ok (st "out"):=rfl;have q:Bi true (st "out") (.str (Be "at"))=.ok (.AV false):=rfl;simp[XF,EG,q,KL]
 |to e=>
  have EG:AU (DM s.1.1 (.to e)) (.int 0)=.ok (st "at"):=rfl;have Bf:AU (DM s.1.1 (.to e)) (.int 1)=.ok (.int (e.1:Int)):=rfl;have By:AU (DM s.1.1 (.to e)) (.int 2)=.ok (.int (e.2:Int)):=rfl;have q:Bi true (st "at") (.str (Be "at"))=.ok (.AV true):=rfl;have ls:(E1 n Bk).length=n:=by simp[E1]
  have Aj:Pr 0 "Weaver" "woven" (A0 4) [.Bl 0 (D5 (Bg cs ws) (.lst (E1 n Bk)) a W U),s1,s2,.C8 (F.map BM),.A1 (BM s),.A1 (DM s.1.1 (.to e))]=.ok (DE l):=by erw[Pr,jM,BV,v_var,Mt,Ls,QL,IY,Wj,wB,hf,Xr]
  have hm:(A3 (DS (A3 (A9 AU (A0 5) Γ) (A3 (A9 AU (A0 5) (AD (.int 2))) (AE)))) (A3 (Pr 0 "Weaver" "woven" (A0 4)) (AE))) [.Bl 0 (D5 (Bg cs ws) (.lst (E1 n Bk)) a W U),s1,s2,.C8 (F.map BM),.A1 (BM s),.A1 (DM s.1.1 (.to e))]=.ok [Ae e,DE l]:=by erw[GY,Aj];simp[Bf,By,Ae]
  have ce:=iH (X:=Bg cs ws) (Ys:=E1 n Bk) (a:=a) (W:=W) (U:=U) (e:=e) (l:=l) δ δ AP δ hm;rw[ls,V8]at ce;have ln:(FZ W e s.2 n).length<=7:=by unfold FZ;refine Fp (sT _ _) ?_;simp;lia
  have ex:Sy 3 (KG 0 "Weaver" "entered" 2 PN (A3 (DS (A3 (A9 AU (A0 5) Γ) (A3 (A9 AU (A0 5) (AD (.int 2))) (AE)))) (A3 (Pr 0 "Weaver" "woven" (A0 4)) (AE)))) [.Bl 0 (D5 (Bg cs ws) (.lst (E1 n Bk)) a W U),s1,s2,.C8 (F.map BM),.A1 (BM s),.A1 (DM s.1.1 (.to e))]=.ok (.non,[.Bl 0 (D5 (Bg cs ws) (.lst (E1 n Bk)) a (W++(FZ W e s.2 n).map λt=>(t,l++[t.2])) U),s1,s2,.C8 ((F++FZ W e s.2 n).map BM),.A1 (BM s),.A1 (DM s.1.1 (.to e))]):=by erw[Sy,ce];simp[Wt,show F.length+(FZ W e s.2 n).length<=1000000 by lia]
  rw[XF,ahC];erw[qo,ex];simp[EG,q,KL]
def agn(ok:Q2 cs ws Bk n a){d0:AR}{s:BJ}{pd F:List BJ}(g:Good (CH cs cs.length) (EJ ws Bk a) n d0 W U (s::pd++F))(s1 s2 s5:Bw) :
  ∃N:List BJ,∃l:φ,(s,l)∈W/\N=KL W n s (EJ ws Bk a s)/\fF [.Bl 0 (D5 (Bg cs ws) (.lst (E1 n Bk)) a W U),s1,s2,.C8 (F.map BM),.A1 (BM s),s5]=.ok (.BG [.Bl 0 (D5 (Bg cs ws) (.lst (E1 n Bk)) a (W++N.map λt=>(t,l++[t.2])) (U++[(s,EJ ws Bk a s)])),s1,s2,.C8 ((F++N).map BM),.A1 (BM s),.A1 (DM s.1.1 (EJ ws Bk a s))]):=by
 have Pm:=Q7 ok.DD.c cs.length;have Cu:=ok.DD.Cu;have Ji:=ok.Ji;have MS:=g.few δ Ji;have bT:=(g.Oh s γ).1;obtain⟨l,AK,hf⟩:=km bT;have Vd:=g.inr _ AK;have AO:s.1.1<cs.length:=(NQ.mp Vd.1).1;have AP:=g.lst _ AK;have G1:F.length<=168:=by have:=Lu g.Bl λx AJ=>(g.Oh x AJ).1;simp at this;lia
 have ul:U.length<=168:=by
  have:=Lu g.mj λx AJ=>by obtain⟨q,AT,rfl⟩:=List.mem_map.mp AJ;exact(g.un q AT).1
  simp at this;lia
 refine⟨_,l,AK,rfl,?_⟩;have A7:=agq (W:=W) (U:=U) ok AO Vd.2 s1 s2 (.C8 (F.map BM)) s5;have AH:=ac_ (X:=Bg cs ws) (Y:=.lst (E1 n Bk)) (a:=a) (W:=W) (U:=U) (s:=s) (o:=EJ ws Bk a s) (r:=[s1,s2,.C8 (F.map BM),.A1 (BM s),.A1 (DM s.1.1 (EJ ws Bk a s))]) (mk:=A0 4) (mv:=A0 5) γ γ (g.Oh s γ).2 δ;have B1:=ago (cs:=cs) (ws:=ws) (Bk:=Bk) (a:=a) (U:=U++[(s,EJ ws Bk a s)]) Ji MS hf (by have:=AP.2;simp at this;lia) AP.1 Vd.2 F δ s1 s2 (EJ ws Bk a s);rw[fF,EZ,A7,BV,GD,EZ,AH,BV,GD,B1]
end
def mq{ws:τ}{b:List CZ}{h d a:Nat}{e:AR}(he:BG ws b h d a=.to e):e∈ends ws:=by
 unfold BG at he
 split at he
 .cases he
 .split at he
  .cases he
  .split at he
   .cases he
   .rename_i J;cases he;exact si J
section
variable{cs:φ}{ws:τ}{Bk:Nat->List (List CZ)}{n a:Nat}{d0:AR}
def tW(ok:Q2 cs ws Bk n a)(s:BJ)(e:AR)(h:EJ ws Bk a s=.to e):e∈CH cs cs.length:=ok.DD.sub _ (mq h)
def ML(cs:φ)(ws:τ)(Bk:Nat->List (List CZ))(n a:Nat)(W:GQ)(U:To)(s1:Bw)(F5:List BJ)(s3 s4 s5:Bw):AI:=[.Bl 0 (D5 (Bg cs ws) (.lst (E1 n Bk)) a W U),s1,.A1 (.lst (F5.map BM)),s3,s4,s5]
def fG:As:=Ab (Ep (Er (A0 2)) (BR 4) fF) (SK 3 (Bc 2 (A0 3)))
def agp(ok:Q2 cs ws Bk n a){Kj:GQ}{Q3:To}{F5:List BJ}(g:Good (CH cs cs.length) (EJ ws Bk a) n d0 Kj Q3 F5)(h0:((d0,0):BJ)∈Kj.map (·.1))(s1 s4 s5:Bw) :
  Ends (fG (ML cs ws Bk n a Kj Q3 s1 F5 (.C8 []) s4 s5)) (Kg λρ=>∃W U F s3 s4 s5,Good (CH cs cs.length) (EJ ws Bk a) n d0 W U F/\W.length=Kj.length+F.length/\((d0,0):BJ)∈W.map (·.1)/\ρ=ML cs ws Bk n a W U s1 F s3 s4 s5):=by
 unfold fG;rw[EZ];refine VK BM F5 (λj ρ=>∃W U F s4 s5,Good (CH cs cs.length) (EJ ws Bk a) n d0 W U (F5.drop j++F)/\W.length=Kj.length+F.length/\((d0,0):BJ)∈W.map (·.1)/\ρ=ML cs ws Bk n a W U s1 F5 (.C8 (F.map BM)) s4 s5) (by simp[ML]) ⟨Kj,Q3,[],s4,s5,(g:),γ,h0,rfl⟩ ?_ ?_
 .rintro j s _ Bs ⟨W,U,F,s4,s5,g,lw,h0,rfl⟩;obtain⟨AP,rfl⟩:=List.getElem?_eq_some_iff.mp Bs;rw[fo AP]at g;obtain⟨N,l,AK,vd,HS⟩:=agn ok g s1 (.A1 (.lst (F5.map BM))) s5;have OH:BR 4 (BM F5[j]) (ML cs ws Bk n a W U s1 F5 (.C8 (F.map BM)) s4 s5)=.ok [.Bl 0 (D5 (Bg cs ws) (.lst (E1 n Bk)) a W U),s1,.A1 (.lst (F5.map BM)),.C8 (F.map BM),.A1 (BM F5[j]),s5]:=rfl;rw[OH,BV,HS];have g':=Good.step (pd:=F5.drop (j+1)++F) (tW ok) g AK;rw[<-vd,Qj]at g';exact⟨_,rfl,_,rfl,_,_,F++N,_,_,g',by simp[lw,Nv],by rw[Hx];exact G2 _ h0,rfl⟩
 .rintro _ ⟨W,U,F,s4,s5,g,lw,h0,rfl⟩;rw[List.drop_length,Xp]at g;exact⟨_,rfl,_,rfl,W,U,F,_,_,_,g,lw,h0,rfl⟩
def e0(l:List BJ):(l.map BM).all (okN 7)=true:=by simp[BM,Ae,Bb,okN]
def fE:As:=LG (BF (A9 (Bi false) (A0 2) (BQ (CL (AE))))) (Ab (Eg 3 (CL (AE))) fG)
def agm(ok:Q2 cs ws Bk n a){Kj:GQ}{Q3:To}{F5:List BJ}(g:Good (CH cs cs.length) (EJ ws Bk a) n d0 Kj Q3 F5)(h0:((d0,0):BJ)∈Kj.map (·.1))(s1 s3 s4 s5:Bw) :
  ∃W U,Good (CH cs cs.length) (EJ ws Bk a) n d0 W U []/\((d0,0):BJ)∈W.map (·.1)/\(fE (ML cs ws Bk n a Kj Q3 s1 F5 s3 s4 s5)).bind Ts=.ok (.non,D5 (Bg cs ws) (.lst (E1 n Bk)) a W U):=by
 have Pm:=Q7 ok.DD.c cs.length;have Cu:=ok.DD.Cu;suffices h:Ends ((fE (ML cs ws Bk n a Kj Q3 s1 F5 s3 s4 s5)).bind Ts) (λy=>∃W U,Good (CH cs cs.length) (EJ ws Bk a) n d0 W U []/\((d0,0):BJ)∈W.map (·.1)/\y=(.non,D5 (Bg cs ws) (.lst (E1 n Bk)) a W U))by
  obtain⟨y,e,W,U,g,h0,rfl⟩:=h;exact⟨W,U,g,h0,e⟩
 refine c2 (λm ρ=>∃W U F5 s3 s4 s5,Good (CH cs cs.length) (EJ ws Bk a) n d0 W U F5/\((d0,0):BJ)∈W.map (·.1)/\m=(169-W.length)+(if F5=[]then 0 else 1)/\ρ=ML cs ws Bk n a W U s1 F5 s3 s4 s5) (n:=(169-Kj.length)+(if F5=[]then 0 else 1)) ⟨Kj,Q3,F5,s3,s4,s5,g,h0,rfl,rfl⟩ (by split<;>lia) ?_;rintro m _ ⟨W,U,F5,s3,s4,s5,g,h0,rfl,rfl⟩;refine⟨!(F5.map BM).isEmpty,?_,λAx=>?_,λAx=>?_⟩
 .have:=ne_nil (e0 F5);simp[ML,lim,this]
 .have e:Eg 3 (CL AE) (ML cs ws Bk n a W U s1 F5 s3 s4 s5)=.ok (.BG (ML cs ws Bk n a W U s1 F5 (.C8 []) s4 s5)):=rfl;rw[EZ,e,BV,GD];refine(agp ok g h0 s1 s4 s5).mono ?_;rintro f ⟨ρ,rfl,ta,t_,F,s3,s4,s5,g',lw,h0,rfl⟩;refine⟨_,rfl,_,?_,ta,t_,F,s3,s4,s5,g',h0,rfl,rfl⟩;have MS:=g'.few δ ok.Ji;have hw:F5≠[]:=by rintro rfl;simp at Ax
  rw[if_neg hw];cases F with
  |nil=>simp at lw |-;lia
  |cons x F=>simp at lw |-;lia
 .have:F5=[]:=by simpa using Ax
  subst this;exact⟨_,rfl,W,U,g,h0,rfl⟩
def agf(ok:Q2 cs ws Bk n a)(hd:d0∈CH cs cs.length):∃W U,Good (CH cs cs.length) (EJ ws Bk a) n d0 W U []/\((d0,0):BJ)∈W.map (·.1)/\WJ (D5 (Bg cs ws) (.lst (E1 n Bk)) a [] []) [Ae d0]=.ok (.non,D5 (Bg cs ws) (.lst (E1 n Bk)) a W U):=by
 have DC:=ok.DC;have Ji:=ok.Ji;have Bh:Yq=Ab (NJ 2 (KG 0 "Weaver" "entered" 2 PN (A3 (A0 1) (A3 (BQ (CL (AE))) (AE))))) fE:=rfl;have MT:=Good.start (N:=EJ ws Bk a) (n:=n) hd;have h0:((d0,0):BJ)∈((FZ [] d0 0 n).map λt=>(t,([]:φ)++[t.2])).map (·.1):=by have:((d0,0):BJ)∈FZ [] d0 0 n:=OZ.mpr ⟨rfl,CS _,by show 0<n;lia,λz=>nomatch z⟩;rw[Hd];exact List.mem_map.mpr ⟨_,this,rfl⟩
 obtain⟨W,U,g,Ao,e⟩:=agm ok MT h0 (.A1 (Ae d0)) .un .un .un;refine⟨W,U,g,Ao,?_⟩;have ls:(E1 n Bk).length=n:=by simp[E1]
 have ce:=iH (X:=Bg cs ws) (Ys:=E1 n Bk) (a:=a) (W:=[]) (U:=[]) (e:=d0) (l:=[]) (ma:=A3 (A0 1) (A3 (BQ (CL (AE))) (AE))) (r:=[.A1 (Ae d0),.un,.un,.un,.un]) δ (UV rfl) (Hy _) (Hy _) (by simp[lim,DE]);rw[ls]at ce;show(Yq [.Bl 0 (D5 (Bg cs ws) (.lst (E1 n Bk)) a [] []),.A1 (Ae d0),.un,.un,.un,.un]).bind Ts=_;rw[Bh,EZ,ahF,ce,<-e];rfl
def ahN(ok:Q2 cs ws Bk n a)(hd:d0∈CH cs cs.length):∃W U,Good (CH cs cs.length) (EJ ws Bk a) n d0 W U []/\((d0,0):BJ)∈W.map (·.1)/\WI [Bg cs ws,.lst (E1 n Bk),Ae d0,.int (a:Int),.non]=.ok (D5 (Bg cs ws) (.lst (E1 n Bk)) a W U):=by
 obtain⟨W,U,g,h0,e⟩:=agf ok hd;refine⟨W,U,g,h0,?_⟩;have B_:QE.all (λk=>!(("weave" :Str)==k))=true:=ε
 have z:KG 0 "Weaver" "weave" 1 WJ (A3 (A0 3) AE) [.Bl 0 (D5 (Bg cs ws) (.lst (E1 n Bk)) a [] []),.A1 (Bg cs ws),.A1 (.lst (E1 n Bk)),.A1 (Ae d0),.A1 (.int (a:Int)),.A1 .non]=.ok (.non,[.Bl 0 (D5 (Bg cs ws) (.lst (E1 n Bk)) a W U),.A1 (Bg cs ws),.A1 (.lst (E1 n Bk)),.A1 (Ae d0),.A1 (.int (a:Int)),.A1 .non]):=by erw[KG,Ls,GY,Ip,v_var,Mt,QL,UP,BV,KO];unfold D5 at e |-;erw[Vu];rw[if_pos ⟨trivial,B_,rfl⟩,e];rfl
 have AH:Vl [.Bl 0 (.ins "Weaver" [] []),.A1 (Bg cs ws),.A1 (.lst (E1 n Bk)),.A1 (Ae d0),.A1 (.int (a:Int)),.A1 .non]=Pq (KG 0 "Weaver" "weave" 1 WJ (A3 (A0 3) (AE))) [.Bl 0 (D5 (Bg cs ws) (.lst (E1 n Bk)) a [] []),.A1 (Bg cs ws),.A1 (.lst (E1 n Bk)),.A1 (Ae d0),.A1 (.int (a:Int)),.A1 .non]:=by
  have G1:∀(f:Str)(ns:List Str)(Az:List T)(t:T)(r:AI),ns.all (λk=>!(f==k))=true->ns.length<1000->T8 "Weaver" f t (.Bl 0 (.ins "Weaver" ns Az)::r) ((.Bl 0 (.ins "Weaver" ns Az)::r:AI)[0]? :Option Bw)=.ok (.BG (.Bl 0 (.ins "Weaver" (ns++[f]) (Az++[t]))::r)):=λf ns Az t r A5 A8=>by rw[Ls];erw[T8];rw[if_pos ⟨trivial,A5,A8⟩];rfl
  have Et:∀(f:Str)(ns:List Str)(Az:List T)(m:A_)(d:D)(r:AI)(b:As),m (.Bl 0 (.ins "Weaver" ns Az)::r)=.ok d->ns.all (λk=>!(f==k))=true->ns.length<1000->Ab (Ps "Weaver" f m) b (.Bl 0 (.ins "Weaver" ns Az)::r)=b (.Bl 0 (.ins "Weaver" (ns++[f]) (Az++[.A1 d]))::r):=λf ns Az m d r b h A5 A8=>by rw[EZ,Ps,h,BV,G1 _ _ _ _ _ A5 A8,BV,GD]
  have DU:∀(f:Str)(ns:List Str)(Az:List T)(r:AI)(b:As),ns.all (λk=>!(f==k))=true->ns.length<1000->Ab (Sz "Weaver" f) b (.Bl 0 (.ins "Weaver" ns Az)::r)=b (.Bl 0 (.ins "Weaver" (ns++[f]) (Az++[.B5 [] []]))::r):=λf ns Az r b A5 A8=>by rw[EZ,Sz,G1 _ _ _ _ _ A5 A8,BV,GD]
  unfold Vl;rw[Et _ _ _ _ _ _ _ rfl ε ε,Et _ _ _ _ _ _ _ rfl ε ε,Et _ _ _ _ _ _ _ rfl ε ε,Et _ _ _ _ _ _ _ rfl ε ε,DU _ _ _ _ _ ε ε,DU _ _ _ _ _ ε ε];rfl
 show((Vl [.Bl 0 (.ins "Weaver" [] []),.A1 (Bg cs ws),.A1 (.lst (E1 n Bk)),.A1 (Ae d0),.A1 (.int (a:Int)),.A1 .non]).bind Ts).bind mC=_;rw[AH,qo,z];rfl
end
noncomputable def KN(N:BJ->On)(s:BJ):Option BJ:=match N s with
 |.to e=>some (e,s.2)
 |_=>none
def NT(o:Option BJ):D:=(o.map BM).getD .non
def DR(N:BJ->On)(s:BJ):Nat->Option BJ
 |0=>some s
 |k+1=>(DR N s k).bind (KN N)
def fP(a b:BJ):CE (BM a) (BM b)=decide (a=b):=by
 show(CE (Ae a.1) (Ae b.1)&&(((a.2:Int)==(b.2:Int))&&true))=_;rw[Vy,S_,Nz,FR,beq_iff_eq,decide_eq_true_iff,decide_eq_true_iff];constructor
 .intro⟨A5,A8⟩;exact PI A5 δ
 .rintro rfl;exact⟨rfl,rfl⟩
def t5(ds:List BJ)(d:BJ):((ds.map BM).any λy=>CE y (BM d))=decide (d∈ds):=by
 rw[O1,Nz,Sd,decide_eq_true_iff];constructor
 .rintro⟨x,AJ,h⟩;have:=(fP x d).symm.trans h;rw[decide_eq_true_iff]at this;rw[<-this];exact AJ
 .intro h;exact⟨d,h,by show CE (BM d) (BM d)=true;rw[fP];simp⟩
def zY(ds:List BJ)(d:BJ):inD false (BM d) (.lst (ds.map BM))=.ok (.AV (!decide (d∈ds))):=by have s:NW (.lst (ds.map BM))=some (ds.map BM):=rfl;have o:okN 7 (BM d)=true:=rfl;erw[inD,s,e0,o,and_self,if_true,t5];rfl
def jg(o:Option BJ)(s:BJ):Bi true (NT o) (BM s)=.ok (.AV (decide (o=some s))):=by
 have Cj:okN 8 (BM s)=true:=rfl;cases o with
 |none=>rfl
 |some t=>have Ci:okN 8 (BM t)=true:=rfl;show Bi true (BM t) (BM s)=_;unfold Bi;rw[if_pos ⟨Ci,Cj⟩,if_pos rfl,fP];by_cases h:t=s<;>simp[h]
section
variable{N:BJ->On}
theorem mE{s:BJ}{i j:Nat}(h:DR N s (j+1)=DR N s i)(AC:i<=j):∀k,i<=k->∃q,i<=q/\q<=j/\DR N s k=DR N s q
 |0,AG=>⟨0,AG,Hy _,rfl⟩
 |k+1,AG=>by
  by_cases e:i=k+1
  .exact⟨i,CS _,AC,by rw[e]⟩
  .obtain⟨q,Al,BN,Dt⟩:=mE h AC k δ;have A7:DR N s (k+1)=DR N s (q+1):=by erw[DR,Dt]
   by_cases z:q=j
   .subst z;exact⟨i,CS _,AC,A7.trans h⟩
   .exact⟨q+1,δ,δ,A7⟩
structure TX(N:BJ->On)(s:BJ)(gl:List BJ):Prop where
 CW:gl.Nodup
 pos:0<gl.length
 it:∀i,i<gl.length->gl[i]?=DR N s i
def TX.snoc{s t:BJ}{gl:List BJ}(h:TX N s gl)(Ax:DR N s gl.length=some t)(AQ:t∉gl):TX N s (gl++[t]):=by
 refine⟨List.nodup_append.mpr ⟨h.CW,γ,λx AJ y BO z=>by rw[List.mem_singleton.mp BO]at z;exact AQ (z▸AJ)⟩,γ,λi AC=>?_⟩;rw[KX,Xg]at AC;by_cases q:i<gl.length
 .rw[Ms q];exact h.it i q
 .obtain rfl:i=gl.length:=δ
  rw[Ax];simp
def TX.round{s:BJ}{gl:List BJ}(h:TX N s gl)(he:∀t,DR N s gl.length=some t->t∈gl){m:Nat}(hm:1<=m)(B8:DR N s m=some s):DR N s gl.length=some s:=by
 have p:=h.pos;have dist:∀i j,i<j->j<gl.length->DR N s i≠DR N s j:=λi j Vc Bs z=>by rw[<-h.it i δ,<-h.it j Bs,DV δ,DV Bs]at z;exact List.pairwise_iff_getElem.mp h.CW i j δ Bs Vc (E_ z)
 have nn:∀k,k<=m->DR N s k=none->DR N s m=none:=by
  intro k AG e;obtain⟨q,rfl⟩:=Nat.le.dest AG;clear B8 hm AG;induction q with
  |zero=>exact e
  |succ q BW=>rw[<-Nv];erw[DR,BW,Option.bind_none]
 have WO:gl.length<=m:=by refine Nat.le_of_not_lt λz=>dist 0 m δ z ?_;rw[B8];rfl
 cases e:DR N s gl.length with
 |none=>rw[nn _ WO e]at B8;cases B8
 |some t=>
  obtain⟨i,AC,Fz⟩:=Mz (he t e);have AH:DR N s i=some t:=by rw[<-h.it i AC,DV AC,Fz]
  by_cases z:i=0
  .subst z;rw[<-AH];rfl
  .obtain⟨j,Bs⟩:∃j,gl.length=j+1:=⟨gl.length-1,δ⟩;rw[Bs]at e AC WO;obtain⟨q,Al,BN,Dt⟩:=mE (e.trans AH.symm) δ m δ;exact absurd ((show DR N s 0=DR N s m by rw[B8];rfl).trans Dt) (dist 0 q δ δ)
end
section
variable{A:List AR}{N:BJ->On}{n:Nat}{d0:AR}{W:GQ}{U:To}{X Y:D}{a:Nat}
def rU(g:Good A N n d0 W U []){s:BJ}(AK:s∈W.map (·.1)):IY (.B5 ((U.map (·.1)).map Eu) (U.map λp=>DM p.1.1.1 p.2)) (BM s)=.ok (DM s.1.1 (N s)):=by
 obtain⟨p,AX,rfl⟩:=List.mem_map.mp AK;rcases g.cl p AX with h|⟨h,_⟩
 .cases h
 .obtain⟨x,AJ,hf⟩:=km h;have e:=(g.un _ AJ).2;dsimp only at e;subst e;erw[IY,Wj,wA,hf,Xr]
def mn(g:Good A N n d0 W U []){s t:BJ}(AK:s∈W.map (·.1))(h:KN N s=some t):t∈W.map (·.1):=by
 obtain⟨p,AX,rfl⟩:=List.mem_map.mp AK;rcases g.cl p AX with q|⟨_,q⟩
 .cases q
 .unfold KN at h
  split at h
  .rename_i e he;cases h;exact q e he
  .cases h
def iY(g:Good A N n d0 W U []){s:BJ}(AK:s∈W.map (·.1)):NM [Dj X Y a W U,BM s]=.ok (.v (NT (KN N s))):=by
 have t:=rU g AK;have Bf:AU (BM s) (.int 1)=.ok (Bb s.2):=rfl;unfold KN;cases e:N s with
 |drop=>rw[e]at t;have EG:AU (DM s.1.1 .drop) (.int 0)=.ok (st "drop"):=rfl;have q:Bi false (st "drop") (.str (Be "at"))=.ok (.AV true):=rfl;simp[-Hd,NM,Vk,Z9,t,e,EG,q,NT]
 |out x=>rw[e]at t;have EG:AU (DM s.1.1 (.out x)) (.int 0)=.ok (st "out"):=rfl;have q:Bi false (st "out") (.str (Be "at"))=.ok (.AV true):=rfl;simp[-Hd,NM,Vk,Z9,t,e,EG,q,NT]
 |to d=>rw[e]at t;have EG:AU (DM s.1.1 (.to d)) (.int 0)=.ok (st "at"):=rfl;have NE:AU (DM s.1.1 (.to d)) (.int 1)=.ok (.int (d.1:Int)):=rfl;have TQ:AU (DM s.1.1 (.to d)) (.int 2)=.ok (.int (d.2:Int)):=rfl;have q:Bi false (st "at") (.str (Be "at"))=.ok (.AV false):=rfl;have BN:Bi true (.int (d.1:Int)) .non=.ok (.AV false):=rfl;simp[-Hd,NM,Vk,Z9,cC,t,e,EG,Bf,NE,TQ,q,BN,NT];rfl
def qU:ME "Weaver" "behind" (Dj X Y a W U)=.ok (Dj X Y a W U):=rfl
def eM:CG:=KF (Ig (BF (A9 (Hp false) (A0 3) (AD .non))) (BF (A9 (inD false) (A0 3) (A0 2))))
def o1:As:=Ab (JB 2 (A0 3)) (Bc 3 (HT "Weaver" "behind" 1 NM (A0 0) (A3 (A0 3) (AE))))
def bO:As:=SK 2 (Cc (LS (BF (A9 (Bi true) (A0 3) (A0 1))) (A0 2) (BQ (CL (AE)))))
theorem d8(g:Good A N n d0 W U []){s:BJ}(AK:s∈W.map (·.1)):∀(k:Nat)(t:BJ),DR N s k=some t->t∈W.map (·.1)
 |0,t,h=>by cases h;exact AK
 |k+1,t,h=>by erw[DR]at h;obtain⟨u,BD,h⟩:=Option.bind_eq_some_iff.mp h;exact mn g (d8 g AK k u BD) h
def adq(g:Good A N n d0 W U [])(MS:W.length<=168){s:BJ}(AK:s∈W.map (·.1)):∃R:List BJ,R.length<=168/\(R≠[]↔∃m,1<=m/\DR N s m=some s)/\U9 [Dj X Y a W U,BM s]=.ok (.v (.lst (R.map BM))):=by
 suffices h:Ends (U9 [Dj X Y a W U,BM s]) (λy=>∃R:List BJ,R.length<=168/\(R≠[]↔∃m,1<=m/\DR N s m=some s)/\y=.v (.lst (R.map BM)))by
  obtain⟨y,e,R,A5,A8,rfl⟩:=h;exact⟨R,A5,A8,e⟩
 have Bh:Yp=Ab (Eg 2 (CL (A3 (A0 1) (AE)))) (Ab (Bc 3 (HT "Weaver" "behind" 1 NM (A0 0) (A3 (A0 1) (AE)))) (Ab (LG eM o1) bO)):=rfl;have A7:Bc 3 (HT "Weaver" "behind" 1 NM (A0 0) (A3 (A0 1) (AE))) [.A1 (Dj X Y a W U),.A1 (BM s),.C8 [BM s],.un]=.ok (.BG [.A1 (Dj X Y a W U),.A1 (BM s),.C8 [BM s],.A1 (NT (KN N s))]):=by simp[qU,iY g AK]
 have D7:Eg 2 (CL (A3 (A0 1) (AE))) [.A1 (Dj X Y a W U),.A1 (BM s),.un,.un]=.ok (.BG [.A1 (Dj X Y a W U),.A1 (BM s),.C8 [BM s],.un]):=rfl;have Bf:DR N s 1=KN N s:=rfl;show Ends ((Yp [.A1 (Dj X Y a W U),.A1 (BM s),.un,.un]).bind _) _;rw[Bh,EZ,D7,BV,GD,EZ,A7,BV,GD,EZ,RP];refine c2 (λm ρ=>∃gl,TX N s gl/\m=169-gl.length/\ρ=[.A1 (Dj X Y a W U),.A1 (BM s),.C8 (gl.map BM),.A1 (NT (DR N s gl.length))]) (n:=168) ⟨[s],⟨γ,γ,λi AC=>by rw[Nat.lt_one_iff.mp AC];rfl⟩,rfl,by rw[Xg,Bf];rfl⟩ ε ?_;rintro m _ ⟨gl,Dq,rfl,rfl⟩;have xP:∀x∈gl,x∈W.map (·.1):=λx AJ=>by obtain⟨i,AC,Fz⟩:=Mz AJ;exact d8 g AK i x (by rw[<-Dq.it i AC,DV AC,Fz])
 have xQ:gl.length<=168:=by have:=Lu Dq.CW xP;simp at this;lia
 cases e:DR N s gl.length with
 |none=>
  refine⟨false,?_,(λz=>nomatch z),λ_=>?_⟩
  .simp[eM,NT,Hp];intro z;cases z
  .have EN:∀m,1<=m->¬DR N s m=some s:=λm hm B8=>by
     have:=Dq.round (λt Ax=>by rw[e]at Ax;cases Ax) hm B8;rw[e]at this;cases this
   refine⟨.v (.lst []),?_,[],γ,⟨λz=>absurd rfl z,λ⟨m,hm,B8⟩=>absurd B8 (EN m hm)⟩,rfl⟩;have:=jg none s;simp[bO,this,lim]
 |some t=>
  refine⟨!decide (t∈gl),?_,λAx=>?_,λAx=>?_⟩
  .have:=zY gl t;simp[eM,NT,Hp,this];intro z;cases z
  .have Ax:t∉gl:=by simpa using Ax
   have g2:=Dq.snoc e Ax;have ag3:=d8 g AK _ t e;have b:=iY (X:=X) (Y:=Y) (a:=a) g ag3;have OO:DR N s (gl.length+1)=KN N t:=by erw[DR,e,Ue]
   refine⟨_,?_,_,rfl,169-(gl++[t]).length,θ,gl++[t],g2,rfl,rfl⟩;rw[KX,Xg,OO];simp[o1,NT,qU,show gl.length<1000000 by lia]at b |-;simp[b]
  .have Ax:t∈gl:=by simpa using Ax
   have q:=jg (some t) s;by_cases Az:t=s
   .subst Az;refine⟨.v (.lst (gl.map BM)),?_,gl,xQ,⟨λ_=>⟨gl.length,Dq.pos,e⟩,λ_ z=>by have:=Dq.pos;rw[z]at this;exact absurd this ε⟩,rfl⟩;simp[bO,q]
   .have EN:∀m,1<=m->¬DR N s m=some s:=λm hm B8=>by
      have:=Dq.round (λt' kj=>by rw[e]at kj;cases kj;exact Ax) hm B8;rw[e]at this;exact Az (E_ this)
    refine⟨.v (.lst []),?_,[],γ,⟨λz=>absurd rfl z,λ⟨m,hm,B8⟩=>absurd B8 (EN m hm)⟩,rfl⟩;simp[bO,q,lim,Az]
end
abbrev DG:=Int×Int×Int
noncomputable def FW:List DG:=(DK 6).map (λh:Nat=>(0,(h:Int),0))++((DK 6).map (λh:Nat=>(1,(h:Int),0))++((DK 6).flatMap (λh:Nat=>(DK 4).map λo:Nat=>(2,(h:Int),(o:Int)))++[(3,0,0)]))
def cU:FW.length=37:=ε
def cQ{h:Nat}(An:h<6):((0,(h:Int),0):DG)∈FW:=G2 _ (List.mem_map.mpr ⟨h,List.mem_range.mpr An,rfl⟩)
def cR{h:Nat}(An:h<6):((1,(h:Int),0):DG)∈FW:=Fb _ (G2 _ (List.mem_map.mpr ⟨h,List.mem_range.mpr An,rfl⟩))
def cS{h o:Nat}(An:h<6)(AN:o<4):((2,(h:Int),(o:Int)):DG)∈FW:=Fb _ (Fb _ (G2 _ (List.mem_flatMap.mpr ⟨h,List.mem_range.mpr An,List.mem_map.mpr ⟨o,List.mem_range.mpr AN,rfl⟩⟩)))
def cT:((3,0,0):DG)∈FW:=Fb _ (Fb _ (Fb _ γ))
def Tl{k:DG}(h:k∈FW):N_ k:=by
 rcases List.mem_append.mp h with h|h
 .obtain⟨x,_,rfl⟩:=List.mem_map.mp h;exact .inl rfl
 .rcases List.mem_append.mp h with h|h
  .obtain⟨x,_,rfl⟩:=List.mem_map.mp h;exact .inr (.inl rfl)
  .rcases List.mem_append.mp h with h|h
   .obtain⟨x,_,h⟩:=List.mem_flatMap.mp h;obtain⟨y,_,rfl⟩:=List.mem_map.mp h;exact .inr (.inr (.inl rfl))
   .rw[List.mem_singleton.mp h];exact .inr (.inr (.inr rfl))
def eS{k:DG}(h:N_ k):WN (FM k)=some k:=by rcases h with g|g|g|g<;>rw[g]<;>rfl
def acG{a b:DG}(AB:N_ a)(J:N_ b)(h:FM a=FM b):a=b:=by have:=eS AB;rw[h,eS J]at this;exact(E_ this).symm
abbrev IS:=List (DG×χ)
structure K2(P:IS):Prop where
 CW:(P.map (·.1)).Nodup
 cd:∀k∈P.map (·.1),k∈FW
def K2.few{P:IS}(h:K2 P):P.length<=37:=by have:=Lu h.CW h.cd;rw[cU]at this;simpa using this
def T7(P:IS):D:=.B5 ((P.map (·.1)).map FM) (P.map λp=>.lst p.2)
def FI(P:IS):Bw:=.ob (.B5 ((P.map (·.1)).map FM) (P.map λp=>.lst p.2))
noncomputable def JE(P:IS)(k:DG)(v:χ):IS:=if k∈P.map (·.1)then P else P++[(k,v)]
def iN{l:List DG}{k:DG}(AP:∀x∈l,x∈FW)(AG:k∈FW):(l.map FM).any (λy=>decide (y=FM k))=decide (k∈l):=by
 rw[Nz,Sd,decide_eq_true_iff];constructor
 .rintro⟨y,BO,e⟩;obtain⟨x,AJ,rfl⟩:=List.mem_map.mp BO;rw[<-acG (Tl (AP x AJ)) (Tl AG) (of_decide_eq_true e)];exact AJ
 .intro h;exact⟨FM k,List.mem_map.mpr ⟨k,h,rfl⟩,γ⟩
def dt{P:IS}{k:DG}{v:χ}(h:K2 P)(AG:k∈FW):K2 (JE P k v):=by
 unfold JE
 split
 .exact h
 .rename_i AQ;refine⟨?_,λx AJ=>?_⟩
  .rw[Hx];exact List.nodup_append.mpr ⟨h.CW,γ,λx AJ y BO z=>by rw[List.mem_singleton.mp BO]at z;exact AQ ((show x=k from z)▸AJ)⟩
  .rw[Hx]at AJ;rcases List.mem_append.mp AJ with AJ|AJ
   .exact h.cd x AJ
   .rw[List.mem_singleton.mp AJ];exact AG
def Wy{P:IS}{k x:DG}{v:χ}(h:x∈P.map (·.1)):x∈(JE P k v).map (·.1):=by
 unfold JE
 split
 .exact h
 .rw[Hx];exact G2 _ h
def dr{P:IS}{k x:DG}{v:χ}(h:x∈(JE P k v).map (·.1)):x∈P.map (·.1)\/x=k:=by
 unfold JE at h
 split at h
 .exact .inl h
 .rw[Hx]at h;rcases List.mem_append.mp h with h|h
  .exact .inl h
  .exact .inr (List.mem_singleton.mp h)
def dq(P:IS)(k:DG)(v:χ):k∈(JE P k v).map (·.1):=by
 unfold JE
 split
 .assumption
 .rw[Hx];exact Fb _ γ
def bU{P:IS}{k:DG}{v:χ}{mk:R6}{mv:A_}{s0:Bw}{r:AI}(h:K2 P)(AG:k∈FW)(Co:mk (s0::FI P::r)=.ok (FM k))(ev:mv (s0::FI P::r)=.ok (.lst v)) :
  NI 1 mk mv (s0::FI P::r)=.ok (.BG (s0::FI (JE P k v)::r)):=by
 have D7:cf 1 (s0::FI P::r)=.ok ((P.map (·.1)).map FM,P.map λp=>.lst p.2):=rfl;have MS:=h.few;unfold NI;rw[D7,BV,Co,UP,BV,ev,UP,BV];dsimp only;rw[iN h.cd AG];unfold JE;by_cases hm:k∈P.map (·.1)
 .rw[if_pos hm,if_pos (hm:),if_pos θ]
 .rw[if_neg hm,if_neg (hm:),putD,if_pos ⟨by rw[iN h.cd AG];simpa using hm,θ⟩];simp[FI]
noncomputable def Oe(h:Nat):On->DG
 |.drop=>(1,(h:Int),0)
 |.out o=>(2,(h:Int),(o:Int))
 |.to e=>(0,(e.1:Int),0)
def Jc:On->Bool
 |.to _=>true
 |_=>false
def Ye(N:BJ->On)(s:BJ)(k:DG):Prop:=k=(0,(s.1.1:Int),0)\/(Jc (N s)=false/\k=Oe s.1.1 (N s))\/(k=(3,0,0)/\∃m,1<=m/\DR N s m=some s)
def nJ:As:=NI 1 (OV (DS (A3 (AD (.str (Be "at"))) (A3 (A9 AU (A9 AU (A0 2) Δ) Δ) (AE))))) (A0 3)
noncomputable def eU:As:=Cf (BF (A9 (Bi false) (A9 AU (A9 IY (Ch (DL "Weaver" "told") (A0 0)) (A0 2)) Δ) (AD (.str (Be "at"))))) (NI 1 (OV (A9 IY (Ch (DL "Weaver" "told") (A0 0)) (A0 2))) (A0 3)) (Cs)
noncomputable def eV:As:=Cf (BF (A9 (Bi false) (A0 4) (BQ (CL (AE))))) (NI 1 (cp (Be "ring")) (BQ (I8 (I9 HV (A0 3) (NH) (GU (Ch NS Γ))) (A9 QM (BQ (CL (A3 (A9 AU (A0 2) Γ) (AE)))) (Bz CN (A3 (A0 4) (AE))))))) (Cs)
def eW:As:=Ab nJ (Ab eU (Ab (Bc 4 (HT "Weaver" "round_from" 1 U9 (A0 0) (A3 (A0 2) (AE)))) eV))
def aay{P:IS}(h:K2 P){s:BJ}(An:s.1.1<6)(l:φ)(w:D)(s4:Bw):nJ [.A1 w,FI P,.A1 (BM s),.A1 (DE l),s4]=.ok (.BG [.A1 w,FI (JE P (0,(s.1.1:Int),0) (l.map Bb)),.A1 (BM s),.A1 (DE l),s4]):=by refine bU h (cQ An) ?_ rfl;have EG:AU (BM s) (.int 0)=.ok (Ae s.1):=rfl;have d9:AU (Ae s.1) (.int 0)=.ok (.int (s.1.1:Int)):=rfl;have k:eo (J9 (.tup [.str (Be "at"),.int (s.1.1:Int)]))=.ok (FM (0,(s.1.1:Int),0)):=rfl;unfold OV;simp[EG,d9,k]
def jn{α:Type}(xs:List α)(l h:Option Int):(G9 xs l h).length<=xs.length:=by unfold G9;rw[Sb,List.length_drop];lia
def ab0{P:IS}(h:K2 P){s:BJ}{l:φ}(AP:l.length<=168){R:List BJ}(hR:R.length<=168)(w:D):∃v,eV [.A1 w,FI P,.A1 (BM s),.A1 (DE l),.A1 (.lst (R.map BM))]=.ok (.BG [.A1 w,FI (if R=[]then P else JE P (3,0,0) v),.A1 (BM s),.A1 (DE l),.A1 (.lst (R.map BM))]):=by
 have ne:=ne_nil (e0 R);have c:BF (A9 (Bi false) (A0 4) (BQ (CL (AE)))) [.A1 w,FI P,.A1 (BM s),.A1 (DE l),.A1 (.lst (R.map BM))]=.ok (!(R.map BM).isEmpty):=Jf (Fe rfl rfl ne);unfold eV;rw[Ph c];cases R with
 |nil=>exact⟨[],rfl⟩
 |cons x R=>
  have Bf:AU (BM s) (.int 1)=.ok (Bb s.2):=rfl;have adv:QM (.lst [Bb s.2]) (.int ((x::R).length:Int))=.ok (.lst (GF (x::R).length [Bb s.2]).flatten):=by have ajt:(x::R).length<=168:=hR;erw[QM];rw[if_pos ⟨δ,δ,γ⟩,LK]
  have cl:=jn (l.map Bb) none (some (-1));rw[Ea]at cl;refine⟨G9 (l.map Bb) none (some (-1))++(GF (x::R).length [Bb s.2]).flatten,?_⟩;have EY:(!(Uw BM (x::R)).isEmpty)=true:=rfl;rw[if_pos EY,if_neg γ];refine bU h cT rfl ?_;have alC:NS (.int 1)=.ok (.int (-1)):=rfl;have le:Bz CN (A3 (A0 4) (AE)) [.A1 w,FI P,.A1 (BM s),.A1 (DE l),.A1 (.lst ((x::R).map BM))]=.ok (.int ((x::R).length:Int)):=by have:=Su (a:=A0 4) (ρ:=[.A1 w,FI P,.A1 (BM s),.A1 (DE l),.A1 (.lst ((x::R).map BM))]) (xs:=(x::R).map BM) rfl;rw[Ea]at this;exact this
  have a1:I9 HV (A0 3) (NH) (GU (Ch NS Γ)) [.A1 w,FI P,.A1 (BM s),.A1 (DE l),.A1 (.lst ((x::R).map BM))]=.ok (.lst (G9 (l.map Bb) none (some (-1)))):=rfl;have a2:A9 QM (BQ (CL (A3 (A9 AU (A0 2) Γ) (AE)))) (Bz CN (A3 (A0 4) (AE))) [.A1 w,FI P,.A1 (BM s),.A1 (DE l),.A1 (.lst ((x::R).map BM))]=.ok (.lst (GF (x::R).length [Bb s.2]).flatten):=Fe (by simp[Bf,lim]) le adv;rw[Jx,b9,a1,BV,a2,BV,ZZ]
  .rfl
  .simp at hR |-;lia
section
variable{A:List AR}{N:BJ->On}{n:Nat}{d0:AR}{W:GQ}{U:To}{X Y:D}{a:Nat}
def aaz(g:Good A N n d0 W U []){P:IS}(h:K2 P){s:BJ}(AK:s∈W.map (·.1))(An:s.1.1<6)(AN:∀o,N s=.out o->o<4)(l:φ)(s4:Bw):eU [.A1 (Dj X Y a W U),FI P,.A1 (BM s),.A1 (DE l),s4]=.ok (.BG [.A1 (Dj X Y a W U),FI (if Jc (N s)=true then P else JE P (Oe s.1.1 (N s)) (l.map Bb)),.A1 (BM s),.A1 (DE l),s4]):=by
 have t:=rU g AK;have DO:∀r:AI,r[0]?=some (.A1 (Dj X Y a W U))->r[2]?=some (.A1 (BM s))->A9 IY (Ch (DL "Weaver" "told") (A0 0)) (A0 2) r=.ok (DM s.1.1 (N s)):=λr h0 A8=>by erw[b8,f7,v_var,h0,A8,QL,BV,Z9,t]
 unfold eU;cases e:N s with
 |drop=>rw[e]at DO;have EG:AU (DM s.1.1 .drop) (.int 0)=.ok (st "drop"):=rfl;have q:Bi false (st "drop") (.str (Be "at"))=.ok (.AV true):=rfl;have c:BF (A9 (Bi false) (A9 AU (A9 IY (Ch (DL "Weaver" "told") (A0 0)) (A0 2)) Δ) (AD (.str (Be "at")))) [.A1 (Dj X Y a W U),FI P,.A1 (BM s),.A1 (DE l),s4]=.ok true:=Jf (Fe (Fe (DO _ rfl rfl) rfl EG) rfl q);rw[Ph c,if_pos rfl];refine bU h (cR An) ?_ rfl;unfold OV;rw[DO _ rfl rfl];rfl
 |out x=>rw[e]at DO;have EG:AU (DM s.1.1 (.out x)) (.int 0)=.ok (st "out"):=rfl;have q:Bi false (st "out") (.str (Be "at"))=.ok (.AV true):=rfl;have c:BF (A9 (Bi false) (A9 AU (A9 IY (Ch (DL "Weaver" "told") (A0 0)) (A0 2)) Δ) (AD (.str (Be "at")))) [.A1 (Dj X Y a W U),FI P,.A1 (BM s),.A1 (DE l),s4]=.ok true:=Jf (Fe (Fe (DO _ rfl rfl) rfl EG) rfl q);rw[Ph c,if_pos rfl];refine bU h (cS An (AN x e)) ?_ rfl;unfold OV;rw[DO _ rfl rfl];rfl
 |to d=>rw[e]at DO;have EG:AU (DM s.1.1 (.to d)) (.int 0)=.ok (st "at"):=rfl;have q:Bi false (st "at") (.str (Be "at"))=.ok (.AV false):=rfl;have c:BF (A9 (Bi false) (A9 AU (A9 IY (Ch (DL "Weaver" "told") (A0 0)) (A0 2)) Δ) (AD (.str (Be "at")))) [.A1 (Dj X Y a W U),FI P,.A1 (BM s),.A1 (DE l),s4]=.ok false:=Jf (Fe (Fe (DO _ rfl rfl) rfl EG) rfl q);rw[Ph c];rfl
def afV:ME "Weaver" "round_from" (Dj X Y a W U)=.ok (Dj X Y a W U):=rfl
def ab1(g:Good A N n d0 W U [])(MS:W.length<=168)(Gj:∀d∈A,d.1<6)(MU:∀s,s.1∈A->s.2<n->∀o,N s=.out o->o<4){P:IS}(h:K2 P){p:BJ×φ}(AX:p∈W)(s4:Bw) :
  ∃K0 dn,K2 K0/\(∀k∈P.map (·.1),k∈K0.map (·.1))/\(∀k∈K0.map (·.1),k∈P.map (·.1)\/Ye N p.1 k)/\(0,(p.1.1.1:Int),0)∈K0.map (·.1)/\(Jc (N p.1)=false->Oe p.1.1.1 (N p.1)∈K0.map (·.1))/\((∃m,1<=m/\DR N p.1 m=some p.1)->(3,0,0)∈K0.map (·.1))/\eW [.A1 (Dj X Y a W U),FI P,.A1 (BM p.1),.A1 (DE p.2),s4]=.ok (.BG [.A1 (Dj X Y a W U),FI K0,.A1 (BM p.1),.A1 (DE p.2),dn]):=by
 have AK:p.1∈W.map (·.1):=List.mem_map.mpr ⟨p,AX,rfl⟩;obtain⟨Bf,By⟩:=g.inr p AX;have An:=Gj _ Bf;have AN:=MU _ Bf By;obtain⟨R,W8,LV,re⟩:=adq (X:=X) (Y:=Y) (a:=a) g MS AK;have A5:=dt (v:=p.2.map Bb) h (cQ An);have A7:=aay h An p.2 (Dj X Y a W U) s4;generalize Ee:JE P (0,(p.1.1.1:Int),0) (p.2.map Bb)=Iw at A5 A7;have k1:(0,(p.1.1.1:Int),0)∈Iw.map (·.1):=by rw[<-Ee];exact dq _ _ _
 have MK:∀k∈P.map (·.1),k∈Iw.map (·.1):=λk AG=>by rw[<-Ee];exact Wy AG
 have AH:=aaz (X:=X) (Y:=Y) (a:=a) g A5 AK An AN p.2 s4;generalize T3:(if Jc (N p.1)=true then Iw else JE Iw (Oe p.1.1.1 (N p.1)) (p.2.map Bb))=IF at AH;have A8:K2 IF:=by
  rw[<-T3]
  split
  .exact A5
  .refine dt A5 ?_;cases e:N p.1 with
   |drop=>exact cR An
   |out o=>exact cS An (AN o e)
   |to d=>rename_i z;rw[e]at z;exact absurd rfl z
 have IN:∀k∈Iw.map (·.1),k∈IF.map (·.1):=λk AG=>by
  rw[<-T3]
  split
  .exact AG
  .exact Wy AG
 have k2:Jc (N p.1)=false->Oe p.1.1.1 (N p.1)∈IF.map (·.1):=λz=>by rw[<-T3,if_neg (by rw[z];decide)];exact dq _ _ _
 obtain⟨v,CV⟩:=ab0 A8 (s:=p.1) (l:=p.2) (by have:=(g.lst p AX).2;lia) W8 (Dj X Y a W U);have B1:Bc 4 (HT "Weaver" "round_from" 1 U9 (A0 0) (A3 (A0 2) (AE))) [.A1 (Dj X Y a W U),FI IF,.A1 (BM p.1),.A1 (DE p.2),s4]=.ok (.BG [.A1 (Dj X Y a W U),FI IF,.A1 (BM p.1),.A1 (DE p.2),.A1 (.lst (R.map BM))]):=by simp[afV,re]
 refine⟨if R=[]then IF else JE IF (3,0,0) v,.A1 (.lst (R.map BM)),?_,λk AG=>?_,λk AG=>?_,?_,λz=>?_,λz=>?_,?_⟩
 .split
  .exact A8
  .exact dt A8 cT
 .have:=IN k (MK k AG)
  split
  .exact this
  .exact Wy this
 .have Fo:∀x∈Iw.map (·.1),x∈P.map (·.1)\/Ye N p.1 x:=λx AJ=>by
    rw[<-Ee]at AJ;exact(dr AJ).imp id .inl
  have FQ:∀x∈IF.map (·.1),x∈P.map (·.1)\/Ye N p.1 x:=λx AJ=>by
   rw[<-T3]at AJ
   split at AJ
   .exact Fo x AJ
   .rename_i AQ;rcases dr AJ with AJ|AJ
    .exact Fo x AJ
    .exact .inr (.inr (.inl ⟨Bool.eq_false_iff.mpr AQ,AJ⟩))
  split at AG
  .exact FQ k AG
  .rename_i AQ;rcases dr AG with AG|AG
   .exact FQ k AG
   .exact .inr (.inr (.inr ⟨AG,LV.mp AQ⟩))
 .have:=IN _ k1
  split
  .exact this
  .exact Wy this
 .have:=k2 z
  split
  .exact this
  .exact Wy this
 .rw[if_neg (LV.mpr z)];exact dq _ _ _
 .rw[eW,EZ,A7,BV,GD,EZ,AH,BV,GD,EZ,B1,BV,GD,CV]
structure Y_(N:BJ->On)(W:GQ)(P:IS):Prop where
 QJ:K2 P
 at_:∀p∈W,(0,(p.1.1.1:Int),0)∈P.map (·.1)
 Ca:∀p∈W,Jc (N p.1)=false->Oe p.1.1.1 (N p.1)∈P.map (·.1)
 NV:∀p∈W,(∃m,1<=m/\DR N p.1 m=some p.1)->(3,0,0)∈P.map (·.1)
 so:∀k∈P.map (·.1),∃p∈W,Ye N p.1 k
def ym(W:GQ):aN (.B5 ((W.map (·.1)).map Eu) (W.map λp=>DE p.2))=.ok (W.map λp=>.tup [BM p.1,DE p.2]):=by
 have h:((W.map (·.1)).map Eu).all (λk=>k.length !=1)=true:=by rw[Hd,PF,Mv];intro p _;rfl
 erw[aN];rw[if_pos h]
 congr 1
 unfold TO;rw[Hd,List.zip_map'];rw[Hd];rfl
def aan(g:Good A N n d0 W U [])(MS:W.length<=168)(Gj:∀d∈A,d.1<6)(MU:∀s,s.1∈A->s.2<n->∀o,N s=.out o->o<4):∃P,Y_ N W P/\Zw [Dj X Y a W U]=.ok (.v (T7 P)):=by
 suffices h:Ends (Zw [Dj X Y a W U]) (λy=>∃P,Y_ N W P/\y=.v (T7 P))by
  obtain⟨y,e,P,hP,rfl⟩:=h;exact⟨P,hP,e⟩
 have Bh:Yo=Ab (RZ 1) (Ab (Ep (SM (Ch (DL "Weaver" "woven") (A0 0))) (Fv [BR 2,BR 3]) eW) (Jg (A0 1))):=rfl;have D7:RZ 1 [.A1 (Dj X Y a W U),.un,.un,.un,.un]=.ok (.BG [.A1 (Dj X Y a W U),FI [],.un,.un,.un]):=rfl;have Fz:SM (Ch (DL "Weaver" "woven") (A0 0)) [.A1 (Dj X Y a W U),FI [],.un,.un,.un]=.ok (W.map λp=>.tup [BM p.1,DE p.2]):=by unfold SM;rw[f7,v_var];erw[Ls,QL,BV,jI,ym]
 show Ends ((Yo [.A1 (Dj X Y a W U),.un,.un,.un,.un]).bind _) _;rw[Bh,EZ,D7,BV,GD,EZ,RP];refine VK (λp:BJ×φ=>.tup [BM p.1,DE p.2]) W (λj ρ=>∃P s2 s3 s4,Y_ N (W.take j) P/\ρ=[.A1 (Dj X Y a W U),FI P,s2,s3,s4]) Fz ⟨[],.un,.un,.un,⟨⟨.nil,(λk AG=>nomatch AG)⟩,(λp AX=>by simp at AX),(λp AX=>by simp at AX),(λp AX=>by simp at AX),(λk AG=>nomatch AG)⟩,rfl⟩ ?_ ?_
 .rintro j p _ Bs ⟨P,s2,s3,s4,hP,rfl⟩;have AX:=HY Bs;obtain⟨K0,dn,A5,A8,Cu,Au,BC,EL,e⟩:=ab1 (X:=X) (Y:=Y) (a:=a) g MS Gj MU hP.QJ AX s4;have OH:Fv [BR 2,BR 3] (.tup [BM p.1,DE p.2]) [.A1 (Dj X Y a W U),FI P,s2,s3,s4]=.ok [.A1 (Dj X Y a W U),FI P,.A1 (BM p.1),.A1 (DE p.2),s4]:=rfl;rw[OH,BV,e];have BU:∀q∈W.take (j+1),q∈W.take j\/q=p:=λq AT=>by
   rw[Ub,Bs]at AT;rcases List.mem_append.mp AT with AT|AT
   .exact .inl AT
   .exact .inr (AT:)
  refine⟨_,rfl,_,rfl,K0,_,_,dn,⟨A5,λq AT=>?_,λq AT z=>?_,λq AT z=>?_,λk AG=>?_⟩,rfl⟩
  .rcases BU q AT with AT|rfl
   .exact A8 _ (hP.at_ q AT)
   .exact Au
  .rcases BU q AT with AT|rfl
   .exact A8 _ (hP.Ca q AT z)
   .exact BC z
  .rcases BU q AT with AT|rfl
   .exact A8 _ (hP.NV q AT z)
   .exact EL z
  .have pm:p∈W.take (j+1):=by rw[Ub,Bs];simp
   rcases Cu k AG with AG|AG
   .obtain⟨q,AT,agl⟩:=hP.so k AG;exact⟨q,by rw[Ub];exact G2 _ AT,agl⟩
   .exact⟨p,pm,AG⟩
 .rintro _ ⟨P,s2,s3,s4,hP,rfl⟩;rw[Xk]at hP;exact⟨_,rfl,P,hP,rfl⟩
end
section
variable{cs:φ}{ws:τ}{os nw:List (List CZ)}{row:φ}{a:Nat}{d0:AR}
def ZJ{bs:List (List CZ)}(h:E5 cs bs){i:Nat}(AC:i<cs.length):LW (cs.getD i 0) (bs.getD i []):=by
 have AP:i<bs.length:=by rw[h.l];exact AC
 have:=h.b i bs[i] (DV AP);have e:bs.getD i []=bs[i]:=by simp[AP]
 rw[e];exact this
def eR(DI:E5 cs os)(bn:E5 cs nw)(k:Nat){i:Nat}(AC:i<cs.length):LW (cs.getD i 0) ((DB os nw row k).getD i []):=by
 have e:(DB os nw row k).getD i []=if i∈row.take k then nw.getD i []else os.getD i []:=by
  have AP:i<os.length:=by rw[DI.l];exact AC
  unfold DB;rw[HI,Dm,QY AP];rfl
 rw[e]
 split
 .exact ZJ bn AC
 .exact ZJ DI AC
def a8(DI:E5 cs os)(k:Nat):(DB os nw row k).length=cs.length:=by simp[DB,DI.l]
def U2(DD:Hg cs ws)(DI:E5 cs os)(bn:E5 cs nw)(B8:row.length<=6)(AB:a<16):Q2 cs ws (DB os nw row) (row.length+1) a where
 DD:=DD
 AB:=AB
 DC:=δ
 Ji:=δ
 AV:=λk _=>a8 DI k
 pt:=λk _ b J r B8=>by
  obtain⟨i,AC,Fz⟩:=Mz J;have MV:i<cs.length:=by rw[a8 DI k]at AC;exact AC
  have:=eR (row:=row) DI bn k MV;have e:(DB os nw row k).getD i []=b:=by simp[AC,Fz]
  rw[e]at this;exact(this.2 r B8).p
def aba(DD:Hg cs ws)(DI:E5 cs os)(bn:E5 cs nw)(s:BJ)(AK:s.1∈CH cs cs.length)(o:Nat)(h:EJ ws (DB os nw row) a s=.out o):o<4:=by
 have AC:=(NQ.mp AK).1;have Ed:=eR (row:=row) DI bn s.2 AC;have IH:=ZI (λc AO=>(DD.c c AO).2) s.1.1;unfold EJ BG at h;generalize(DB os nw row s.2).getD s.1.1 []=b at Ed h
 split at h
 .cases h
 .rename_i i Fz
  split at h
  .cases h
  .rename_i Bo K5
   split at h
   .cases h;obtain⟨r,B8,Bh⟩:=Option.bind_eq_some_iff.mp K5;have:=(Ed.2 r (HY B8)).b o Bh
    lia
   .cases h
def eZ(cs:φ)(ws:τ)(os nw:List (List CZ))(row:φ)(d0:AR)(a:Nat):χ:=[Bg cs ws,BY os,BY nw,.lst (row.map Bb),Ae d0,.int (a:Int)]
def aaY(DD:Hg cs ws)(DI:E5 cs os)(bn:E5 cs nw)(B8:row.length<=6)(AB:a<16)(hd:d0∈CH cs cs.length):∃W U P,Good (CH cs cs.length) (EJ ws (DB os nw row) a) (row.length+1) d0 W U []/\((d0,0):BJ)∈W.map (·.1)/\Y_ (EJ ws (DB os nw row) a) W P/\UL (eZ cs ws os nw row d0 a)=.ok (.v (T7 P)):=by
 have ok:=U2 (row:=row) DD DI bn B8 AB;obtain⟨W,U,g,h0,e⟩:=ahN ok hd;have Pm:=Q7 DD.c cs.length;have Cu:=DD.Cu;have MS:=g.few δ ok.Ji;obtain⟨P,mo,em⟩:=aan (X:=Bg cs ws) (Y:=.lst (E1 (row.length+1) (DB os nw row))) (a:=a) g MS (λd hd=>by have:=(NQ.mp hd).1;lia) λs AK _ o h=>aba DD DI bn s AK o h;refine⟨W,U,P,g,h0,mo,?_⟩;have BI:=agC (os:=os) (nw:=nw) (row:=row) (by rw[DI.l];lia) (by rw[bn.l,DI.l]) B8;have dy:ME "Weaver" "met" (Dj (Bg cs ws) (.lst (E1 (row.length+1) (DB os nw row))) a W U)=.ok (Dj (Bg cs ws) (.lst (E1 (row.length+1) (DB os nw row))) a W U):=rfl;have eT:T1 5 WI (A3 (A0 0) (A3 (BQ (EM 3 WM (A3 (A0 1) (A3 (A0 2) (A3 (A0 3) (AE)))))) (A3 (A0 4) (A3 (A0 5) (A3 (AD .non) (AE)))))) [.A1 (Bg cs ws),.A1 (BY os),.A1 (BY nw),.A1 (.lst (row.map Bb)),.A1 (Ae d0),.A1 (.int (a:Int))]=.ok (Dj (Bg cs ws) (.lst (E1 (row.length+1) (DB os nw row))) a W U):=by have CF:WI [Bg cs ws,.lst ((DK (row.length+1)).map λk=>BY (DB os nw row k)),Ae d0,.int (a:Int),.non]=.ok (D5 (Bg cs ws) (.lst (E1 (row.length+1) (DB os nw row))) a W U):=e;unfold T1;erw[GY,Ip,v_var,Jx,XC,ql,Ls,Mt,QL,BV,BI,HL,Lz,if_true,show ∀l,bQ (.o l)=.ok l from λ_=>rfl,CF,UP,U4]
 have F7:∀x0 E2 E3 HH Hu RR:D,UL [x0,E2,E3,HH,Hu,RR]=(YU [.A1 x0,.A1 E2,.A1 E3,.A1 HH,.A1 Hu,.A1 RR]).bind outD:=λ_ _ _ _ _ _=>rfl;unfold eZ;rw[F7];rw[YU,ahE,ahD,eT,BV,dy,BV,Ip,BV,Lz,if_pos rfl,em];rfl
theorem nG:∀{ks:List DG},(∀k∈ks,k∈FW)->Ri (ks.map FM)=some ks
 |[],_=>rfl
 |k::ks,h=>by rw[Dc,Ri,eS (Tl (h k γ)),nG λx AJ=>h x (by simp[AJ])]
def aal{P:IS}(hP:K2 P){ds:χ}{x0 E2 E3 HH Hu RR:D}(e:UL [x0,E2,E3,HH,Hu,RR]=.ok (.v (T7 P))):NO [x0,E2,E3,HH,Hu,RR]=.ok (.o ((LT.E4 (P.map (·.1))).map Ce)):=by
 have MS:=hP.few;have dy:b_ [T7 P]=.ok ((LT.E4 (P.map (·.1))).map Ce):=by erw[b_,T7,nG hP.cd];rw[if_pos θ]
 have c:WD (A3 (CB 6 UL (A3 (A0 0) (A3 (A0 1) (A3 (A0 2) (A3 (A0 3) (A3 (A0 4) (A3 (A0 5) (AE)))))))) (AE)) [.A1 x0,.A1 E2,.A1 E3,.A1 HH,.A1 Hu,.A1 RR]=.ok ((LT.E4 (P.map (·.1))).map Ce):=by unfold WD;simp[e,dy]
 show(YT [.A1 x0,.A1 E2,.A1 E3,.A1 HH,.A1 Hu,.A1 RR]).bind _=_;rw[YT,qu,c];rfl
end
@[simp] theorem akS(m:CG)(ρ:AI):Rk m ρ=GC (m ρ):=(rfl)
@[simp] theorem akQ(m:Ap)(ρ:AI):WT m ρ=GC (m ρ):=(rfl)
@[simp] theorem akR(m:As)(ρ:AI):WU m ρ=GC (m ρ):=(rfl)
@[simp] theorem aky(c:Str)(ρ:AI):WB c ρ=.exc c:=(rfl)
@[simp] theorem akr(m:A_)(ρ:AI):Ws m ρ=(m ρ).bind λ_=>.ok (.BG ρ):=(rfl)
@[simp] theorem ah9(n:Nat)(BP:χ->R C2)(m:Ap)(ρ:AI):Po n BP m ρ=(m ρ).bind λds=>if ds.length=n then(GC (BP ds)).bind Ks else .bad:=(rfl)
def ml{c:Nat}{o:Option Nat}(h:∀k,o=some k->k<c):PO [FN o,.int (c:Int)]=.ok (.v (.AV true)):=by
 cases o with
 |none=>simp[PO,Yr,FN,K9]
 |some k=>have:=h k rfl;simp[PO,Yr,FN,K9,bC];lia
def ads{c:Nat}{p a b:D}{A5 A8 Au:Bool}(A7:UD [p]=.ok (.v (.AV A5)))(AH:PO [a,.int (c:Int)]=.ok (.v (.AV A8)))(B1:PO [b,.int (c:Int)]=.ok (.v (.AV Au))):UE [.tup [p,a,b],.int (c:Int)]=.ok (.v (.AV (A5&&A8&&Au))):=by have EG:AU (.tup [p,a,b]) (.int 0)=.ok p:=rfl;have Bf:AU (.tup [p,a,b]) (.int 1)=.ok a:=rfl;have By:AU (.tup [p,a,b]) (.int 2)=.ok b:=rfl;cases A5<;>cases A8<;>cases Au<;>simp[UE,hU,z8,EG,Bf,By,A7,AH,B1]
def adu{c:Nat}{r:CZ}(h:Q1 c r):UE [FC r,.int (c:Int)]=.ok (.v (.AV true)):=ads (n0 h.p) (ml h.a) (ml h.b)
def uL{c:Nat}{l:χ}{f:D->Bool}(AP:l.length<=12)(h:∀d∈l,UE [d,.int (c:Int)]=.ok (.v (.AV (f d)))):UC [.lst l,.int (c:Int)]=.ok (.v (.AV (l.all f))):=by apply Ends.done;simp[UC,hO,d6,Vs,show¬((12:Int)<l.length)by lia];refine Qy id l (λd=>.AV (f d)) γ δ (λd hd=>by simp[h d hd]) ?_;have a:=Tf f l;simp[a]
def uM{c:Nat}{b:List CZ}(h:LW c b):UC [D6 b,.int (c:Int)]=.ok (.v (.AV true)):=by
 have:=uL (c:=c) (l:=b.map FC) (f:=λ_=>true) (h.1:) λd hd=>by obtain⟨r,B8,rfl⟩:=List.mem_map.mp hd;exact adu (h.2 r B8)
 unfold D6;rw[this];simp
def nA(cs:φ)(ws:τ):DL "Net" "many" (Bg cs ws)=.ok (.int (cs.length:Int)):=rfl
def iM(cs:φ)(ws:τ):DL "Net" "counts" (Bg cs ws)=.ok (.tup (C6 cs)):=rfl
def afU(cs:φ)(ws:τ):ME "Net" "count" (Bg cs ws)=.ok (Bg cs ws):=rfl
def u4{cs:φ}{ws:τ}{h:Nat}(An:h<cs.length):Zu [Bg cs ws,.int (h:Int)]=.ok (.v (.int (cs.getD h 0:Nat))):=by have e:AU (.tup (C6 cs)) (.int (h:Int))=.ok (.int (cs.getD h 0:Nat)):=lL (Vv An);erw[HI]at e |-;simp[Zu,hG,nA,iM,e,An]
def uN{cs:φ}{ws:τ}{l:χ}{f:D×Nat->Bool}(AP:l.length=cs.length)(Cu:cs.length<=6)(h:∀p∈l.zipIdx,UC [p.1,.int (cs.getD p.2 0:Nat)]=.ok (.v (.AV (f p)))):Rc [.lst l,Bg cs ws]=.ok (.v (.AV (l.zipIdx.all f))):=by
 apply Ends.done;simp[Rc,hQ,d6,nA,AP];have Ca:=jW id l;rw[List.map_id]at Ca;refine jP (λp:D×Nat=>.int (p.2:Int)) (λp=>p.1) l.zipIdx (λp=>.AV (f p)) (by erw[qq,GY,v_var,Ip];simp[Ca]) θ (λp AX=>?_) ?_
 .have:=(List.getElem?_eq_some_iff.mp (r9 AX)).1;have AO:=u4 (cs:=cs) (ws:=ws) (h:=p.2) δ;have J:=h p AX;erw[HI]at AO J;simp[afU,AO,J]
 .have a:=Tf f l.zipIdx;simp[a]
def uO{cs:φ}{ws:τ}{bs:List (List CZ)}(Cu:cs.length<=6)(h:E5 cs bs):Rc [.lst (bs.map D6),Bg cs ws]=.ok (.v (.AV true)):=by
 have:=uN (ws:=ws) (l:=bs.map D6) (f:=λ_=>true) (h.l:) Cu λp AX=>by
  have e:=r9 AX;rw[Dm]at e;cases Bh:bs[p.2]? with
  |none=>rw[Bh]at e;cases e
  |some b=>rw[Bh]at e;rw[<-E_ (show some (D6 b)=some p.1 from e)];exact uM (h.b _ _ Bh)
 rw[this];simp
def afT(cs:φ)(ws:τ):ME "Net" "is_door" (Bg cs ws)=.ok (Bg cs ws):=rfl
def afS(cs:φ)(ws:τ):ME "Net" "is_outer" (Bg cs ws)=.ok (Bg cs ws):=rfl
def z5(cs:φ)(ws:τ)(x:D){b:Bool}(h:Rd [.tup (C6 cs),x]=.ok (.v (.AV b))):Zv [Bg cs ws,x]=.ok (.v (.AV b)):=by simp[Zv,hH,iM,h]
def vN(ws:τ)(d:AR):GR false (Ae d) (.B5 (EH ws) (F2 ws))=.ok (.AV (!decide (d∈ends ws))):=by erw[GR,SD,ks_any];rfl
def abb{cs:φ}(ws:τ){d:AR}(h:d∈CH cs cs.length):WH [Bg cs ws,Ae d]=.ok (.v (.AV (!decide (d∈ends ws)))):=by simp[WH,hI,afT,z5 cs ws _ (bp h),jJ,vN]
def adi{cs:φ}{ws:τ}{B:D}{b:Bool}(h:Rc [B,Bg cs ws]=.ok (.v (.AV b))):a0 [B,Bg cs ws]=if b=true then .ok (.v .non)else .exc "NoBooks":=by
 cases b<;>simp[a0,cH,h]
 rfl
def ahS{cs:φ}{ws:τ}{B x y t:D}(A5:Rc [B,Bg cs ws]=.ok (.v (.AV true)))(A8:WH [Bg cs ws,x]=.ok (.v (.AV true)))(Au:Rb [y]=.ok (.v (.AV true)))(BC:UM [Bg cs ws,B,x,y]=.ok (.v t)) :
  NP [Bg cs ws,B,x,y]=.ok (.v t):=by
 have r:=adi A5;simp at r;simp[NP,cL,r,afS,A8,Au,BC]
theorem jS{β:Type}{c:CG}{b:As}{k:Fy->R β}{T:β->Prop}(I:Nat->AI->Prop)(S:D->Prop)(st:∀n ρ,I n ρ->∃t,c ρ=.ok t/\(t=true->Ends (b ρ) λf=>(∃BK m,f=.BG BK/\m<n/\I m BK)\/∃d,f=.Du d/\S d)/\(t=false->Ends (k (.BG ρ)) T))(Du:∀d,S d->Ends (k (.Du d)) T):∀(f n:Nat)(ρ:AI),I n ρ->n<f->Ends ((N9 c b f ρ).bind k) T
 |0,n,ρ,h,hf=>δ
 |f+1,n,ρ,h,hf=>by
  obtain⟨t,e,A5,A8⟩:=st n ρ h;erw[N9,e,BV];cases t with
  |false=>simpa using A8 rfl
  |true=>
   obtain⟨x,ex,AJ⟩:=A5 rfl;rcases AJ with⟨BK,m,rfl,hm,GO⟩|⟨d,rfl,hd⟩
   .erw[if_true,ex,BV];exact jS I S st Du f m BK GO δ
   .erw[if_true,ex,BV];exact Du d hd
def dD:On->String
 |.drop=>"drop"
 |.out _=>"out"
 |.to _=>"at"
def mz(h:Nat)(o:On):AU (DM h o) (.int 0)=.ok (st (dD o)):=by cases o<;>rfl
def aaH(o:On):Bi false (st (dD o)) (.str (Be "at"))=.ok (.AV (!Jc o)):=by cases o<;>rfl
def EE(ws:τ)(bs:List (List CZ))(a:Nat)(d:AR):On:=BG ws (bs.getD d.1 []) d.1 d.2 a
def wG{cs:φ}{ws:τ}{bs:List (List CZ)}{a:Nat}(DI:E5 cs bs)(AB:a<16){d:AR}(hd:d∈CH cs cs.length):LI [Bg cs ws,D6 (bs.getD d.1 []),Ae d,.int (a:Int)]=.ok (.v (DM d.1 (EE ws bs a d))):=
 mL (λr B8=>((ZJ DI (NQ.mp hd).1).2 r B8).p) d.1 d.2 a AB
def kq{cs:φ}{ws:τ}{bs:List (List CZ)}{a:Nat}(DD:Hg cs ws){d e:AR}(h:EE ws bs a d=.to e):e∈CH cs cs.length:=DD.sub _ (mq h)
inductive St(f:AR->On)(d0:AR):AR->Prop
 |z:St f d0 d0
 |s (d e:AR):St f d0 d->f d=.to e->St f d0 e
structure tc(A:List AR)(f:AR->On)(d0:AR)(G:List AR)(d:AR):Prop where
 CW:G.Nodup
 TN:∀e∈G,e∈A
 Qs:d∈A
 st:∀e∈G,St f d0 e
 qQ:St f d0 d
 cc:d0∈G\/d=d0
 cl:∀e∈G,∃g,f e=.to g/\(g∈G\/g=d)
 Ed:∀e∈G,St f e d
noncomputable def Told(f:AR->On)(d0:AR)(G:List AR)(Ca:D):Prop:=d0∈G/\G.length<=24/\(∀e∈G,St f d0 e)/\(∀e,St f d0 e->e∈G)/\
 ((∃l∈G,Jc (f l)=false/\Ca=DM l.1 (f l)/\∀e∈G,Jc (f e)=false->e=l)\/((∀e∈G,Jc (f e)=true)/\(∃e∈G,∃g,f e=.to g/\St f g e)/\∃i:Int,Ca=.tup [.str (Be "ring"),.int i]))
def yr{G:List AR}{d:AR}(h:d∈G)(AP:G.length<=100):∃i:Int,ZU (.lst (G.map Ae)) [Ae d]=.ok (.int i):=by
 have f:(G.map Ae).findIdx? (λz=>CE z (Ae d))=G.findIdx? (λx=>decide (x=d)):=by
  rw[List.findIdx?_map]
  congr 1
  funext x
  exact Vy x d
 obtain⟨j,g⟩:∃j,G.findIdx? (λx=>decide (x=d))=some j:=by
  cases e:G.findIdx? (λx=>decide (x=d))with
  |some j=>exact⟨j,rfl⟩
  |none=>exact absurd (List.findIdx?_eq_none_iff.mp e d h) γ
 have o:okN 7 (Ae d)=true:=rfl;have l:(G.map Ae).length<1000000:=by rw[Ea];lia
 refine⟨(j:Int),?_⟩;erw[ZU,o,jy,l,and_self,if_true,f,g]
def agj:CG:=KF (BF (A9 (inD false) (A0 2) (A0 4)))
noncomputable def r6:As:=Ab (JB 4 (A0 2))
    (Ab (Bc 5 (CB 4 LI (A3 (A0 0) (A3 (A9 AU (A0 1) (A9 AU (A0 2) Δ)) (A3 (A0 2) (A3 (A0 3) (AE)))))))
    (Ab (Cf (BF (A9 (Bi false) (A9 AU (A0 5) Δ) (AD (.str (Be "at"))))) (Jg (DS (A3 (A0 4) (A3 (A0 5) (AE))))) (Cs))
    (Bc 2 (DS (A3 (A9 AU (A0 5) Γ) (A3 (A9 AU (A0 5) (AD (.int 2))) (AE)))))))
def r7:As:=Jg (DS (A3 (A0 4) (A3 (DS (A3 (AD (.str (Be "ring"))) (A3 (SL (A0 4) (A3 (A0 2) (AE))) (AE)))) (AE))))
def ahR{cs:φ}{ws:τ}{bs:List (List CZ)}{a:Nat}(DD:Hg cs ws)(DI:E5 cs bs)(AB:a<16){d0:AR}(hd:d0∈CH cs cs.length):∃G Ca,Told (EE ws bs a) d0 G Ca/\UM [Bg cs ws,BY bs,Ae d0,.int (a:Int)]=.ok (.v (.tup [.lst (G.map Ae),Ca])):=by
 have Pm:=Q7 DD.c cs.length;have Cu:=DD.Cu;suffices h:Ends (UM [Bg cs ws,BY bs,Ae d0,.int (a:Int)]) (λy=>∃G Ca,Told (EE ws bs a) d0 G Ca/\y=.v (.tup [.lst (G.map Ae),Ca]))by
  obtain⟨y,e,G,Ca,A5,rfl⟩:=h;exact⟨G,Ca,A5,e⟩
 have F7:∀x0 E2 E3 HH:D,UM [x0,E2,E3,HH]=(Yv [.A1 x0,.A1 E2,.A1 E3,.A1 HH,.un,.un]).bind outD:=λ_ _ _ _=>rfl;have Bh:Yv=Ab (Eg 4 (CL (AE))) (Ab (LG agj r6) r7):=rfl;have D7:Eg 4 (CL (AE)) [.A1 (Bg cs ws),.A1 (BY bs),.A1 (Ae d0),.A1 (.int (a:Int)),.un,.un]=.ok (.BG [.A1 (Bg cs ws),.A1 (BY bs),.A1 (Ae d0),.A1 (.int (a:Int)),.C8 [],.un]):=rfl;rw[F7,Bh,EZ,D7,BV,GD,EZ,RP];refine jS (λm ρ=>∃G d s5,tc (CH cs cs.length) (EE ws bs a) d0 G d/\m=30-G.length/\ρ=[.A1 (Bg cs ws),.A1 (BY bs),.A1 (Ae d),.A1 (.int (a:Int)),.C8 (G.map Ae),s5]) (λy=>∃G Ca,Told (EE ws bs a) d0 G Ca/\y=.tup [.lst (G.map Ae),Ca]) ?_ ?_ 1000 30 _ ⟨[],d0,.un,⟨.nil,(λe h=>nomatch h),hd,(λe h=>nomatch h),.z,.inr rfl,(λe h=>nomatch h),(λe h=>nomatch h)⟩,rfl,rfl⟩ ε
 .rintro m _ ⟨G,d,s5,w,rfl,rfl⟩;have gl:G.length<=24:=by
   have:=Lu w.CW w.TN
   lia
  refine⟨!decide (d∈G),acO rfl rfl,λAx=>?_,λAx=>?_⟩
  .have Ax:d∉G:=by simpa using Ax
   have ajr:G.length<24:=by
    have:=Lu (List.nodup_cons.mpr ⟨Ax,w.CW⟩) λx AJ=>by
     rcases List.mem_cons.mp AJ with rfl|AJ
     .exact w.Qs
     .exact w.TN x AJ
    simp at this;lia
   have x:=wG (ws:=ws) DI AB w.Qs;have b:AU (BY bs) (.int (d.1:Int))=.ok (D6 (bs.getD d.1 [])):=Pk (by rw[DI.l];exact(NQ.mp w.Qs).1);have EG:AU (Ae d) (.int 0)=.ok (.int (d.1:Int)):=rfl;have XH:=mz d.1 (EE ws bs a d);have Dw:=aaH (EE ws bs a d);have A7:JB 4 (A0 2) [.A1 (Bg cs ws),.A1 (BY bs),.A1 (Ae d),.A1 (.int (a:Int)),.C8 (G.map Ae),s5]=.ok (.BG [.A1 (Bg cs ws),.A1 (BY bs),.A1 (Ae d),.A1 (.int (a:Int)),.C8 ((G++[d]).map Ae),s5]):=by simp(disch:=first|lia|(simp;done)|(simp;lia))
   have AH:Bc 5 (CB 4 LI (A3 (A0 0) (A3 (A9 AU (A0 1) (A9 AU (A0 2) Δ)) (A3 (A0 2) (A3 (A0 3) (AE)))))) [.A1 (Bg cs ws),.A1 (BY bs),.A1 (Ae d),.A1 (.int (a:Int)),.C8 ((G++[d]).map Ae),s5]=.ok (.BG [.A1 (Bg cs ws),.A1 (BY bs),.A1 (Ae d),.A1 (.int (a:Int)),.C8 ((G++[d]).map Ae),.A1 (DM d.1 (EE ws bs a d))]):=by generalize bs.getD d.1 []=cM at b x;simp[EG,b,x]
   have cd:BF (A9 (Bi false) (A9 AU (A0 5) Δ) (AD (.str (Be "at")))) [.A1 (Bg cs ws),.A1 (BY bs),.A1 (Ae d),.A1 (.int (a:Int)),.C8 ((G++[d]).map Ae),.A1 (DM d.1 (EE ws bs a d))]=.ok (!Jc (EE ws bs a d)):=Jf (Fe (Fe rfl rfl XH) rfl Dw);rw[r6,EZ,A7,BV,GD,EZ,AH,BV,GD,EZ,Ph cd];have Tq:d0∈G++[d]:=by
    rcases w.cc with h|h
    .exact G2 _ h
    .rw[h];simp
   have N5:∀e∈G++[d],St (EE ws bs a) d0 e:=λe he=>by
    rcases List.mem_append.mp he with he|he
    .exact w.st e he
    .rw[List.mem_singleton.mp he];exact w.qQ
   by_cases q:Jc (EE ws bs a d)=false
   .rw[q];refine⟨_,rfl,.inr ⟨_,rfl,G++[d],_,⟨Tq,θ,N5,λe he=>?_,.inl ⟨d,γ,q,rfl,λe he AT=>?_⟩⟩,rfl⟩⟩
    .induction he with
     |z=>exact Tq
     |s x y _ h BW=>
      rcases List.mem_append.mp BW with BW|BW
      .obtain⟨g,g1,g2⟩:=w.cl x BW;rw[h]at g1;cases g1;rcases g2 with g2|rfl
       .exact G2 _ g2
       .simp
      .rw[List.mem_singleton.mp BW]at h;rw[h]at q;cases q
    .rcases List.mem_append.mp he with he|he
     .obtain⟨g,g1,_⟩:=w.cl e he;rw[g1]at AT;cases AT
     .exact List.mem_singleton.mp he
   .obtain⟨f,hf⟩:∃f,EE ws bs a d=.to f:=by
      cases z:EE ws bs a d with
      |to f=>exact⟨f,rfl⟩
      |drop=>rw[z]at q;exact absurd rfl q
      |out o=>rw[z]at q;exact absurd rfl q
    rw[hf];have NE:AU (DM d.1 (.to f)) (.int 1)=.ok (.int (f.1:Int)):=rfl;have TQ:AU (DM d.1 (.to f)) (.int 2)=.ok (.int (f.2:Int)):=rfl;refine⟨_,rfl,.inl ⟨_,30-(G++[d]).length,rfl,θ,G++[d],f,_,⟨?_,λe he=>?_,kq DD hf,N5,.s d f w.qQ hf,.inl Tq,λe he=>?_,λe he=>?_⟩,rfl,rfl⟩⟩
    .exact List.nodup_append.mpr ⟨w.CW,γ,λx AJ y BO z=>by rw[List.mem_singleton.mp BO]at z;exact Ax (z▸AJ)⟩
    .rcases List.mem_append.mp he with he|he
     .exact w.TN e he
     .rw[List.mem_singleton.mp he];exact w.Qs
    .rcases List.mem_append.mp he with he|he
     .obtain⟨g,g1,g2⟩:=w.cl e he
      exact⟨g,g1,.inl (by rcases g2 with g2|rfl;·exact G2 _ g2
                          .simp)⟩
     .rw[List.mem_singleton.mp he];exact⟨f,hf,.inr rfl⟩
    .rcases List.mem_append.mp he with he|he
     .exact .s d f (w.Ed e he) hf
     .rw[List.mem_singleton.mp he];exact .s d f .z hf
  .have Ax:d∈G:=Decidable.byContradiction λz=>by rw[decide_eq_false z]at Ax;cases Ax
   obtain⟨i,AC⟩:=yr Ax δ;have Tq:d0∈G:=by
    rcases w.cc with h|h
    .exact h
    .rw[<-h];exact Ax
   have ex:DS (A3 (A0 4) (A3 (DS (A3 (AD (.str (Be "ring"))) (A3 (SL (A0 4) (A3 (A0 2) (AE))) (AE)))) (AE))) [.A1 (Bg cs ws),.A1 (BY bs),.A1 (Ae d),.A1 (.int (a:Int)),.A1 (.lst (G.map Ae)),K7 s5]=.ok (.tup [.lst (G.map Ae),.tup [.str (Be "ring"),.int i]]):=by have Pj:SL (A0 4) (A3 (A0 2) (AE)) [.A1 (Bg cs ws),.A1 (BY bs),.A1 (Ae d),.A1 (.int (a:Int)),.A1 (.lst (G.map Ae)),K7 s5]=.ok (.int i):=AC;have v4:A0 4 [.A1 (Bg cs ws),.A1 (BY bs),.A1 (Ae d),.A1 (.int (a:Int)),.A1 (.lst (G.map Ae)),K7 s5]=.ok (.lst (G.map Ae)):=rfl;erw[qx,GY,Ip,ql,Pj,v4,BV];rfl
   refine⟨.v (.tup [.lst (G.map Ae),.tup [.str (Be "ring"),.int i]]),?_,G,_,⟨Tq,gl,w.st,λe he=>?_,.inr ⟨λe he=>?_,⟨d,Ax,?_⟩,i,rfl⟩⟩,rfl⟩
   .rw[GD,r7,qv];show((DS (A3 (A0 4) (A3 (DS (A3 (AD (.str (Be "ring"))) (A3 (SL (A0 4) (A3 (A0 2) (AE))) (AE)))) (AE))) [.A1 (Bg cs ws),.A1 (BY bs),.A1 (Ae d),.A1 (.int (a:Int)),.A1 (.lst (G.map Ae)),K7 s5]).bind _).bind _=_;rw[ex];rfl
   .induction he with
    |z=>exact Tq
    |s x y _ h BW=>
     obtain⟨g,g1,g2⟩:=w.cl x BW;rw[h]at g1;cases g1;rcases g2 with g2|rfl
     .exact g2
     .exact Ax
   .obtain⟨g,g1,_⟩:=w.cl e he;rw[g1];rfl
   .obtain⟨g,g1,g2⟩:=w.cl d Ax;refine⟨g,g1,?_⟩;rcases g2 with g2|rfl
    .exact w.Ed g g2
    .exact .z
 .rintro _ ⟨G,Ca,h,rfl⟩;exact⟨_,rfl,G,Ca,h,rfl⟩
def fU{f:AR->On}{a b:AR}(h:St f a b):b=a\/∃g,f a=.to g/\St f g b:=by
 induction h with
 |z=>exact .inl rfl
 |s x y _ h BW=>
  rcases BW with rfl|⟨g,g1,g2⟩
  .exact .inr ⟨y,h,.z⟩
  .exact .inr ⟨g,g1,.s x y g2 h⟩
def ag9{f:AR->On}{d a b:AR}(A5:St f d a)(A8:St f d b):St f a b\/St f b a:=by
 induction A5 with
 |z=>exact .inl A8
 |s x y _ h BW=>
  rcases BW with BW|BW
  .rcases fU BW with rfl|⟨g,g1,g2⟩
   .exact .inr (.s _ y .z h)
   .rw[h]at g1;cases g1;exact .inl g2
  .exact .inr (.s x y BW h)
def agA{f:AR->On}{e g b:AR}(A5:f e=.to g)(A8:St f g e)(h:St f e b):St f b e:=by
 induction h with
 |z=>exact .z
 |s x y _ h BW=>
  rcases fU BW with rfl|⟨g',g1,g2⟩
  .rw[A5]at h;cases h;exact A8
  .rw[h]at g1;cases g1;exact g2
def H5(f:AR->On)(d0:AR)(k:DG):Prop:=(∃e,St f d0 e/\k=(0,(e.1:Int),0))\/(∃l,St f d0 l/\Jc (f l)=false/\k=Oe l.1 (f l))\/(k=(3,0,0)/\∃e g,St f d0 e/\f e=.to g/\St f g e)
def acH{f:AR->On}{d0 l e g:AR}(AP:St f d0 l)(AT:Jc (f l)=false)(he:St f d0 e)(A5:f e=.to g)(A8:St f g e):False:=by
 have:St f l e:=by
  rcases ag9 he AP with h|h
  .exact agA A5 A8 h
  .exact h
 rcases fU this with rfl|⟨x,E2,_⟩
 .rw[A5]at AT;cases AT
 .rw[E2]at AT;cases AT
def atK(h:Int):DG:=(0,h,0)
theorem lf:∀AK:List Int,Je (AK.map λh=>.tup [.str (Be "at"),.int h])=some (AK.map atK)
 |[]=>rfl
 |h::AK=>by rw[Dc,Je,lf AK];rfl
theorem lc:∀{ds A2:χ}{ks aP:List DG},Je ds=some ks->Je A2=some aP->Je (ds++A2)=some (ks++aP)
 |[],A2,ks,aP,A5,A8=>by erw[Je]at A5;cases A5;exact A8
 |d::ds,A2,ks,aP,A5,A8=>by
  erw[Je]at A5
  split at A5
  .rename_i k ks' A7 AH;cases A5;rw[Xi,Je,A7,lc AH A8];rfl
  .cases A5
def ints_of(AK:List Int):SB (AK.map D.int)=some AK:=by
 induction AK with
 |nil=>rfl
 |cons h AK BW=>rw[Dc,SB,BW];rfl
def acs{f:AR->On}{d0:AR}{G:List AR}{Ca:D}(Gj:∀e∈G,e.1<6)(AN:∀e∈G,∀o,f e=.out o->o<4)(h:Told f d0 G Ca):∃IT,IT.Nodup/\(∀k∈IT,k∈FW)/\(∀k,k∈IT↔H5 f d0 k)/\NN [.tup [.lst (G.map Ae),Ca]]=.ok (.o ((LT.E4 IT).map Iz)):=by
 obtain⟨cc,gl,g1,g2,ge⟩:=h;have Gz:∀x:Int,x∈LT.JF (Ex.Fg (G.map λe=>(e.1:Int)))↔∃e,St f d0 e/\x=(e.1:Int):=λx=>by
  rw[show LT.JF (Ex.Fg (G.map λe=>(e.1:Int)))=(Ex.Fg (G.map λe=>(e.1:Int))).mergeSort LT.Ma from rfl,List.mem_mergeSort,Ex.ti,Si];constructor
  .rintro⟨e,he,rfl⟩;exact⟨e,g1 e he,rfl⟩
  .rintro⟨e,he,rfl⟩;exact⟨e,g2 e he,rfl⟩
 have mV:(LT.JF (Ex.Fg (G.map λe=>(e.1:Int)))).Nodup:=(SR _ _).nodup_iff.mpr (Ex.js _);have abB:(LT.JF (Ex.Fg (G.map λe=>(e.1:Int)))).length<=24:=by have e:(LT.JF (Ex.Fg (G.map λe=>(e.1:Int)))).length=(Ex.Fg (G.map λe=>(e.1:Int))).length:=(SR _ _).length_eq;have:=Ex.jr (G.map λe=>(e.1:Int));rw[Ea]at this;lia
 have nL:ba [.lst ((G.map λe=>(e.1:Int)).map D.int)]=.ok ((LT.JF (Ex.Fg (G.map λe=>(e.1:Int)))).map D.int):=by
  erw[ba,ints_of];rw[if_pos θ,if_pos (by rw[PF,Mv];intro e he;have:=Gj e he;simp;lia)]
 generalize LT.JF (Ex.Fg (G.map λe=>(e.1:Int)))=H at Gz mV abB nL;have key:∃(Co:DG)(s2:D),aU s2=some Co/\Co.1≠0/\Co∈FW/\(∀k,k∈H.map atK++[Co]↔H5 f d0 k)/\Cf (BF (A9 (Bi true) (A9 AU (A0 2) Δ) (AD (.str (Be "ring"))))) (Bc 2 (DS (A3 (AD (.str (Be "ring"))) (AE)))) (Cs) [.A1 (.tup [.lst (G.map Ae),Ca]),.A1 (.lst (H.map λh=>.tup [.str (Be "at"),.int h])),.A1 Ca]=.ok (.BG [.A1 (.tup [.lst (G.map Ae),Ca]),.A1 (.lst (H.map λh=>.tup [.str (Be "at"),.int h])),.A1 s2]):=by
  have iR:∀k,k∈H.map atK↔∃e,St f d0 e/\k=(0,(e.1:Int),0):=λk=>by
   rw[Si];constructor
   .rintro⟨x,AJ,rfl⟩;obtain⟨e,he,rfl⟩:=(Gz x).mp AJ;exact⟨e,he,rfl⟩
   .rintro⟨e,he,rfl⟩;exact⟨_,(Gz _).mpr ⟨e,he,rfl⟩,rfl⟩
  rcases ge with⟨l,AP,AT,rfl,BD⟩|⟨Np,⟨e,he,g,A5,A8⟩,i,rfl⟩
  .have hle:=Gj l AP;refine⟨Oe l.1 (f l),DM l.1 (f l),?_,?_,?_,λk=>?_,?_⟩
   .cases z:f l with
    |drop=>rfl
    |out o=>rfl
    |to e=>rw[z]at AT;cases AT
   .cases z:f l with
    |drop=>exact(by decide:(1:Int)≠0)
    |out o=>exact(by decide:(2:Int)≠0)
    |to e=>rw[z]at AT;cases AT
   .cases z:f l with
    |drop=>exact cR hle
    |out o=>exact cS hle (AN l AP o z)
    |to e=>rw[z]at AT;cases AT
   .rw[UX,Ui,iR];constructor
    .rintro(z|rfl)
     .exact .inl z
     .exact .inr (.inl ⟨l,g1 l AP,AT,rfl⟩)
    .rintro(z|⟨OR,s',Dl,rfl⟩|⟨rfl,e,g,s',A5,A8⟩)
     .exact .inl z
     .rw[BD OR (g2 OR s') Dl];exact .inr rfl
     .exact(acH (g1 l AP) AT s' A5 A8).elim
   .have XH:=mz l.1 (f l);have Dw:Bi true (st (dD (f l))) (.str (Be "ring"))=.ok (.AV false):=by cases f l<;>rfl
    have c:BF (A9 (Bi true) (A9 AU (A0 2) Δ) (AD (.str (Be "ring")))) [.A1 (.tup [.lst (G.map Ae),DM l.1 (f l)]),.A1 (.lst (H.map λh=>.tup [.str (Be "at"),.int h])),.A1 (DM l.1 (f l))]=.ok false:=Jf (Fe (Fe rfl rfl XH) rfl Dw);rw[Ph c];rfl
  .refine⟨(3,0,0),.tup [.str (Be "ring")],rfl,(by decide:(3:Int)≠0),cT,λk=>?_,?_⟩
   .rw[UX,Ui,iR];constructor
    .rintro(z|rfl)
     .exact .inl z
     .exact .inr (.inr ⟨rfl,e,g,g1 e he,A5,A8⟩)
    .rintro(z|⟨OR,s',Dl,rfl⟩|⟨rfl,_⟩)
     .exact .inl z
     .rw[Np OR (g2 OR s')]at Dl;cases Dl
     .exact .inr rfl
   .have c:BF (A9 (Bi true) (A9 AU (A0 2) Δ) (AD (.str (Be "ring")))) [.A1 (.tup [.lst (G.map Ae),.tup [.str (Be "ring"),.int i]]),.A1 (.lst (H.map λh=>.tup [.str (Be "at"),.int h])),.A1 (.tup [.str (Be "ring"),.int i])]=.ok true:=Jf rfl;rw[Ph c];rfl
 obtain⟨Co,s2,k1,k2,k3,I7,k5⟩:=key;refine⟨H.map atK++[Co],?_,λk AG=>?_,I7,?_⟩
 .refine List.nodup_append.mpr ⟨List.pairwise_map.mpr (mV.imp λh z=>h (by have:=congrArg (λq:DG=>q.2.1) z;exact this)),γ,λx AJ y BO z=>?_⟩;rw[List.mem_singleton.mp BO]at z;obtain⟨q,_,rfl⟩:=List.mem_map.mp AJ;rw[<-z]at k2;exact k2 rfl
 .rcases List.mem_append.mp AG with AG|AG
  .obtain⟨x,AJ,rfl⟩:=List.mem_map.mp AG;obtain⟨e,he,rfl⟩:=(Gz x).mp AJ;exact cQ (Gj e (g2 e he))
  .rw[List.mem_singleton.mp AG];exact k3
 .have F7:∀x0:D,NN [x0]=(YS [.A1 x0,.un,.un]).bind outD:=λ_=>rfl;have U5:∀r:R χ,r=r.bind .ok:=λr=>by cases r<;>rfl
  have B_:D3 1 [] (Er (A9 AU (A0 0) Δ)) (BR 0) (ET) (A9 AU (A0 0) Δ) [.A1 (.tup [.lst (G.map Ae),Ca]),.un,.un]=.ok ((G.map λe=>(e.1:Int)).map D.int):=by apply Ends.done;rw[U5 (D3 _ _ _ _ _ _ _)];exact Qy Ae G (λe=>.int (e.1:Int)) rfl δ (λe _=>rfl) ⟨_,rfl,by rw[Hd];rfl⟩
  have EQ:R_ (A3 (BQ (D3 1 [] (Er (A9 AU (A0 0) Δ)) (BR 0) (ET) (A9 AU (A0 0) Δ))) (AE)) [.A1 (.tup [.lst (G.map Ae),Ca]),.un,.un]=.ok (H.map D.int):=by unfold R_;rw[GY,Jx,B_,BV,BV,Ip,BV,BV];exact nL
  have Hk:D3 1 [] (Er (BQ (R_ (A3 (BQ (D3 1 [] (Er (A9 AU (A0 0) Δ)) (BR 0) (ET) (A9 AU (A0 0) Δ))) (AE))))) (BR 0) (ET) (DS (A3 (AD (.str (Be "at"))) (A3 (A0 0) (AE)))) [.A1 (.tup [.lst (G.map Ae),Ca]),.un,.un]=.ok (H.map λh=>.tup [.str (Be "at"),.int h]):=by apply Ends.done;rw[U5 (D3 _ _ _ _ _ _ _)];refine Qy D.int H (λh=>.tup [.str (Be "at"),.int h]) ?_ δ (λe _=>rfl) ⟨_,rfl,rfl⟩;have OO:∀(m:A_)(ρ:AI),Er m ρ=(m ρ).bind Tw:=λ_ _=>rfl;rw[OO,Jx,EQ];rfl
  have A7:NK 1 (D3 1 [] (Er (BQ (R_ (A3 (BQ (D3 1 [] (Er (A9 AU (A0 0) Δ)) (BR 0) (ET) (A9 AU (A0 0) Δ))) (AE))))) (BR 0) (ET) (DS (A3 (AD (.str (Be "at"))) (A3 (A0 0) (AE))))) [.A1 (.tup [.lst (G.map Ae),Ca]),.un,.un]=.ok (.BG [.A1 (.tup [.lst (G.map Ae),Ca]),.A1 (.lst (H.map λh=>.tup [.str (Be "at"),.int h])),.un]):=by rw[f5,f6,Hk,BV,if_pos γ,BV,fT];rfl
  have AH:Bc 2 (A9 AU (A0 0) Γ) [.A1 (.tup [.lst (G.map Ae),Ca]),.A1 (.lst (H.map λh=>.tup [.str (Be "at"),.int h])),.un]=.ok (.BG [.A1 (.tup [.lst (G.map Ae),Ca]),.A1 (.lst (H.map λh=>.tup [.str (Be "at"),.int h])),.A1 Ca]):=rfl;have aaT:Je ((H.map λh=>.tup [.str (Be "at"),.int h])++[s2])=some (H.map atK++[Co]):=lc (lf H) (by erw[Je,k1]);have CJ:bZ [.lst ((H.map λh=>.tup [.str (Be "at"),.int h])++[s2])]=.ok ((LT.E4 (H.map atK++[Co])).map Iz):=by erw[bZ,aaT];rw[if_pos θ]
  have B1:WC (A3 (BQ (I8 (A0 1) (BQ (CL (A3 (A0 2) (AE)))))) (AE)) [.A1 (.tup [.lst (G.map Ae),Ca]),.A1 (.lst (H.map λh=>.tup [.str (Be "at"),.int h])),.A1 s2]=.ok ((LT.E4 (H.map atK++[Co])).map Iz):=by unfold WC;have v1:A0 1 [.A1 (.tup [.lst (G.map Ae),Ca]),.A1 (.lst (H.map λh=>.tup [.str (Be "at"),.int h])),.A1 s2]=.ok (.lst (H.map λh=>.tup [.str (Be "at"),.int h])):=rfl;have v2:BQ (CL (A3 (A0 2) (AE))) [.A1 (.tup [.lst (G.map Ae),Ca]),.A1 (.lst (H.map λh=>.tup [.str (Be "at"),.int h])),.A1 s2]=.ok (.lst [s2]):=rfl;rw[GY,Jx,b9,v1,BV,v2,BV,ZZ θ,BV,BV,Ip,BV,BV];exact CJ
  rw[F7,YS,EZ,A7,BV,GD,EZ,AH,BV,GD,EZ,k5,BV,GD,qu,B1];rfl
theorem d7(N:BJ->On)(s:BJ):∀(j k:Nat),DR N s (j+k)=(DR N s j).bind λt=>DR N t k
 |j,0=>by cases h:DR N s j<;>simp[DR,h]
 |j,k+1=>by rw[<-Nv];erw[DR];rw[d7 N s j k];cases DR N s j<;>rfl
inductive Lb(F:Nat->AR->On)(n:Nat)(d0:AR):AR->Nat->Prop
 |st (k:Nat):k<n->Lb F n d0 d0 k
 |go (d e:AR) (c k:Nat):Lb F n d0 d c->F c d=.to e->c<=k->k<n->Lb F n d0 e k
def WF(f:AR->On)(d:AR)(k:DG):Prop:=k=(0,(d.1:Int),0)\/(Jc (f d)=false/\k=Oe d.1 (f d))\/(k=(3,0,0)/\∃g,f d=.to g/\St f g d)
def LZ(F:Nat->AR->On)(n:Nat)(d0:AR)(k:DG):Prop:=∃d c,Lb F n d0 d c/\WF (F c) d k
section
variable{cs:φ}{ws:τ}{Bk:Nat->List (List CZ)}{n a:Nat}{d0:AR}
theorem mH{d:AR}{c:Nat}:∀(m:Nat){t:BJ},DR (EJ ws Bk a) (d,c) m=some t->t.2=c/\St (EE ws (Bk c) a) d t.1
 |0,t,h=>by cases h;exact⟨rfl,.z⟩
 |m+1,t,h=>by
  erw[DR]at h;obtain⟨u,BD,AT⟩:=Option.bind_eq_some_iff.mp h;obtain⟨A5,A8⟩:=mH m BD;obtain⟨afY,akh⟩:=u;dsimp only at A5 A8;subst A5;unfold KN at AT
  split at AT
  .rename_i e he;cases AT;exact⟨rfl,.s afY e A8 he⟩
  .cases AT
def agB{d e:AR}{c:Nat}(h:St (EE ws (Bk c) a) d e):∃m,DR (EJ ws Bk a) (d,c) m=some (e,c):=by
 induction h with
 |z=>exact⟨0,rfl⟩
 |s x y _ h BW=>obtain⟨m,hm⟩:=BW;refine⟨m+1,?_⟩;have q:EJ ws Bk a (x,c)=.to y:=h;erw[DR,hm,Ue,KN,q]
def jq{d:AR}{c:Nat}:(∃m,1<=m/\DR (EJ ws Bk a) (d,c) m=some (d,c))↔∃g,EE ws (Bk c) a d=.to g/\St (EE ws (Bk c) a) g d:=by
 constructor
 .rintro⟨m,hm,h⟩;obtain⟨Ds,rfl⟩:∃Ds,m=1+Ds:=⟨m-1,δ⟩;rw[d7]at h;obtain⟨u,BD,h⟩:=Option.bind_eq_some_iff.mp h;have BD:KN (EJ ws Bk a) (d,c)=some u:=BD;unfold KN at BD
  split at BD
  .rename_i e he;cases BD;exact⟨e,he,(mH Ds h).2⟩
  .cases BD
 .rintro⟨g,A5,A8⟩;obtain⟨m,hm⟩:=agB A8;refine⟨1+m,δ,?_⟩;have q:EJ ws Bk a (d,c)=.to g:=A5;have A7:DR (EJ ws Bk a) (d,c) 1=some (g,c):=by erw[DR,Ue,KN,q]
  rw[d7,A7];exact hm
def adg{s:BJ}(h:Om (EJ ws Bk a) n d0 s):Lb (λc=>EE ws (Bk c) a) n d0 s.1 s.2:=by
 induction h with
 |st k AG=>exact .st k AG
 |go s e k _ AQ A5 A8 BW=>exact .go s.1 e s.2 k BW AQ A5 A8
def adn{d:AR}{c:Nat}(h:Lb (λc=>EE ws (Bk c) a) n d0 d c):Om (EJ ws Bk a) n d0 (d,c):=by
 induction h with
 |st k AG=>exact .st k AG
 |go d e c k _ AQ A5 A8 BW=>exact .go (d,c) e k BW AQ A5 A8
def aeW{W:GQ}{U:To}(g:Good (CH cs cs.length) (EJ ws Bk a) n d0 W U [])(h0:((d0,0):BJ)∈W.map (·.1)){s:BJ}(h:Om (EJ ws Bk a) n d0 s):s∈W.map (·.1):=by
 have up:∀{d:AR}{c k:Nat},((d,c):BJ)∈W.map (·.1)->c<=k->k<n->((d,k):BJ)∈W.map (·.1):=λ{d c k} h A5 A8=>by obtain⟨p,AX,Ak⟩:=List.mem_map.mp h;have:=g.up p AX k (by rw[Ak];exact A5) A8;rw[Ak]at this;exact this
 induction h with
 |st k AG=>exact up h0 (Hy _) AG
 |go s e k _ AQ A5 A8 BW=>have:((e,s.2):BJ)∈W.map (·.1):=mn g BW (by unfold KN;rw[AQ]);exact up this A5 A8
end
def eQ{cs:φ}{ws:τ}{os nw:List (List CZ)}{row:φ}{a:Nat}{d0:AR}(DD:Hg cs ws)(DI:E5 cs os)(bn:E5 cs nw)(B8:row.length<=6)(AB:a<16)(hd:d0∈CH cs cs.length) :
  ∃K:List DG,K.Nodup/\(∀k∈K,k∈FW)/\(∀k,k∈K↔LZ (λc=>EE ws (DB os nw row c) a) (row.length+1) d0 k)/\NO [Bg cs ws,BY os,BY nw,.lst (row.map Bb),Ae d0,.int (a:Int)]=.ok (.o ((LT.E4 K).map Ce)):=by
 obtain⟨W,U,P,g,h0,mo,em⟩:=aaY (row:=row) DD DI bn B8 AB hd;unfold eZ at em;have A2:=aal (ds:=[]) mo.QJ em;refine⟨P.map (·.1),mo.QJ.CW,mo.QJ.cd,λk=>?_,A2⟩;constructor
 .intro AG;obtain⟨p,AX,w⟩:=mo.so k AG;refine⟨p.1.1,p.1.2,adg (g.rc p AX),?_⟩;rcases w with rfl|⟨A5,rfl⟩|⟨rfl,h⟩
  .exact .inl rfl
  .exact .inr (.inl ⟨A5,rfl⟩)
  .exact .inr (.inr ⟨rfl,(jq (d0:=d0)).mp h⟩)
 .rintro⟨d,c,h,w⟩;obtain⟨p,AX,Ak⟩:=List.mem_map.mp (aeW g h0 (adn h));have Fk:=mo.at_ p AX;have FY:=mo.Ca p AX;have NF:=mo.NV p AX;rw[Ak]at Fk FY NF;rcases w with rfl|⟨A5,rfl⟩|⟨rfl,h⟩
  .exact Fk
  .exact FY A5
  .exact NF ((jq (d0:=d0)).mpr h)
def aaX{F:Nat->AR->On}{f:AR->On}{n:Nat}(AQ:1<=n)(GN:∀c,c<n->F c=f)(d0:AR)(k:DG):LZ F n d0 k↔H5 f d0 k:=by
 have lt:∀{d c},Lb F n d0 d c->c<n:=λh=>by cases h<;>assumption
 have rs:∀{d c},Lb F n d0 d c->St f d0 d:=λh=>by
  induction h with
  |st k AG=>exact .z
  |go d e c k h AQ A5 A8 BW=>rw[GN c (lt h)]at AQ;exact .s d e BW AQ
 have Ru:∀{d},St f d0 d->Lb F n d0 d 0:=λh=>by
  induction h with
  |z=>exact .st 0 δ
  |s x y _ h BW=>exact .go x y 0 0 BW (by rw[GN 0 δ];exact h) (CS _) δ
 constructor
 .rintro⟨d,c,h,w⟩;rw[GN c (lt h)]at w;rcases w with rfl|⟨A5,rfl⟩|⟨rfl,g,A5,A8⟩
  .exact .inl ⟨d,rs h,rfl⟩
  .exact .inr (.inl ⟨d,rs h,A5,rfl⟩)
  .exact .inr (.inr ⟨rfl,d,g,rs h,A5,A8⟩)
 .rintro(⟨e,h,rfl⟩|⟨l,h,q,rfl⟩|⟨rfl,e,g,h,A5,A8⟩)
  .exact⟨e,0,Ru h,.inl rfl⟩
  .exact⟨l,0,Ru h,by rw[GN 0 δ];exact .inr (.inl ⟨q,rfl⟩)⟩
  .exact⟨e,0,Ru h,by rw[GN 0 δ];exact .inr (.inr ⟨rfl,g,A5,A8⟩)⟩
def aB{F F':Nat->AR->On}{n GV:Nat}(AQ:n<=GV)(GN:∀c,c<n->F c=F' c){d0:AR}{k:DG}(h:LZ F n d0 k):LZ F' GV d0 k:=by
 have lt:∀{d c},Lb F n d0 d c->c<n:=λh=>by cases h<;>assumption
 obtain⟨d,c,h,w⟩:=h;refine⟨d,c,?_,by rw[<-GN c (lt h)];exact w⟩;clear w;induction h with
 |st k AG=>exact .st k δ
 |go d e c k h AT A5 A8 BW=>exact .go d e c k BW (by rw[<-GN c (lt h)];exact AT) A5 δ
def ad4{F:Nat->AR->On}{n c:Nat}(AO:c<n){d0:AR}{k:DG}(h:H5 (F c) d0 k):LZ F n d0 k:=by
 have Ru:∀{d},St (F c) d0 d->Lb F n d0 d c:=λh=>by
  induction h with
  |z=>exact .st c AO
  |s x y _ h BW=>exact .go x y c c BW h (CS _) AO
 rcases h with⟨e,h,rfl⟩|⟨l,h,q,rfl⟩|⟨rfl,e,g,h,A5,A8⟩
 .exact⟨e,c,Ru h,.inl rfl⟩
 .exact⟨l,c,Ru h,.inr (.inl ⟨q,rfl⟩)⟩
 .exact⟨e,c,Ru h,.inr (.inr ⟨rfl,g,A5,A8⟩)⟩
def ab4{F F':Nat->AR->On}{n GV:Nat}(h0:1<=n)(AQ:n<=GV)(GN:∀c,c<n->F' c=F c)(FJ:∀c,n<=c->c<GV->F' c=F (n-1)){d0:AR}{k:DG}(h:LZ F' GV d0 k):LZ F n d0 k:=by
 have lt:∀{d c},Lb F' GV d0 d c->c<GV:=λh=>by cases h<;>assumption
 have k7:∀c,c<GV->F' c=F (min c (n-1)):=λc AO=>by
  by_cases q:c<n
  .rw[GN c q,g_ δ]
  .rw[FJ c δ AO,Nat.min_eq_right δ]
 obtain⟨d,c,h,w⟩:=h;rw[k7 c (lt h)]at w;refine⟨d,min c (n-1),?_,w⟩;clear w;induction h with
 |st k AG=>exact .st _ δ
 |go d e c k h AT A5 A8 BW=>rw[k7 c (lt h)]at AT;exact .go d e _ _ BW AT δ δ
def aeX(cell:Int)(n:Nat)(AQ:n<=6):∃row:φ,(row.length<=6/\row.Nodup/\∀x∈row,x<n)/\Rg [.int cell,.int (n:Int)]=.ok (.o (row.map Bb)):=by
 suffices h:Ends (Rg [.int cell,.int (n:Int)]) λb=>∃row:φ,(row.length<=6/\row.Nodup/\∀x∈row,x<n)/\b=.o (row.map Bb)by
  obtain⟨b,e,row,h,rfl⟩:=h;exact⟨row,h,e⟩
 obtain⟨y,DZ⟩:=Me cell 3 ε;have T5:FL [.int cell,.int 3]=.ok (.v (.int y)):=DZ;obtain⟨m,hm,em⟩:=KI y (n:=n+1) δ;have Qx:y%((n:Int)+1)=(m:Int):=by rw[<-em];simp
 have QN:Ft 0 n=(DK n).map Bb:=by rw[eJ];rfl
 simp![Rg,h4,lim,T5,Qx];refine Os m (λj ρ=>∃(R row:φ)(s4:Bw),R.length+j=n/\row.length=j/\(R++row).Perm (DK n)/\ρ=[.A1 (.int cell),.A1 (.int (n:Int)),.C8 (R.map Bb),.C8 (row.map Bb),s4]) (by simp[T5,Qx];exact QO m δ) ⟨DK n,[],.un,γ,rfl,γ,by rw[QN];rfl⟩ ?_ ?_
 .rintro j _ Bs ⟨R,row,s4,A5,A8,Au,rfl⟩;obtain⟨z,RN⟩:=Me cell (4+j) δ;have vB:FL [.int cell,.int (4+(j:Int))]=.ok (.v (.int z)):=by rw[<-RN];simp
  obtain⟨k,AG,Co⟩:=KI z (n:=R.length) δ;have g:=eC Bb (i:=2) AG δ;have pm:(R.eraseIdx k++(row++[R[k]])).Perm (DK n):=by refine sZ ?_ Au;rw[<-Qj];refine(List.perm_append_singleton _ _).trans ?_;rw[<-Xi];exact List.Perm.append_right _ (Zk R k AG)
  simp![vB,Co,g];exact⟨R.eraseIdx k,by rw[XP AG];lia,row++[R[k]],by simp[A8],pm,γ⟩
 .rintro _ ⟨R,row,s4,A5,A8,Au,rfl⟩;have CW:=(Au.nodup_iff.mpr List.nodup_range);have mem:∀x∈row,x<n:=λx AJ=>List.mem_range.mp (Au.mem_iff.mp (Fb _ AJ));simp;exact⟨row,⟨δ,(List.nodup_append.mp CW).2.1,mem⟩,rfl⟩
def a7(os nw:List (List CZ))(row:φ)(k h:Nat):(DB os nw row k).getD h []=if h<os.length then(if h∈row.take k then nw.getD h []else os.getD h [])else[]:=by
 unfold DB;rw[HI,Dm];by_cases An:h<os.length
 .rw[QY An,if_pos An];rfl
 .rw[if_neg An,XY θ];rfl
def ko{ws:τ}{bs il:List (List CZ)}{a:Nat}(h:∀i,bs.getD i []=il.getD i []):EE ws bs a=EE ws il a:=by
 funext d
 unfold EE;rw[h]
def l4{bs:List (List CZ)}{h:Nat}(An:¬h<bs.length):bs.getD h []=[]:=by rw[HI,XY δ];rfl
def aau(os nw:List (List CZ))(k i:Nat):(DB os nw [] k).getD i []=os.getD i []:=by
 rw[a7]
 split
 .simp
 .rename_i h;rw[l4 h]
def aav(nw:List (List CZ))(row:φ)(k i:Nat):(DB nw nw row k).getD i []=nw.getD i []:=by
 rw[a7]
 split
 .split<;>rfl
 .rename_i h;rw[l4 h]
def nE(os nw:List (List CZ))(row:φ){c k:Nat}(h:k<=c):DB os nw (row.take c) k=DB os nw row k:=by unfold DB;rw[List.take_take,g_ h]
def aas(os nw:List (List CZ))(row al:φ){k:Nat}(h:k<=row.length):DB os nw (row++al) k=DB os nw row k:=by unfold DB;rw[rk h]
def aar{os nw:List (List CZ)}{row al:φ}(AB:∀h∈al,os.getD h []=nw.getD h []){k:Nat}(AG:row.length<=k)(i:Nat):(DB os nw (row++al) k).getD i []=(DB os nw row row.length).getD i []:=by
 rw[a7,a7,List.take_append,UT AG,Xk]
 split
 .by_cases A5:i∈row
  .rw[if_pos (G2 _ A5),if_pos A5]
  .rw[if_neg A5];by_cases A8:i∈al.take (k-row.length)
   .rw[if_pos (Fb _ A8)];exact(AB i (sW A8)).symm
   .rw[if_neg (λz=>(List.mem_append.mp z).elim A5 A8)]
 .rfl
theorem jc:∀{xs:χ},(∀x∈xs,CE x x=true)->Dp xs xs=true
 |[],_=>by simp[Dp]
 |x::xs,h=>by simp[Dp,h x γ,jc (xs:=xs) λy BO=>h y (by simp[BO])]
def jZ:∀(n:Nat)(d:D),okN n d=true->CE d d=true:=by
 intro n;induction n with
 |zero=>intro d h;cases d<;>simp[okN]at h<;>simp[CE]
 |succ n BW=>
  intro d h;cases d<;>erw[okN,HJ]at h<;>erw[CE,beq_self_eq_true]
  all_goals exact jc λx AJ=>BW x (List.all_eq_true.mp h x AJ)
def Zl{α:Type}(f:α->D)(n:Nat)(l:List α)(h:∀x∈l,okN n (f x)=true):okN (n+1) (.lst (l.map f))=true:=by erw[okN,PF,Mv];exact h
def WX{n:Nat}{k:DG}(h:k∈FW):okN (n+1) (Ce k)=true:=by rcases Tl h with g|g|g|g<;>rw[g]<;>cases n<;>rfl
def mw{n:Nat}{k:DG}(h:k∈FW):okN (n+1) (Iz k)=true:=by rcases Tl h with g|g|g|g<;>rw[g]<;>cases n<;>rfl
def je{k:DG}(h:k∈FW):CE (Ce k) (Iz k)=true:=by
 rcases Tl h with g|g|g|g<;>rw[g]
 .show((Be "at"==Be "at")&&((k.2.1==k.2.1)&&true))=true;simp
 .show((Be "drop"==Be "drop")&&((k.2.1==k.2.1)&&true))=true;simp
 .show((Be "out"==Be "out")&&((k.2.1==k.2.1)&&((k.2.2==k.2.2)&&true)))=true;simp
 .rfl
theorem jb:∀{T:List DG},(∀k∈T,k∈FW)->Dp (T.map Ce) (T.map Iz)=true
 |[],_=>by simp[Dp]
 |k::T,h=>by simp[Dp,je (h k γ),jb (T:=T) λx AJ=>h x (by simp[AJ])]
def jf{T:List DG}(h:∀k∈T,k∈FW):Bi false (.lst (T.map Ce)) (.lst (T.map Iz))=.ok (.AV false):=by have Ci:=Zl Ce 7 T λk AG=>WX (n:=6) (h k AG);have Cj:=Zl Iz 7 T λk AG=>mw (n:=6) (h k AG);have e:CE (.lst (T.map Ce)) (.lst (T.map Iz))=true:=jb h;unfold Bi;rw[if_pos ⟨Ci,Cj⟩,e];rfl
def zW{T:List DG}(C7:∀k∈T,k∈FW){k:DG}(AG:k∈T):inD true (Ce k) (.lst (T.map Ce))=.ok (.AV true):=by
 have o:(T.map Ce).all (okN 7)=true:=by rw[PF,Mv];exact λx AJ=>WX (n:=6) (C7 x AJ)
 have ok:=WX (n:=6) (C7 k AG);have a:((T.map Ce).any λy=>CE y (Ce k))=true:=by rw[O1,Sd];exact⟨k,AG,jZ 7 _ ok⟩
 have s:NW (.lst (T.map Ce))=some (T.map Ce):=rfl;erw[inD,s];rw[if_pos ⟨ok,o⟩,if_pos trivial,a]
def zX{T:List DG}(C7:∀k∈T,k∈FW){k:DG}(AG:k∈T):inD true (Iz k) (.lst (T.map Ce))=.ok (.AV true):=by
 have o:(T.map Ce).all (okN 7)=true:=by rw[PF,Mv];exact λx AJ=>WX (n:=6) (C7 x AJ)
 have a:((T.map Ce).any λy=>CE y (Iz k))=true:=by rw[O1,Sd];exact⟨k,AG,je (C7 k AG)⟩
 have s:NW (.lst (T.map Ce))=some (T.map Ce):=rfl;erw[inD,s];rw[if_pos ⟨mw (n:=6) (C7 k AG),o⟩,if_pos trivial,a]
def q1{l m:List DG}(AP:l.Nodup)(hm:m.Nodup)(h:∀k,k∈l↔k∈m):LT.E4 l=LT.E4 m:=by have p:l.Perm m:=(List.perm_ext_iff_of_nodup AP hm).mpr h;exact LT.fQ ((LT.Jp l).trans p) (Xa LT.lG LT.lF l)
def mQ{a b:Option Nat}(h:CE (FN a) (FN b)=true):a=b:=by
 cases a<;>cases b<;>simp[FN,CE]at h |-
 lia
def adz{r s:CZ}(h:CE (FC r) (FC s)=true):r=s:=by have h:((r.p==s.p)&&(CE (FN r.a) (FN s.a)&&(CE (FN r.b) (FN s.b)&&true)))=true:=h;rw[S_,FR,FR,beq_iff_eq]at h;obtain⟨A5,A8,Au⟩:=h;cases r;cases s;erw[CZ.mk.injEq];exact⟨A5,mQ A8,mQ Au⟩
theorem ie:∀{b c:List CZ},Dp (b.map FC) (c.map FC)=true->b=c
 |[],[],_=>rfl
 |[],_::_,h=>by simp[Dp]at h
 |_::_,[],h=>by simp[Dp]at h
 |r::b,s::c,h=>by erw[Dc,Dp,FR]at h;rw[adz h.1,ie h.2]
section
variable{cs:φ}{ws:τ}{os nw:List (List CZ)}{row:φ}{a:Nat}{d0:AR}
def aat(DI:E5 cs os)(bn:E5 cs nw)(k:Nat):E5 cs (DB os nw row k):=by
 refine⟨a8 DI k,λi b J=>?_⟩;have AC:i<cs.length:=by have:=(List.getElem?_eq_some_iff.mp J).1;rw[a8 DI k]at this;exact this
 have:=eR (row:=row) DI bn k AC;have e:(DB os nw row k).getD i []=b:=by rw[HI,J];rfl
 rw[e]at this;exact this
def wH{bs:List (List CZ)}(DD:Hg cs ws)(DI:E5 cs bs){d:AR}(hd:d∈CH cs cs.length){o:Nat}(h:EE ws bs a d=.out o):o<4:=by
 have Ed:=ZJ DI (NQ.mp hd).1;have IH:=ZI (λc AO=>(DD.c c AO).2) d.1;unfold EE BG at h;generalize bs.getD d.1 []=b at Ed h
 split at h
 .cases h
 .split at h
  .cases h
  .rename_i Bo K5
   split at h
   .cases h;obtain⟨r,B8,Bh⟩:=Option.bind_eq_some_iff.mp K5;have:=(Ed.2 r (HY B8)).b o Bh
    lia
   .cases h
def oO{bs:List (List CZ)}(DD:Hg cs ws)(DI:E5 cs bs)(AB:a<16)(hd:d0∈CH cs cs.length)(AQ:d0∉ends ws):∃(IT:List DG)(t:D),IT.Nodup/\(∀k∈IT,k∈FW)/\(∀k,k∈IT↔H5 (EE ws bs a) d0 k)/\NP [Bg cs ws,BY bs,Ae d0,.int (a:Int)]=.ok (.v t)/\NN [t]=.ok (.o ((LT.E4 IT).map Iz)):=by
 obtain⟨G,Ca,EV,HS⟩:=ahR DD DI AB hd;have TN:∀e,St (EE ws bs a) d0 e->e∈CH cs cs.length:=λe h=>by
  induction h with
  |z=>exact hd
  |s x y _ h _=>exact kq DD h
 have Cu:=DD.Cu;obtain⟨IT,k1,k2,k3,I7⟩:=acs (λe he=>by have:=(NQ.mp (TN e (EV.2.2.1 e he))).1;lia) (λe he o h=>wH DD DI (TN e (EV.2.2.1 e he)) h) EV;have PT:=abb ws hd;rw[decide_eq_false AQ]at PT;have ad:Rb [.int (a:Int)]=.ok (.v (.AV true)):=by
  rw[j7];have A5:(0:Int)<=(a:Int):=δ
  have A8:(a:Int)<=15:=δ
  simp[A5,A8]
 exact⟨IT,_,k1,k2,k3,ahS (uO Cu DI) PT ad HS,I7⟩
noncomputable def Eh(cs:φ)(ws:τ)(os nw:List (List CZ))(row:φ)(d0:AR)(a:Nat)(Da s8 s9 F_ Fu:Bw):AI:=[.A1 (Bg cs ws),.A1 (.tup [BY os,BY nw]),.A1 (.lst (row.map Bb)),.A1 (Ae d0),.A1 (.int (a:Int)),.A1 (BY os),.A1 (BY nw),Da,s8,s9,F_,Fu]
def Ob(x y z:A_):A_:=BQ (EM 6 NO (A3 (A0 0) (A3 x (A3 y (A3 z (A3 (A0 3) (A3 (A0 4) (AE))))))))
def PS(x:A_):A_:=BQ (EM 1 NN (A3 (Po 4 NP (A3 (A0 0) (A3 x (A3 (A0 3) (A3 (A0 4) (AE)))))) (AE)))
def aJ{x y z:A_}{ρ:AI}{X Y Z:D}{T:χ}(h0:A0 0 ρ=.ok (Bg cs ws))(Au:A0 3 ρ=.ok (Ae d0))(BC:A0 4 ρ=.ok (.int (a:Int)))(AJ:x ρ=.ok X)(BO:y ρ=.ok Y)(Ao:z ρ=.ok Z)(e:NO [Bg cs ws,X,Y,Z,Ae d0,.int (a:Int)]=.ok (.o T)):Ob x y z ρ=.ok (.lst T):=by erw[Ob,Jx,XC,GY,Ip,h0,Au,BC,AJ,BO,Ao,BV,HL,Lz,if_true,e];rfl
def eh{x:A_}{ρ:AI}{X t:D}{T:χ}(h0:A0 0 ρ=.ok (Bg cs ws))(Au:A0 3 ρ=.ok (Ae d0))(BC:A0 4 ρ=.ok (.int (a:Int)))(AJ:x ρ=.ok X)(A7:NP [Bg cs ws,X,Ae d0,.int (a:Int)]=.ok (.v t))(AH:NN [t]=.ok (.o T)):PS x ρ=.ok (.lst T):=by erw[PS,Jx,XC,ah9,GY,Ip,h0,Au,BC,AJ,BV,HL,Lz,if_true,A7,UP,show ∀d,Ks (.v d)=.ok d from λ_=>rfl,AH];rfl
def oz{bs:List (List CZ)}{X Y:List (List CZ)}{rw_:φ}(DD:Hg cs ws)(uR:E5 cs X)(uS:E5 cs Y)(DI:E5 cs bs)(B8:rw_.length<=6)(AB:a<16)(hd:d0∈CH cs cs.length)(AQ:d0∉ends ws)(h:∀k i,(DB X Y rw_ k).getD i []=bs.getD i []) :
  ∃(T:List DG)(t:D),(∀k∈T,k∈FW)/\NO [Bg cs ws,BY X,BY Y,.lst (rw_.map Bb),Ae d0,.int (a:Int)]=.ok (.o (T.map Ce))/\NP [Bg cs ws,BY bs,Ae d0,.int (a:Int)]=.ok (.v t)/\NN [t]=.ok (.o (T.map Iz)):=by
 obtain⟨K,k1,k2,k3,I7⟩:=eQ (row:=rw_) DD uR uS B8 AB hd;obtain⟨IT,t,F1,DJ,OS,Sr,aW⟩:=oO DD DI AB hd AQ;have eq:LT.E4 K=LT.E4 IT:=q1 k1 F1 λk=>by rw[k3,OS];exact aaX δ (λc _=>ko (h c)) d0 k
 rw[<-eq]at aW;exact⟨LT.E4 K,t,λk AG=>k2 k ((LT.Jp _).mem_iff.mp AG),I7,Sr,aW⟩
noncomputable def WW:As:=Ab (Bc 9 (Ob (A0 5) (A0 6) (I9 HV (A0 2) (NH) (GU (A0 8)))))
    (Ab (Cf (ES (BF (Bz CR.CH (A3 (BQ (D3 1 [9] (Er (A0 7)) (BR 0) (ET) (A9 (inD true) (A0 0) (A0 1)))) (AE))))) (Cc (AD (.AV false))) (Cs))
    (Ab (Bc 10 (A9 AU (BQ (EM 3 Rf (A3 (A0 5) (A3 (A0 6) (A3 (A0 2) (AE)))))) (A0 8)))
    (Ab (Cf (ES (BF (Bz CR.CH (A3 (BQ (D3 1 [9] (Er (PS (A0 10))) (BR 0) (ET) (A9 (inD true) (A0 0) (A0 1)))) (AE))))) (Cc (AD (.AV false))) (Cs))
    (Bc 7 (A0 9)))))
def ef:As:=NK 11 (D3 1 [2,5,6] (FK (A3 (Bz CN (A3 (A0 5) (AE))) (AE))) (BR 0) (Ig (BF (A9 (Bi true) (A9 AU (A0 2) (A0 0)) (A9 AU (A0 3) (A0 0)))) (BF (A9 (inD false) (A0 0) (A0 1)))) (A0 0))
def abv:YR=Ab (Md (Fv [BR 5,BR 6]) (A0 1))
  (Ab (Cf (BF (A9 (Bi false) (Ob (A0 5) (A0 6) (BQ (CL (AE)))) (PS (A0 5)))) (Cc (AD (.AV false))) (Cs))
  (Ab (Cf (BF (A9 (Bi false) (Ob (A0 6) (A0 6) (A0 2)) (PS (A0 6)))) (Cc (AD (.AV false))) (Cs))
  (Ab (Bc 7 (BQ (CL (AE))))
  (Ab (Ep (FK (A3 (A9 DP (Bz CN (A3 (A0 2) (AE))) Γ) (AE))) (BR 8) WW)
  (Ab ef
  (Cc (A9 (Bi true) (Ob (A0 5) (A0 6) (BQ (I8 (A0 2) (A0 11)))) (A0 7)))))))):=rfl
def jC{α:Type}{g:α->D}{xs:List α}{T:χ}{mi:Ap}{ρ:AI}(AP:xs.length<=1000)(bl:H8 (ρ.getD 9 .un)=.A1 (.lst T))(AC:mi ρ=.ok (xs.map g))(h:∀x∈xs,inD true (g x) (.lst T)=.ok (.AV true)):ES (BF (Bz CR.CH (A3 (BQ (D3 1 [9] mi (BR 0) (ET) (A9 (inD true) (A0 0) (A0 1)))) (AE)))) ρ=.ok false:=by
 have c:D3 1 [9] mi (BR 0) (ET) (A9 (inD true) (A0 0) (A0 1)) ρ=.ok (xs.map λ_=>.AV true):=by
  apply Ends.done;have U5:∀r:R χ,r=r.bind .ok:=λr=>by cases r<;>rfl
  rw[U5 (D3 _ _ _ _ _ _ _)];refine Qy g xs (λ_=>.AV true) AC AP (λx AJ=>?_) ⟨_,rfl,rfl⟩;rw[Dc,bl];exact Fe (x:=g x) (y:=.lst T) rfl rfl (h x AJ)
 have al:=Tf (λ_:α=>true) xs;have Yj:xs.all (λ_=>true)=true:=γ
 rw[Yj]at al;refine cq (c:=true) (Jf ?_);rw[f3,GY,Jx,c,BV,BV,Ip,BV,BV];exact al
def acS(DD:Hg cs ws)(DI:E5 cs os)(bn:E5 cs nw)(B8:row.length<=6)(AB:a<16)(hd:d0∈CH cs cs.length)(AQ:d0∉ends ws){c:Nat}(AO:c<=row.length){L:List DG}(FJ:L.length<=100)(hm:∀k∈L,LZ (λc=>EE ws (DB os nw row c) a) (c+1) d0 k)(s9 F_ Fu:Bw) :
  ∃K:List DG,K.Nodup/\(∀k∈K,k∈FW)/\(∀k,k∈K↔LZ (λc=>EE ws (DB os nw row c) a) (c+1) d0 k)/\∃pX pW,WW (Eh cs ws os nw row d0 a (.A1 (.lst (L.map Ce))) (.A1 (Bb c)) s9 F_ Fu)=.ok (.BG (Eh cs ws os nw row d0 a (.A1 (.lst ((LT.E4 K).map Ce))) (.A1 (Bb c)) pX pW Fu)):=by
 have Cu:=DD.Cu;have lt:(row.take c).length=c:=by rw[Sb];lia
 obtain⟨K,k1,k2,k3,I7⟩:=eQ (row:=row.take c) DD DI bn δ AB hd;rw[lt]at k3;have Pl:∀k,k∈K↔LZ (λc=>EE ws (DB os nw row c) a) (c+1) d0 k:=λk=>by
  rw[k3];constructor
  .exact aB (CS _) λj Bs=>by rw[nE os nw row δ]
  .exact aB (CS _) λj Bs=>by rw[nE os nw row δ]
 obtain⟨IT,t,F1,DJ,OS,Sr,aW⟩:=oO DD (aat (row:=row) DI bn c) AB hd AQ;have C7:∀k∈LT.E4 K,k∈FW:=λk AG=>k2 k ((LT.Jp _).mem_iff.mp AG);have cr:∀k,k∈LT.E4 K↔k∈K:=λk=>(LT.Jp _).mem_iff;have ajc:(LT.E4 IT).length<=37:=by rw[(LT.Jp _).length_eq];have:=Lu F1 DJ;rw[cU]at this;exact this
 have lJ:∀k∈LT.E4 IT,k∈LT.E4 K:=λk AG=>by rw[cr,Pl];exact ad4 (F:=λc=>EE ws (DB os nw row c) a) (Uc c) ((OS k).mp ((LT.Jp _).mem_iff.mp AG))
 have l9:∀k∈L,k∈LT.E4 K:=λk AG=>by rw[cr,Pl];exact hm k AG
 refine⟨K,k1,k2,Pl,?_⟩;generalize LT.E4 K=T at I7 C7 cr lJ l9;have HE:=aer (os:=os) (nw:=nw) (row:=row) (by rw[DI.l];lia) (by rw[bn.l,DI.l]) B8;have A7:Bc 9 (Ob (A0 5) (A0 6) (I9 HV (A0 2) (NH) (GU (A0 8)))) (Eh cs ws os nw row d0 a (.A1 (.lst (L.map Ce))) (.A1 (Bb c)) s9 F_ Fu)=.ok (.BG (Eh cs ws os nw row d0 a (.A1 (.lst (L.map Ce))) (.A1 (Bb c)) (.A1 (.lst (T.map Ce))) F_ Fu)):=by
  refine Tx (aJ (cs:=cs) (ws:=ws) (d0:=d0) (a:=a) rfl rfl rfl rfl rfl (Z:=.lst ((row.take c).map Bb)) ?_ I7) rfl;have CJ:HV (.lst (row.map Bb)) none (some (c:Int))=.ok (.lst ((row.take c).map Bb)):=by erw[HV,Zc]
  exact CJ
 have EQ:=jC (ρ:=Eh cs ws os nw row d0 a (.A1 (.lst (L.map Ce))) (.A1 (Bb c)) (.A1 (.lst (T.map Ce))) F_ Fu) (mi:=Er (A0 7)) (g:=Ce) (xs:=L) (T:=T.map Ce) δ rfl rfl λk AG=>zW C7 (l9 k AG);have B1:Bc 10 (A9 AU (BQ (EM 3 Rf (A3 (A0 5) (A3 (A0 6) (A3 (A0 2) (AE)))))) (A0 8)) (Eh cs ws os nw row d0 a (.A1 (.lst (L.map Ce))) (.A1 (Bb c)) (.A1 (.lst (T.map Ce))) F_ Fu)=.ok (.BG (Eh cs ws os nw row d0 a (.A1 (.lst (L.map Ce))) (.A1 (Bb c)) (.A1 (.lst (T.map Ce))) (.A1 (BY (DB os nw row c))) Fu)):=by
  have v:BQ (EM 3 Rf (A3 (A0 5) (A3 (A0 6) (A3 (A0 2) (AE))))) (Eh cs ws os nw row d0 a (.A1 (.lst (L.map Ce))) (.A1 (Bb c)) (.A1 (.lst (T.map Ce))) F_ Fu)=.ok (.lst ((DK (row.length+1)).map λk=>BY (DB os nw row k))):=by have B4:A3 (A0 5) (A3 (A0 6) (A3 (A0 2) (AE))) (Eh cs ws os nw row d0 a (.A1 (.lst (L.map Ce))) (.A1 (Bb c)) (.A1 (.lst (T.map Ce))) F_ Fu)=.ok [BY os,BY nw,.lst (row.map Bb)]:=rfl;rw[Jx,XC,B4,BV,if_pos (show([BY os,BY nw,.lst (row.map Bb)]:χ).length=3 from rfl),HE];rfl
  refine Tx (Fe v rfl (LB (k:=c) (d:=BY (DB os nw row c)) ?_)) rfl;rw[Dm,QY δ];rfl
 have IH:=jC (ρ:=Eh cs ws os nw row d0 a (.A1 (.lst (L.map Ce))) (.A1 (Bb c)) (.A1 (.lst (T.map Ce))) (.A1 (BY (DB os nw row c))) Fu) (mi:=Er (PS (A0 10))) (g:=Iz) (xs:=LT.E4 IT) (T:=T.map Ce) δ rfl (by have:=eh (cs:=cs) (ws:=ws) (d0:=d0) (a:=a) (x:=A0 10) (ρ:=Eh cs ws os nw row d0 a (.A1 (.lst (L.map Ce))) (.A1 (Bb c)) (.A1 (.lst (T.map Ce))) (.A1 (BY (DB os nw row c))) Fu) rfl rfl rfl rfl Sr aW;have OO:∀(m:A_)(ρ:AI),Er m ρ=(m ρ).bind Tw:=λ_ _=>rfl;rw[OO,this];rfl) λk AG=>zX C7 (lJ k AG)
 refine⟨.A1 (.lst (T.map Ce)),.A1 (BY (DB os nw row c)),?_⟩;rw[WW,EZ,A7,BV,GD,bV EQ,EZ,B1,BV,GD,bV IH];rfl
end
def acN(l:φ)(h:Nat):inD false (.int (h:Int)) (.lst (l.map Bb))=.ok (.AV (!decide (h∈l))):=by
 have t:=cz l h;unfold inD at t |-;erw[NW]at t |-
 split at t
 .rename_i AO;have t:((l.map Bb).any λy=>CE y (.int (h:Int)))=decide (h∈l):=by simpa using t
  erw[t,HJ,if_false];rw[if_pos AO]
 .cases t
def mu(b:List CZ):okN 8 (D6 b)=true:=by
 refine Zl FC 7 b λr _=>?_;have o:∀x:Option Nat,okN 6 (FN x)=true:=λx=>by cases x<;>rfl
 show([.str r.p,FN r.a,FN r.b]:χ).all (okN 6)=true;erw[Qm,List.all_nil,o,S_];rfl
section
variable{cs:φ}{ws:τ}{os nw:List (List CZ)}{row:φ}{a:Nat}{d0:AR}
def K3(os nw:List (List CZ))(row:φ):φ:=(DK os.length).filter λh=>CE (D6 (os.getD h [])) (D6 (nw.getD h []))&&!decide (h∈row)
def acR(DI:E5 cs os)(bn:E5 cs nw)(Cu:cs.length<=6)(Da s8 s9 F_ Fu:Bw):ef (Eh cs ws os nw row d0 a Da s8 s9 F_ Fu)=.ok (.BG (Eh cs ws os nw row d0 a Da s8 s9 F_ (.A1 (.lst ((K3 os nw row).map Bb))))):=by
 have lo:=DI.l;have ln:=bn.l;have c:D3 1 [2,5,6] (FK (A3 (Bz CN (A3 (A0 5) (AE))) (AE))) (BR 0) (Ig (BF (A9 (Bi true) (A9 AU (A0 2) (A0 0)) (A9 AU (A0 3) (A0 0)))) (BF (A9 (inD false) (A0 0) (A0 1)))) (A0 0) (Eh cs ws os nw row d0 a Da s8 s9 F_ Fu)=.ok ((K3 os nw row).map Bb):=by
  apply Ends.done;have U5:∀r:R χ,r=r.bind .ok:=λr=>by cases r<;>rfl
  rw[U5 (D3 _ _ _ _ _ _ _)];refine Zi Bb (DK os.length) (λh=>CE (D6 (os.getD h [])) (D6 (nw.getD h []))&&!decide (h∈row)) Bb ?_ θ (λh An=>?_) (λh _ _=>rfl) ⟨_,rfl,rfl⟩
  .have le:Bz CN (A3 (A0 5) (AE)) (Eh cs ws os nw row d0 a Da s8 s9 F_ Fu)=.ok (.int (os.length:Int)):=by
     have:=Su (a:=A0 5) (ρ:=Eh cs ws os nw row d0 a Da s8 s9 F_ Fu) (xs:=os.map D6) rfl;rw[Ea]at this;exact this
   have QN:=QO os.length δ;have AL:∀(m:Ap)(ρ:AI),FK m ρ=(m ρ).bind Rr:=λ_ _=>rfl;rw[AL,GY,le,BV,Ip,BV,BV,QN,eJ];rfl
  .have An:=List.mem_range.mp An;have E2:=Pk (bs:=os) (h:=h) An;have E3:=Pk (bs:=nw) (h:=h) δ;have eq:Bi true (D6 (os.getD h [])) (D6 (nw.getD h []))=.ok (.AV (CE (D6 (os.getD h [])) (D6 (nw.getD h [])))):=by
    unfold Bi;rw[if_pos ⟨mu _,mu _⟩];rfl
   exact sy (Jf (Fe (Fe (x:=BY os) (y:=.int (h:Int)) rfl rfl E2) (Fe (x:=BY nw) (y:=.int (h:Int)) rfl rfl E3) eq)) λ_=>Jf (Fe (x:=.int (h:Int)) (y:=.lst (row.map Bb)) rfl rfl (acN row h))
 rw[ef,f5,f6,c,BV,if_pos (by simp[Eh]),BV,fT];rfl
def abw(DD:Hg cs ws)(DI:E5 cs os)(bn:E5 cs nw)(B8:row.length<=6)(CW:row.Nodup)(lt:∀x∈row,x<cs.length)(AB:a<16)(hd:d0∈CH cs cs.length)(AQ:d0∉ends ws):UJ [Bg cs ws,.tup [BY os,BY nw],.lst (row.map Bb),Ae d0,.int (a:Int)]=.ok (.v (.AV true)):=by
 have Cu:=DD.Cu;apply Ends.done;have F7:∀x0 E2 E3 HH Hu:D,UJ [x0,E2,E3,HH,Hu]=(YR [.A1 x0,.A1 E2,.A1 E3,.A1 HH,.A1 Hu,.un,.un,.un,.un,.un,.un,.un]).bind outD:=λ_ _ _ _ _=>rfl;have D7:∀b:As,Ab (Md (Fv [BR 5,BR 6]) (A0 1)) b [.A1 (Bg cs ws),.A1 (.tup [BY os,BY nw]),.A1 (.lst (row.map Bb)),.A1 (Ae d0),.A1 (.int (a:Int)),.un,.un,.un,.un,.un,.un,.un]=b (Eh cs ws os nw row d0 a .un .un .un .un .un):=λb=>rfl;obtain⟨akD,t1,a1,a2,G7,Kk⟩:=oz (rw_:=[]) DD DI bn DI γ AB hd AQ (aau os nw);have B_:BF (A9 (Bi false) (Ob (A0 5) (A0 6) (BQ (CL (AE)))) (PS (A0 5))) (Eh cs ws os nw row d0 a .un .un .un .un .un)=.ok false:=Jf (Fe (aJ (cs:=cs) (ws:=ws) (d0:=d0) (a:=a) rfl rfl rfl rfl rfl rfl a2) (eh (cs:=cs) (ws:=ws) (d0:=d0) (a:=a) rfl rfl rfl rfl G7 Kk) (jf a1));obtain⟨iz,DO,FV,Ez,Op,tD⟩:=oz (rw_:=row) DD bn bn bn B8 AB hd AQ (aav nw row);have EQ:BF (A9 (Bi false) (Ob (A0 6) (A0 6) (A0 2)) (PS (A0 6))) (Eh cs ws os nw row d0 a .un .un .un .un .un)=.ok false:=Jf (Fe (aJ (cs:=cs) (ws:=ws) (d0:=d0) (a:=a) rfl rfl rfl rfl rfl rfl Ez) (eh (cs:=cs) (ws:=ws) (d0:=d0) (a:=a) rfl rfl rfl rfl Op tD) (jf FV));have B1:Bc 7 (BQ (CL (AE))) (Eh cs ws os nw row d0 a .un .un .un .un .un)=.ok (.BG (Eh cs ws os nw row d0 a (.A1 (.lst (([]:List DG).map Ce))) .un .un .un .un)):=rfl;rw[F7,abv,D7,bV B_,bV EQ,EZ,B1,BV,GD,EZ,RP];have QN:FK (A3 (A9 DP (Bz CN (A3 (A0 2) (AE))) Γ) (AE)) (Eh cs ws os nw row d0 a (.A1 (.lst (([]:List DG).map Ce))) .un .un .un .un)=.ok (Ft 0 (row.length+1)):=by
  have le:Bz CN (A3 (A0 2) (AE)) (Eh cs ws os nw row d0 a (.A1 (.lst (([]:List DG).map Ce))) .un .un .un .un)=.ok (.int (row.length:Int)):=by have:=Su (a:=A0 2) (ρ:=Eh cs ws os nw row d0 a (.A1 (.lst (([]:List DG).map Ce))) .un .un .un .un) (xs:=row.map Bb) rfl;rw[Ea]at this;exact this
  have ad:A9 DP (Bz CN (A3 (A0 2) (AE))) Γ (Eh cs ws os nw row d0 a (.A1 (.lst (([]:List DG).map Ce))) .un .un .un .un)=.ok (.int ((row.length+1:Nat):Int)):=Fe le rfl rfl;have AL:∀(m:Ap)(ρ:AI),FK m ρ=(m ρ).bind Rr:=λ_ _=>rfl;rw[AL,GY,ad,BV,Ip,BV,BV];exact QO _ δ
 refine Os (row.length+1) (λj ρ=>∃(L:List DG)(s8 s9 F_ Fu:Bw),L.length<=37/\(j=0->L=[])/\(∀c,j=c+1->∃K:List DG,K.Nodup/\(∀k∈K,k∈FW)/\(∀k,k∈K↔LZ (λc=>EE ws (DB os nw row c) a) (c+1) d0 k)/\L=LT.E4 K)/\ρ=Eh cs ws os nw row d0 a (.A1 (.lst (L.map Ce))) s8 s9 F_ Fu) QN ⟨[],.un,.un,.un,.un,γ,λ_=>rfl,(λc h=>δ),rfl⟩ ?_ ?_
 .rintro j _ Bs ⟨L,s8,s9,F_,Fu,AP,h0,AK,rfl⟩;have hm:∀k∈L,LZ (λc=>EE ws (DB os nw row c) a) (j+1) d0 k:=λk AG=>by
   cases j with
   |zero=>rw[h0 rfl]at AG;cases AG
   |succ c=>obtain⟨K,_,_,k3,rfl⟩:=AK c rfl;exact aB δ (λ_ _=>rfl) ((k3 k).mp ((LT.Jp _).mem_iff.mp AG))
  obtain⟨K,k1,k2,k3,pX,pW,e⟩:=acS DD DI bn B8 AB hd AQ (c:=j) δ (L:=L) δ hm s9 F_ Fu;have OH:BR 8 (.int (j:Int)) (Eh cs ws os nw row d0 a (.A1 (.lst (L.map Ce))) s8 s9 F_ Fu)=.ok (Eh cs ws os nw row d0 a (.A1 (.lst (L.map Ce))) (.A1 (Bb j)) s9 F_ Fu):=rfl;rw[OH,BV,e];refine⟨_,rfl,_,rfl,LT.E4 K,_,_,_,_,?_,(λz=>δ),λc AO=>⟨K,k1,k2,?_,rfl⟩,rfl⟩
  .rw[(LT.Jp _).length_eq];have:=Lu k1 k2;rw[cU]at this;exact this
  .obtain rfl:j=c:=δ
   exact k3
 .rintro _ ⟨L,s8,s9,F_,Fu,AP,h0,AK,rfl⟩;obtain⟨K,k1,k2,k3,rfl⟩:=AK row.length rfl;have al:∀h∈K3 os nw row,h<os.length/\os.getD h []=nw.getD h []/\h∉row:=λh An=>by
   obtain⟨E2,E3⟩:=List.mem_filter.mp An;rw[FR]at E3;exact⟨List.mem_range.mp E2,ie E3.1,(E3.2:)⟩
  have na:(K3 os nw row).Nodup:=List.nodup_range.filter _;have KD:(row++K3 os nw row).length<=6:=by
   have nn:(row++K3 os nw row).Nodup:=List.nodup_append.mpr ⟨CW,na,λx AJ y BO z=>(al y BO).2.2 (z▸AJ)⟩;have:=Lu (l₂:=DK cs.length) nn λx AJ=>by
    rcases List.mem_append.mp AJ with AJ|AJ
    .exact List.mem_range.mpr (lt x AJ)
    .have:=(al x AJ).1;rw[DI.l]at this;exact List.mem_range.mpr this
   erw[List.length_range]at this
   lia
  obtain⟨tS,aQ,dB,Pl,dC⟩:=eQ (row:=row++K3 os nw row) DD DI bn KD AB hd;have eq:LT.E4 tS=LT.E4 K:=q1 aQ k1 λk=>by
   rw[Pl,k3];have GN:∀c,c<row.length+1->EE ws (DB os nw (row++K3 os nw row) c) a=EE ws (DB os nw row c) a:=λc AO=>by rw[aas os nw row _ δ]
   constructor
   .refine ab4 δ γ GN λc A5 A8=>?_;exact ko (aar (λh An=>(al h An).2.1) δ)
   .exact aB γ λc AO=>(GN c AO).symm
  rw[eq]at dC;have C7:∀k∈LT.E4 K,k∈FW:=λk AG=>k2 k ((LT.Jp _).mem_iff.mp AG);generalize LT.E4 K=T at dC C7;rw[GD,EZ,acR DI bn Cu,BV,GD];have ajU:BQ (I8 (A0 2) (A0 11)) (Eh cs ws os nw row d0 a (.A1 (.lst (T.map Ce))) s8 s9 F_ (.A1 (.lst ((K3 os nw row).map Bb))))=.ok (.lst ((row++K3 os nw row).map Bb)):=by have v2:A0 2 (Eh cs ws os nw row d0 a (.A1 (.lst (T.map Ce))) s8 s9 F_ (.A1 (.lst ((K3 os nw row).map Bb))))=.ok (.lst (row.map Bb)):=rfl;have v11:A0 11 (Eh cs ws os nw row d0 a (.A1 (.lst (T.map Ce))) s8 s9 F_ (.A1 (.lst ((K3 os nw row).map Bb))))=.ok (.lst ((K3 os nw row).map Bb)):=rfl;rw[Jx,b9,v2,BV,v11,BV,ZZ (by simp at KD |-;lia),Hx];rfl
  have eT:=aJ (cs:=cs) (ws:=ws) (d0:=d0) (a:=a) (x:=A0 5) (y:=A0 6) (ρ:=Eh cs ws os nw row d0 a (.A1 (.lst (T.map Ce))) s8 s9 F_ (.A1 (.lst ((K3 os nw row).map Bb)))) rfl rfl rfl rfl rfl ajU dC;have ep:okN 8 (.lst (T.map Ce))=true:=Zl Ce 7 T λk AG=>WX (n:=6) (C7 k AG);have Hl:Bi true (.lst (T.map Ce)) (.lst (T.map Ce))=.ok (.AV true):=by unfold Bi;rw[if_pos ⟨ep,ep⟩,jZ 8 _ ep];rfl
  rw[adm (Fe eT rfl Hl)];exact⟨_,rfl,rfl⟩
end
def sh{ws:τ}{d:AR}(h:d∉ends ws):Hj ws d=none:=by
 unfold Hj;rw[Option.map_eq_none_iff,List.find?_eq_none];intro p AX hd;have hd:p.1=d:=(hd:)
 unfold pairsOf at AX;obtain⟨w,hw,Ao⟩:=List.mem_flatMap.mp AX;have Va:∀x,x=w.1\/x=w.2->x∈ends ws:=λx AJ=>List.mem_flatten.mpr ⟨[w.1,w.2],List.mem_map.mpr ⟨w,hw,rfl⟩,(AJ:)⟩;erw[Lv,Lw,or_false]at Ao;rcases Ao with rfl|rfl
 .exact h (hd▸Va _ (.inl rfl))
 .exact h (hd▸Va _ (.inr rfl))
def acL{ws:τ}{d:AR}(h:Hj ws d=none):d∉ends ws:=λz=>by have t:=vM ws d;rw[h]at t;erw[GR,SD,ks_any,decide_eq_true z]at t;cases t
def abJ(ns:List Int)(AP:ns.length<=63):WL [.CO (ns.map D.int)]=.ok (.v (.AV true)):=by
 obtain⟨cs,ws,os,nw,DD,⟨d,hd,AQ⟩,DI,bn,Av⟩:=sw ns;have Cu:=DD.Cu;obtain⟨x,ex⟩:=Z_ ns 1;have ex:LH [.CO (ns.map D.int),.int 1]=.ok (.v (.int x)):=ex;obtain⟨row,⟨B8,CW,lt⟩,CY⟩:=aeX x cs.length Cu;have K5:=abR DD;have Fz:=yu cs ws DD;have MU:∀d∈outs cs ws,d∈CH cs cs.length/\d∉ends ws:=λd hd=>⟨(List.mem_filter.mp hd).1,acL (by simpa using(List.mem_filter.mp hd).2)⟩;have lA:0<(outs cs ws).length:=Xe (List.mem_filter.mpr ⟨hd,by rw[sh AQ];rfl⟩);generalize outs cs ws=O at K5 MU lA;have iD:∀(n:Nat)(f:χ->R C2)(m:Ap)(ρ:AI)(ds A2:χ),m ρ=.ok ds->ds.length=n->f ds=.ok (.o A2)->BQ (EM n f m) ρ=.ok (.lst A2):=λn f m ρ ds A2 A5 A8 Au=>by rw[Jx,XC,A5,BV,if_pos A8,Au];rfl
 have F7:∀x0:D,WL [x0]=(Yt [.A1 x0,.un,.un,.un,.un,.un,.un,.un,.un,.un]).bind outD:=λ_=>rfl
 let lw:As:=Ab (Bc 9 (CB 2 FL (A3 (A0 8) (A3 (AD (.int 2)) (AE))))) (Cf (ES (BF (CB 5 UJ (A3 (A0 7) (A3 (DS (A3 (A0 3) (A3 (A0 4) (AE)))) (A3 (A0 6) (A3 (A9 AU (A0 5) (A9 Cy (A0 9) (Bz CN (A3 (A0 5) (AE))))) (A3 (A9 Cy (A9 ER (A0 9) (AD (.int 50))) (AD (.int 16))) (AE))))))))) (Cc (AD (.AV false))) (Cs))
 have Bh:Yt=Ab (Md (Fv [BR 1,BR 2,BR 3,BR 4]) (CB 1 UF (A3 (A0 0) (AE))))
  (Ab (Bc 5 (BQ (EM 2 UK (A3 (A0 1) (A3 (A0 2) (AE))))))
  (Ab (Bc 6 (BQ (EM 2 Rg (A3 (CB 2 LH (A3 (A0 0) (A3 Γ (AE)))) (A3 (Bz CN (A3 (A0 1) (AE))) (AE))))))
  (Ab (Bc 7 (RY "Net" 2 WG (A3 (A0 1) (A3 (A0 2) (AE)))))
  (Ab (Ep (Er (BQ (I8 (BQ (CL (A3 (AD (.int 4)) (AE)))) (I9 HV (A0 0) (GU (AD (.int 16))) (GU (AD (.int 17))))))) (BR 8) lw)
  (Cc (AD (.AV true))))))):=rfl
 have AL:∀(b:As),Ab (Md (Fv [BR 1,BR 2,BR 3,BR 4]) (CB 1 UF (A3 (A0 0) (AE)))) b [Θ,.un,.un,.un,.un,.un,.un,.un,.un,.un]=b [Θ,Ξ,Φ,.A1 (BY os),.A1 (BY nw),.un,.un,.un,.un,.un]:=λb=>by rw[EZ,ahH,iG rfl Av];rfl
 have BA:∀(b:As),Ab (Bc 5 (BQ (EM 2 UK (A3 (A0 1) (A3 (A0 2) (AE)))))) b [Θ,Ξ,Φ,.A1 (BY os),.A1 (BY nw),.un,.un,.un,.un,.un]=b [Θ,Ξ,Φ,.A1 (BY os),.A1 (BY nw),.A1 (.lst (O.map Ae)),.un,.un,.un,.un]:=λb=>du (Tx (iD _ _ _ _ _ _ rfl rfl K5) rfl);have E9:∀(b:As),Ab (Bc 6 (BQ (EM 2 Rg (A3 (CB 2 LH (A3 (A0 0) (A3 Γ (AE)))) (A3 (Bz CN (A3 (A0 1) (AE))) (AE)))))) b [Θ,Ξ,Φ,.A1 (BY os),.A1 (BY nw),.A1 (.lst (O.map Ae)),.un,.un,.un,.un]=b [Θ,Ξ,Φ,.A1 (BY os),.A1 (BY nw),.A1 (.lst (O.map Ae)),.A1 (.lst (row.map Bb)),.un,.un,.un]:=λb=>by
  refine du (Tx (iD _ _ _ _ [.int x,.int (cs.length:Int)] _ ?_ rfl CY) rfl);have ln:Bz CN (A3 (A0 1) (AE)) [Θ,Ξ,Φ,.A1 (BY os),.A1 (BY nw),.A1 (.lst (O.map Ae)),.un,.un,.un,.un]=.ok (.int (cs.length:Int)):=by have:=Su (a:=A0 1) (ρ:=[Θ,Ξ,Φ,.A1 (BY os),.A1 (BY nw),.A1 (.lst (O.map Ae)),.un,.un,.un,.un]) (xs:=C6 cs) rfl;rw[show(C6 cs).length=cs.length by simp[C6]]at this;exact this
  rw[GY,call2 rfl rfl ex,BV,GY,ln];rfl
 have Oi:∀(b:As),Ab (Bc 7 (RY "Net" 2 WG (A3 (A0 1) (A3 (A0 2) (AE))))) b [Θ,Ξ,Φ,.A1 (BY os),.A1 (BY nw),.A1 (.lst (O.map Ae)),.A1 (.lst (row.map Bb)),.un,.un,.un]=b [Θ,Ξ,Φ,.A1 (BY os),.A1 (BY nw),.A1 (.lst (O.map Ae)),.A1 (.lst (row.map Bb)),.A1 (Bg cs ws),.un,.un]:=λb=>by refine du (Tx (d:=Bg cs ws) ?_ rfl);simp[Fz,Bg]
 apply Ends.done;rw[F7,Bh,AL,BA,E9,Oi,EZ,RP];have AC:Er (BQ (I8 (BQ (CL (A3 (AD (.int 4)) (AE)))) (I9 HV (A0 0) (GU (AD (.int 16))) (GU (AD (.int 17)))))) [Θ,Ξ,Φ,.A1 (BY os),.A1 (BY nw),.A1 (.lst (O.map Ae)),.A1 (.lst (row.map Bb)),.A1 (Bg cs ws),.un,.un]=.ok ((4::G9 ns (some 16) (some 17)).map D.int):=by have OO:∀(m:A_)(ρ:AI),Er m ρ=(m ρ).bind Tw:=λ_ _=>rfl;have s1:I9 HV (A0 0) (GU (AD (.int 16))) (GU (AD (.int 17))) [Θ,Ξ,Φ,.A1 (BY os),.A1 (BY nw),.A1 (.lst (O.map Ae)),.A1 (.lst (row.map Bb)),.A1 (Bg cs ws),.un,.un]=.ok (.lst (G9 (ns.map D.int) (some 16) (some 17))):=rfl;have s2:BQ (CL (A3 (AD (.int 4)) (AE))) [Θ,Ξ,Φ,.A1 (BY os),.A1 (BY nw),.A1 (.lst (O.map Ae)),.A1 (.lst (row.map Bb)),.A1 (Bg cs ws),.un,.un]=.ok (.lst [.int 4]):=rfl;have cl:=jn (ns.map D.int) (some 16) (some 17);rw[Ea]at cl;rw[OO,Jx,b9,s2,BV,s1,BV,ZZ θ,cb];rfl
 refine VK D.int (4::G9 ns (some 16) (some 17)) (λ_ ρ=>∃s8 s9,ρ=[Θ,Ξ,Φ,.A1 (BY os),.A1 (BY nw),.A1 (.lst (O.map Ae)),.A1 (.lst (row.map Bb)),.A1 (Bg cs ws),s8,s9]) AC ⟨.un,.un,rfl⟩ ?_ ?_
 .rintro j z _ Bs ⟨s8,s9,rfl⟩;obtain⟨y,DZ⟩:=Me z 2 ε;have DZ:FL [.int z,.int 2]=.ok (.v (.int y)):=DZ;obtain⟨i,AC,Fz⟩:=KI y lA;obtain⟨a,AB,Av⟩:=KI (y/50) (n:=16) ε;obtain⟨Qs,bq⟩:=MU O[i] (Lx _);have on:=abw (row:=row) DD DI bn B8 CW lt AB Qs bq;have OH:BR 8 (.int z) [Θ,Ξ,Φ,.A1 (BY os),.A1 (BY nw),.A1 (.lst (O.map Ae)),.A1 (.lst (row.map Bb)),.A1 (Bg cs ws),s8,s9]=.ok [Θ,Ξ,Φ,.A1 (BY os),.A1 (BY nw),.A1 (.lst (O.map Ae)),.A1 (.lst (row.map Bb)),.A1 (Bg cs ws),.A1 (.int z),s9]:=rfl;have A7:Bc 9 (CB 2 FL (A3 (A0 8) (A3 (AD (.int 2)) (AE)))) [Θ,Ξ,Φ,.A1 (BY os),.A1 (BY nw),.A1 (.lst (O.map Ae)),.A1 (.lst (row.map Bb)),.A1 (Bg cs ws),.A1 (.int z),s9]=.ok (.BG [Θ,Ξ,Φ,.A1 (BY os),.A1 (BY nw),.A1 (.lst (O.map Ae)),.A1 (.lst (row.map Bb)),.A1 (Bg cs ws),.A1 (.int z),.A1 (.int y)]):=Tx (call2 rfl rfl DZ) rfl;generalize T6:([Θ,Ξ,Φ,.A1 (BY os),.A1 (BY nw),.A1 (.lst (O.map Ae)),.A1 (.lst (row.map Bb)),.A1 (Bg cs ws),.A1 (.int z),.A1 (.int y)]:AI)=ρ at A7;have ag5:A0 7 ρ=.ok (Bg cs ws):=by rw[<-T6];rfl
  have afe:DS (A3 (A0 3) (A3 (A0 4) (AE))) ρ=.ok (.tup [BY os,BY nw]):=by rw[<-T6];rfl
  have v6:A0 6 ρ=.ok (.lst (row.map Bb)):=by rw[<-T6];rfl
  have qj:A0 5 ρ=.ok (.lst (O.map Ae)):=by rw[<-T6];rfl
  have qk:A0 9 ρ=.ok (.int y):=by rw[<-T6];rfl
  have ln:Bz CN (A3 (A0 5) (AE)) ρ=.ok (.int (O.length:Int)):=by have:=Su qj;rw[Ea]at this;exact this
  have ahJ:A9 AU (A0 5) (A9 Cy (A0 9) (Bz CN (A3 (A0 5) (AE)))) ρ=.ok (Ae O[i]):=by refine Fe qj (Fe qk ln (nI δ)) ?_;rw[Fz];exact LB (by simp[AC])
  have ahI:A9 Cy (A9 ER (A0 9) (AD (.int 50))) (AD (.int 16)) ρ=.ok (.int (a:Int)):=by refine Fe (Fe qk rfl (w6 ε ε)) rfl ?_;rw[<-Av];exact nI ε
  have cl:ES (BF (CB 5 UJ (A3 (A0 7) (A3 (DS (A3 (A0 3) (A3 (A0 4) (AE)))) (A3 (A0 6) (A3 (A9 AU (A0 5) (A9 Cy (A0 9) (Bz CN (A3 (A0 5) (AE))))) (A3 (A9 Cy (A9 ER (A0 9) (AD (.int 50))) (AD (.int 16))) (AE)))))))) ρ=.ok false:=by
   refine cq (c:=true) (Jf ?_);have B4:A3 (A0 7) (A3 (DS (A3 (A0 3) (A3 (A0 4) (AE)))) (A3 (A0 6) (A3 (A9 AU (A0 5) (A9 Cy (A0 9) (Bz CN (A3 (A0 5) (AE))))) (A3 (A9 Cy (A9 ER (A0 9) (AD (.int 50))) (AD (.int 16))) (AE))))) ρ=.ok [Bg cs ws,.tup [BY os,BY nw],.lst (row.map Bb),Ae O[i],.int (a:Int)]:=by rw[GY,ag5,BV,GY,afe,BV,GY,v6,BV,GY,ahJ,BV,GY,ahI];rfl
   rw[ah8,B4,BV,if_pos (show([Bg cs ws,.tup [BY os,BY nw],.lst (row.map Bb),Ae O[i],.int (a:Int)]:χ).length=5 from rfl),on];rfl
  rw[OH,BV];show Ends (Ab _ _ _) _;rw[EZ,A7,BV,GD,Ph cl];subst T6;exact⟨_,rfl,_,rfl,_,_,rfl⟩
 .rintro _ ⟨s8,s9,rfl⟩;exact⟨_,rfl,rfl⟩
section
variable(P:Ba)(w:BL){K:AZ}{mg:Str->Option A4}(base:B2)(T:Dh K mg)
include T
set_option maxHeartbeats 4000000
def dK:Dy P w K mg base "_law_cell_at" 2 1 LH:=by exists EC,0,Yu,T.wW,afJ;intros;ac_rfl
def SE:Dy P w K mg base "_law_mixed" 2 1 FL:=by exists EC,0,gz,T.w_,qC;have:=qC;intros;ac_rfl
def aa5:Dy P w K mg base "_law_counts" 1 2 UH:=by exists EC,1,YQ,T.wX,oc;have:=oc;exists SE;intros;ac_rfl
def lC:Dy P w K mg base "_law_doors" 1 1 UI:=by exists EC,0,gx,T.wY,od;have:=od;intros;ac_rfl
def ze:Dy P w K mg base "_law_wires" 2 2 Rh:=by exists EC,1,h5,T.wg,qI;have:=qI;exists lC;exists SE;intros;ac_rfl
def aa6:Dy P w K mg base "_law_free_book" 2 1 Re:=by exists EC,0,gy,T.wZ,p5;have:=p5;intros;ac_rfl
def zb:Dy P w K mg base "_law_row" 3 2 OY:=by exists EC,1,h2,T.wd,qF;have:=qF;exists SE;intros;ac_rfl
def aa3:Dy P w K mg base "_law_books" 3 3 PQ:=by exists EC,2,hZ,T.wU,o_;have:=o_;exists aa6;exists SE;exists zb;intros;ac_rfl
def aa4:Dy P w K mg base "_law_both" 2 4 UG:=by exists EC,3,gw,T.wV,oa;have:=oa;exists aa3;exists dK;exists SE;intros;ac_rfl
def aa1:Dy P w K mg base "_law_all" 1 5 UF:=by exists EC,4,hX,T.wS,oY;have:=oY;exists aa4;exists dK;exists aa5;exists ze;intros;ac_rfl
def aa2:Dy P w K mg base "_law_beyond" 2 1 Zy:=by exists EC,0,hY,T.wT,oZ;have:=oZ;intros;ac_rfl
def z_:Dy P w K mg base "_law_outer" 2 2 UK:=by exists EC,1,h1,T.wb,afK;exists aa2;exists lC;intros;ac_rfl
def zd:Dy P w K mg base "_law_some" 2 2 Rg:=by exists EC,1,h4,T.wf,qH;have:=qH;exists SE;intros;ac_rfl
def zz:Dy P w K mg base "is_whole" 1 1 ct:=by exists EC,0,iU,T.wP,afH;intros;ac_rfl
def aV:Dy P w K mg base "is_whole_within" 3 2 PP:=by exists EC,1,hV,T.wQ,afI;exists zz;intros;ac_rfl
def zr:Dy P w K mg base "are_counts" 1 3 UA:=by exists EC,2,hJ,T.ui,af7;exists aV;intros;ac_rfl
def lj:Dy P w K mg base "is_pair" 1 1 WK:=by exists EC,0,iT,T.wM,afE;intros;ac_rfl
def li:Dy P w K mg base "is_door_among" 2 3 Rd:=by exists EC,2,hS,T.wK,afC;exists lj;exists aV;intros;ac_rfl
def aa0:Dy P w K mg base "is_wire_among" 2 4 Zx:=by exists EC,3,hW,T.wR,oW;have:=oW;exists li;exists lj;intros;ac_rfl
def zt:Dy P w K mg base "far_doors" 2 5 Ra:=by exists EC,4,hK,T.uj,oV;have:=oV;exists aa0;intros;ac_rfl
def zi:hk P w K mg base "Net" 2 6 WG:=by exists aho,5,Ym,T.vF,ade;exists zr;exists zt;intros;ac_rfl
def zl:Mq P w K mg base "Weaver" "behind" 1 1 NM:=by exists RS,0,Vk,T.vI,p1;have:=p1;intros;ac_rfl
def zp:Mq P w K mg base "Weaver" "round_from" 1 2 U9:=by exists RS,1,Yp,T.uf,p4;have:=p4;exists zl;intros;ac_rfl
def zo:Mq P w K mg base "Weaver" "met" 0 3 Zw:=by exists RS,2,Yo,T.ue,p3;have:=p3;exists zp;intros;ac_rfl
def zm:YZ P w K mg base "Weaver" "entered" 2 1 PN:=by exists qe,0,Yn,T.vJ,p2;have:=p2;intros;ac_rfl
def ll:Dy P w K mg base "is_pattern" 1 1 UD:=by exists EC,0,hT,T.wN,afF;intros;ac_rfl
def lh:Dy P w K mg base "is_address" 1 3 Rb:=by exists EC,2,hM,T.um,af9;exists aV;intros;ac_rfl
def zu:Dy P w K mg base "fits" 2 4 UB:=by exists EC,3,hL,T.uk,af8;exists lh;exists ll;intros;ac_rfl
def ab7:Dy P w K mg base "taken" 3 5 a3:=by exists EC,4,cK,T.vy,qK;have:=qK;exists zu;intros;ac_rfl
def aaV:Mq P w K mg base "Net" "beyond" 1 1 WE:=by exists RS,0,hF,T.vD,ada;intros;ac_rfl
def lD:Dy P w K mg base "onward" 4 6 LI:=by exists EC,5,Ti,T.vv,qJ;have:=qJ;exists aaV;exists ab7;intros;ac_rfl
def zq:YZ P w K mg base "Weaver" "weave" 1 7 WJ:=by exists qe,6,Yq,T.ug,oU;have:=oU;exists zm;exists lD;intros;ac_rfl
def zn:hl P w K mg base "Weaver" 5 8 WI:=by exists ahn,7,Vl,T.ud,af6;exists zq;intros;ac_rfl
def zh:Dy P w K mg base "mixed" 3 1 Zz:=by exists EC,0,h_,T.vt,afN;intros;ac_rfl
def ab6:Dy P w K mg base "stages_of" 3 2 WM:=by exists EC,1,cJ,T.vx,afP;exists zh;intros;ac_rfl
def zg:Dy P w K mg base "met_with_leadings" 6 10 UL:=by exists EC,9,YU,T.vr,afM;exists zn;exists zo;exists ab6;intros;ac_rfl
def zf:Dy P w K mg base "meets" 6 11 NO:=by exists EC,10,YT,T.wh,afL;exists zg;intros;ac_rfl
def za:Dy P w K mg base "_law_plainly" 1 1 NN:=by exists EC,0,YS,T.wc,qE;have:=qE;intros;ac_rfl
def zx:Dy P w K mg base "is_number_or_none" 2 3 PO:=by exists EC,2,Yr,T.wL,afD;exists aV;intros;ac_rfl
def zy:Dy P w K mg base "is_row" 2 4 UE:=by exists EC,3,hU,T.wO,afG;exists zx;exists ll;intros;ac_rfl
def zv:Dy P w K mg base "is_book" 2 5 UC:=by exists EC,4,hO,T.vK,afA;exists zy;intros;ac_rfl
def aaW:Mq P w K mg base "Net" "count" 1 1 Zu:=by exists RS,0,hG,T.vE,adb;intros;ac_rfl
def zw:Dy P w K mg base "is_books" 2 6 Rc:=by exists EC,5,hQ,T.wJ,afB;exists aaW;exists zv;intros;ac_rfl
def aa7:Uy P w K mg base "refuse_unless_books" 2 7 a0:=by exists qc,6,cH,T.vw,afO;exists zw;intros;ac_rfl
def zj:Mq P w K mg base "Net" "is_door" 1 4 Zv:=by exists RS,3,hH,T.vG,adf;exists li;intros;ac_rfl
def zk:Mq P w K mg base "Net" "is_outer" 1 5 WH:=by exists RS,4,hI,T.vH,ae7;exists zj;intros;ac_rfl
def ab8:Dy P w K mg base "walked" 4 7 UM:=by exists EC,6,Yv,T.vz,qL;have:=qL;exists lD;intros;ac_rfl
def ab9:Uy P w K mg base "way" 4 8 NP:=by exists qc,7,cL,T.w0,afQ;exists zk;exists lh;exists aa7;exists ab8;intros;ac_rfl
def zc:Dy P w K mg base "_law_shelves" 3 1 Rf:=by exists EC,0,h3,T.we,qG;have:=qG;intros;ac_rfl
def zZ:Dy P w K mg base "_law_one" 5 12 UJ:=by exists EC,11,YR,T.wa,qD;have:=qD;exists za;exists zc;exists zf;exists ab9;intros;ac_rfl
def uK(f:A6)(CA:A4)(A:Bt)(outer:List Env)(s:AM)(H:AA)(E:D0)(B8:CM 12 (A.deeper (My "law" (Br OC) s.heap.objs.size f CA)))(G0 H0:AA):JV (F0 H2 P w K mg base ["_law_script","_law_counts_here","_law_wires_here","_law_old","_law_new","_law_outer_here","_law_some_here","_law_net","_law_cell","_law_number"] "law" (Br OC) f CA A outer s H E).Hr (FX K G0 H0) (GJ OC) Yt:=by have:=oX;have:=zi P w base T;have:=aa1 P w base T;have:=dK P w base T;have:=SE P w base T;have:=zZ P w base T;have:=z_ P w base T;have:=zd P w base T;ac_rfl
end
end JM
namespace JM
open PySem PySem.Spec Bv CR
def ey{P:List A4->Prop}(h:P []):∀us:List A4,us.length=0->P us
 |[],_=>h
def ez{P:List A4->Prop}{n:Nat}(h:∀a us,us.length=n->P (a::us)):∀us:List A4,us.length=n+1->P us
 |a::us,e=>h a us (Nat.succ.inj e)
section
variable{K:AZ}{h:B2}{mg:Str->Option A4}{x qual Af:Str}{C f:A6}{st:BZ}{Am Aw:List Str}{E0 an:Option A6}{CJ:Array (Option A4)}{Hs D_ Ze pm cd Di:A4}
def w4(X:K.In h)(G:h.Ns Ev mg)(a:LO K Ev x=some (some (.ref f)))(l:K.lookup f=some ⟨Hs,E0,.func (JH x x (Ky st) (GJ st) (Br st) .none D_ Ze pm an cd Di),CJ⟩)(c:P8 K cd x=true)(k:KV K (.ref f)=true)(b:∀(D_ doc pm:A4)(an:Option A6)(CA Di:A4)(us:List A4),us.length=Am.length->So (JH x x (Ky st) (GJ st) (Br st) .none D_ doc pm an CA Di) ⟨us,[]⟩=pure (Am.zip us):=by intro _ _ _ _ _ _;(repeat refine ez λ_=>?_);exact ey rfl):Df K mg x st Am:=w3 (st:=st) X G a l c k b
def aax(n:LO K Ev Af=some (some (.ref C)))(g1:Sa K C Str.empty=true)(g2:UY K C=true)(g3:XW K C=true)(g4:Ju K (.ref C) "__setattr__"=some (some (.builtin "object.__setattr__")))(a:Ju K (.ref C) x=some (some (.ref f)))(l:K.lookup f=some ⟨Hs,E0,.func (JH x qual (Ky st) (GJ st) (Br st) .none D_ Ze pm an cd Di),CJ⟩)(c:P8 K cd qual=true)(k:KV K (.ref f)=true)(i:Uj K (.ref f)=true)(b:∀(D_ doc pm:A4)(an:Option A6)(CA Di:A4)(us:List A4),us.length=Am.length->So (JH x qual (Ky st) (GJ st) (Br st) .none D_ doc pm an CA Di) ⟨us,[]⟩=pure (Am.zip us):=by intro _ _ _ _ _ _;(repeat refine ez λ_=>?_);exact ey rfl):L_ K Af x qual st Am:=⟨⟨C,f,_,n,⟨g1,g2,g3,g4⟩,⟨a,i,k⟩,S1 (st:=st) l c k,(S1 (st:=st) l c k).binds b⟩⟩
def aao(X:K.In h)(G:h.Ns Ev mg)(n:LO K Ev Af=some (some (.ref C)))(mk:gC K C=true)(kc:KV K (.ref C)=true)(a:Ju K (.ref C) "__init__"=some (some (.ref f)))(l:K.lookup f=some ⟨Hs,E0,.func (JH "__init__" qual (Ky st) (GJ st) (Br st) .none D_ Ze pm an cd Di),CJ⟩)(c:P8 K cd qual=true)(k:KV K (.ref f)=true)(i:Uj K (.ref f)=true)(b:∀(D_ doc pm:A4)(an:Option A6)(CA Di:A4)(us:List A4),us.length=Am.length->So (JH "__init__" qual (Ky st) (GJ st) (Br st) .none D_ doc pm an CA Di) ⟨us,[]⟩=pure (Am.zip us):=by intro _ _ _ _ _ _;(repeat refine ez λ_=>?_);exact ey rfl):InK K mg Af qual st Am:=⟨⟨C,f,_,n,⟨mk,a,i,kc⟩,S1 (st:=st) l c k,PD X G n,(S1 (st:=st) l c k).binds b⟩⟩
def tz(n:LO K Ev Af=some (some (.ref C)))(g1:Sa K C Str.empty=true)(g2:UY K C=true)(g3:XW K C=true)(g4:Ju K (.ref C) "__setattr__"=some (some (.builtin "object.__setattr__")))(u:∀f∈Aw,Ju K (.ref C) f=some none):N4 K Af Aw:=⟨⟨C,n,⟨g1,g2,g3,g4⟩,u⟩⟩
def v7(X:K.In h)(G:h.Ns Ev mg)(n:LO K Ev Af=some (some (.ref C)))(e:Uk K C [.type "ValueError",.type "Exception",.type "BaseException",.type "object"] "ValueError.__new__"=true):V2 K mg Af:=⟨⟨C,n,PD X G n,e⟩⟩
def u0{i:Int}{t:Tok}(X:K.In h)(G:h.Ns Ev mg)(z:LO K Ev x=some (some (.int i t))):Ke K mg x (.int i):=⟨⟨_,_,PD X G z,Wv _ _,λ_=>Vj _⟩⟩
def u9{t0:Tok}{m:Nat}(X:K.In h)(G:h.Ns Ev mg)(z:LO K Ev "RING"=some (some (.ref C)))(y:K.lookup C=some ⟨.type "tuple",E0,.seq #[.str (Be "ring") t0] m,CJ⟩):Ke K mg "RING" ZY:=⟨⟨.ref C,_,PD X G z,rfl,es y (UV rfl) (.cons (bR _ _) (.nil)) λ_=>.cons (Yi _) (.nil)⟩⟩
def uA{t0 t1 DO:Tok}{m:Nat}(X:K.In h)(G:h.Ns Ev mg)(z:LO K Ev "SIGNS"=some (some (.ref C)))(y:K.lookup C=some ⟨.type "tuple",E0,.seq #[.str (Be "0") t0,.str (Be "1") t1,.str (Be "x") DO] m,CJ⟩):Ke K mg "SIGNS" Tk:=⟨⟨.ref C,_,PD X G z,rfl,es y (UV rfl) (.cons (bR _ _) (.cons (bR _ _) (.cons (bR _ _) (.nil)))) λ_=>.cons (Yi _) (.cons (Yi _) (.cons (Yi _) (.nil)))⟩⟩
def uB{t0 t1 DO t3:Tok}{m:Nat}(X:K.In h)(G:h.Ns Ev mg)(z:LO K Ev "WORTHS"=some (some (.ref C)))(y:K.lookup C=some ⟨.type "tuple",E0,.seq #[.int 8 t0,.int 4 t1,.int 2 DO,.int 1 t3] m,CJ⟩):Ke K mg "WORTHS" RJ:=⟨⟨.ref C,_,PD X G z,rfl,es y (UV rfl) (.cons (Wv _ _) (.cons (Wv _ _) (.cons (Wv _ _) (.cons (Wv _ _) (.nil))))) λ_=>.cons (Vj _) (.cons (Vj _) (.cons (Vj _) (.cons (Vj _) (.nil))))⟩⟩
set_option maxHeartbeats 4000000 in
def all_mk{l:gD}{w:BL}{GL:A6}(X:K.In h)(G:h.Ns Ev mg)(wx:mg "law"=some (.ref GL))(T:Dh K mg)(a:LO K Ev "law"=some (some (.ref f)))(lk:K.lookup f=some ⟨Hs,E0,.func (JH "law" "law" (Ky OC) (GJ OC) (Br OC) .none D_ Ze pm an cd Di),CJ⟩)(c:P8 K cd "law"=true)(k:KV K (.ref f)=true) :
  ∃fd:G3,(∀(s:AM)(v:A4),BindsTo s fd ⟨[v],[]⟩ [("_law_script",v)])/\∀base:B2,K.In base->base.Ns Ev mg->G_ l.prog w K mg base H2 13 GL fd ["_law_script"] (OF K 1 WL):=by
 have e:=wx.symm.trans (PD X G a);cases e;exact⟨_,λs v=>.of_eq rfl,λbase _ _=>(S1 (st:=OC) lk c k).ok oX bb λCA A outer s H vs Q E B8 AK=>let⟨G,Ax⟩:=ZX AK;⟨_,(uK _ _ _ T f CA A outer s H E B8 G H).1,Ax⟩⟩
end
def ahP {l:gD} {q:Ba} {loose:List Str} {Tb:(Str->Option A4)->B2->Prop} {Q5:BL->B2->Prop} {d:DefRec} {K:Params->AZ} (AQ:l.most=some 63) (V_:d.params.defaults=[])(dO:∀(w:BL)(h:B2),Q5 w h->(K w.params).In h)(F:∀(w:BL)(mg:Str->Option A4)(GL:A6)(h:B2),(K w.params).In h->h.Ns Ev mg->mg d.name=some (.ref GL)->
    ∃fd:G3,(∀(s:AM)(u:A4),BindsTo s fd ⟨[u],[]⟩ [("_law_script",u)])/\∀base:B2,(K w.params).In base->base.Ns Ev mg->G_ l.prog w (K w.params) mg base H2 13 GL fd ["_law_script"] (OF (K w.params) 1 WL)) :
  PySem.W.WalkO q loose Tb Q5 l.row.toRowW d [] (λf vs=>PySem.call f vs):=
 Bv.ahQ (n:=63) (k:=13) (x:="_law_script") (CX:=λ_=>H2) (sp:=λw=>OF (K w.params) 1 WL) AQ ε V_ ⟨rfl,ε,ε⟩ dO F (λw H a ns AP _ IZ=>abI IZ (abJ ns AP) λ_ _ _=>False) λ_ _ _ _ _ z=>z
end JM
end
namespace PySem.W.Fast
def tw3786696365434136971:=0
def tw9188462075241934139:=0
def tw7257347310404497826:=0
def tw1357961648568523050:=0
def tw3596609979893767318:=0
def tw2537540997613539028:=0
def tw14812481308558338016:=0
def tw4107068029586785500:=0
def tw17981839298110750736:=0
def tw5094242771406498299:=0
def tw15309747831263555071:=0
def tw6096261680638287876:=0
def tw9227415097895585228:=0
def tw4249517723165671974:=0
def tw14640173672638278551:=0
def tw7784787601989242974:=0
def tw5854640710868996316:=0
def tw18426001708236427583:=0
def tw4328168616309713960:=0
def tw15731399792676570057:=0
def tw17764204066836088233:=0
def tw5690780944711294034:=0
def tw10836842659921993661:=0
def tw13781266397738261695:=0
def tw4390310813570896729:=0
def tw954515584352685203:=0
def tw8575895664876834629:=0
def tw1841357513688494587:=0
def tw8215675620063524575:=0
def tw17209268183950156359:=0
def tw7034709267611304959:=0
def tw2890323132219945929:=0
def tw14097902783154807139:=0
def tw4918612094471375050:=0
def tw13841411790499427790:=0
def tw4624754969385738643:=0
def tw13742335804005712035:=0
def tw4440339413611151510:=0
def tw7850080588290811668:=0
def tw2978292521628145311:=0
def tw1255963095693629622:=0
def tw12130042387430143751:=0
def tw17227152950157784142:=0
def tw6022324650061726289:=0
def tw12540361289952386991:=0
def tw17335602265045683463:=0
def tw14532458583582216951:=0
def tw10877900591477149889:=0
def tw3642543184797690130:=0
def tw8231727115460062745:=0
def tw4550568430511802155:=0
def tw1877042659839507858:=0
def tw1573931682448468845:=0
def tw1371566855223888702:=0
def tw8202293628214313120:=0
def tw3670377092420863289:=0
def tw616168731293796592:=0
def tw13195611022357889097:=0
def tw5887615371226812121:=0
def tw3225338121971421242:=0
def tw17633734436490993984:=0
def tw10980438635930793739:=0
def tw15185029559272211166:=0
def tw1612306434348875962:=0
def tw2691499241393041276:=0
def tw2618747216406330254:=0
def tw15505849184663896992:=0
def tw10926431905663212383:=0
def tw7350000309801823104:=0
def tw3854292093710519264:=0
def tw18341957153917982556:=0
def tw17759169066726078870:=0
def tw16974169214289312951:=0
def tw4681219674785611470:=0
def tw12621145959984413144:=0
def tw4762812830259726107:=0
def tw2310829308342188749:=0
def tw17972756907460455812:=0
def tw10630974319660455215:=0
def tw5754209536739568336:=0
def tw11264397050107905087:=0
def tw10594351719425491284:=0
def tw8519135902186348856:=0
def tw9354924065031624545:=0
def tw9228703098914009990:=0
def tw2543788185714942610:=0
def tw5230962129367470804:=0
def tw449810113910632527:=0
def tw17036688709163092155:=0
def tw143899586302624071:=0
def tw9464342954193454430:=0
def tw10161612047142316194:=0
def tw475379803786367906:=0
def tw13120244375807801700:=0
def tw3124118581222588306:=0
def tw2701181537328845750:=0
def tw16113678315572450423:=0
def tw5519888447426451793:=0
def tw14331306682384409433:=0
def tw14359317184296277953:=0
def tw8237944658097895617:=0
def tw9760855526490877518:=0
def tw1674393844161614118:=0
def tw1833520558718555848:=0
end PySem.W.Fast
open PySem PySem.W PyProof.Rows Bv CR JM
set_option maxRecDepth 100000 in
set_option maxHeartbeats 0 in
theorem PySem.Challenge.cw_nohalfway_k40_rows_of_few_holds : PySem.Challenge.rw_nohalfway_k40_rows_of_few.Holds := by
 w_on;o_law;k_head;(case hw=>w_witness2)
 k_fill
 refine JM.ahP (l:=PySem.Challenge.rw_nohalfway_k40_rows_of_few) rfl rfl (λw h Y=>PySem.W.kIn_of Y) ?F
 case F=>
  intro w mg GL h ID G VB
  refine' JM.all_mk ID G VB ?T ?ya ?yl ?yc ?yk
  (case T=>constructor<;>first
    |(refine' JM.w4 ID G ?a ?l ?c ?k;(case a=>k_is);(case l=>k_is);(case c=>k_is);(case k=>k_is))
    |(refine' JM.aax ?n ?g1 ?g2 ?g3 ?g4 ?a ?l ?c ?k ?i;(case n=>k_is);(case g1=>k_is);(case g2=>k_is);(case g3=>k_is);(case g4=>k_is);(case a=>k_is);(case l=>k_is);(case c=>k_is);(case k=>k_is);(case i=>k_is))
    |(refine' JM.aao ID G ?n ?mk ?kc ?a ?l ?c ?k ?i;(case n=>k_is);(case mk=>k_is);(case kc=>k_is);(case a=>k_is);(case l=>k_is);(case c=>k_is);(case k=>k_is);(case i=>k_is))
    |(refine' JM.tz ?n ?g1 ?g2 ?g3 ?g4 ?u;(case n=>k_is);(case g1=>k_is);(case g2=>k_is);(case g3=>k_is);(case g4=>k_is);(case u=>(repeat' first|exact λ_ h=>absurd h Lw|refine List.forall_mem_cons.2 ⟨?_,?_⟩|k_is)))
    |(refine' JM.v7 ID G ?n ?e;(case n=>k_is);(case e=>k_exc))
    |(refine' JM.u0 ID G ?z;(case z=>k_is))
    |(refine' PySem.W.mg_none_of ID G ?a;(case a=>k_is))
    |(refine' JM.u9 ID G ?z ?y;(case z=>k_is);(case y=>k_is))
    |(refine' JM.uA ID G ?z ?y;(case z=>k_is);(case y=>k_is))
    |(refine' JM.uB ID G ?z ?y;(case z=>k_is);(case y=>k_is)))
  case ya|yl|yc|yk=>k_is
